import Derived.Test.YtfjkjbffdhoejaaGreatV00
import Derived.Calls
import Derived.Orders
import Derived.Laws.AppendOwn
import Derived.KernelRfl
import Derived.Below
import Derived.Laws.Tables
import Derived.Laws.Cells
import Derived.Laws.OwnMore
import Derived.Laws.MakeOwn
import Derived.Laws.StructEq
import Derived.Lib.AppendZerosOnto
set_option linter.unusedSimpArgs false
set_option linter.unusedVariables false
set_option maxRecDepth 100000
set_option maxHeartbeats 4000000
noncomputable section
namespace Go.VI
open Go
inductive RawK where
 | fn | map | ifc | ptr
 deriving DecidableEq
inductive Ty where
 | bool | int (k:IntKind) | slice (e:Ty) | prod (a b:Ty) | unit | raw (k:RawK) | ifo (K:Nat) (t:Ty)
@[reducible] def Ty.den:Ty->Type
 | .bool=>Bool
 | .int _=>Int
 | .slice e=>List e.den
 | .prod a b=>a.den×b.den
 | .unit=>Unit
 | .raw _=>Unit
 | .ifo _ t=>Option t.den
def Ty.eqb:Ty->Ty->Bool
 | .bool,.bool=>true
 | .int a,.int b=>decide (a=b)
 | .slice a,.slice b=>Ty.eqb a b
 | .prod a b,.prod c d=>Ty.eqb a c&&Ty.eqb b d
 | .unit,.unit=>true
 | .raw a,.raw b=>decide (a=b)
 | .ifo a s,.ifo b t=>Nat.beq a b&&Ty.eqb s t
 | _,_=>false
theorem Ty.eqb_eq:∀ {a b:Ty},Ty.eqb a b=true->a=b
 | .bool,.bool,_=>rfl
 | .int a,.int b,h=>by simp [Ty.eqb]at h;rw [h]
 | .slice a,.slice b,h=>by simp only [Ty.eqb]at h;rw [Ty.eqb_eq h]
 | .prod a b,.prod c d,h=>by
  simp only [Ty.eqb,qae]at h;rw [Ty.eqb_eq h.1,Ty.eqb_eq h.2]
 | .unit,.unit,_=>rfl
 | .raw a,.raw b,h=>by simp [Ty.eqb]at h;rw [h]
 | .raw _,.bool,h | .raw _,.int _,h | .raw _,.slice _,h | .raw _,.prod _ _,h | .raw _,.unit,h=>by simp [Ty.eqb]at h
 | .bool,.raw _,h | .int _,.raw _,h | .slice _,.raw _,h | .prod _ _,.raw _,h | .unit,.raw _,h=>by simp [Ty.eqb]at h
 | .ifo a s,.ifo b t,h=>by
  simp only [Ty.eqb,qae]at h;rw [qan h.1,Ty.eqb_eq h.2]
 | .ifo _ _,.bool,h | .ifo _ _,.int _,h | .ifo _ _,.slice _,h | .ifo _ _,.prod _ _,h | .ifo _ _,.unit,h | .ifo _ _,.raw _,h=>by simp [Ty.eqb]at h
 | .bool,.ifo _ _,h | .int _,.ifo _ _,h | .slice _,.ifo _ _,h | .prod _ _,.ifo _ _,h | .unit,.ifo _ _,h | .raw _,.ifo _ _,h=>by simp [Ty.eqb]at h
 | .bool,.int _,h | .bool,.slice _,h | .bool,.prod _ _,h | .bool,.unit,h=>by simp [Ty.eqb]at h
 | .int _,.bool,h | .int _,.slice _,h | .int _,.prod _ _,h | .int _,.unit,h=>by simp [Ty.eqb]at h
 | .slice _,.bool,h | .slice _,.int _,h | .slice _,.prod _ _,h | .slice _,.unit,h=>by simp [Ty.eqb]at h
 | .prod _ _,.bool,h | .prod _ _,.int _,h | .prod _ _,.slice _,h | .prod _ _,.unit,h=>by simp [Ty.eqb]at h
 | .unit,.bool,h | .unit,.int _,h | .unit,.slice _,h | .unit,.prod _ _,h=>by simp [Ty.eqb]at h
def Ty.cast(a b:Ty)(v:a.den):Option b.den :=
 if h:Ty.eqb a b=true then some (Ty.eqb_eq h ▸ v) else none
def Ty.size:Ty->Nat
 | .prod a b=>a.size+b.size
 | .unit=>0
 | _=>1
def Ty.dflt:(t:Ty)->t.den
 | .bool=>false
 | .int _=>0
 | .slice _=>[]
 | .prod a b=>(a.dflt,b.dflt)
 | .unit=>()
 | .raw _=>()
 | .ifo _ _=>none
def Ty.isAgg:Ty->Bool
 | .prod _ _ | .unit=>true
 | _=>false
inductive Cp where
 | ptr (b off:Nat)
 | imm (t:Ty) (v:t.den)
inductive Lf where
 | undef
 | kb (b:Bool)
 | imm (t:Ty) (v:t.den)
 | nil
 | own (b:Nat)
 | sub (b sz lo n:Nat)
 | bptr (b off:Nat)
 | eptr (b i off sz:Nat)
 | iptr (e:Ty) (l:List e.den) (i off:Nat)
 | fn (f:FuncId)
 | nam (b:Nat)
 | clo (f:FuncId) (first caps:List Cp)
def Lf.row:Lf->Option Nat
 | .own b=>some b
 | .sub b _ _ _=>some b
 | _=>none
def Lf.isRaw:Lf->Bool
 | .undef | .fn _ | .clo _ _ _ | .bptr _ _ | .eptr _ _ _ _ | .iptr _ _ _ _=>true
 | _=>false
def Cp.lf:Cp->Lf
 | .ptr b o=>.bptr b o
 | .imm t v=>.imm t v
inductive A1 where
 | one (x:Lf)
 | agg (xs:List Lf)
inductive AV where
 | v (a:A1)
 | tup (as:List A1)
inductive Cell where
 | no
 | av (a:AV)
 | arr (m:Bool) (T:TypeId) (e:Ty) (l:List e.den)
 | box (T:TypeId) (xs:List Lf)
 | ln (n:Nat)
 | rb (T:TypeId) (xs:List Lf)
inductive Loc where
 | s (n:Nat)
 | b (n:Nat)
instance:DecidableEq Loc
 | .s a,.s b=>if h:a=b then .isTrue (by rw [h]) else .isFalse fun e=>h (by injection e)
 | .b a,.b b=>if h:a=b then .isTrue (by rw [h]) else .isFalse fun e=>h (by injection e)
 | .s _,.b _=>.isFalse fun e=>by injection e
 | .b _,.s _=>.isFalse fun e=>by injection e
def Loc.eqb:Loc->Loc->Bool
 | .s i,.s j=>Nat.beq i j
 | .b i,.b j=>Nat.beq i j
 | _,_=>false
theorem Loc.eqb_iff{x y:Loc}:Loc.eqb x y=true↔x=y:=by
 cases x <;> cases y <;> simp [Loc.eqb]
inductive Wr where
 | w (l:Loc) (c:Cell)
 | cut
abbrev FS:=Loc->Cell
def look:List Wr->FS
 | [],_=>.no
 | .cut::_,_=>.no
 | .w l c::r,x=>cond (Loc.eqb l x) c (look r x)
inductive Tree (α:Type):Type 1 where
 | leaf (a:α)
 | bad
 | need (c:Bool) (k:Tree α)
 | br (c:Bool) (t e:Tree α)
 | bnd {A:Type} (o:Option A) (k:A->Tree α)
 | sum {A B:Type} (y:A⊕B) (l:A->Tree α) (r:B->Tree α)
def Tree.ev{α:Type}:Tree α->Option α
 | .leaf a=>some a
 | .bad=>none
 | .need c k=>cond c k.ev none
 | .br c t e=>cond c t.ev e.ev
 | .bnd o k=>o.bind fun a=>(k a).ev
 | .sum y l r=>match y with
  | .inl a=>(l a).ev
  | .inr b=>(r b).ev
def Tree.bind{α β:Type}:Tree α->(α->Tree β)->Tree β
 | .leaf a,f=>f a
 | .bad,_=>.bad
 | .need c k,f=>.need c (k.bind f)
 | .br c t e,f=>.br c (t.bind f) (e.bind f)
 | .bnd o k,f=>.bnd o fun a=>(k a).bind f
 | .sum y l r,f=>.sum y (fun a=>(l a).bind f) fun b=>(r b).bind f
theorem Tree.ev_bind{α β:Type}(t:Tree α)(f:α->Tree β):(t.bind f).ev=t.ev.bind fun a=>(f a).ev:=by
 induction t with
 | leaf a=>rfl
 | bad=>rfl
 | need c k ih=>cases c <;> simp [Tree.bind,Tree.ev,ih]
 | br c t e iht ihe=>cases c <;> simp [Tree.bind,Tree.ev,iht,ihe]
 | bnd o k ih=>cases o <;> simp [Tree.bind,Tree.ev,ih]
 | sum y l r ihl ihr=>cases y <;> simp [Tree.bind,Tree.ev,ihl,ihr]
inductive T (α:Type):Type 1 where
 | ret (a:α)
 | fail
 | rd (l:Loc) (k:Cell->T α)
 | need (c:Bool) (k:T α)
 | br (c:Bool) (t e:T α)
 | bnd {A:Type} (o:Option A) (k:A->T α)
def T.bind{α β:Type}:T α->(α->T β)->T β
 | .ret a,f=>f a
 | .fail,_=>.fail
 | .rd l k,f=>.rd l fun c=>(k c).bind f
 | .need c k,f=>.need c (k.bind f)
 | .br c t e,f=>.br c (t.bind f) (e.bind f)
 | .bnd o k,f=>.bnd o fun a=>(k a).bind f
instance:Monad T where
 pure:=T.ret
 bind:=T.bind
def T.run{α:Type}(fs:FS):T α->List Loc->Tree (α×List Loc)
 | .ret a,rs=>.leaf (a,rs)
 | .fail,_=>.bad
 | .rd l k,rs=>(k (fs l)).run fs (l::rs)
 | .need c k,rs=>.need c (k.run fs rs)
 | .br c t e,rs=>.br c (t.run fs rs) (e.run fs rs)
 | .bnd o k,rs=>.bnd o fun a=>(k a).run fs rs
def T.evs{α:Type}(fs:FS):T α->Option α
 | .ret a=>some a
 | .fail=>none
 | .rd l k=>(k (fs l)).evs fs
 | .need c k=>cond c (k.evs fs) none
 | .br c t e=>cond c (t.evs fs) (e.evs fs)
 | .bnd o k=>o.bind fun a=>(k a).evs fs
theorem T.evs_bind{α β:Type}(fs:FS)(t:T α)(f:α->T β):T.evs fs (t >>= f)=(t.evs fs).bind fun a=>(f a).evs fs:=by
 show T.evs fs (t.bind f)=_
 induction t with
 | ret a=>rfl
 | fail=>rfl
 | rd l k ih=>simp only [T.bind,T.evs,ih]
 | need c k ih=>cases c <;> simp [T.bind,T.evs,ih]
 | br c t e iht ihe=>cases c <;> simp [T.bind,T.evs,iht,ihe]
 | bnd o k ih=>cases o <;> simp [T.bind,T.evs,ih]
@[simp] theorem T.evs_pure{α:Type}(fs:FS)(a:α):T.evs fs (pure a)=some a:=rfl
theorem T.run_evs{α:Type}{fs:FS}{t:T α}:∀ {rs rs':List Loc} {a:α},(t.run fs rs).ev=some (a,rs')->t.evs fs=some a:=by
 induction t with
 | ret a=>intro rs rs' b h;simp [T.run,Tree.ev]at h;simp [T.evs,h.1]
 | fail=>intro rs rs' b h;simp [T.run,Tree.ev]at h
 | rd l k ih=>intro rs rs' b h;exact ih _ h
 | need c k ih=>intro rs rs' b h;cases c <;> simp [T.run,Tree.ev]at h;exact ih h
 | br c t e iht ihe=>
  intro rs rs' b h
  cases c
  . exact ihe h
  . exact iht h
 | bnd o k ih=>intro rs rs' b h;cases o <;> simp [T.run,Tree.ev]at h;exact ih _ h
theorem T.run_sub{α:Type}{fs:FS}{t:T α}:∀ {rs rs':List Loc} {a:α},(t.run fs rs).ev=some (a,rs')->∀ l∈rs,l∈rs':=by
 induction t with
 | ret a=>intro rs rs' b h;simp [T.run,Tree.ev]at h;simp [h.2]
 | fail=>intro rs rs' b h;simp [T.run,Tree.ev]at h
 | rd l k ih=>intro rs rs' b h x hx;exact ih _ h x (qaF _ hx)
 | need c k ih=>intro rs rs' b h;cases c <;> simp [T.run,Tree.ev]at h;exact ih h
 | br c t e iht ihe=>
  intro rs rs' b h
  cases c
  . exact ihe h
  . exact iht h
 | bnd o k ih=>intro rs rs' b h;cases o <;> simp [T.run,Tree.ev]at h;exact ih _ h
theorem T.run_local{α:Type}{fs fs':FS}{t:T α}:∀ {rs rs':List Loc} {a:α},(t.run fs rs).ev=some (a,rs')->(∀ l∈rs',fs' l=fs l)->(t.run fs' rs).ev=some (a,rs'):=by
 induction t with
 | ret a=>intro rs rs' b h _;exact h
 | fail=>intro rs rs' b h;simp [T.run,Tree.ev]at h
 | rd l k ih=>
  intro rs rs' b h hl
  simp only [T.run]at h ⊢;rw [hl l (T.run_sub h l (qbg ..))];exact ih _ h hl
 | need c k ih=>intro rs rs' b h hl;cases c <;> simp [T.run,Tree.ev]at h ⊢;exact ih h hl
 | br c t e iht ihe=>
  intro rs rs' b h hl
  cases c
  . exact ihe h hl
  . exact iht h hl
 | bnd o k ih=>intro rs rs' b h hl;cases o <;> simp [T.run,Tree.ev]at h ⊢;exact ih _ h hl
end Go.VI
namespace Go.VI
open Go
structure Row where
 t:TypeId
 ty:Ty
 elem:TypeId
 fields:List (Nat×Ty)
 bytes:Nat
 cmp:Bool
 arr:Option (Nat×Ty):=none
def Row.isStruct(r:Row):Bool:=r.ty.isAgg&&r.arr.isNone
abbrev TE:=List Row
def TE.find:TE->TypeId->Option Row
 | [],_=>none
 | r::te,t=>cond (Nat.beq r.t t) (some r) (TE.find te t)
def opt{α:Type}:Option α->T α
 | some a=>.ret a
 | none=>.fail
def zao(c:Bool):T Unit:=cond c (.ret ()) .fail
def zjG(c:Bool):T Unit:=.need c (.ret ())
def tyT(te:TE)(t:TypeId):T Row:=opt (te.find t)
def rdS(n:Nat):T AV:=.rd (.s n) fun c=>match c with
 | .av a=>.ret a
 | _=>.fail
def rdB(b:Nat):T Cell:=.rd (.b b) .ret
def cstL:Value->Option Lf
 | .bool b=>some (.kb b)
 | .int k n=>some (.imm (.int k) n)
 | .slice none 0 0=>some .nil
 | .nilFunc | .map none | .pointer none=>some .undef
 | .nilIface=>some (.imm (.ifo 0 .unit) none)
 | _=>none
def zv4:List Value->Option (List Lf)
 | []=>some []
 | v::vs=>match cstL v,zv4 vs with
  | some x,some xs=>some (x::xs)
  | _,_=>none
def cst:Value->Option AV
 | .agg cs=>(zv4 cs.toList).map fun xs=>.v (.agg xs)
 | v=>(cstL v).map fun x=>.v (.one x)
def rdO:Operand->T AV
 | .tmp n=>rdS n
 | .const v=>opt (cst v)
 | .func f=>.ret (.v (.one (.fn f)))
 | .global _=>.fail
def one:AV->T Lf
 | .v (.one x)=>.ret x
 | _=>.fail
def leaves:AV->T (List Lf)
 | .v (.one x)=>.ret [x]
 | .v (.agg xs)=>.ret xs
 | _=>.fail
def zdU(t:Ty):AV->T (List Lf)
 | .v (.one x)=>cond t.isAgg .fail (.ret [x])
 | .v (.agg xs)=>cond t.isAgg (.ret xs) .fail
 | _=>.fail
def mk1(t:Ty)(xs:List Lf):T A1 :=
 cond t.isAgg (.ret (.agg xs)) (match xs with
  | [x]=>.ret (.one x)
  | _=>.fail)
def rd1(x:Operand):T Lf:=do one (<-rdO x)
def asInt:Lf->T (IntKind×Int)
 | .imm (.int k) n=>.ret (k,n)
 | _=>.fail
def asBool:Lf->T Bool
 | .kb b=>.ret b
 | .imm .bool b=>.ret b
 | _=>.fail
def zcm(a b:Ty)(v:a.den):T b.den:=opt (Ty.cast a b v)
def zl6(fz:Bool)(e:Ty):Lf->T (List e.den×List (Nat×Cell))
 | .nil=>.ret ([],[])
 | .imm t v=>do let l <-zcm t (.slice e) v;pure (l,[])
 | .own b=>do
  match <-rdB b with
  | .arr _ T e' l=>do
   let l' <-zcm (.slice e') (.slice e) l
   pure (l',cond fz [(b,.arr false T e' l)] [])
  | _=>.fail
 | .sub b sz lo n=>do
  match <-rdB b with
  | .arr _ T e' l=>do
   let l' <-zcm (.slice e') (.slice e) l
   zao (Nat.beq sz e.size)
   pure ((l'.drop lo).take n,cond fz [(b,.arr false T e' l)] [])
  | _=>.fail
 | _=>.fail
def ifoT(K:Nat)(t:Ty):(t':Ty)->t'.den->T (Option t.den)
 | .ifo 0 .unit,v=>match v with
  | none=>.ret none
  | some _=>.fail
 | t',v=>zcm t' (.ifo K t) v
def za2(fz:Bool):(t:Ty)->List Lf->T (t.den×List Lf×List (Nat×Cell))
 | .bool,x::r=>do let b <-asBool x;pure (b,r,[])
 | .int k,x::r=>match x with
  | .imm t v=>do let n <-zcm t (.int k) v;pure (n,r,[])
  | _=>.fail
 | .slice e,x::r=>do let (l,ws) <-zl6 fz e x;pure (l,r,ws)
 | .raw _,x::r=>do zao x.isRaw;pure ((),r,[])
 | .ifo K t,x::r=>match x with
  | .imm t' v=>do let n <-ifoT K t t' v;pure (n,r,[])
  | _=>.fail
 | .prod a b,xs=>do
  let (v1,r1,w1) <-za2 fz a xs
  let (v2,r2,w2) <-za2 fz b r1
  pure ((v1,v2),r2,w1++w2)
 | .unit,xs=>pure ((),xs,[])
 | _,_=>.fail
def flat:(t:Ty)->t.den->List Lf
 | .bool,v=>[.imm .bool v]
 | .int k,v=>[.imm (.int k) v]
 | .slice e,v=>[.imm (.slice e) v]
 | .prod a b,v=>flat a v.1++flat b v.2
 | .unit,_=>[]
 | .raw _,_=>[.undef]
 | .ifo K t,v=>[.imm (.ifo K t) v]
def zqI:Ty->List Lf
 | .bool=>[.kb false]
 | .int k=>[.imm (.int k) 0]
 | .slice _=>[.nil]
 | .prod a b=>zqI a++zqI b
 | .unit=>[]
 | .raw _=>[.undef]
 | .ifo K t=>[.imm (.ifo K t) none]
def splice(xs:List Lf)(off:Nat)(ys:List Lf):T (List Lf) :=
 cond (Nat.ble (off+ys.length) xs.length) (.ret (xs.take off++ys++xs.drop (off+ys.length))) .fail
def cutL(xs:List Lf)(off:Nat)(t:Ty):T A1 :=
 cond (Nat.ble (off+t.size) xs.length) (mk1 t ((xs.drop off).take t.size)) .fail
def loadT(te:TE)(t:TypeId)(p:Lf):T AV:=do
 let r <-tyT te t
 match p with
 | .bptr b off=>match <-rdB b with
  | .box _ xs=>do pure (.v (<-cutL xs off r.ty))
  | .rb _ xs=>do pure (.v (<-cutL xs off r.ty))
  | _=>.fail
 | .eptr b i off sz=>match <-rdB b with
  | .arr _ _ e l=>do
   zao (Nat.beq sz e.size)
   pure (.v (<-cutL (flat e (l.getD i e.dflt)) off r.ty))
  | _=>.fail
 | .iptr e l i off=>do pure (.v (<-cutL (flat e (l.getD i e.dflt)) off r.ty))
 | _=>.fail
def zzC(te:TE)(t:TypeId)(p:Lf)(a:AV):T (List (Nat×Cell)):=do
 let r <-tyT te t
 let ys <-leaves a
 zao (Nat.beq ys.length r.ty.size)
 match p with
 | .bptr b off=>match <-rdB b with
  | .box T xs=>do pure [(b,.box T (<-splice xs off ys))]
  | _=>.fail
 | .eptr b i off sz=>match <-rdB b with
  | .arr true T e l=>do
   zao (Nat.beq sz e.size)
   let xs <-splice (flat e (l.getD i e.dflt)) off ys
   let (v,rest,ws) <-za2 true e xs
   zao rest.isEmpty
   zao (ws.all fun p=>!Nat.beq p.1 b)
   pure ((b,.arr true T e (l.set i v))::ws)
  | _=>.fail
 | _=>.fail
def inB(i:Int)(n:Nat):Bool:=decide (0<=i/\i<n)
def zq3(b o sz:Nat)(i:Int):Nat->Nat->T Lf
 | 0,_=>.need false .fail
 | n+1,k=>.br (decide (i=k)) (.ret (.bptr b (o+k*sz))) (zq3 b o sz i n (k+1))
def zzK(te:TE)(t:TypeId)(x:Lf)(i:Int):T Lf:=do
 let r <-tyT te t
 match r.ty with
 | .slice e'=>match x with
  | .imm (.slice e) l=>do
   zao (Nat.beq e'.size e.size)
   zjG (inB i l.length)
   pure (.iptr e l i.toNat 0)
  | .own b=>match <-rdB b with
   | .arr _ _ e l=>do
    zao (Nat.beq e'.size e.size)
    zjG (inB i l.length)
    pure (.eptr b i.toNat 0 e.size)
   | _=>.fail
  | _=>.fail
 | _=>match r.arr,x with
  | some (n,e),.bptr b o=>zq3 b o e.size i n 0
  | _,_=>.fail
def zzN(te:TE)(s:TypeId)(p:Lf)(f:Nat):T Lf:=do
 let r <-tyT te s
 zao r.isStruct
 let (off,_) <-opt (r.fields[f]?)
 match p with
 | .bptr b o=>pure (.bptr b (o+off))
 | .eptr b i o sz=>pure (.eptr b i (o+off) sz)
 | .iptr e l i o=>pure (.iptr e l i (o+off))
 | _=>.fail
def partT(te:TE)(s:TypeId)(a:AV)(f:Nat):T AV:=do
 let r <-tyT te s
 zao r.isStruct
 let (off,t) <-opt (r.fields[f]?)
 match a with
 | .v (.agg xs)=>do pure (.v (<-cutL xs off t))
 | _=>.fail
def zv1(fs:List (Nat×Ty)):List (Nat×Operand)->List Lf->T (List Lf)
 | [],xs=>.ret xs
 | (f,x)::ps,xs=>do
  let (off,t) <-opt (fs[f]?)
  let ys <-leaves (<-rdO x)
  zao (Nat.beq ys.length t.size)
  zv1 fs ps (<-splice xs off ys)
def ziF(e:Ty):Nat->List (Nat×Operand)->T (List e.den×List (Nat×Cell))
 | _,[]=>.ret ([],[])
 | j,(i,x)::ps=>do
  zao (Nat.beq i j)
  let ys <-leaves (<-rdO x)
  let (v,rest,w1) <-za2 true e ys
  zao rest.isEmpty
  let (vs,w2) <-ziF e (j+1) ps
  pure (v::vs,w1++w2)
def zcN(k:IntKind)(f:BitVec k.bits->BitVec k.bits->BitVec k.bits)(a b:Int):Int:=k.wrap (f (BitVec.ofInt k.bits a) (BitVec.ofInt k.bits b)).toNat
def binI(op:BinOp)(k:IntKind)(a b:Int):T Lf :=
 match op with
 | .add=>.ret (.imm (.int k) (k.wrap (a+b)))
 | .sub=>.ret (.imm (.int k) (k.wrap (a-b)))
 | .mul=>.ret (.imm (.int k) (k.wrap (a*b)))
 | .quo=>.need (!(b == 0)) (.ret (.imm (.int k) (k.wrap (a.tdiv b))))
 | .rem=>.need (!(b == 0)) (.ret (.imm (.int k) (a.tmod b)))
 | .and=>.ret (.imm (.int k) (zcN k (· &&& ·) a b))
 | .or=>.ret (.imm (.int k) (zcN k (· ||| ·) a b))
 | .xor=>.ret (.imm (.int k) (zcN k (· ^^^ ·) a b))
 | .andNot=>.ret (.imm (.int k) (zcN k (fun x y=>x &&& ~~~y) a b))
 | .eql=>.ret (.imm .bool (a == b))
 | .neq=>.ret (.imm .bool (a != b))
 | .lss=>.ret (.imm .bool (decide (a<b)))
 | .leq=>.ret (.imm .bool (decide (a<=b)))
 | .gtr=>.ret (.imm .bool (decide (a > b)))
 | .geq=>.ret (.imm .bool (decide (a >= b)))
 | _=>.fail
def binT(op:BinOp)(x y:Lf):T Lf :=
 match op,x,y with
 | .shl,.imm (.int k) a,.imm (.int _) b=>.need (!decide (b<0)) (.ret (.imm (.int k) (k.wrap (a*2 ^ (min b.toNat k.bits)))))
 | .shr,.imm (.int k) a,.imm (.int _) b=>.need (!decide (b<0)) (.ret (.imm (.int k) (a.fdiv (2 ^ (min b.toNat k.bits)))))
 | op,.imm (.int k) a,.imm (.int k') b=>cond (decide (k=k')) (binI op k a b) .fail
 | _,_,_=>.fail
def Ty.plain:Ty->Bool
 | .slice _=>false
 | .raw _=>false
 | .ifo _ _=>false
 | .prod a b=>a.plain&&b.plain
 | _=>true
def Ty.eqv:(t:Ty)->t.den->t.den->Bool
 | .bool,a,b=>a == b
 | .int _,a,b=>(show Int from a) == (show Int from b)
 | .slice _,_,_=>false
 | .prod a b,v,u=>a.eqv v.1 u.1&&b.eqv v.2 u.2
 | .unit,_,_=>true
 | .raw _,_,_=>false
 | .ifo _ _,_,_=>false
def eqT(te:TE)(op:BinOp)(t:TypeId)(a b:AV):T Lf:=do
 let r <-tyT te t
 zao (r.cmp&&r.ty.plain)
 let ys <-zdU r.ty a
 let zs <-zdU r.ty b
 let (u,ru,_) <-za2 true r.ty ys
 zao ru.isEmpty
 let (v,rv,_) <-za2 true r.ty zs
 zao rv.isEmpty
 match op with
 | .eql=>.ret (.imm .bool (r.ty.eqv u v))
 | .neq=>.ret (.imm .bool (!r.ty.eqv u v))
 | _=>.fail
def isInt:Lf->Bool
 | .imm (.int _) _=>true
 | _=>false
def binA(te:TE)(op:BinOp)(t:TypeId)(a b:AV):T Lf :=
 match a with
 | .v (.one x)=>cond (isInt x) (do binT op x (<-one b)) (eqT te op t (.v (.one x)) b)
 | a=>eqT te op t a b
def unT(op:UnOp)(x:Lf):T Lf :=
 match op,x with
 | .neg,.imm (.int k) n=>.ret (.imm (.int k) (k.wrap (0-n)))
 | .not,.kb b=>.ret (.kb !b)
 | .not,.imm .bool b=>.ret (.imm .bool !b)
 | _,_=>.fail
def convT(te:TE)(s d:TypeId)(x:Lf):T Lf:=do
 let _ <-tyT te s
 let r <-tyT te d
 match r.ty,x with
 | .int k,.imm (.int _) n=>.ret (.imm (.int k) (k.wrap n))
 | _,_=>.fail
def lenL:Lf->T Lf
 | .nil=>.ret (.imm (.int .i64) 0)
 | .imm (.slice _) l=>.ret (.imm (.int .i64) l.length)
 | .own b=>do
  match <-rdB b with
  | .arr _ _ _ l=>pure (.imm (.int .i64) l.length)
  | .ln n=>pure (.imm (.int .i64) n)
  | _=>.fail
 | .sub _ _ _ n=>.ret (.imm (.int .i64) n)
 | _=>.fail
def lenT(te:TE)(t:TypeId)(x:Lf):T Lf:=do
 let r <-tyT te t
 match r.ty with
 | .slice _=>lenL x
 | _=>.fail
def zaA(n bytes:Nat):Bool:=Nat.ble (n*bytes) 140737488355328
def appT(te:TE)(t:TypeId)(x y:Lf)(nm:Nat):T (Lf×List (Nat×Cell)):=do
 let r <-tyT te t
 match r.ty with
 | .slice e=>do
  let (m,_) <-zl6 false e y
  match x with
  | .nil=>do
   zjG (zaA m.length r.bytes)
   pure (.own nm,[(nm,.arr true r.elem e m)])
  | .own b=>match <-rdB b with
   | .arr true T e' l'=>do
    zao (Nat.beq T r.elem)
    zao (match y with
     | .own b'=>!Nat.beq b b'
     | _=>true)
    let l <-zcm (.slice e') (.slice e) l'
    zjG (zaA (l.length+m.length) r.bytes)
    pure (.own nm,[(b,.ln l.length),(nm,.arr true r.elem e (l++m))])
   | _=>.fail
  | .sub b _ lo n=>match <-rdB b with
   | .arr true T e' l'=>do
    zao (Nat.beq T r.elem&&Nat.beq lo 0)
    let l <-zcm (.slice e') (.slice e) l'
    zjG (zaA ((l.take n).length+m.length) r.bytes)
    pure (.own nm,[(b,.ln l.length),(nm,.arr true r.elem e (l.take n++m))])
   | _=>.fail
  | _=>.fail
 | _=>.fail
def copyT(te:TE)(t:TypeId)(x y:Lf):T (Lf×List (Nat×Cell)):=do
 let r <-tyT te t
 match r.ty with
 | .slice e=>do
  zao (Nat.beq e.size 1)
  let (m,_) <-zl6 false e y
  match x with
  | .own b=>match <-rdB b with
   | .arr true T e' l'=>do
    let l <-zcm (.slice e') (.slice e) l'
    pure (.imm (.int .i64) (min m.length l.length:Nat),[(b,.arr true T e (m.take l.length++l.drop m.length))])
   | _=>.fail
  | .sub b sz lo n=>match <-rdB b with
   | .arr true T e' l'=>do
    let l <-zcm (.slice e') (.slice e) l'
    zao (Nat.beq sz 1)
    pure (.imm (.int .i64) (min m.length n:Nat),[(b,.arr true T e (l.take lo++(m.take n++l.drop (lo+min m.length n))))])
   | _=>.fail
  | _=>.fail
 | _=>.fail
def appZ(te:TE)(t:TypeId)(x:Lf)(n:Int)(nm:Nat):T (Lf×List (Nat×Cell)):=do
 let r <-tyT te t
 match r.ty with
 | .slice e=>do
  zjG (decide (0<=n))
  match x with
  | .nil=>do
   zjG (zaA n.toNat r.bytes)
   pure (.own nm,[(nm,.arr true r.elem e (List.replicate n.toNat e.dflt))])
  | .own b=>match <-rdB b with
   | .arr true T e' l'=>do
    zao (Nat.beq T r.elem)
    let l <-zcm (.slice e') (.slice e) l'
    zjG (zaA (l.length+n.toNat) r.bytes)
    pure (.own nm,[(b,.no),(nm,.arr true r.elem e (l++List.replicate n.toNat e.dflt))])
   | _=>.fail
  | _=>.fail
 | _=>.fail
end Go.VI
namespace Go.VI
open Go
inductive PTy where
 | val (t:Ty)
 | ptr (T:TypeId) (t:Ty)
@[reducible] def PTy.den:PTy->Type
 | .val t=>t.den
 | .ptr _ t=>t.den
@[reducible] def Pden:List PTy->Type
 | []=>Unit
 | p::ps=>p.den×Pden ps
@[reducible] def Oden:List PTy->Type
 | []=>Unit
 | .val _::ps=>Oden ps
 | .ptr _ t::ps=>t.den×Oden ps
structure RTy where
 t:Ty
 own:List (Option TypeId)
 clo:Option (FuncId×List TypeId):=none
@[reducible] def Rden:List RTy->Type
 | []=>Unit
 | r::rs=>r.t.den×Rden rs
inductive AP where
 | p
 | clo (f:FuncId) (n m:Nat)
structure Entry where
 f:FuncId
 sh:List AP
 ps:List PTy
 rs:List RTy
 F:Pden ps->Option (Rden rs×Oden ps)
def zpT:Ty->List Ty
 | .prod a b=>zpT a++zpT b
 | .unit=>[]
 | t=>[t]
def zdP:List Ty->List (Option TypeId)->Bool
 | [],_=>true
 | .slice e::r,some _::os=>e.plain&&zdP r os
 | .slice _::_,_=>false
 | .ifo _ _::_,_=>false
 | _::r,_::os=>zdP r os
 | _::r,[]=>zdP r []
def zom(rs:List RTy):Bool:=rs.all fun r=>r.clo.isNone&&zdP (zpT r.t) r.own
structure Ent where
 f:FuncId
 test:List AV->Bool
 G:List AV->Nat->T (Option AV×List (Nat×Cell))
def PTy.isVal:PTy->Bool
 | .val _=>true
 | _=>false
abbrev Tbl:=List Ent
def Tbl.find:Tbl->FuncId->List AV->Option Ent
 | [],_,_=>none
 | r::te,t,as=>cond (Nat.beq r.f t&&r.test as) (some r) (Tbl.find te t as)
def cpAV(c:Cp):AV:=.v (.one c.lf)
def zmD:List AP->List AV->T (List AV)
 | [],[]=>.ret []
 | .p::s,a::as=>do
  let r <-zmD s as
  pure (a::r)
 | .clo f n m::s,a::as=>match a with
  | .v (.one (.clo g fi ca))=>do
   zao (Nat.beq f g&&Nat.beq n fi.length&&Nat.beq m ca.length)
   let r <-zmD s as
   pure ((fi++ca).map cpAV++r)
  | .v (.one (.fn g))=>do
   zao (Nat.beq f g&&Nat.beq n 0&&Nat.beq m 0)
   let r <-zmD s as
   pure r
  | _=>.fail
 | _,_=>.fail
def zw4:List AP->List AV->Bool
 | [],[]=>true
 | .p::s,_::as=>zw4 s as
 | .clo f _ _::s,a::as=>(match a with
  | .v (.one (.clo g _ _))=>Nat.beq f g
  | .v (.one (.fn g))=>Nat.beq f g
  | _=>false)&&zw4 s as
 | _,_=>false
def zmT:(ps:List PTy)->List AV->T (Pden ps×List (Nat×Cell)×List Nat)
 | [],[]=>.ret ((),[],[])
 | .val t::ps,x::xs=>do
  let ys <-zdU t x
  let (v,rest,w1) <-za2 true t ys
  zao rest.isEmpty
  let (vs,w2,bs) <-zmT ps xs
  pure ((v,vs),w1++w2,bs)
 | .ptr T t::ps,x::xs=>do
  match <-one x with
  | .bptr b 0=>match <-rdB b with
   | .box T' ys=>do
    zao (Nat.beq T T')
    let (v,rest,w1) <-za2 true t ys
    zao rest.isEmpty
    let (vs,w2,bs) <-zmT ps xs
    zao (!bs.contains b)
    pure ((v,vs),w1++w2,b::bs)
   | _=>.fail
  | _=>.fail
 | _,_=>.fail
def znA:(ps:List PTy)->Oden ps->List Nat->List (Nat×Cell)
 | .val _::ps,o,bs=>znA ps o bs
 | .ptr T t::ps,o,b::bs=>(b,.box T (flat t o.1))::znA ps o.2 bs
 | _,_,_=>[]
def ownL:List Lf->List (Option TypeId)->Nat->List Lf×List (Nat×Cell)×Nat
 | .imm (.slice e) l::xs,some T::os,nm=>
  let (ys,ws,k):=ownL xs os (nm+1)
  (.own nm::ys,(nm,.arr true T e l)::ws,k)
 | x::xs,_::os,nm=>
  let (ys,ws,k):=ownL xs os nm
  (x::ys,ws,k)
 | xs,_,nm=>(xs,[],nm)
def zzk(nm:Nat):Nat->List Cp
 | 0=>[]
 | k+1=>.ptr nm 0::zzk (nm+1) k
def zsd:(t:Ty)->t.den->List TypeId->Nat->List (Nat×Cell)
 | .prod a b,v,T::Ts,nm=>(nm,.box T (flat a v.1))::zsd b v.2 Ts (nm+1)
 | _,_,_,_=>[]
def resL:(rs:List RTy)->Rden rs->Nat->List A1×List (Nat×Cell)×Nat
 | [],_,nm=>([],[],nm)
 | r::rs,v,nm=>match r.clo with
  | none=>
   let (ys,w1,k):=ownL (flat r.t v.1) r.own nm
   let (as,w2,k2):=resL rs v.2 k
   ((cond r.t.isAgg (.agg ys) (match ys with
    | [y]=>.one y
    | _=>.agg ys))::as,w1++w2,k2)
  | some (g,Ts)=>
   let (as,w2,k2):=resL rs v.2 (nm+Ts.length)
   (.one (.clo g [] (zzk nm Ts.length))::as,zsd r.t v.1 Ts nm++w2,k2)
def resAV:List A1->AV
 | [a]=>.v a
 | as=>.tup as
def Entry.G(E:Entry)(avs:List AV)(nm:Nat):T (Option AV×List (Nat×Cell)):=do
 let fl <-zmD E.sh avs
 let (d,lent,bs) <-zmT E.ps fl
 zao (lent.all fun p=>!bs.contains p.1)
 .bnd (E.F d) fun r=>
  let (as,ws,k):=resL E.rs r.1 nm
  cond (Nat.ble k (nm+64)) (.ret (some (resAV as),znA E.ps r.2 bs++(ws++cond (zom E.rs&&bs.isEmpty) [] lent))) .fail
def Entry.ent(E:Entry):Ent:=⟨E.f,zw4 E.sh,E.G⟩
def zzo(tbl:Tbl)(f:FuncId)(avs:List AV)(nm:Nat):T (Option AV×List (Nat×Cell)) :=
 match tbl.find f avs with
 | some E=>E.G avs nm
 | none=>.fail
def zsZ:List Operand->T (List AV)
 | []=>.ret []
 | x::xs=>do
  let a <-rdO x
  let as <-zsZ xs
  pure (a::as)
def capT(x:Operand):T Cp:=do
 match <-rd1 x with
 | .bptr b o=>.ret (.ptr b o)
 | .imm t v=>.ret (.imm t v)
 | .kb b=>.ret (.imm .bool b)
 | _=>.fail
def zv6:List Operand->T (List Cp)
 | []=>.ret []
 | x::xs=>do
  let a <-capT x
  let as <-zv6 xs
  pure (a::as)
def zzn(tbl:Tbl)(x:Lf)(avs:List AV)(nm:Nat):T (Option AV×List (Nat×Cell)) :=
 match x with
 | .fn f=>zzo tbl f avs nm
 | .clo f fi ca=>zzo tbl f (fi.map cpAV++(avs++ca.map cpAV)) nm
 | _=>.fail
def zvn:Option Operand->Int->T Int
 | some y,_=>do
  let (_,n) <-asInt (<-rd1 y)
  pure n
 | none,d=>.ret d
def zzQ(te:TE)(t t':TypeId)(x y:Operand)(nm:Nat):T (Option AV×List (Nat×Cell)) :=
 cond (Nat.beq t t')
  (do
   let (a,ws) <-appT te t (<-rd1 x) (<-rd1 y) nm
   pure (some (.v (.one a)),ws))
  (do
   let r <-tyT te t'
   match r.ty with
   | .int _=>do
    let (_,n) <-asInt (<-rd1 y)
    let (a,ws) <-appZ te t (<-rd1 x) n nm
    pure (some (.v (.one a)),ws)
   | _=>.fail)
def isOwn:Lf->T Bool
 | .own b=>do
  match <-rdB b with
  | .arr m _ _ _=>pure m
  | _=>.ret false
 | _=>.ret false
def znz(te:TE)(tbl:Tbl)(o:Oper)(nm:Nat):T (Option AV×List (Nat×Cell)) :=
 let r1 (t:T Lf):T (Option AV×List (Nat×Cell)):=do pure (some (.v (.one (<-t))),[])
 match o.op with
 | .move x | .assign x=>do pure (some (<-rdO x),[])
 | .pick c a b=>do
  match <-rd1 c with
  | .kb true=>do pure (some (<-rdO a),[])
  | .kb false=>do pure (some (<-rdO b),[])
  | _=>.fail
 | .alloc t=>do
  let r <-tyT te t
  pure (some (.v (.one (.bptr nm 0))),[(nm,.box t (zqI r.ty))])
 | .box t x=>do
  let r <-tyT te t
  let ys <-leaves (<-rdO x)
  zao (Nat.beq ys.length r.ty.size)
  pure (some (.v (.one (.bptr nm 0))),[(nm,.box t ys)])
 | .build t ps=>do
  let r <-tyT te t
  zao r.ty.isAgg
  let xs <-zv1 r.fields ps.toList (zqI r.ty)
  pure (some (.v (.agg xs)),[])
 | .buildSlice t n ps=>do
  let r <-tyT te t
  match r.ty with
  | .slice e=>do
   let (vs,ws) <-ziF e 0 ps.toList
   zao (Nat.beq n vs.length&&Nat.ble (n*e.size) 1000)
   pure (some (.v (.one (.own nm))),(nm,.arr true r.elem e vs)::ws)
  | _=>.fail
 | .load t p=>do pure (some (<-loadT te t (<-rd1 p)),[])
 | .store t p x=>do
  let a <-rdO x
  pure (none,<-zzC te t (<-rd1 p) a)
 | .nilCheck x=>r1 do
  match <-rd1 x with
  | .bptr b o=>pure (.bptr b o)
  | .eptr b i o s=>pure (.eptr b i o s)
  | .iptr e l i o=>pure (.iptr e l i o)
  | _=>.fail
 | .binOp op t x y _=>r1 do binA te op t (<-rdO x) (<-rdO y)
 | .unOp op _ x=>r1 do unT op (<-rd1 x)
 | .convert s d x=>r1 do convT te s d (<-rd1 x)
 | .fieldAddr s x f=>r1 do zzN te s (<-rd1 x) f
 | .field s x f=>do pure (some (<-partT te s (<-rdO x) f),[])
 | .indexAddr t x i=>r1 do
  let (_,n) <-asInt (<-rd1 i)
  zzK te t (<-rd1 x) n
 | .extract x i=>do
  match <-rdO x with
  | .tup as=>do pure (some (.v (<-opt (as[i]?))),[])
  | _=>.fail
 | .makeInterface K x=>do
  let r <-tyT te K
  zao r.ty.isAgg
  let ys <-zdU r.ty (<-rdO x)
  let (v,rest,ws) <-za2 true r.ty ys
  zao rest.isEmpty
  pure (some (.v (.one (.imm (.ifo K r.ty) (some v)))),ws)
 | .typeAssert x _ A true=>do
  let r <-tyT te A
  zao (r.isStruct && !Nat.beq r.ty.size 1)
  match <-rd1 x with
  | .imm t' v=>do
   let o <-zcm t' (.ifo A r.ty) v
   pure (some (.tup [.agg (flat r.ty (o.getD r.ty.dflt)),.one (.imm .bool o.isSome)]),[])
  | _=>.fail
 | .makeSlice t l c=>do
  let r <-tyT te t
  let (_,n) <-asInt (<-rd1 l)
  let (_,m) <-asInt (<-rd1 c)
  match r.ty with
  | .slice e=>do
   zjG (decide (0<=n/\n<=m))
   zjG (zaA m.toNat r.bytes)
   pure (some (.v (.one (.own nm))),[(nm,.arr true r.elem e (List.replicate n.toNat e.dflt))])
  | _=>.fail
 | .slice t x lo hi none=>do
  let r <-tyT te t
  match r.ty with
  | .slice e=>do
   let lx <-rd1 x
   let own <-isOwn lx
   let (l,ws) <-zl6 (!own) e lx
   let a <-zvn lo 0
   let b <-zvn hi l.length
   zjG (decide (0<=a/\a<=b/\b<=l.length))
   match lx,own with
   | .own bb,true=>pure (some (.v (.one (.sub bb e.size a.toNat (b-a).toNat))),[])
   | _,true=>.fail
   | _,false=>pure (some (.v (.one (.imm (.slice e) ((l.take b.toNat).drop a.toNat)))),ws)
  | _=>.fail
 | .call { callee:=.builtin .len,args,argTypes }=>r1 do
  match args.toList,argTypes.toList with
  | [x],[t]=>do lenT te t (<-rd1 x)
  | _,_=>.fail
 | .call { callee:=.builtin .append,args,argTypes }=>do
  match args.toList,argTypes.toList with
  | [x,y],[t,t']=>zzQ te t t' x y nm
  | _,_=>.fail
 | .call { callee:=.builtin .copy,args,argTypes }=>do
  match args.toList,argTypes.toList with
  | [x,y],[t,t']=>do
   zao (Nat.beq t t')
   let (a,ws) <-copyT te t (<-rd1 x) (<-rd1 y)
   pure (some (.v (.one a)),ws)
  | _,_=>.fail
 | .call { callee:=.builtin .min,args,argTypes:=_ }=>r1 do
  match args.toList with
  | [x,y]=>do
   let (k,a) <-asInt (<-rd1 x)
   let (_,b) <-asInt (<-rd1 y)
   pure (.imm (.int k) (if b<a then b else a))
  | _=>.fail
 | .call { callee:=.builtin .max,args,argTypes:=_ }=>r1 do
  match args.toList with
  | [x,y]=>do
   let (k,a) <-asInt (<-rd1 x)
   let (_,b) <-asInt (<-rd1 y)
   pure (.imm (.int k) (if b > a then b else a))
  | _=>.fail
 | .call { callee:=.value x,args,argTypes:=_ }=>do
  let l <-rd1 x
  let avs <-zsZ args.toList
  zzn tbl l avs nm
 | .makeFunc (.func f) fi ca=>r1 do
  let a <-zv6 fi.toList
  let b <-zv6 ca.toList
  pure (.clo f a b)
 | _=>.fail
def wrs(dst:Option Tmp)(r:Option AV×List (Nat×Cell)):List Wr :=
 (match dst,r.1 with
  | some d,some a=>[.w (.s d) (.av a)]
  | some d,none=>[.w (.s d) .no]
  | none,_=>[])++r.2.map fun p=>.w (.b p.1) p.2
end Go.VI
namespace Go.VI
open Go
def Wr.loc:Wr->Option Loc
 | .w l _=>some l
 | .cut=>none
def Cp.same:Cp->Cp->Bool
 | .ptr b o,.ptr b' o'=>Nat.beq b b'&&Nat.beq o o'
 | _,_=>false
def Cps.same:List Cp->List Cp->Bool
 | [],[]=>true
 | a::as,b::bs=>a.same b&&Cps.same as bs
 | _,_=>false
def zhx(c:Bool):Lf->Lf->Option Lf
 | .kb true,.kb false=>some (.imm .bool c)
 | .kb a,.kb b=>some (.imm .bool (cond c a b))
 | .kb a,.imm .bool b=>some (.imm .bool (cond c a b))
 | .imm .bool a,.kb b=>some (.imm .bool (cond c a b))
 | .imm t a,.imm t' b=>(Ty.cast t' t b).map fun b'=>.imm t (cond c a b')
 | .nil,.nil=>some .nil
 | .nil,.imm (.slice e) l=>some (.imm (.slice e) (cond c [] l))
 | .imm (.slice e) l,.nil=>some (.imm (.slice e) (cond c l []))
 | .own a,.own b=>cond (Nat.beq a b) (some (.own a)) none
 | .bptr a o,.bptr b o'=>cond (Nat.beq a b&&Nat.beq o o') (some (.bptr a o)) none
 | .fn f,.fn g=>cond (Nat.beq f g) (some (.fn f)) none
 | .clo f a b,.clo g a' b'=>cond (Nat.beq f g&&Cps.same a a'&&Cps.same b b') (some (.clo f a b)) none
 | _,_=>none
def zcX(c:Bool):List Lf->List Lf->Option (List Lf)
 | [],[]=>some []
 | x::xs,y::ys=>match zhx c x y,zcX c xs ys with
  | some z,some zs=>some (z::zs)
  | _,_=>none
 | _,_=>none
def zxJ(c:Bool):Cell->Cell->Cell
 | .av (.v (.one x)),.av (.v (.one y))=>match zhx c x y with
  | some z=>.av (.v (.one z))
  | none=>.no
 | .av (.v (.agg xs)),.av (.v (.agg ys))=>match zcX c xs ys with
  | some zs=>.av (.v (.agg zs))
  | none=>.no
 | _,_=>.no
def zdK:List Wr->Option (List Nat)
 | []=>some []
 | .w (.s n) _::r=>(zdK r).map (n :: ·)
 | _=>none
def zp7:List Nat->List Nat
 | []=>[]
 | n::r=>cond ((zp7 r).any (Nat.beq n)) (zp7 r) (n::zp7 r)
def zow(c:Bool)(st a b:List Wr):Option (List Wr) :=
 match zdK a,zdK b with
 | some ka,some kb=>some ((zp7 (ka++kb)).map fun n=>.w (.s n) (zxJ c (look (a++st) (.s n)) (look (b++st) (.s n))))
 | _,_=>none
def phiR(c:Bool)(st a:List Wr):Tree (List Wr)->Tree (List Wr)
 | .leaf b=>match zow c st a b with
  | some m=>.leaf m
  | none=>.br c (.leaf a) (.leaf b)
 | .need p e=>.need (cond c true p) (phiR c st a e)
 | e=>.br c (.leaf a) e
def phi(c:Bool)(st:List Wr)(e:Tree (List Wr)):Tree (List Wr)->Tree (List Wr)
 | .leaf a=>phiR c st a e
 | .need p t=>.need (cond c p true) (phi c st e t)
 | t=>.br c t e
abbrev Log:=Nat×List Loc×List Loc
def zk2:List Oper->List Nat->List Nat
 | [],acc=>acc
 | o::os,acc=>zk2 os (acc++[o.after.toList.foldl (fun s e=>cond (Region.binds .any e) (s ||| 2 ^ e.on ||| acc.getD e.on 0) s) 0])
def zjP:List Oper->Nat->Bool
 | [],_=>true
 | o::os,i=>o.after.toList.all (fun e=>!Region.binds .any e || Nat.blt e.on i)&&zjP os (i+1)
def hits(a b:List Loc):Bool:=a.any fun x=>b.any (Loc.eqb x)
def zr9(x y:Log):Bool:=hits x.2.2 y.2.1 || hits x.2.2 y.2.2 || hits x.2.1 y.2.2
def zf7(ms:List Nat):List Log->Bool
 | []=>true
 | y::r=>r.all (fun x=>!zr9 x y || (ms.getD y.1 0).testBit x.1)&&zf7 ms r
def askedBy(ops:Array Oper)(o:Oper):Option Nat :=
 match o.guard with
 | some (j,_)=>(ops[j]?).bind (·.dst)
 | none=>match o.op with
  | .pick (.tmp c) _ _=>some c
  | _=>none
def zby(ops:Array Oper):List Nat:=ops.toList.filterMap (askedBy ops)
def zp8(gs:List Nat):List Wr->Option (Nat×Bool)
 | [.w (.s d) (.av (.v (.one (.imm .bool c))))]=>cond (gs.any (Nat.beq d)) (some (d,c)) none
 | _=>none
def zwP(ops:Array Oper)(o:Oper):T Bool :=
 match o.guard with
 | none=>.ret true
 | some (j,want)=>match (ops[j]?).bind (·.dst) with
  | none=>.fail
  | some d=>do
   match <-rdS d with
   | .v (.one (.kb b))=>pure (cond b want !want)
   | .tup []=>pure false
   | _=>.fail
def zx5(nt:Nat):Option Tmp->Bool
 | none=>true
 | some d=>Nat.blt d nt
def opT(te:TE)(tbl:Tbl)(ops:Array Oper)(nt nx:Nat)(i:Nat):T (List Wr) :=
 match ops[i]? with
 | none=>.fail
 | some o=>do
  zao (zx5 nt o.dst)
  match <-zwP ops o with
  | true=>do pure (wrs o.dst (<-znz te tbl o (nx+64*i)))
  | false=>pure (wrs o.dst (some (.tup []),[]))
def za4(te:TE)(tbl:Tbl)(ops:Array Oper)(nt nx:Nat)(gs:List Nat)(ms:Option (List Nat)):List Nat->List Wr->List Log->Tree (List Wr)
 | [],_,lg=>match ms with
  | none=>.leaf []
  | some ms=>cond (zf7 ms lg) (.leaf []) .bad
 | i::rest,st,lg=>
  ((opT te tbl ops nt nx i).run (look st) []).bind fun r=>
   let next (ws:List Wr):Tree (List Wr):=(za4 te tbl ops nt nx gs ms rest (ws++st) ((i,r.2,ws.filterMap Wr.loc)::lg)).bind fun w=>.leaf (w++ws)
   match zp8 gs r.1 with
   | some (d,c)=>phi c st (next [.w (.s d) (.av (.v (.one (.kb false))))]) (next [.w (.s d) (.av (.v (.one (.kb true))))])
   | none=>next r.1
def zpi(te:TE)(tbl:Tbl)(nt nx:Nat)(ops:Array Oper)(draw:Bool)(st:List Wr):Tree (List Wr) :=
 cond draw
  (cond (zjP ops.toList 0) (za4 te tbl ops nt nx (zby ops) (some (zk2 ops.toList [])) (List.range ops.size) st []) .bad)
  (za4 te tbl ops nt nx (zby ops) none (List.range ops.size) st [])
end Go.VI
namespace Go.VI
open Go
inductive Sl where
 | val (t:Ty)
 | own (b:Nat)
 | bptr (b off:Nat)
 | eptr (b off sz:Nat)
@[reducible] def Sl.den:Sl->Type
 | .val t=>t.den
 | .eptr _ _ _=>Nat
 | _=>Unit
@[reducible] def Sden:List Sl->Type
 | []=>Unit
 | s::r=>s.den×Sden r
inductive Bl where
 | arr (T:TypeId) (e:Ty)
 | box (T:TypeId) (cs:List Sl)
@[reducible] def Bl.den:Bl->Type
 | .arr _ e=>List e.den
 | .box _ cs=>Sden cs
@[reducible] def Bden:List Bl->Type
 | []=>Unit
 | b::r=>b.den×Bden r
structure Shape where
 ss:List Nat
 sl:List Sl
 bl:List Bl
 ab:List Nat
 al:List Bl
@[reducible] def Shape.den(s:Shape):Type:=Sden s.sl×Bden s.bl×Bden s.al
def Sl.mkL(nx:Nat):(s:Sl)->s.den->Lf
 | .val t,v=>match flat t v with
  | [x]=>x
  | _=>.undef
 | .own b,_=>.own (nx+b)
 | .bptr b o,_=>.bptr (nx+b) o
 | .eptr b o sz,i=>.eptr (nx+b) i o sz
def Sl.mk1(nx:Nat):(s:Sl)->s.den->A1
 | .val t,v=>cond t.isAgg (.agg (flat t v)) (.one (Sl.mkL nx (.val t) v))
 | s,v=>.one (s.mkL nx v)
def mkLs(nx:Nat):(cs:List Sl)->Sden cs->List Lf
 | [],_=>[]
 | s::r,v=>s.mkL nx v.1::mkLs nx r v.2
def mkS(nx:Nat):List Nat->(sl:List Sl)->Sden sl->List Wr
 | n::ns,s::r,v=>.w (.s n) (.av (.v (s.mk1 nx v.1)))::mkS nx ns r v.2
 | _,_,_=>[]
def Bl.mk(nx:Nat):(b:Bl)->b.den->Cell
 | .arr T e,l=>.arr true T e l
 | .box T cs,v=>.box T (mkLs nx cs v)
def mkB(nx:Nat):Nat->(bl:List Bl)->Bden bl->List Wr
 | j,b::r,v=>.w (.b (nx+j)) (b.mk nx v.1)::mkB nx (j+1) r v.2
 | _,[],_=>[]
def mkA(nx:Nat):List Nat->(bl:List Bl)->Bden bl->List Wr
 | n::ns,b::r,v=>.w (.b n) (b.mk nx v.1)::mkA nx ns r v.2
 | _,_,_=>[]
def Shape.mk'(s:Shape)(nx:Nat)(v:s.den):List Wr:=mkS nx s.ss s.sl v.1++(mkB nx 0 s.bl v.2.1++mkA nx s.ab s.al v.2.2)
abbrev Mp:=List (Nat×Option Nat)
def Mp.find:Mp->Nat->Option (Option Nat)
 | [],_=>none
 | p::m,k=>cond (Nat.beq p.1 k) (some p.2) (Mp.find m k)
def lfMp:Sl->Lf->T Mp
 | .own c,.own b=>.ret [(c,some b)]
 | .own c,.nil=>.ret [(c,none)]
 | .bptr c _,.bptr b _=>.ret [(c,some b)]
 | .eptr c _ _,.eptr b _ _ _=>.ret [(c,some b)]
 | .val _,_=>.ret []
 | _,_=>.fail
def lfsMp:List Sl->List Lf->T Mp
 | [],_=>.ret []
 | s::r,x::xs=>do
  let m <-lfMp s x
  let m' <-lfsMp r xs
  pure (m++m')
 | _,_=>.fail
def slMp:List Nat->List Sl->T Mp
 | n::ns,s::r=>do
  let m <-(match s with
   | .val _=>.ret []
   | s=>do lfMp s (<-one (<-rdS n)))
  let m' <-slMp ns r
  pure (m++m')
 | _,_=>.ret []
def blMp(m:Mp):Nat->List Bl->T Mp
 | j,.box _ cs::r=>do
  match m.find j with
  | some (some b)=>match <-rdB b with
   | .box _ xs=>do
    let m' <-lfsMp cs xs
    let m2 <-blMp m (j+1) r
    pure (m'++m2)
   | _=>.fail
  | _=>.fail
 | j,.arr _ _::r=>blMp m (j+1) r
 | _,[]=>.ret []
def abMp:List Nat->List Bl->T Mp
 | n::ns,.box _ cs::r=>do
  match <-rdB n with
  | .box _ xs=>do
   let m' <-lfsMp cs xs
   let m2 <-abMp ns r
   pure (m'++m2)
  | _=>.fail
 | _::ns,.arr _ _::r=>abMp ns r
 | _,_=>.ret []
def same(x:Option (Option Nat))(b:Option Nat):Bool:=match x,b with
 | some (some a),some b=>Nat.beq a b
 | some none,none=>true
 | _,_=>false
abbrev Ws:=List (Nat×Cell)
def unL(m:Mp):(s:Sl)->Lf->T (s.den×Ws)
 | .val t,x=>do
  let (v,rest,ws) <-za2 true t [x]
  zao rest.isEmpty
  pure (v,ws)
 | .own c,.own b=>do zao (Nat.blt c 64&&same (m.find c) (some b));pure ((),[])
 | .own c,.nil=>do zao (Nat.blt c 64&&same (m.find c) none);pure ((),[])
 | .bptr c o,.bptr b o'=>do zao (Nat.blt c 64&&same (m.find c) (some b)&&Nat.beq o o');pure ((),[])
 | .eptr c o sz,.eptr b i o' sz'=>do zao (Nat.blt c 64&&same (m.find c) (some b)&&Nat.beq o o'&&Nat.beq sz sz');pure (i,[])
 | _,_=>.fail
def unLs(m:Mp):(cs:List Sl)->List Lf->T (Sden cs×Ws)
 | [],[]=>.ret ((),[])
 | s::r,x::xs=>do
  let (v,w1) <-unL m s x
  let (vs,w2) <-unLs m r xs
  pure ((v,vs),w1++w2)
 | _,_=>.fail
def unS(m:Mp):List Nat->(sl:List Sl)->T (Sden sl×Ws)
 | [],[]=>.ret ((),[])
 | n::ns,s::r=>do
  let a <-rdS n
  let (v,w1) <-(match s with
   | .val t=>do
    let ys <-zdU t a
    let (v,rest,ws) <-za2 true t ys
    zao rest.isEmpty
    pure (v,ws)
   | s=>do unL m s (<-one a):T (s.den×Ws))
  let (vs,w2) <-unS m ns r
  pure ((v,vs),w1++w2)
 | _,_=>.fail
def unC(m:Mp)(b:Nat):(s:Bl)->T (s.den×Ws)
 | .arr tt e=>do
  match <-rdB b with
  | .arr true T' e' l=>do
   zao (Nat.beq tt T')
   let l' <-zcm (.slice e') (.slice e) l
   pure (l',[])
  | _=>.fail
 | .box tt cs=>do
  match <-rdB b with
  | .box T' xs=>do zao (Nat.beq tt T');unLs m cs xs
  | _=>.fail
def unN:(s:Bl)->T (s.den×Ws)
 | .arr _ _=>.ret ([],[])
 | .box _ _=>.fail
def unB(m:Mp):Nat->(bl:List Bl)->T (Bden bl×Ws)
 | _,[]=>.ret ((),[])
 | j,s::r=>do
  let (v,w1) <-(match m.find j with
   | some (some b)=>unC m b s
   | some none=>unN s
   | none=>.fail:T (s.den×Ws))
  let (vs,w2) <-unB m (j+1) r
  pure ((v,vs),w1++w2)
def unA(m:Mp):List Nat->(bl:List Bl)->T (Bden bl×Ws)
 | [],[]=>.ret ((),[])
 | n::ns,s::r=>do
  let (v,w1) <-unC m n s
  let (vs,w2) <-unA m ns r
  pure ((v,vs),w1++w2)
 | _,_=>.fail
def zjH(m:Mp)(keep:List Loc)(ws:Ws):Nat->List Bl->List Nat->Bool
 | _,[],seen=>ws.all fun p=>!seen.any (Nat.beq p.1)
 | j,_::r,seen=>match m.find j with
  | some (some b)=>!seen.any (Nat.beq b) && !keep.any (Loc.eqb (.b b))&&zjH m keep ws (j+1) r (b::seen)
  | some none=>zjH m keep ws (j+1) r seen
  | none=>false
def shT(s:Shape)(keep:List Loc):T s.den:=do
 zao (Nat.ble s.bl.length 64)
 let m1 <-slMp s.ss s.sl
 let m2 <-abMp s.ab s.al
 let m3 <-blMp (m1++m2) 0 s.bl
 let m:=m1++(m2++m3)
 let (v,w1) <-unS m s.ss s.sl
 let (u,w2) <-unB m 0 s.bl
 let (z,w3) <-unA m s.ab s.al
 zao (zjH m (keep++s.ab.map Loc.b) (w1++(w2++w3)) 0 s.bl [])
 zao ((w1++(w2++w3)).all fun p=>!(keep++s.ab.map Loc.b).any (Loc.eqb (.b p.1)))
 pure (v,u,z)
inductive Ex where
 | normal
 | exit (id:Nat)
 | ret
def Ex.eqb:Ex->Ex->Bool
 | .normal,.normal=>true
 | .exit a,.exit b=>Nat.beq a b
 | .ret,.ret=>true
 | _,_=>false
def iter{X Y:Type}(f:X->Option (X⊕Y)):Nat->X->Option Y
 | 0,_=>none
 | n+1,x=>match f x with
  | none=>none
  | some (.inl x')=>iter f n x'
  | some (.inr y)=>some y
open Classical in
def runLoop{X Y:Type}(f:X->Option (X⊕Y))(x:X):Option Y :=
 if h:∃ y n,iter f n x=some y then some (Classical.choose h) else none
def kept(keep:List Loc)(st:List Wr):List Wr:=keep.map fun l=>.w l (look st l)
@[reducible] def Tden:List Ty->Type
 | []=>Unit
 | t::ts=>t.den×Tden ts
structure Gen where
 f:FuncId
 ps:List PTy
 ts:List Ty
 F:Pden ps->Option (List (Tden ts))
structure LoopAnn where
 id:Nat
 kill:List Loc
 head:Shape
 exits:List (Ex×Shape)
 gen:Option Gen:=none
def LoopAnn.kills(A:LoopAnn):List Loc:=A.kill++(A.head.ss.map Loc.s++A.head.ab.map Loc.b)
def LoopAnn.keep(A:LoopAnn)(st:List Wr):List Loc:=(st.filterMap Wr.loc).filter fun l=>!A.kills.any (Loc.eqb l)
def LoopAnn.gone(A:LoopAnn):List Wr:=A.kills.map fun l=>.w l .no
abbrev Ann:=List LoopAnn
def Ann.find:Ann->Nat->Option LoopAnn
 | [],_=>none
 | a::r,k=>cond (Nat.beq a.id k) (some a) (Ann.find r k)
@[reducible] def Eden:List (Ex×Shape)->Type
 | []=>Empty
 | [p]=>p.2.den
 | p::q::r=>p.2.den⊕Eden (q::r)
def zct(keep:List Loc)(w:List Wr):Bool:=w.all fun x=>match x with
 | .w l _=>!keep.any (Loc.eqb l)
 | .cut=>false
def ziE(fs:FS)(keep:List Loc)(e:Ex):(es:List (Ex×Shape))->Tree (Eden es)
 | []=>.bad
 | [p]=>cond (Ex.eqb p.1 e) ((T.run fs (shT p.2 keep) []).bind fun r=>.leaf r.1) .bad
 | p::q::r=>cond (Ex.eqb p.1 e) ((T.run fs (shT p.2 keep) []).bind fun r=>.leaf (.inl r.1)) ((ziE fs keep e (q::r)).bind fun y=>.leaf (.inr y))
abbrev Out:=Ex×Nat×List Wr
def zrR(A:LoopAnn)(keep:List Loc)(nx:Nat):Bool:=(A.head.ab.all fun n=>Nat.blt n nx && !keep.any (Loc.eqb (.b n)))&&(A.exits.all fun p=>p.2.ab.all fun n=>Nat.blt n nx)&&(A.head.ss.all fun n=>!keep.any (Loc.eqb (.s n)))&&(keep.all fun l=>match l with
 | .b b=>Nat.blt b nx
 | .s _=>true)&&Nat.ble A.head.bl.length 64
def stepT(A:LoopAnn)(body:List Wr->Tree Out)(nx:Nat)(st:List Wr)(x:A.head.den):Tree (A.head.den⊕Eden A.exits) :=
 (body (A.head.mk' nx x++(A.gone++st))).bind fun o=>
  cond (zct (A.keep st) o.2.2)
   (match o.1 with
    | .normal=>((shT A.head (A.keep st)).run (look (o.2.2++(A.head.mk' nx x++(A.gone++st)))) []).bind fun r=>.leaf (.inl r.1)
    | e=>(ziE (look (o.2.2++(A.head.mk' nx x++(A.gone++st)))) (A.keep st) e A.exits).bind fun y=>.leaf (.inr y))
   .bad
def loopT(A:LoopAnn)(body:List Wr->Tree Out)(nx:Nat)(st:List Wr):Tree Out :=
 ((T.bind (zao (zrR A (A.keep st) nx)) fun _=>shT A.head (A.keep st)).run (look st) []).bind fun r=>
 .bnd (runLoop (fun x=>(stepT A body nx st x).ev) r.1)
  fun y=>outE A nx st A.exits y
where
 outE (A:LoopAnn) (nx:Nat) (st:List Wr):(es:List (Ex×Shape))->Eden es->Tree Out
  | [],y=>nomatch y
  | [p],y=>.leaf (p.1,nx+64,p.2.mk' nx y++A.gone)
  | p::q::r,y=>.sum y (fun d=>.leaf (p.1,nx+64,p.2.mk' nx d++A.gone)) fun y=>outE A nx st (q::r) y
def zfz:List Tmp->(ts:List Ty)->Tden ts->List Wr
 | p::ps,t::ts,v=>.w (.s p) (.av (.v ((Sl.val t).mk1 0 v.1)))::zfz ps ts v.2
 | _,_,_=>[]
def ztI(bs:List Nat):List Wr:=bs.map fun b=>.w (.b b) .no
def zvp(bs:List Nat)(s0:List Wr)(f:FS):FS
 | .s n=>look s0 (.s n)
 | .b b=>cond (bs.any (Nat.beq b)) (look s0 (.b b)) (f (.b b))
def zji(keep:List Loc)(w:List Wr):Bool:=w.all fun x=>match x with
 | .w (.b b) _=>!keep.any (Loc.eqb (.b b))
 | .w (.s _) _=>true
 | .cut=>false
def ziB{X Y V:Type}(f:V->X->Option (X⊕Y)):List V->X->Option (X⊕Y)
 | [],x=>some (.inl x)
 | v::L,x=>match f v x with
  | none=>none
  | some (.inl x')=>ziB f L x'
  | some (.inr y)=>some (.inr y)
def zuV:List Nat->Bool
 | []=>true
 | n::r=>!r.any (Nat.beq n)&&zuV r
def gHead(A:LoopAnn)(G:Gen)(ps:List Tmp)(nt:Nat)(flat:Bool)(bs:List Nat)(keep:List Loc)(nx:Nat):Bool :=
 flat&&zrR A keep nx&&A.head.ss.isEmpty&&A.kills.all (fun l=>match l with
  | .b _=>true
  | .s _=>false)&&Nat.beq ps.length G.ts.length&&ps.all (fun p=>Nat.blt p nt)&&zuV ps&&bs.all (fun b=>keep.any (Loc.eqb (.b b)))
def roundT(A:LoopAnn)(G:Gen)(ps:List Tmp)(ca nx:Nat)(assign body:Nat->List Wr->Tree Out)(bs:List Nat)(st:List Wr)(v:Tden G.ts)(x:A.head.den):Tree (A.head.den⊕Eden A.exits) :=
 let s0:=A.head.mk' nx x++(A.gone++st)
 let s1:=zfz ps G.ts v++(ztI bs++s0)
 (assign (nx+64) s1).bind fun o1=>match o1.1 with
 | .normal=>cond (Nat.ble o1.2.1 (nx+64+ca)) ((body (nx+64+ca) (o1.2.2++s1)).bind fun o2=>
  cond (zji (A.keep st) (o2.2.2++o1.2.2))
   (let fs:=zvp bs s0 (look (o2.2.2++(o1.2.2++s1)))
    match o2.1 with
     | .normal=>((shT A.head (A.keep st)).run fs []).bind fun r=>.leaf (.inl r.1)
     | e=>(ziE fs (A.keep st) e A.exits).bind fun y=>.leaf (.inr y))
   .bad) .bad
 | _=>.bad
def genT(A:LoopAnn)(G:Gen)(g:Operand)(ps:List Tmp)(nt ca:Nat)(flat:Bool)(assign body:Nat->List Wr->Tree Out)(nx:Nat)(st:List Wr):Tree Out :=
 ((do
  match <-rd1 g with
  | .clo f [] cs=>do
   zao (Nat.beq f G.f)
   let (d,lent,bs) <-zmT G.ps (cs.map fun c=>.v (.one c.lf))
   zao (lent.isEmpty&&gHead A G ps nt flat bs (A.keep st) nx)
   let x <-shT A.head (A.keep st)
   pure (d,bs,x)
  | _=>.fail:T (Pden G.ps×List Nat×A.head.den)).run (look st) []).bind fun r=>
 .bnd ((G.F r.1.1).bind fun L=>ziB (fun v x=>(roundT A G ps ca nx assign body r.1.2.1 st v x).ev) L r.1.2.2)
  fun y=>.sum y (fun x=>.leaf (.normal,nx+64,A.head.mk' nx x++A.gone)) fun y=>loopT.outE A nx st A.exits y
def cnt:Code->Nat
 | .region _ ops _=>64*ops.size
 | .seq a b=>cnt a+cnt b
 | .cond _ a b=>cond (Nat.ble (cnt a) (cnt b)) (cnt b) (cnt a)
 | .block _ c=>cnt c
 | .scope c=>cnt c
 | .loop _=>64
 | .rangeFunc _ _ _ _=>64
 | _=>0
def there:Cell->Bool
 | .no=>false
 | _=>true
def lossy(st a b w:List Wr):Bool:=w.any fun x=>match x with
 | .w l .no=>there (look (a++st) l)&&there (look (b++st) l)
 | _=>false
def zxQ(c:Bool)(m:Nat)(st a:List Wr)(t0:Tree Out):Tree Out->Tree Out
 | .leaf (.normal,n,b)=>match zow c st a b with
  | some w=>cond (Nat.ble n m && !lossy st a b w) (.leaf (.normal,m,w)) (.br c t0 (.leaf (.normal,n,b)))
  | none=>.br c t0 (.leaf (.normal,n,b))
 | .need p e=>.need (cond c true p) (zxQ c m st a t0 e)
 | e=>.br c t0 e
def join(c:Bool)(m:Nat)(st:List Wr)(e:Tree Out):Tree Out->Tree Out
 | .leaf (.normal,n,a)=>cond (Nat.ble n m) (zxQ c m st a (.leaf (.normal,n,a)) e) (.br c (.leaf (.normal,n,a)) e)
 | .need p t=>.need (cond c p true) (join c m st e t)
 | t=>.br c t e
def znX:Code->Bool
 | .seq a b | .cond _ a b=>znX a&&znX b
 | .block _ c | .loop c=>znX c
 | .scope _ | .rangeFunc _ _ _ _=>false
 | _=>true
def runCode(te:TE)(tbl:Tbl)(ann:Ann)(nt:Nat):Code->(bid nx:Nat)->List Wr->Tree Out
 | .skip,_,nx,_=>.leaf (.normal,nx,[])
 | .region _ ops draw,_,nx,st=>(zpi te tbl nt nx ops draw st).bind fun w=>.leaf (.normal,nx+64*ops.size,w)
 | .seq a b,bid,nx,st=>(runCode te tbl ann nt a bid nx st).bind fun o=>
  match o.1 with
  | .normal=>cond (Nat.ble o.2.1 (nx+cnt a)) ((runCode te tbl ann nt b bid (nx+cnt a) (o.2.2++st)).bind fun o2=>.leaf (o2.1,o2.2.1,o2.2.2++o.2.2)) .bad
  | e=>.leaf (e,o.2)
 | .cond c a b,bid,nx,st=>
  match c with
  | .tmp d=>match look st (.s d) with
   | .av (.v (.one (.kb true)))=>runCode te tbl ann nt a bid nx st
   | .av (.v (.one (.kb false)))=>runCode te tbl ann nt b bid nx st
   | .av (.v (.one (.imm .bool t)))=>join t (nx+cond (Nat.ble (cnt a) (cnt b)) (cnt b) (cnt a)) st (runCode te tbl ann nt b bid nx st) (runCode te tbl ann nt a bid nx st)
   | _=>.bad
  | .const (.bool true)=>runCode te tbl ann nt a bid nx st
  | .const (.bool false)=>runCode te tbl ann nt b bid nx st
  | _=>.bad
 | .block id c,_,nx,st=>(runCode te tbl ann nt c id nx st).bind fun o=>
  match o.1 with
  | .exit id'=>cond (Nat.beq id' id) (.leaf (.normal,o.2)) (.leaf (.exit id',o.2))
  | e=>.leaf (e,o.2)
 | .loop c,bid,nx,st=>match ann.find bid with
  | some A=>loopT A (fun st=>runCode te tbl ann nt c bid (nx+64) st) nx st
  | none=>.bad
 | .scope c,bid,nx,st=>runCode te tbl ann nt c bid nx st
 | .rangeFunc g ps assign body,bid,nx,st=>match ann.find bid with
  | some A=>match A.gen with
   | some G=>genT A G g ps.toList nt (cnt assign) (znX assign&&znX body) (fun nx st=>runCode te tbl ann nt assign bid nx st) (fun nx st=>runCode te tbl ann nt body bid nx st) nx st
   | none=>.bad
  | none=>.bad
 | .label _,_,nx,_=>.leaf (.normal,nx,[])
 | .exit id,_,nx,_=>.leaf (.exit id,nx,[])
 | .ret,_,nx,_=>.leaf (.ret,nx,[])
 | _,_,_,_=>.bad
def ztW:(ps:List PTy)->Pden ps->Nat->List AV
 | [],_,_=>[]
 | .val t::ps,d,j=>.v ((Sl.val t).mk1 0 d.1)::ztW ps d.2 (j+1)
 | .ptr _ _::ps,d,j=>.v (.one (.bptr j 0))::ztW ps d.2 (j+1)
def zn1:(ps:List PTy)->Pden ps->Nat->List Wr
 | [],_,_=>[]
 | .val _::ps,d,j=>zn1 ps d.2 (j+1)
 | .ptr tt t::ps,d,j=>.w (.b j) (.box tt (flat t d.1))::zn1 ps d.2 (j+1)
def avCp:AV->Option Cp
 | .v (.one (.bptr b o))=>some (.ptr b o)
 | .v (.one (.imm t v))=>some (.imm t v)
 | _=>none
def zv8:List AV->Option (List Cp)
 | []=>some []
 | a::as=>match avCp a,zv8 as with
  | some c,some cs=>some (c::cs)
  | _,_=>none
def cloC(f:FuncId)(as bs:List AV):Cell:=match zv8 as,zv8 bs with
 | some fi,some ca=>.av (.v (.one (.clo f fi ca)))
 | _,_=>.no
def zeC:List AP->List AV->Nat->List Wr
 | .p::s,a::as,i=>.w (.s i) (.av a)::zeC s as (i+1)
 | .clo f n m::s,as,i=>.w (.s i) (cloC f (as.take n) ((as.drop n).take m))::zeC s (as.drop (n+m)) (i+1)
 | _,_,_=>[]
def zbo(sh:List AP)(ps:List PTy)(d:Pden ps):List Wr:=zeC sh (ztW ps d 0) 0++zn1 ps d 0
def resV(te:TE)(t:Ty):ResultVar->T (List Lf)
 | .tmp n=>do zdU t (<-rdS n)
 | .cell n tt=>do
  let r <-tyT te tt
  zao (cond r.ty.isAgg t.isAgg !t.isAgg)
  match <-rd1 (.tmp n) with
  | .bptr b 0=>match <-rdB b with
   | .box _ xs=>do zao (Nat.beq xs.length r.ty.size);pure xs
   | _=>.fail
  | _=>.fail
def outL:List Lf->List (Option TypeId)->T (List Lf×Ws)
 | [],_=>.ret ([],[])
 | x::xs,some tt::os=>do
  let (y,w1) <-(match x with
   | .own b=>do
    match <-rdB b with
    | .arr true T' e l=>do zao (Nat.beq tt T');pure (.imm (.slice e) l,[(b,.no)])
    | _=>.fail
   | .nil=>.ret (.nil,[])
   | _=>.fail:T (Lf×Ws))
  let (ys,w2) <-outL xs os
  pure (y::ys,w1++w2)
 | x::xs,none::os=>do
  let (ys,w2) <-outL xs os
  pure (x::ys,w2)
 | _,[]=>.fail
def zed:(t:Ty)->List TypeId->List Cp->T (t.den×Ws)
 | .unit,[],[]=>.ret ((),[])
 | .prod a b,tt::Ts,.ptr b0 0::cs=>do
  match <-rdB b0 with
  | .box T' xs=>do
   zao (Nat.beq tt T')
   let (v,rest,w1) <-za2 true a xs
   zao rest.isEmpty
   let (vs,w2) <-zed b Ts cs
   pure ((v,vs),(b0,.no)::(w1++w2))
  | _=>.fail
 | _,_,_=>.fail
def cloT(t:Ty)(g:FuncId)(Ts:List TypeId):Lf->T (t.den×Ws)
 | .clo g' [] ca=>do
  zao (Nat.beq g g')
  zed t Ts ca
 | _=>.fail
def resT(te:TE)(nop:Bool):(rs:List RTy)->List ResultVar->T (Rden rs×Ws)
 | [],[]=>.ret ((),[])
 | r::rs,x::xs=>match r.clo with
  | none=>do
   let ys <-resV te r.t x
   let (zs,w1) <-outL ys r.own
   let (v,rest,w2) <-za2 true r.t zs
   zao rest.isEmpty
   let (vs,w3) <-resT te nop rs xs
   pure ((v,vs),w1++(w2++w3))
  | some (g,Ts)=>match x with
   | .tmp n=>do
    zao nop
    let l <-rd1 (.tmp n)
    let (v,w1) <-cloT r.t g Ts l
    let (vs,w3) <-resT te nop rs xs
    pure ((v,vs),w1++w3)
   | _=>.fail
 | _,_=>.fail
def oT:(ps:List PTy)->Nat->T (Oden ps×Ws)
 | [],_=>.ret ((),[])
 | .val _::ps,i=>oT ps (i+1)
 | .ptr tt t::ps,i=>do
  match <-rdB i with
  | .box T' xs=>do
   zao (Nat.beq tt T')
   let (v,rest,w1) <-za2 true t xs
   zao rest.isEmpty
   let (vs,w2) <-oT ps (i+1)
   pure ((v,vs),w1++w2)
  | _=>.fail
def Cell.live:Cell->Bool
 | .no=>false
 | _=>true
def zra:Ws->Bool
 | []=>true
 | p::r=>cond p.2.live (r.all fun q=>!Nat.beq q.1 p.1 || q.2.live) (!r.any fun q=>Nat.beq q.1 p.1)&&zra r
def funT(te:TE)(tbl:Tbl)(ann:Ann)(nt:Nat)(c:Code)(rv:List ResultVar)(sh:List AP)(ps:List PTy)(rs:List RTy)(d:Pden ps):Tree (Rden rs×Oden ps) :=
 (runCode te tbl ann nt c 0 ps.length (zbo sh ps d)).bind fun o=>
  let fin:=(T.run (look (o.2.2++zbo sh ps d)) (do
   let (r,w1) <-resT te (ps.all PTy.isVal) rs rv
   let (u,w2) <-oT ps 0
   zao (zra (w1++w2))
   pure (r,u)) []).bind fun x=>.leaf x.1
  match o.1 with
  | .exit _=>.bad
  | _=>fin
end Go.VI
namespace Go.VI
open Go Go.RowKit
def All2{α β:Type}(R:α->β->Prop):List α->List β->Prop
 | [],[]=>True
 | a::as,b::bs=>R a b/\All2 R as bs
 | _,_=>False
section
variable {α β:Type} {R S:α->β->Prop}
theorem All2.len:∀ {as:List α} {bs:List β},All2 R as bs->as.length=bs.length
 | [],[],_=>rfl
 | _::_,_::_,h=>by simp [All2.len h.2]
 | [],_::_,h=>h.elim
 | _::_,[],h=>h.elim
theorem All2.mono(f:∀ a b,R a b->S a b):∀ {as:List α} {bs:List β},All2 R as bs->All2 S as bs
 | [],[],_=>trivial
 | _::_,_::_,h=>⟨f _ _ h.1,All2.mono f h.2⟩
 | [],_::_,h=>h.elim
 | _::_,[],h=>h.elim
theorem All2.append:∀ {as:List α} {bs:List β} {cs:List α} {ds:List β},All2 R as bs->All2 R cs ds->All2 R (as++cs) (bs++ds)
 | [],[],_,_,_,h=>h
 | _::_,_::_,_,_,h,k=>⟨h.1,All2.append h.2 k⟩
 | [],_::_,_,_,h,_=>h.elim
 | _::_,[],_,_,h,_=>h.elim
theorem All2.take:∀ (n:Nat) {as:List α} {bs:List β},All2 R as bs->All2 R (as.take n) (bs.take n)
 | 0,_,_,_=>by simp [All2]
 | _+1,[],[],_=>trivial
 | n+1,_::_,_::_,h=>⟨h.1,All2.take n h.2⟩
 | _+1,[],_::_,h=>h.elim
 | _+1,_::_,[],h=>h.elim
theorem All2.drop:∀ (n:Nat) {as:List α} {bs:List β},All2 R as bs->All2 R (as.drop n) (bs.drop n)
 | 0,_,_,h=>h
 | _+1,[],[],_=>trivial
 | n+1,_::_,_::_,h=>All2.drop n h.2
 | _+1,[],_::_,h=>h.elim
 | _+1,_::_,[],h=>h.elim
theorem All2.get:∀ {as:List α} {bs:List β},All2 R as bs->∀ (i:Nat) (a:α),as[i]?=some a->∃ b,bs[i]?=some b/\R a b
 | [],[],_,i,a,h=>by simp at h
 | x::_,y::_,h,0,a,e=>by simp at e;subst e;exact ⟨y,rfl,h.1⟩
 | _::as,_::bs,h,i+1,a,e=>by simpa using All2.get h.2 i a (by simpa using e)
 | [],_::_,h,_,_,_=>h.elim
 | _::_,[],h,_,_,_=>h.elim
theorem All2.one{x:α}{bs:List β}(h:All2 R [x] bs):∃ b,bs=[b]/\R x b:=by
 match bs,h with
 | [b],h=>exact ⟨b,rfl,h.1⟩
end
structure RowAt {α:Type} (h:Array Obj) (ok:Nat->Prop) (F:α->List Value->Prop) (size:Nat) (x:Addr) (l:List α):Prop where
 spot:x.spot=none
 ok:ok x.block
 row:∃ cur T fz,h[x.block]?=some (.cells cur T fz)/\x.off+l.length*size<=cur.size/\∀ i (hi:i<l.length),F l[i] ((cur.toList.drop (x.off+i*size)).take size)
def Fits(h:Array Obj)(ok:Nat->Prop):(t:Ty)->t.den->List Value->Prop
 | .bool,b,cs=>cs=[.bool b]
 | .int k,n,cs=>cs=[.int k n]
 | .unit,_,cs=>cs=[]
 | .raw _,_,cs=>∃ x,cs=[x]/\x.oneCell'=true
 | .ifo K t,v,cs=>(v=none/\cs=[.nilIface])\/∃ d c,v=some d/\cs=[.iface K (.agg c)]/\Fits h ok t d c.toList
 | .prod a b,v,cs=>∃ c1 c2,cs=c1++c2/\Fits h ok a v.1 c1/\Fits h ok b v.2 c2
 | .slice e,l,cs=>∃ p c,cs=[.slice p l.length c]/\(p=none->l=[])/\(∀ x,p=some x->l≠[]->RowAt h ok (fun v cs=>Fits h ok e v cs) e.size x l)/\l.length<=c
section
variable {h h':Array Obj} {ok ok':Nat->Prop}
theorem Fits.len:∀ {t:Ty} {v:t.den} {cs:List Value},Fits h ok t v cs->cs.length=t.size
 | .bool,_,_,hf=>by simp [Fits]at hf;simp [hf,Ty.size]
 | .int _,_,_,hf=>by simp [Fits]at hf;simp [hf,Ty.size]
 | .unit,_,_,hf=>by simp [Fits]at hf;simp [hf,Ty.size]
 | .raw _,_,_,hf=>by obtain ⟨x,rfl,_⟩:=hf;simp [Ty.size]
 | .ifo _ _,_,_,hf=>by rcases hf with ⟨_,rfl⟩ | ⟨_,_,_,rfl,_⟩ <;> simp [Ty.size]
 | .prod a b,v,cs,hf=>by
  obtain ⟨c1,c2,rfl,h1,h2⟩:=hf;simp [Ty.size,Fits.len h1,Fits.len h2]
 | .slice e,l,cs,hf=>by
  obtain ⟨p,c,rfl,_⟩:=hf;simp [Ty.size]
theorem Fits.one:∀ {t:Ty} {v:t.den} {cs:List Value},Fits h ok t v cs->∀ u∈cs,u.oneCell'=true
 | .bool,_,_,hf=>by simp [Fits]at hf;simp [hf,Value.oneCell']
 | .int _,_,_,hf=>by simp [Fits]at hf;simp [hf,Value.oneCell']
 | .unit,_,_,hf=>by simp [Fits]at hf;simp [hf]
 | .raw _,_,_,hf=>by obtain ⟨x,rfl,h⟩:=hf;simp [h]
 | .ifo _ _,_,_,hf=>by rcases hf with ⟨_,rfl⟩ | ⟨_,_,_,rfl,_⟩ <;> simp [Value.oneCell']
 | .prod a b,v,cs,hf=>by
  obtain ⟨c1,c2,rfl,h1,h2⟩:=hf;intro u hu;rcases qak.1 hu with hu | hu
  . exact Fits.one h1 u hu
  . exact Fits.one h2 u hu
 | .slice e,l,cs,hf=>by
  obtain ⟨p,c,rfl,_⟩:=hf;simp [Value.oneCell']
theorem RowAt.mono{α:Type}{F F':α->List Value->Prop}{size:Nat}{x:Addr}{l:List α}(hr:RowAt h ok F size x l)
 (hh:∀ c,ok c->c<h.size->ok' c/\h'[c]?=h[c]?) (hF:∀ v cs,F v cs->F' v cs):RowAt h' ok' F' size x l:=by
 obtain ⟨cur,T,fz,hg,hsz,hf⟩:=hr.row;have:=hh _ hr.ok (qaL.1 hg).1
 exact ⟨hr.spot,this.1,cur,T,fz,by rw [this.2];exact hg,hsz,fun i hi=>hF _ _ (hf i hi)⟩
theorem Fits.mono(hh:∀ c,ok c->c<h.size->ok' c/\h'[c]?=h[c]?):∀ {t:Ty} {v:t.den} {cs:List Value},Fits h ok t v cs->Fits h' ok' t v cs
 | .bool,_,_,hf=>hf
 | .int _,_,_,hf=>hf
 | .unit,_,_,hf=>hf
 | .raw _,_,_,hf=>hf
 | .ifo _ _,_,_,hf=>hf.imp id fun ⟨d,c,h1,h2,h3⟩=>⟨d,c,h1,h2,Fits.mono hh h3⟩
 | .prod a b,v,cs,hf=>by
  obtain ⟨c1,c2,rfl,h1,h2⟩:=hf;exact ⟨c1,c2,rfl,Fits.mono hh h1,Fits.mono hh h2⟩
 | .slice e,l,cs,hf=>by
  obtain ⟨p,c,rfl,hp,hr,hc⟩:=hf;exact ⟨p,c,rfl,hp,fun x hx hne=>(hr x hx hne).mono hh fun _ _=>Fits.mono hh,hc⟩
end
abbrev Nm:=Nat->Option Value
def CpR(h:Array Obj)(ok:Nat->Prop)(env:Nm):Cp->Value->Prop
 | .ptr b off,x=>∃ g,env b=some (.pointer (some ⟨g,0,none⟩))/\x = .pointer (some ⟨g,off,none⟩)
 | .imm t v,x=>Fits h ok t v [x]
def LfR(h:Array Obj)(ok:Nat->Prop)(env:Nm):Lf->Value->Prop
 | .undef,x=>x.oneCell'=true
 | .kb b,x=>x = .bool b
 | .imm t v,x=>Fits h ok t v [x]
 | .nil,x=>x = .slice none 0 0
 | .own b,x=>env b=some x/\∃ p n c,x = .slice p n c
 | .sub b sz lo n,x=>∃ p len c,env b=some (.slice p len c)/\lo+n<=len/\len<=c/\x = .slice (if c=lo then p else p.map (·.add (lo*sz))) n (c-lo)
 | .bptr b off,x=>∃ g,env b=some (.pointer (some ⟨g,0,none⟩))/\x = .pointer (some ⟨g,off,none⟩)
 | .eptr b i off sz,x=>∃ g n c,env b=some (.slice (some ⟨g,0,none⟩) n c)/\i<n/\x = .pointer (some ⟨g,i*sz+off,none⟩)
 | .iptr e l i off,x=>∃ y:Addr,i<l.length/\x = .pointer (some ⟨y.block,y.off+i*e.size+off,none⟩)/\RowAt h ok (fun v cs=>Fits h ok e v cs) e.size y l
 | .fn f,x=>x = .func (.func f) #[] #[]
 | .nam b,x=>env b=some x/\x.oneCell'=true
 | .clo f fi ca,x=>∃ vs us,x = .func (.func f) vs us/\All2 (CpR h ok env) fi vs.toList/\All2 (CpR h ok env) ca us.toList
theorem CpR.lf{h:Array Obj}{ok:Nat->Prop}{env:Nm}:∀ {c:Cp} {x:Value},CpR h ok env c x↔LfR h ok env c.lf x
 | .ptr _ _,_=>Iff.rfl
 | .imm _ _,_=>Iff.rfl
def A1R(h:Array Obj)(ok:Nat->Prop)(env:Nm):A1->Value->Prop
 | .one x,v=>LfR h ok env x v
 | .agg xs,v=>∃ cs,v = .agg cs/\All2 (LfR h ok env) xs cs.toList
def AvR(h:Array Obj)(ok:Nat->Prop)(env:Nm):AV->Value->Prop
 | .v a,x=>A1R h ok env a x
 | .tup as,x=>∃ vs,x = .tuple vs/\All2 (A1R h ok env) as vs.toList
def za9(B:Nat->Prop)(h:Array Obj)(ok:Nat->Prop)(env:Nm)(own:Nat->Option Nat)(b:Nat):Cell->Prop
 | .no=>True
 | .av _=>True
 | .ln n=>∃ p c,env b=some (.slice p n c)
 | .arr m T e l=>∃ v,env b=some v/\((v = .slice none 0 0/\l=[]) \/
  ∃ g cap cur,v = .slice (some ⟨g,0,none⟩) l.length cap/\h[g]?=some (.cells cur T (0,0))/\l.length<=cap/\cap<=maxLen/\cur.size=cap*e.size /\
   (∀ i (hi:i<l.length),Fits h ok e l[i] ((cur.toList.drop (i*e.size)).take e.size))/\(m=true->own g=some b/\B g)/\(m=false->ok g))
 | .box T xs=>∃ g cs,env b=some (.pointer (some ⟨g,0,none⟩))/\h[g]?=some (.cells cs T (0,0))/\All2 (LfR h ok env) xs cs.toList/\own g=some b
 | .rb T xs=>∃ g cs,env b=some (.pointer (some ⟨g,0,none⟩))/\h[g]?=some (.cells cs T (0,0))/\All2 (LfR h ok env) xs cs.toList/\ok g
section
variable {h h':Array Obj} {ok ok':Nat->Prop} {env env':Nm}
theorem CpR.mono(hh:∀ c,ok c->c<h.size->ok' c/\h'[c]?=h[c]?)(he:∀ b x,env b=some x->env' b=some x):∀ {x:Cp} {v:Value},CpR h ok env x v->CpR h' ok' env' x v
 | .ptr _ _,_,⟨g,h1,h2⟩=>⟨g,he _ _ h1,h2⟩
 | .imm _ _,_,hf=>Fits.mono hh hf
theorem LfR.mono(hh:∀ c,ok c->c<h.size->ok' c/\h'[c]?=h[c]?)(he:∀ b x,env b=some x->env' b=some x):∀ {x:Lf} {v:Value},LfR h ok env x v->LfR h' ok' env' x v
 | .undef,_,hf=>hf
 | .kb _,_,hf=>hf
 | .imm _ _,_,hf=>Fits.mono hh hf
 | .nil,_,hf=>hf
 | .own _,_,hf=>⟨he _ _ hf.1,hf.2⟩
 | .sub _ _ _ _,_,⟨p,len,c,h1,h2⟩=>⟨p,len,c,he _ _ h1,h2⟩
 | .bptr _ _,_,⟨g,h1,h2⟩=>⟨g,he _ _ h1,h2⟩
 | .eptr _ _ _ _,_,⟨g,n,c,h1,h2⟩=>⟨g,n,c,he _ _ h1,h2⟩
 | .iptr _ _ _ _,_,⟨y,h1,h2,h3⟩=>⟨y,h1,h2,h3.mono hh fun _ _=>Fits.mono hh⟩
 | .fn _,_,hf=>hf
 | .nam _,_,hf=>⟨he _ _ hf.1,hf.2⟩
 | .clo _ _ _,_,⟨vs,us,h1,h2,h3⟩=>⟨vs,us,h1,h2.mono fun _ _=>CpR.mono hh he,h3.mono fun _ _=>CpR.mono hh he⟩
theorem A1R.mono(hh:∀ c,ok c->c<h.size->ok' c/\h'[c]?=h[c]?)(he:∀ b x,env b=some x->env' b=some x):∀ {x:A1} {v:Value},A1R h ok env x v->A1R h' ok' env' x v
 | .one _,_,hf=>LfR.mono hh he hf
 | .agg _,_,⟨cs,h1,h2⟩=>⟨cs,h1,h2.mono fun _ _=>LfR.mono hh he⟩
theorem AvR.mono(hh:∀ c,ok c->c<h.size->ok' c/\h'[c]?=h[c]?)(he:∀ b x,env b=some x->env' b=some x):∀ {x:AV} {v:Value},AvR h ok env x v->AvR h' ok' env' x v
 | .v _,_,hf=>A1R.mono hh he hf
 | .tup _,_,⟨vs,h1,h2⟩=>⟨vs,h1,h2.mono fun _ _=>A1R.mono hh he⟩
theorem LfR.one:∀ {x:Lf} {v:Value},LfR h ok env x v->v.oneCell'=true
 | .undef,_,hf=>hf
 | .kb _,_,hf=>by simp [LfR]at hf;simp [hf,Value.oneCell']
 | .imm _ _,v,hf=>Fits.one hf v (by simp)
 | .nil,_,hf=>by simp [LfR]at hf;simp [hf,Value.oneCell']
 | .own _,_,⟨_,p,n,c,h⟩=>by simp [h,Value.oneCell']
 | .sub _ _ _ _,_,⟨p,len,c,_,_,_,h⟩=>by simp [h,Value.oneCell']
 | .bptr _ _,_,⟨g,h1,h2⟩=>by simp [h2,Value.oneCell']
 | .eptr _ _ _ _,_,⟨g,n,c,h1,_,h2⟩=>by simp [h2,Value.oneCell']
 | .iptr _ _ _ _,_,⟨y,h1,h2,h3⟩=>by simp [h2,Value.oneCell']
 | .fn _,_,hf=>by simp [LfR]at hf;simp [hf,Value.oneCell']
 | .nam _,_,hf=>hf.2
 | .clo _ _ _,_,⟨_,_,h,_,_⟩=>by simp [h,Value.oneCell']
theorem All2.ones{xs:List Lf}{cs:List Value}(hf:All2 (LfR h ok env) xs cs):∀ u∈cs,u.oneCell'=true:=by
 induction xs generalizing cs with
 | nil=>cases cs with
  | nil=>simp
  | cons _ _=>exact hf.elim
 | cons x xs ih=>cases cs with
  | nil=>exact hf.elim
  | cons c cs=>
   intro u hu;rcases qas.1 hu with rfl | hu
   . exact hf.1.one
   . exact ih hf.2 u hu
theorem zcZ:∀ {t:Ty} {v:t.den} {cs:List Value},Fits h ok t v cs->All2 (LfR h ok env) (flat t v) cs
 | .bool,_,_,hf=>by simp only [Fits]at hf;subst hf;exact ⟨by simp [LfR,Fits],trivial⟩
 | .int _,_,_,hf=>by simp only [Fits]at hf;subst hf;exact ⟨by simp [LfR,Fits],trivial⟩
 | .unit,_,_,hf=>by simp only [Fits]at hf;subst hf;exact trivial
 | .raw _,_,_,hf=>by obtain ⟨x,rfl,h⟩:=hf;exact ⟨h,trivial⟩
 | .ifo _ _,_,_,hf=>by
  have hf':=hf;rcases hf with ⟨_,rfl⟩ | ⟨_,_,_,rfl,_⟩ <;> exact ⟨hf',trivial⟩
 | .prod a b,v,cs,hf=>by
  obtain ⟨c1,c2,rfl,h1,h2⟩:=hf;exact All2.append (zcZ h1) (zcZ h2)
 | .slice e,l,cs,hf=>by
  have hf':=hf;obtain ⟨p,c,rfl,_⟩:=hf;exact ⟨hf',trivial⟩
theorem ziC:∀ {t:Ty} {v:t.den},(flat t v).length=t.size
 | .bool,_=>rfl
 | .int _,_=>rfl
 | .unit,_=>rfl
 | .slice _,_=>rfl
 | .raw _,_=>rfl
 | .ifo _ _,_=>rfl
 | .prod a b,v=>by simp [flat,Ty.size,ziC (t:=a),ziC (t:=b)]
theorem LfR.imm_of_cast{t t':Ty}{v:t.den}{v':t'.den}(hc:Ty.cast t t' v=some v'){cs:List Value}(hf:Fits h ok t v cs):Fits h ok t' v' cs:=by
 unfold Ty.cast at hc;split at hc
 . rename_i he;have:=Ty.eqb_eq he
   subst this;simp at hc
   subst hc;exact hf
 . cases hc
end
end Go.VI
namespace Go.VI
open Go Go.RowKit
structure Cx where
 w0:World
 ok0:Nat->Prop
 outer:Nat->Prop
 fix:Nm
 lent:Nat->Prop
abbrev Ow:=Nat->Option Nat
def Cx.low(cx:Cx)(g:Nat):Prop:=cx.w0.heap.size<=g\/cx.outer g/\cx.lent g
def Cx.ok(cx:Cx)(own:Ow)(c:Nat):Prop:=own c=none/\(cx.ok0 c\/cx.low c)
structure RW (cx:Cx) (w:World) (env:Nm) (own:Ow) (N:Nat->Prop):Prop where
 os:w.os=cx.w0.os
 tape:w.tape=cx.w0.tape
 output:w.output=cx.w0.output
 size:cx.w0.heap.size<=w.heap.size
 old:∀ c,c<cx.w0.heap.size->¬cx.outer c->own c=none/\w.heap[c]?=cx.w0.heap[c]?
 new:∀ c,w.heap.size<=c->own c=none
 names:∀ b,env b≠none->N b
 fix:∀ b v,cx.fix b=some v->env b=some v
def RB(cx:Cx)(fs:FS)(w:World)(env:Nm)(own:Ow):Prop:=∀ b,za9 cx.low w.heap (cx.ok own) env own b (fs (.b b))
def zbQ(h:Array Obj)(ok:Nat->Prop)(env:Nm):Cell->Value->Prop
 | .av a,v=>AvR h ok env a v
 | _,_=>True
def RS(cx:Cx)(fs:FS)(tm:Array Value)(w:World)(env:Nm)(own:Ow):Prop:=∀ n,zbQ w.heap (cx.ok own) env (fs (.s n)) (tm.getD n undef)
structure Ext (cx:Cx) (w:World) (env:Nm) (own:Ow) (w':World) (env':Nm) (own':Ow):Prop where
 heap:∀ c,cx.ok own c->c<w.heap.size->cx.ok own' c/\w'.heap[c]?=w.heap[c]?
 env:∀ b x,env b=some x->env' b=some x
theorem Ext.refl{cx:Cx}{w:World}{env:Nm}{own:Ow}:Ext cx w env own w env own:=⟨fun _ h _=>⟨h,rfl⟩,fun _ _ h=>h⟩
theorem Ext.trans{cx:Cx}{w w1 w2:World}{env e1 e2:Nm}{own o1 o2:Ow}(h:Ext cx w env own w1 e1 o1)(k:Ext cx w1 e1 o1 w2 e2 o2)(hs:w.heap.size<=w1.heap.size):Ext cx w env own w2 e2 o2 :=
 ⟨fun c hc hl=>by
  obtain ⟨h1,h2⟩:=h.heap c hc hl;obtain ⟨k1,k2⟩:=k.heap c h1 (by omega)
  exact ⟨k1,k2.trans h2⟩,fun b x hx=>k.env b x (h.env b x hx)⟩
theorem Ext.av{cx:Cx}{w w':World}{env env':Nm}{own own':Ow}(h:Ext cx w env own w' env' own'){a:AV}{v:Value}(k:AvR w.heap (cx.ok own) env a v):AvR w'.heap (cx.ok own') env' a v:=k.mono h.heap h.env
theorem Ext.slot{cx:Cx}{w w':World}{env env':Nm}{own own':Ow}(h:Ext cx w env own w' env' own'){a:Cell}{v:Value}(k:zbQ w.heap (cx.ok own) env a v):zbQ w'.heap (cx.ok own') env' a v:=by
 cases a <;> first | trivial | exact h.av k
def upd(fs:FS):Ws->FS
 | [],x=>fs x
 | p::ws,x=>cond (Loc.eqb (.b p.1) x) p.2 (upd fs ws x)
theorem zlL{fs:FS}{ws:Ws}{b:Nat}(h:∀ p∈ws,p.1≠b):upd fs ws (.b b)=fs (.b b):=by
 induction ws with
 | nil=>rfl
 | cons p ws ih=>
  have:Loc.eqb (.b p.1) (.b b)=false:=by
   cases hh:Loc.eqb (.b p.1) (.b b) with
   | false=>rfl
   | true=>exact absurd (by simpa using Loc.eqb_iff.1 hh) (h p (by simp))
  simp only [upd,this,qaf];exact ih fun q hq=>h q (by simp [hq])
theorem zuE{fs:FS}{ws:Ws}{n:Nat}:upd fs ws (.s n)=fs (.s n):=by
 induction ws with
 | nil=>rfl
 | cons p ws ih=>simp only [upd,Loc.eqb,qaf];exact ih
theorem zb0{fs:FS}{ws:Ws}{b:Nat}{c:Cell}:upd fs ((b,c)::ws) (.b b)=c:=by simp [upd,Loc.eqb]
theorem zch{fs:FS}{ws:Ws}{b b':Nat}{c:Cell}(h:b≠b'):upd fs ((b,c)::ws) (.b b')=upd fs ws (.b b'):=by
 have:Loc.eqb (.b b) (.b b')=false:=by
  cases hh:Loc.eqb (.b b) (.b b') with
  | false=>rfl
  | true=>exact absurd (by simpa using Loc.eqb_iff.1 hh) h
 simp [upd,this]
theorem zvx{fs:FS}{v w:Ws}:upd fs (v++w)=upd (upd fs w) v:=by
 funext x
 induction v with
 | nil=>rfl
 | cons p v ih=>simp only [qaM,upd,ih]
theorem zsQ{fs:FS}{ws:Ws}{b:Nat}(h:∃ p∈ws,p.1=b):∃ c,(b,c)∈ws/\upd fs ws (.b b)=c:=by
 induction ws with
 | nil=>obtain ⟨p,hp,_⟩:=h;simp at hp
 | cons p ws ih=>
  by_cases hb:p.1=b
  . subst hb;exact ⟨p.2,by simp,by simp [upd,Loc.eqb]⟩
  . obtain ⟨q,hq,hqb⟩:=h;rcases qas.1 hq with rfl | hq
    . exact absurd hqb hb
    . obtain ⟨c,hc,he⟩:=ih ⟨q,hq,hqb⟩;exact ⟨c,by simp [hc],by rw [<-he];obtain ⟨p1,p2⟩:=p;exact zch hb⟩
def unown(own:Ow)(bs:List Nat):Ow:=fun g=>match own g with
 | some b=>cond (bs.contains b) none (some b)
 | none=>none
theorem zaK{own:Ow}{bs:List Nat}{g:Nat}(h:own g=none):unown own bs g=none:=by simp [unown,h]
theorem zdt{own:Ow}{bs:List Nat}{g b:Nat}(h:own g=some b)(hb:b∈bs):unown own bs g=none:=by simp [unown,h,hb]
theorem zbu{own:Ow}{bs:List Nat}{g b:Nat}(h:own g=some b)(hb:b ∉ bs):unown own bs g=some b:=by simp [unown,h,hb]
theorem zdw{cx:Cx}{own:Ow}{bs:List Nat}{c:Nat}(h:cx.ok own c):cx.ok (unown own bs) c:=⟨zaK h.1,h.2⟩
theorem zcc{cx:Cx}{w:World}{env:Nm}{own:Ow}{bs:List Nat}:Ext cx w env own w env (unown own bs):=⟨fun _ h _=>⟨zdw h,rfl⟩,fun _ _ h=>h⟩
def Frz(fs:FS)(ws:Ws):Prop:=∀ p∈ws,∃ m T e l,fs (.b p.1) = .arr m T e l/\p.2 = .arr false T e l
theorem Frz.nil{fs:FS}:Frz fs []:=fun _ h=>by simp at h
theorem Frz.append{fs:FS}{a b:Ws}(h:Frz fs a)(k:Frz fs b):Frz fs (a++b):=fun p hp=>(qak.1 hp).elim (h p) (k p)
abbrev nms(ws:Ws):List Nat:=ws.map (·.1)
theorem za9.ext{cx:Cx}{w w':World}{env env':Nm}{own own':Ow}{b:Nat}{c:Cell}(h:za9 cx.low w.heap (cx.ok own) env own b c)(k:Ext cx w env own w' env' own')
 (hk:∀ g,own g=some b->own' g=some b/\w'.heap[g]?=w.heap[g]?):za9 cx.low w'.heap (cx.ok own') env' own' b c:=by
 cases c with
 | no=>trivial
 | av _=>trivial
 | ln n=>obtain ⟨p,c,hc⟩:=h;exact ⟨p,c,k.env _ _ hc⟩
 | arr m T e l=>
  obtain ⟨v,hv,hr⟩:=h;refine ⟨v,k.env _ _ hv,hr.imp id ?_⟩;rintro ⟨g,cap,cur,rfl,hg,h1,h2,h3,h4,h5,h6⟩;have hlt:=(qaL.1 hg).1;refine ⟨g,cap,cur,rfl,?_,h1,h2,h3,fun i hi=>(h4 i hi).mono k.heap,fun hm=>⟨(hk g (h5 hm).1).1,(h5 hm).2⟩,fun hm=>(k.heap g (h6 hm) hlt).1⟩
  cases m with
  | true=>rw [(hk g (h5 rfl).1).2];exact hg
  | false=>rw [(k.heap g (h6 rfl) hlt).2];exact hg
 | box T xs=>
  obtain ⟨g,cs,h1,h2,h3,h4⟩:=h;exact ⟨g,cs,k.env _ _ h1,by rw [(hk g h4).2];exact h2,h3.mono fun _ _=>LfR.mono k.heap k.env,(hk g h4).1⟩
 | rb T xs=>
  obtain ⟨g,cs,h1,h2,h3,h4⟩:=h;have q:=k.heap g h4 (qaL.1 h2).1;exact ⟨g,cs,k.env _ _ h1,by rw [q.2];exact h2,h3.mono fun _ _=>LfR.mono k.heap k.env,q.1⟩
theorem RW.unown{cx:Cx}{w:World}{env:Nm}{own:Ow}{N:Nat->Prop}(h:RW cx w env own N)(bs:List Nat):RW cx w env (VI.unown own bs) N :=
 ⟨h.os,h.tape,h.output,h.size,fun c h1 h2=>⟨zaK (h.old c h1 h2).1,(h.old c h1 h2).2⟩,fun c hc=>zaK (h.new c hc),h.names,h.fix⟩
theorem RB.freeze{cx:Cx}{fs:FS}{w:World}{env:Nm}{own:Ow}(h:RB cx fs w env own){ws:Ws}(hf:Frz fs ws):RB cx (upd fs ws) w env (unown own (nms ws)):=by
 intro b;by_cases hb:∃ p∈ws,p.1=b
 . obtain ⟨c,hc,he⟩:=zsQ (fs:=fs) hb
   rw [he];obtain ⟨m,T,e,l,h1,h2⟩:=hf _ hc;simp only at h1 h2
   have hb:=h b;rw [h1]at hb;rw [h2];obtain ⟨v,hv,hr⟩:=hb;refine ⟨v,hv,hr.imp id ?_⟩;rintro ⟨g,cap,cur,rfl,hg,h1,h2,h3,h4,h5,h6⟩;refine ⟨g,cap,cur,rfl,hg,h1,h2,h3,fun i hi=>(h4 i hi).mono (zcc (env:=env)).heap,fun hm=>by simp at hm,fun _=>?_⟩
   cases m with
   | true=>exact ⟨zdt (h5 rfl).1 (qav.2 ⟨_,hc,rfl⟩),.inr (h5 rfl).2⟩
   | false=>exact zdw (h6 rfl)
 . rw [zlL fun p hp he=>hb ⟨p,hp,he⟩]
   refine (h b).ext zcc fun g hg=>⟨zbu hg fun hm=>?_,rfl⟩
   obtain ⟨p,hp,he⟩:=qav.1 hm;exact hb ⟨p,hp,he⟩
section
variable {cx:Cx} {fs:FS} {tm:Array Value} {w:World} {env:Nm} {own:Ow}
theorem zx7{h:Array Obj}{ok:Nat->Prop}{env:Nm}{v:Value}{x:Lf}(h1:cstL v=some x):LfR h ok env x v:=by
 unfold cstL at h1;split at h1 <;> simp at h1 <;> subst h1 <;> simp [LfR,Fits,Value.oneCell']
theorem zvj{h:Array Obj}{ok:Nat->Prop}{env:Nm}:∀ {vs:List Value} {xs:List Lf},zv4 vs=some xs->All2 (LfR h ok env) xs vs
 | [],xs,h1=>by simp [zv4]at h1;subst h1;trivial
 | v::vs,xs,h1=>by
  simp only [zv4]at h1;split at h1
  . rename_i x ys hx hy;simp at h1;subst h1
    exact ⟨zx7 hx,zvj hy⟩
  . cases h1
theorem cst_ok{h:Array Obj}{ok:Nat->Prop}{env:Nm}{v:Value}{a:AV}(h1:cst v=some a):AvR h ok env a v:=by
 unfold cst at h1;split at h1
 . rename_i cs;cases hc:zv4 cs.toList with
   | none=>simp [hc]at h1
   | some xs=>simp [hc]at h1;subst h1;exact ⟨cs,rfl,zvj hc⟩
 . cases hc:cstL v with
   | none=>simp [hc]at h1
   | some x=>simp [hc]at h1;subst h1;exact zx7 hc
theorem zbb{α:Type}{o:Option α}:T.evs fs (opt o)=o:=by cases o <;> rfl
theorem zah{c:Bool}{u:Unit}:T.evs fs (zao c)=some u↔c=true:=by cases c <;> simp [zao,T.evs]
theorem zcC{c:Bool}{u:Unit}:T.evs fs (zjG c)=some u↔c=true:=by cases c <;> simp [zjG,T.evs]
theorem zaS{b:Nat}:T.evs fs (rdB b)=some (fs (.b b)):=rfl
theorem zaa{α β:Type}{t:T α}{f:α->T β}{b:β}:T.evs fs (t >>= f)=some b↔∃ a,t.evs fs=some a/\(f a).evs fs=some b:=by
 rw [T.evs_bind];cases t.evs fs <;> simp
theorem zuI(hs:RS cx fs tm w env own){n:Nat}{a:AV}(h:(rdS n).evs fs=some a):AvR w.heap (cx.ok own) env a (tm.getD n undef):=by
 have:=hs n
 simp only [rdS,T.evs]at h;split at h
 . rename_i b hb;simp only [hb,zbQ]at this;simp [T.evs]at h
   rw [<-h];exact this
 . simp [T.evs]at h
theorem zdN{act:Act}(hs:RS cx fs act.tmps w env own){x:Operand}{a:AV}(h:(rdO x).evs fs=some a):AvR w.heap (cx.ok own) env a (act.eval x):=by
 cases x with
 | tmp n=>exact zuI hs h
 | const v=>simp only [rdO,zbb]at h;exact cst_ok h
 | global g=>simp [rdO,T.evs]at h
 | func f=>simp [rdO,T.evs]at h;subst h;rfl
theorem zou{a:AV}{x:Lf}(h:(one a).evs fs=some x):a = .v (.one x):=by
 unfold one at h;split at h <;> simp [T.evs]at h;rw [h]
theorem zbc{act:Act}(hs:RS cx fs act.tmps w env own){x:Operand}{l:Lf}(h:(rd1 x).evs fs=some l):LfR w.heap (cx.ok own) env l (act.eval x):=by
 obtain ⟨a,h1,h2⟩:=zaa.1 h;have:=zdN hs h1
 rw [zou h2]at this;exact this
theorem ziw{h:Array Obj}{ok:Nat->Prop}{env:Nm}{a:AV}{xs:List Lf}{v:Value}(h1:(leaves a).evs fs=some xs)(h2:AvR h ok env a v):All2 (LfR h ok env) xs v.cells.toList:=by
 unfold leaves at h1;split at h1
 . simp [T.evs]at h1;subst h1
   have h3:LfR h ok env _ v:=h2;have:=h3.one
   cases v <;> simp_all [Value.cells,All2,Value.oneCell']
 . simp [T.evs]at h1;subst h1
   obtain ⟨cs,rfl,hc⟩:=h2;exact hc
 . simp [T.evs]at h1
theorem zc8{h:Array Obj}{ok:Nat->Prop}{env:Nm}{x:Lf}{k:IntKind}{n:Int}{v:Value}(h1:(asInt x).evs fs=some (k,n))(h2:LfR h ok env x v):v = .int k n:=by
 unfold asInt at h1;split at h1
 . simp [T.evs]at h1
   obtain ⟨rfl,rfl⟩:=h1;simpa [LfR,Fits] using h2
 . simp [T.evs]at h1
theorem zyb{h:Array Obj}{ok:Nat->Prop}{env:Nm}{x:Lf}{b:Bool}{v:Value}(h1:(asBool x).evs fs=some b)(h2:LfR h ok env x v):v = .bool b:=by
 unfold asBool at h1;split at h1
 . simp [T.evs]at h1;subst h1;exact h2
 . simp [T.evs]at h1;subst h1;simpa [LfR,Fits] using h2
 . simp [T.evs]at h1
theorem zf5(hB:RB cx fs w env own){fz:Bool}{e:Ty}{x:Lf}{v:Value}{l:List e.den}{ws:Ws}(h:(zl6 fz e x).evs fs=some (l,ws))(hx:LfR w.heap (cx.ok own) env x v):
 (∃ p c,v = .slice p l.length c/\(p=none->l=[])/\(∀ y,p=some y->l≠[]->y.spot=none/\∃ cur T f,w.heap[y.block]?=some (.cells cur T f)/\y.off+l.length*e.size<=cur.size /\
  (∀ i (hi:i<l.length),Fits w.heap (cx.ok own) e l[i] ((cur.toList.drop (y.off+i*e.size)).take e.size))/\(cx.ok own y.block\/∃ b,x.row=some b/\own y.block=some b))/\l.length<=c) /\
 Frz fs ws/\(fz=false->ws=[])/\(fz=true->∀ bs,(∀ p∈ws,p.1∈bs)->Fits w.heap (cx.ok (unown own bs)) (.slice e) l [v]):=by
 unfold zl6 at h;split at h
 . simp [T.evs]at h
   obtain ⟨rfl,rfl⟩:=h;simp only [LfR]at hx;subst hx
   exact ⟨⟨none,0,rfl,fun _=>rfl,by simp,by simp⟩,Frz.nil,fun _=>rfl,fun _ _ _=>⟨none,0,rfl,fun _=>rfl,by simp,by simp⟩⟩
 . rename_i t u;obtain ⟨l',h1,h2⟩:=zaa.1 h;simp only [zcm,zbb]at h1;simp at h2
   obtain ⟨rfl,rfl⟩:=h2;have hf:=LfR.imm_of_cast h1 (show Fits _ _ _ _ _ from hx)
   refine ⟨?_,Frz.nil,fun _=>rfl,fun _ bs _=>hf.mono (zcc (env:=env)).heap⟩
   obtain ⟨p,c,hv,hp,hr,hcc⟩:=hf;simp at hv
   refine ⟨p,c,hv,hp,fun y hy hne=>?_,hcc⟩
   obtain ⟨hsp,hok,cur,T,f,h1,h2,h3⟩:=hr y hy hne;exact ⟨hsp,cur,T,f,h1,h2,h3,.inl hok⟩
 . rename_i b;obtain ⟨c,h1,h2⟩:=zaa.1 h;simp only [zaS,Option.some.injEq]at h1;subst h1;split at h2
   . rename_i m TT e' l' hfs
     obtain ⟨l2,h3,h4⟩:=zaa.1 h2;simp only [zcm,zbb]at h3;simp at h4
     obtain ⟨rfl,rfl⟩:=h4;have hb:=hB b;rw [hfs]at hb;have he:e'=e:=by
      unfold Ty.cast at h3;split at h3
      . rename_i he;have:=Ty.eqb_eq he;injection this
      . cases h3
     subst he;have hl:l'=l2:=by
      unfold Ty.cast at h3;split at h3
      . simpa using h3
      . cases h3
     subst hl;obtain ⟨v',hv',hr⟩:=hb;obtain ⟨hx1,hx2⟩:=hx;rw [hv']at hx1;simp at hx1
     subst hx1;refine ⟨?_,?_,fun hf=>by simp [hf],?_⟩
     . rcases hr with ⟨rfl,rfl⟩ | ⟨g,cap,cur,rfl,hg,h1,h2,h3,h4,h5,h6⟩
       . exact ⟨none,0,rfl,fun _=>rfl,by simp,by simp⟩
       . refine ⟨some ⟨g,0,none⟩,cap,rfl,by simp,fun y hy _=>?_,h1⟩
         simp at hy;subst hy
         refine ⟨rfl,cur,TT,_,hg,?_,by simpa using h4,?_⟩
         . simp only [qaH,h3];exact qaT _ h1
         . cases m with
           | true=>exact .inr ⟨b,rfl,(h5 rfl).1⟩
           | false=>exact .inl (h6 rfl)
     . intro p hp;cases fz with
       | false=>simp at hp
       | true=>simp at hp;subst hp;exact ⟨m,TT,e',l',hfs,rfl⟩
     . intro hfz bs hbs;subst hfz;have hbb:b∈bs:=hbs (b,.arr false TT e' l') (by simp)
       rcases hr with ⟨rfl,rfl⟩ | ⟨g,cap,cur,rfl,hg,h1,h2,h3,h4,h5,h6⟩
       . exact ⟨none,0,rfl,fun _=>rfl,by simp,by simp⟩
       . refine ⟨some ⟨g,0,none⟩,cap,rfl,by simp,fun y hy _=>?_,h1⟩
         simp at hy;subst hy
         refine ⟨rfl,?_,cur,TT,_,hg,?_,fun i hi=>?_⟩
         . cases m with
           | true=>exact ⟨zdt (h5 rfl).1 hbb,.inr (h5 rfl).2⟩
           | false=>exact zdw (h6 rfl)
         . simp only [qaH,h3];exact qaT _ h1
         . have:=(h4 i hi).mono (zcc (cx:=cx) (w:=w) (own:=own) (bs:=bs) (env:=env)).heap
           simpa using this
   . simp [T.evs]at h2
 . rename_i b sz lo n;obtain ⟨c,h1,h2⟩:=zaa.1 h;simp only [zaS,Option.some.injEq]at h1;subst h1;split at h2
   . rename_i m TT e' l' hfs
     obtain ⟨l2,h3,h4⟩:=zaa.1 h2;obtain ⟨_,h5,h6⟩:=zaa.1 h4;have hsz:=qan (zah.1 h5);subst hsz;simp only [zcm,zbb]at h3;simp at h6
     obtain ⟨rfl,rfl⟩:=h6;have hb:=hB b;rw [hfs]at hb;have he:e'=e:=by
      unfold Ty.cast at h3;split at h3
      . rename_i he;have:=Ty.eqb_eq he;injection this
      . cases h3
     subst he;have hl:l'=l2:=by
      unfold Ty.cast at h3;split at h3
      . simpa using h3
      . cases h3
     subst hl;obtain ⟨v',hv',hr⟩:=hb;obtain ⟨p0,len,c0,hx1,hx2,hx3,rfl⟩:=hx;rw [hv']at hx1;simp at hx1
     subst hx1;have hfzz:Frz fs (cond fz [(b,.arr false TT e' l')] []):=by
      intro p hp;cases fz with
      | false=>simp at hp
      | true=>simp at hp;subst hp;exact ⟨m,TT,e',l',hfs,rfl⟩
     have hnf:fz=false->cond fz [(b,Cell.arr false TT e' l')] []=[]:=fun hf=>by simp [hf]
     rcases hr with ⟨hr1,rfl⟩ | ⟨g,cap,cur,hr1,hg,h1,h2,h3,h4,h5,h6⟩
     . injection hr1 with e1 e2 e3
       subst e1;subst e2;subst e3
       have hlo:lo=0:=by omega
       have hn0:n=0:=by omega
       subst hlo;subst hn0
       exact ⟨⟨none,0,rfl,fun _=>rfl,by simp,by simp⟩,hfzz,hnf,fun _ _ _=>⟨none,0,rfl,fun _=>rfl,by simp,by simp⟩⟩
     . injection hr1 with e1 e2 e3
       subst e1;subst e2;subst e3
       have hlen:((l'.drop lo).take n).length=n:=by simp;omega
       have haddr:∀ y,(if c0=lo then some (⟨g,0,none⟩:Addr) else (some (⟨g,0,none⟩:Addr)).map (·.add (lo*e'.size)))=some y->(l'.drop lo).take n≠[]->y=⟨g,lo*e'.size,none⟩:=fun y hy hne=>by
        have hn:n≠0:=fun h0=>hne (by rw [h0];simp)
        rw [if_neg (by omega)]at hy
        simp only [qbI,Option.some.injEq]at hy;rw [<-hy,Addr.add_lit,qaH]
       have hmul:lo*e'.size+n*e'.size<=cur.size:=by
        rw [h3,<-qaO];exact qaT _ (by omega)
       have hget:∀ i (hi:i<((l'.drop lo).take n).length),Fits w.heap (cx.ok own) e' ((l'.drop lo).take n)[i] ((cur.toList.drop (lo*e'.size+i*e'.size)).take e'.size):=fun i hi=>by
        have:=h4 (lo+i) (by rw [hlen]at hi;omega)
        rw [qaO]at this;simpa [qcd,qcj] using this
       refine ⟨⟨_,c0-lo,by rw [hlen],fun h0=>?_,fun y hy hne=>?_,by rw [hlen];omega⟩,hfzz,hnf,fun hfz bs hbs=>?_⟩
       . split at h0 <;> cases h0
       . have:=haddr y hy hne
         subst this;refine ⟨rfl,cur,TT,_,hg,by rw [hlen];exact hmul,hget,?_⟩
         cases m with
         | true=>exact .inr ⟨b,rfl,(h5 rfl).1⟩
         | false=>exact .inl (h6 rfl)
       . subst hfz;have hbb:b∈bs:=hbs (b,.arr false TT e' l') (by simp)
         refine ⟨_,c0-lo,by rw [hlen],fun h0=>?_,fun y hy hne=>?_,by rw [hlen];omega⟩
         . split at h0 <;> cases h0
         . have:=haddr y hy hne
           subst this;refine ⟨rfl,?_,cur,TT,_,hg,by rw [hlen];exact hmul,fun i hi=>(hget i hi).mono (zcc (cx:=cx) (w:=w) (own:=own) (bs:=bs) (env:=env)).heap⟩
           cases m with
           | true=>exact ⟨zdt (h5 rfl).1 hbb,.inr (h5 rfl).2⟩
           | false=>exact zdw (h6 rfl)
   . simp [T.evs]at h2
 . simp [T.evs]at h
theorem ifoT_ok{K:Nat}{t t':Ty}{v:t'.den}{o:Option t.den}(h:(ifoT K t t' v).evs fs=some o){hp:Array Obj}{ok:Nat->Prop}{cs:List Value}(hf:Fits hp ok t' v cs):Fits hp ok (.ifo K t) o cs:=by
 unfold ifoT at h;split at h
 . split at h
   . simp only [T.evs,Option.some.injEq]at h;subst h;rcases hf with ⟨_,rfl⟩ | ⟨_,_,h,_⟩
     . exact .inl ⟨rfl,rfl⟩
     . cases h
   . simp [T.evs]at h
 . simp only [zcm,zbb]at h;exact LfR.imm_of_cast h hf
theorem zcf(hB:RB cx fs w env own):∀ {t:Ty} {xs:List Lf} {cs:List Value} {v:t.den} {rest:List Lf} {ws:Ws},(za2 true t xs).evs fs=some (v,rest,ws)->All2 (LfR w.heap (cx.ok own) env) xs cs ->
 Frz fs ws/\∃ c1 c2,cs=c1++c2/\All2 (LfR w.heap (cx.ok own) env) rest c2/\∀ bs,(∀ p∈ws,p.1∈bs)->Fits w.heap (cx.ok (unown own bs)) t v c1
 | .bool,x::r,c::cs,v,rest,ws,h,hx=>by
  obtain ⟨b,h1,h2⟩:=zaa.1 h;simp at h2
  obtain ⟨rfl,rfl,rfl⟩:=h2;exact ⟨Frz.nil,[c],cs,rfl,hx.2,fun bs _=>by simp [Fits,zyb h1 hx.1]⟩
 | .int k,x::r,c::cs,v,rest,ws,h,hx=>by
  simp only [za2]at h;split at h
  . obtain ⟨b,h1,h2⟩:=zaa.1 h;simp at h2
    obtain ⟨rfl,rfl,rfl⟩:=h2;simp only [zcm,zbb]at h1;exact ⟨Frz.nil,[c],cs,rfl,hx.2,fun bs _=>(LfR.imm_of_cast h1 (show Fits _ _ _ _ _ from hx.1)).mono (zcc (env:=env)).heap⟩
  . simp [T.evs]at h
 | .slice e,x::r,c::cs,v,rest,ws,h,hx=>by
  obtain ⟨⟨l,ws'⟩,h1,h2⟩:=zaa.1 h;simp at h2
  obtain ⟨rfl,rfl,rfl⟩:=h2;obtain ⟨_,h3,_,h4⟩:=zf5 hB h1 hx.1;exact ⟨h3,[c],cs,rfl,hx.2,fun bs hbs=>h4 rfl bs hbs⟩
 | .prod a b,xs,cs,v,rest,ws,h,hx=>by
  obtain ⟨⟨v1,r1,w1⟩,h1,h2⟩:=zaa.1 h;obtain ⟨⟨v2,r2,w2⟩,h3,h4⟩:=zaa.1 h2;simp at h4
  obtain ⟨rfl,rfl,rfl⟩:=h4;obtain ⟨f1,c1,c2,rfl,hr1,k1⟩:=zcf hB h1 hx;obtain ⟨f2,c3,c4,rfl,hr2,k2⟩:=zcf hB h3 hr1;exact ⟨f1.append f2,c1++c3,c4,by simp,hr2,fun bs hbs=>⟨c1,c3,rfl,k1 bs fun p hp=>hbs p (by simp [hp]),k2 bs fun p hp=>hbs p (by simp [hp])⟩⟩
 | .unit,xs,cs,v,rest,ws,h,hx=>by
  simp only [za2,T.evs_pure,Option.some.injEq,Prod.mk.injEq]at h;obtain ⟨_,rfl,rfl⟩:=h;exact ⟨Frz.nil,[],cs,rfl,hx,fun bs _=>rfl⟩
 | .raw _,x::r,c::cs,v,rest,ws,h,hx=>by
  simp only [za2]at h;obtain ⟨_,_,h2⟩:=zaa.1 h;simp at h2
  obtain ⟨rfl,rfl⟩:=h2;exact ⟨Frz.nil,[c],cs,rfl,hx.2,fun bs _=>⟨c,rfl,LfR.one hx.1⟩⟩
 | .ifo K t,x::r,c::cs,v,rest,ws,h,hx=>by
  simp only [za2]at h;split at h
  . obtain ⟨b,h1,h2⟩:=zaa.1 h;simp at h2
    obtain ⟨rfl,rfl,rfl⟩:=h2;exact ⟨Frz.nil,[c],cs,rfl,hx.2,fun bs _=>(ifoT_ok h1 (show Fits _ _ _ _ _ from hx.1)).mono (zcc (env:=env)).heap⟩
  . simp [T.evs]at h
 | .ifo _ _,[],_,_,_,_,h,_=>by simp [za2,T.evs]at h
 | .ifo _ _,_::_,[],_,_,_,_,hx=>hx.elim
 | .raw _,[],_,_,_,_,h,_=>by simp [za2,T.evs]at h
 | .raw _,_::_,[],_,_,_,_,hx=>hx.elim
 | .bool,[],_,_,_,_,h,_=>by simp [za2,T.evs]at h
 | .int _,[],_,_,_,_,h,_=>by simp [za2,T.evs]at h
 | .slice _,[],_,_,_,_,h,_=>by simp [za2,T.evs]at h
 | .bool,_::_,[],_,_,_,_,hx=>hx.elim
 | .int _,_::_,[],_,_,_,_,hx=>hx.elim
 | .slice _,_::_,[],_,_,_,_,hx=>hx.elim
end
end Go.VI
namespace Go.VI
open Go Go.RowKit
structure Post (cx:Cx) (fs:FS) (w:World) (env:Nm) (own:Ow) (bw:Ws) (w':World) (env':Nm) (own':Ow) (N':Nat->Prop):Prop where
 rw:RW cx w' env' own' N'
 rb:RB cx (upd fs bw) w' env' own'
 ext:Ext cx w env own w' env' own'
 size:w.heap.size<=w'.heap.size
def updE(env:Nm)(nm:Nat)(v:Value):Nm:=fun b=>if b=nm then some v else env b
def updO(own:Ow)(g nm:Nat):Ow:=fun c=>if c=g then some nm else own c
section
variable {cx:Cx} {fs:FS} {w:World} {env:Nm} {own:Ow} {N:Nat->Prop}
theorem Post.refl(hw:RW cx w env own N)(hb:RB cx fs w env own):Post cx fs w env own [] w env own N:=⟨hw,hb,.refl,qao _⟩
theorem RW.mono{N':Nat->Prop}(hw:RW cx w env own N)(h:∀ b,N b->N' b):RW cx w env own N':=⟨hw.os,hw.tape,hw.output,hw.size,hw.old,hw.new,fun b hb=>h b (hw.names b hb),hw.fix⟩
theorem Post.mono{bw:Ws}{w':World}{env':Nm}{own':Ow}{N' N2:Nat->Prop}(hp:Post cx fs w env own bw w' env' own' N')(h:∀ b,N' b->N2 b):Post cx fs w env own bw w' env' own' N2:=⟨hp.rw.mono h,hp.rb,hp.ext,hp.size⟩
theorem Post.trans{b1 b2:Ws}{w1 w2:World}{e1 e2:Nm}{o1 o2:Ow}{N1 N2:Nat->Prop}(h:Post cx fs w env own b1 w1 e1 o1 N1)(k:Post cx (upd fs b1) w1 e1 o1 b2 w2 e2 o2 N2):Post cx fs w env own (b2++b1) w2 e2 o2 N2 :=
 ⟨k.rw,by rw [zvx];exact k.rb,h.ext.trans k.ext h.size,qaA h.size k.size⟩
theorem Post.freeze(hw:RW cx w env own N)(hb:RB cx fs w env own){ws:Ws}(hf:Frz fs ws):Post cx fs w env own ws w env (unown own (nms ws)) N :=
 ⟨hw.unown _,hb.freeze hf,zcc,qao _⟩
theorem RW.ge(hw:RW cx w env own N){g b:Nat}(h:own g=some b):cx.w0.heap.size<=g\/cx.outer g:=by
 rcases Nat.lt_or_ge g cx.w0.heap.size with hl | hl
 . refine .inr (Classical.byContradiction fun hn=>?_)
   have:=(hw.old g hl hn).1
   rw [h]at this;cases this
 . exact .inl hl
theorem RW.lt(hw:RW cx w env own N){g b:Nat}(h:own g=some b):g<w.heap.size:=by
 rcases Nat.lt_or_ge g w.heap.size with hl | hl
 . exact hl
 . have:=hw.new g hl;rw [h]at this;cases this
theorem zmI(hw:RW cx w env own N){nm:Nat}(hn:¬N nm)(o:Obj)(v:Value):Ext cx w env own (w.alloc o) (updE env nm v) (updO own w.heap.size nm):=by
 refine ⟨fun c hc hl=>⟨⟨?_,hc.2⟩,heap_alloc_old w o c hl⟩,fun b x hx=>?_⟩
 . simp only [updO];rw [if_neg (by omega)];exact hc.1
 . simp only [updE];rw [if_neg ?_]
   . exact hx
   . rintro rfl;exact hn (hw.names _ (by simp [hx]))
theorem Post.new(hw:RW cx w env own N)(hb:RB cx fs w env own){nm:Nat}(hn:¬N nm){o:Obj}{v:Value}{cell:Cell}
 (hc:za9 cx.low (w.alloc o).heap (cx.ok (updO own w.heap.size nm)) (updE env nm v) (updO own w.heap.size nm) nm cell) :
 Post cx fs w env own [(nm,cell)] (w.alloc o) (updE env nm v) (updO own w.heap.size nm) (fun b=>N b\/b=nm):=by
 refine ⟨⟨hw.os,hw.tape,hw.output,?_,fun c h1 h2=>?_,fun c h=>?_,fun b h=>?_,fun b v hb=>(zmI hw hn o _).env b v (hw.fix b v hb)⟩,fun b=>?_,zmI hw hn o v,by simp⟩
 . have:=hw.size;simp;omega
 . have:=hw.old c h1 h2
   have hs:=hw.size;refine ⟨?_,?_⟩
   . simp only [updO];rw [if_neg (by omega)];exact this.1
   . rw [heap_alloc_old w o c (by omega)];exact this.2
 . simp at h
   simp only [updO];rw [if_neg (by omega)];exact hw.new c (by omega)
 . simp only [updE]at h;split at h
   . exact .inr ‹_›
   . exact .inl (hw.names b h)
 . by_cases hbn:b=nm
   . subst hbn;rw [zb0];exact hc
   . rw [zch (Ne.symm hbn)];refine (hb b).ext (zmI hw hn o v) fun g hg=>?_
     have:=hw.lt hg
     exact ⟨by simp only [updO];rw [if_neg (by omega)];exact hg,heap_alloc_old w o g this⟩
theorem zeW{g:Nat}{b:Nat}(hg:own g=some b)(cs:Array Value):Ext cx w env own (w.setRow g cs) env own:=by
 refine ⟨fun c hc _=>⟨hc,setRow_other w g c cs ?_⟩,fun _ _ h=>h⟩
 rintro rfl;have:=hc.1
 rw [hg]at this;cases this
theorem Post.write(hw:RW cx w env own N)(hb:RB cx fs w env own){b g:Nat}(hg:own g=some b){cs:Array Value}{cell:Cell}
 (hc:za9 cx.low (w.setRow g cs).heap (cx.ok own) env own b cell):Post cx fs w env own [(b,cell)] (w.setRow g cs) env own N:=by
 have hsz:(w.setRow g cs).heap.size=w.heap.size:=by simp [World.setRow]
 refine ⟨⟨hw.os,hw.tape,hw.output,by rw [hsz];exact hw.size,fun c h1 h2=>?_,fun c h=>hw.new c (by rw [<-hsz];exact h),hw.names,hw.fix⟩,fun b'=>?_,zeW hg cs,by rw [hsz];exact qao _⟩
 . have:=hw.old c h1 h2
   refine ⟨this.1,?_⟩;rw [setRow_other w g c cs ?_]
   . exact this.2
   . rintro rfl;rw [hg]at this;cases this.1
 . by_cases hbn:b'=b
   . subst hbn;rw [zb0];exact hc
   . rw [zch (Ne.symm hbn)];refine (hb b').ext (zeW hg cs) fun g' hg'=>⟨hg',setRow_other w g g' cs ?_⟩
     rintro rfl;rw [hg]at hg';cases hg';exact hbn rfl
theorem Post.ln{w':World}{env':Nm}{own':Ow}{N':Nat->Prop}{b n:Nat}{ws:Ws}(hp:Post cx fs w env own ((b,.no)::ws) w' env' own' N'){p:Option Addr}{c:Nat}(he:env b=some (.slice p n c)):Post cx fs w env own ((b,.ln n)::ws) w' env' own' N':=by
 refine ⟨hp.rw,fun b'=>?_,hp.ext,hp.size⟩
 by_cases hbn:b=b'
 . subst hbn;rw [zb0];exact ⟨p,c,hp.ext.env _ _ he⟩
 . have:=hp.rb b'
   rw [zch hbn]at this;rw [zch hbn];exact this
theorem Post.drew(hw:RW cx w env own N)(hb:RB cx fs w env own):Post cx fs w env own [] w.drew env own N :=
 ⟨⟨hw.os,hw.tape,hw.output,hw.size,hw.old,hw.new,hw.names,hw.fix⟩,hb,⟨fun _ h _=>⟨h,rfl⟩,fun _ _ h=>h⟩,qao _⟩
end
def aggD:TypeDesc->Bool
 | .struct _ | .array _ _=>true
 | _=>false
def zgR:Ty->List Value
 | .bool=>[.bool false]
 | .int k=>[.int k 0]
 | .slice _=>[.slice none 0 0]
 | .prod a b=>zgR a++zgR b
 | .unit=>[]
 | .raw .fn=>[.nilFunc]
 | .raw .map=>[.map none]
 | .raw .ifc=>[.nilIface]
 | .raw .ptr=>[.pointer none]
 | .ifo _ _=>[.nilIface]
def zk6(c:TypeId->Ty->Bool)(P:Program):List Field->Nat->Ty->Bool
 | [],_,.unit=>true
 | f :: fs, off, .prod a b => f.name != "_" && Nat.beq f.offset off && Nat.blt 0 a.size && (match P.info? f.type with
  | some i=>Nat.beq i.size a.size
  | none=>false)&&(match P.underlying f.type with
  | some d=>aggD d == a.isAgg
  | none=>false)&&c f.type a&&zk6 c P fs (off+a.size) b
 | _,_,_=>false
def zp9(P:Program):Nat->TypeId->Ty->Bool
 | 0,_,_=>false
 | _+1,t,.bool=>match P.underlying t with
  | some .bool=>true
  | _=>false
 | _+1,t,.int k=>match P.underlying t with
  | some (.int k')=>decide (k=k')
  | _=>false
 | d+1,t,ty=>match P.underlying t with
  | some (.struct fs)=>ty.isAgg && !P.stoodInHeld t&&zk6 (zp9 P d) P fs.toList 0 ty
  | _=>false
structure RowOk (P:Program) (te:TE) (r:Row):Prop where
 info:∃ i z,P.info? r.t=some i/\i.size=r.ty.size/\i.zero=some z/\z.cells.toList=zgR r.ty
 agg:∃ d,P.underlying r.t=some d/\aggD d=r.ty.isAgg
 int:∀ k,r.ty = .int k->P.underlying r.t=some (.int k)
 slice:∀ e,r.ty = .slice e->P.underlying r.t=some (.slice r.elem)/\∃ i z,P.info? r.elem=some i/\i.size=e.size/\i.bytes=r.bytes/\0<e.size/\0<r.bytes/\i.zero=some z/\z.cells.toList=zgR e
 struct:r.ty.isAgg=true->r.arr=none->∃ fs:Array Field,P.underlying r.t=some (.struct fs)/\fs.size=r.fields.length /\
  ∀ (j:Nat) f,fs[j]?=some f->∃ p,r.fields[j]?=some p/\f.offset=p.1/\∃ i d,P.info? f.type=some i/\i.size=p.2.size/\0<p.2.size/\P.underlying f.type=some d/\aggD d=p.2.isAgg
 arr:∀ n e,r.arr=some (n,e)->r.ty.isAgg=true/\P.underlying r.t=some (.array n r.elem)/\∃ i d,P.info? r.elem=some i/\i.size=e.size/\0<e.size/\P.underlying r.elem=some d/\aggD d=e.isAgg/\r.fields=(List.range n).map fun k=>(k*e.size,e)
 cmp:r.cmp=true->P.eqGuardType P.depth r.t=false/\zp9 P 20 r.t r.ty=true
def TEok(P:Program)(te:TE):Prop:=∀ t r,te.find t=some r->r.t=t/\RowOk P te r
theorem zo5{h:Array Obj}{ok:Nat->Prop}{env:Nm}:∀ t:Ty,All2 (LfR h ok env) (zqI t) (zgR t)
 | .bool=>⟨rfl,trivial⟩
 | .int _=>⟨by simp [LfR,Fits],trivial⟩
 | .slice _=>⟨rfl,trivial⟩
 | .prod a b=>(zo5 a).append (zo5 b)
 | .unit=>trivial
 | .raw .fn=>⟨rfl,trivial⟩
 | .raw .map=>⟨rfl,trivial⟩
 | .raw .ifc=>⟨rfl,trivial⟩
 | .raw .ptr=>⟨rfl,trivial⟩
 | .ifo _ _=>⟨.inl ⟨rfl,rfl⟩,trivial⟩
theorem zex{h:Array Obj}{ok:Nat->Prop}:∀ t:Ty,Fits h ok t t.dflt (zgR t)
 | .bool=>rfl
 | .int _=>rfl
 | .slice _=>⟨none,0,rfl,fun _=>rfl,by simp,by simp [Ty.dflt]⟩
 | .prod a b=>⟨_,_,rfl,zex a,zex b⟩
 | .unit=>rfl
 | .raw .fn=>⟨_,rfl,rfl⟩
 | .raw .map=>⟨_,rfl,rfl⟩
 | .raw .ifc=>⟨_,rfl,rfl⟩
 | .raw .ptr=>⟨_,rfl,rfl⟩
 | .ifo _ _=>.inl ⟨rfl,rfl⟩
theorem zdH:∀ t:Ty,(zgR t).length=t.size
 | .bool | .int _ | .slice _ | .unit=>rfl
 | .raw .fn | .raw .map | .raw .ifc | .raw .ptr | .ifo _ _=>rfl
 | .prod a b=>by simp [zgR,Ty.size,zdH a,zdH b]
section
variable {P:Program} {te:TE} {fs:FS}
theorem zb3(ht:TEok P te){t:TypeId}{r:Row}(h:(tyT te t).evs fs=some r):r.t=t/\RowOk P te r:=by
 simp only [tyT,zbb]at h;exact ht t r h
theorem zlY{t:TypeId}{d:TypeDesc}(hu:P.underlying t=some d)(w:World):(isAgg t).run P w = .ok (aggD d) w:=by
 simp only [isAgg,Sem.run_bind,run_underlying hu,Result.andThen_ok];cases d <;> rfl
theorem zbv{t:TypeId}{i:TypeInfo}(hi:P.info? t=some i)(w:World):(sizeOf t).run P w = .ok i.size w:=by
 simp [sizeOf,typeInfo,hi]
end
end Go.VI
namespace Go.VI
open Go Go.RowKit
def zaW(t:Ty)(l:List Value):Value:=if t.isAgg=true then .agg l.toArray else l.headD undef
section
variable {P:Program} {te:TE} {cx:Cx} {fs:FS} {w:World} {env:Nm} {own:Ow} {N:Nat->Prop}
theorem ztA{t:Ty}{l:List Value}(hl:l.length=t.size)(h1:∀ u∈l,u.oneCell'=true):(zaW t l).cells.toList=l:=by
 unfold zaW;split
 . simp [Value.cells]
 . rename_i h;have:t.size=1:=by cases t <;> simp_all [Ty.isAgg,Ty.size]
   match l,hl with
   | [x],_=>
    have:=h1 x (by simp)
    cases x <;> simp_all [Value.cells,Value.oneCell']
   | [],h=>simp [this]at h
   | _::_::_,h=>simp [this]at h
theorem zg9{t:TypeId}{r:Row}(hr:RowOk P te r)(htr:r.t=t){g off:Nat}{cs:Array Value}{T:TypeId}{fz:Nat×Nat}(hg:w.heap[g]?=some (.cells cs T fz))(hl:off+r.ty.size<=cs.size):
 (loadVar t ⟨g,off,none⟩).run P w = .ok (zaW r.ty ((cs.toList.drop off).take r.ty.size)) w:=by
 subst htr;obtain ⟨i,z,hi,hsz,_,_⟩:=hr.info;obtain ⟨d,hd,hagg⟩:=hr.agg;unfold loadVar zaW;simp only [Sem.run_bind,zlY hd,Result.andThen_ok,hagg];cases ha:r.ty.isAgg with
 | true=>
  have hc:=run_loadCells_list (P:=P) w ⟨g,off,none⟩ ((cs.toList.drop off).take r.ty.size) (fun j v hv=>by
   rw [Addr.add_lit,cell_of_row w g (off+j) cs T fz hg];rw [qa7]at hv;split at hv
   . simpa using hv
   . cases hv)
  have hlen:((cs.toList.drop off).take r.ty.size).length=r.ty.size:=by simp;omega
  rw [hlen]at hc;simp only [if_true,Sem.run_bind,zbv hi,Result.andThen_ok,hsz,hc,Sem.run_pure]
 | false=>
  have hs1:r.ty.size=1:=by cases hty:r.ty <;> simp_all [Ty.isAgg,Ty.size]
  rw [hs1]at hl ⊢
  have hlt:off<cs.size:=by omega
  simp only [qbm,qbj,run_load];rw [cell_of_row w g off cs T fz hg,qby hlt];simp only
  congr 1
  rw [qaU (by simpa using hlt)]
  simp
theorem mk1_ok{h:Array Obj}{ok:Nat->Prop}{env:Nm}{t:Ty}{xs:List Lf}{cs:List Value}{a:A1}(h1:(mk1 t xs).evs fs=some a)(h2:All2 (LfR h ok env) xs cs):A1R h ok env a (zaW t cs):=by
 unfold mk1 at h1;unfold zaW;cases ha:t.isAgg with
 | true=>
  simp [ha,T.evs]at h1
  subst h1;exact ⟨cs.toArray,rfl,h2⟩
 | false=>
  simp only [ha,qaf]at h1;split at h1
  . simp [T.evs]at h1
    subst h1;obtain ⟨b,rfl,hb⟩:=h2.one;exact hb
  . simp [T.evs]at h1
theorem zmQ{h:Array Obj}{ok:Nat->Prop}{env:Nm}{t:Ty}{xs:List Lf}{off:Nat}{cs:List Value}{a:A1}(h1:(cutL xs off t).evs fs=some a)(h2:All2 (LfR h ok env) xs cs):
 off+t.size<=cs.length/\A1R h ok env a (zaW t ((cs.drop off).take t.size)):=by
 unfold cutL at h1;cases hc:Nat.ble (off+t.size) xs.length with
 | false=>simp [hc,T.evs]at h1
 | true=>
  simp only [hc,qah]at h1;have:=qa5 hc
  rw [h2.len]at this;exact ⟨this,mk1_ok h1 ((h2.drop off).take t.size)⟩
theorem zjM{α:Type}{l:List α}{i:Nat}{d:α}(h:i<l.length):l.getD i d=l[i]:=by simp [List.getD,qaq h]
theorem zhd{α:Type}(l:List α)(a n off k:Nat)(h:off+k<=n):(((l.drop a).take n).drop off).take k=(l.drop (a+off)).take k:=by
 rw [qbK,qbJ,qbu];congr 1
 omega
theorem load_ok(ht:TEok P te)(hb:RB cx fs w env own){t:TypeId}{p:Lf}{a:AV}{v:Value}(h:(loadT te t p).evs fs=some a)(hp:LfR w.heap (cx.ok own) env p v):
 ∃ x,(Instr.loadAt t v).run P w = .ok x w/\AvR w.heap (cx.ok own) env a x:=by
 obtain ⟨r,h1,h2⟩:=zaa.1 h;obtain ⟨htr,hr⟩:=zb3 ht h1;have run:∀ {g off:Nat} {cs:Array Value} {T:TypeId} {fz:Nat×Nat},w.heap[g]?=some (.cells cs T fz)->off+r.ty.size<=cs.size ->
  (Instr.loadAt t (.pointer (some ⟨g,off,none⟩))).run P w = .ok (zaW r.ty ((cs.toList.drop off).take r.ty.size)) w:=fun hg hl=>by
  simp only [Instr.loadAt,Instr.sureAddr,Sem.run_bind,Sem.run_pure,Result.andThen_ok];exact zg9 hr htr hg hl
 split at h2
 . rename_i b off;obtain ⟨c,h3,h4⟩:=zaa.1 h2;simp only [zaS,Option.some.injEq]at h3;subst h3;split at h4
   . rename_i T xs hfs;obtain ⟨a1,h5,h6⟩:=zaa.1 h4;simp at h6;subst h6
     have hb:=hb b;rw [hfs]at hb;obtain ⟨g,cs,e1,e2,e3,e4⟩:=hb;obtain ⟨g',f1,rfl⟩:=hp;rw [e1]at f1;simp at f1;subst f1
     obtain ⟨k1,k2⟩:=zmQ h5 e3;exact ⟨_,run e2 (by simpa using k1),k2⟩
   . rename_i T xs hfs;obtain ⟨a1,h5,h6⟩:=zaa.1 h4;simp at h6;subst h6
     have hb:=hb b;rw [hfs]at hb;obtain ⟨g,cs,e1,e2,e3,e4⟩:=hb;obtain ⟨g',f1,rfl⟩:=hp;rw [e1]at f1;simp at f1;subst f1
     obtain ⟨k1,k2⟩:=zmQ h5 e3;exact ⟨_,run e2 (by simpa using k1),k2⟩
   . simp [T.evs]at h4
 . rename_i b i off sz;obtain ⟨c,h3,h4⟩:=zaa.1 h2;simp only [zaS,Option.some.injEq]at h3;subst h3;split at h4
   . rename_i m T e l hfs;obtain ⟨_,h5,h6⟩:=zaa.1 h4;obtain ⟨a1,h7,h8⟩:=zaa.1 h6;simp at h8;subst h8
     have h5:=qan (zah.1 h5);subst h5;have hb:=hb b;rw [hfs]at hb;obtain ⟨v',e1,e2⟩:=hb;obtain ⟨g,n,c,f1,f2,rfl⟩:=hp;rw [e1]at f1;simp at f1;subst f1
     rcases e2 with ⟨e2,_⟩ | ⟨g',cap,cur,e2,hg,q1,q2,q3,q4,q5⟩
     . cases e2
     . injection e2 with e2 e3 e4
       simp at e2;subst e2;subst e3
       rw [zjM f2]at h7;obtain ⟨k1,k2⟩:=zmQ h7 (zcZ (q4 i f2));have hlen:=(q4 i f2).len;rw [hlen]at k1;have:i*e.size+e.size<=cur.size:=by
        rw [q3];calc i*e.size+e.size=(i+1)*e.size:=by rw [qaO,qa6]
         _<=cap*e.size:=qaT _ (by omega)
       rw [zhd _ _ _ _ _ k1]at k2;exact ⟨_,run hg (by omega),k2⟩
   . simp [T.evs]at h4
 . rename_i e l i off;obtain ⟨a1,h7,h8⟩:=zaa.1 h2;simp at h8;subst h8
   obtain ⟨y,f2,rfl,f3⟩:=hp;obtain ⟨cur,T,fz,hg,q1,q2⟩:=f3.row;rw [zjM f2]at h7;obtain ⟨k1,k2⟩:=zmQ h7 (zcZ (q2 i f2));have hlen:=(q2 i f2).len;rw [hlen]at k1;have:i*e.size+e.size<=l.length*e.size:=by
    calc i*e.size+e.size=(i+1)*e.size:=by rw [qaO,qa6]
     _<=l.length*e.size:=qaT _ (by omega)
   rw [zhd _ _ _ _ _ k1]at k2;exact ⟨_,run hg (by omega),k2⟩
 . simp [T.evs]at h2
theorem zlS{h:Array Obj}{ok:Nat->Prop}{env:Nm}{xs ys zs:List Lf}{off:Nat}{cs ds:List Value}(h1:(splice xs off ys).evs fs=some zs)(h2:All2 (LfR h ok env) xs cs)(h3:All2 (LfR h ok env) ys ds):
 off+ds.length<=cs.length/\All2 (LfR h ok env) zs (cs.take off++ds++cs.drop (off+ds.length)):=by
 unfold splice at h1;cases hc:Nat.ble (off+ys.length) xs.length with
 | false=>simp [hc,T.evs]at h1
 | true=>
  simp only [hc,qah,T.evs,Option.some.injEq]at h1;have:=qa5 hc
  rw [h2.len,h3.len]at this;refine ⟨this,?_⟩;rw [<-h1,h3.len];exact ((h2.take off).append h3).append (h2.drop _)
theorem zfZ{t:TypeId}{r:Row}(hr:RowOk P te r)(htr:r.t=t){g off:Nat}{cs:Array Value}{T:TypeId}(hg:w.heap[g]?=some (.cells cs T (0,0))){v:Value}{ds:List Value}(hv:v.cells.toList=ds)
 (hd:ds.length=r.ty.size) (h1:∀ u∈ds,u.oneCell'=true) (hl:off+ds.length<=cs.size) :
 (Instr.storeAt t (.pointer (some ⟨g,off,none⟩)) v).run P w = .ok () (w.setRow g (cs.toList.take off++ds++cs.toList.drop (off+ds.length)).toArray):=by
 subst htr;obtain ⟨i,z,hi,hsz,_,_⟩:=hr.info;have hsize:v.cells.size=r.ty.size:=by rw [<-hd,<-hv];simp
 have:=run_storeCells_at P g off T ds 0 cs w hg (by simpa using hl) h1
 simp only [qa9]at this;simp only [Instr.storeAt,Instr.sureAddr,storeVar,Sem.run_bind,Sem.run_pure,Result.andThen_ok,zbv hi,hsz,hsize,ne_eq,not_true_eq_false,qbj,hv];exact this
theorem Fits.row{h:Array Obj}{ok:Nat->Prop}{e:Ty}{l:List e.den}{cur:List Value}{cap i:Nat}{v:e.den}{ds:List Value}(hl:∀ j (hj:j<l.length),Fits h ok e l[j] ((cur.drop (j*e.size)).take e.size))
 (hc:cur.length=cap*e.size) (hlc:l.length<=cap) (hi:i<l.length) (hv:Fits h ok e v ds) :
 ∀ j (hj:j<(l.set i v).length),Fits h ok e (l.set i v)[j] (((cur.take (i*e.size)++ds++cur.drop (i*e.size+ds.length)).drop (j*e.size)).take e.size):=by
 intro j hj;have hds:=hv.len;simp at hj
 have hic:i*e.size+e.size<=cur.length:=by
  rw [hc];calc i*e.size+e.size=(i+1)*e.size:=by rw [qaO,qa6]
   _<=cap*e.size:=qaT _ (by omega)
 have htk:(cur.take (i*e.size)).length=i*e.size:=by simp;omega
 rcases Nat.lt_trichotomy j i with hji | hji | hji
 . rw [List.getElem_set_ne (by omega)]
   have hle:j*e.size+e.size<=i*e.size:=by
    calc j*e.size+e.size=(j+1)*e.size:=by rw [qaO,qa6]
     _<=i*e.size:=qaT _ (by omega)
   have:((cur.take (i*e.size)++ds++cur.drop (i*e.size+ds.length)).drop (j*e.size)).take e.size=(cur.drop (j*e.size)).take e.size:=by
    rw [qaR,qcn (by omega),qbZ (by simp;omega),qbK,qbJ]
    congr 1;omega
   rw [this];exact hl j hj
 . subst hji;have:((cur.take (j*e.size)++ds++cur.drop (j*e.size+ds.length)).drop (j*e.size)).take e.size=ds:=by
    rw [qaR,qbP,htk,qbG,qbk (by omega),qb3,qaS,qbZ (by omega),qa3 (by omega)]
   rw [this];simpa using hv
 . rw [List.getElem_set_ne (by omega)]
   have hle:i*e.size+e.size<=j*e.size:=by
    calc i*e.size+e.size=(i+1)*e.size:=by rw [qaO,qa6]
     _<=j*e.size:=qaT _ (by omega)
   have:(cur.take (i*e.size)++ds++cur.drop (i*e.size+ds.length)).drop (j*e.size)=cur.drop (j*e.size):=by
    rw [qaR,qbP,htk,qbk (by omega),qaS,qbP,qbk (by omega),qaS,qbu]
    congr 1;omega
   rw [this];exact hl j hj
theorem zvD{α:Type}{cur ds:List α}{a n off:Nat}(h1:off+ds.length<=n)(h2:a+n<=cur.length):
 cur.take (a+off)++ds++cur.drop (a+off+ds.length)=cur.take a++(((cur.drop a).take n).take off++ds++((cur.drop a).take n).drop (off+ds.length))++cur.drop (a+n):=by
 have e1:cur.take (a+off)=cur.take a++((cur.drop a).take n).take off:=by
  rw [qbJ,qbE (by omega),List.take_add]
 have e2:cur.drop (a+off+ds.length)=((cur.drop a).take n).drop (off+ds.length)++cur.drop (a+n):=by
  have hl:((cur.drop a).take n).length=n:=by simp;omega
  rw [show a+off+ds.length=a+(off+ds.length) by omega,<-qbu,show cur.drop (a+n)=(cur.drop a).drop n by rw [qbu]]
  conv=>lhs;rw [<-qcm n (cur.drop a)]
  rw [qcn (by omega)]
 rw [e1,e2];simp only [qaR]
theorem zyy(ht:TEok P te)(hw:RW cx w env own N)(hb:RB cx fs w env own){t:TypeId}{p:Lf}{a:AV}{v x:Value}{bw:Ws}(h:(zzC te t p a).evs fs=some bw)
 (hp:LfR w.heap (cx.ok own) env p v) (ha:AvR w.heap (cx.ok own) env a x) :
 ∃ w' own',(Instr.storeAt t v x).run P w = .ok () w'/\Post cx fs w env own bw w' env own' N:=by
 obtain ⟨r,h1,h2⟩:=zaa.1 h;obtain ⟨htr,hr⟩:=zb3 ht h1;obtain ⟨ys,h3,h4⟩:=zaa.1 h2;have hys:=ziw h3 ha;obtain ⟨_,h5,h6⟩:=zaa.1 h4;have hlen:=qan (zah.1 h5);rw [hys.len]at hlen;split at h6
 . rename_i b off;obtain ⟨c,h7,h8⟩:=zaa.1 h6;simp only [zaS,Option.some.injEq]at h7;subst h7;split at h8
   . rename_i TT xs hfs;obtain ⟨zs,h9,h10⟩:=zaa.1 h8;simp at h10;subst h10
     have hbb:=hb b;rw [hfs]at hbb;obtain ⟨g,cs,e1,e2,e3,e4⟩:=hbb;obtain ⟨g',f1,rfl⟩:=hp;rw [e1]at f1;simp at f1;subst f1
     obtain ⟨k1,k2⟩:=zlS h9 e3 hys;refine ⟨_,own,zfZ hr htr e2 rfl hlen hys.ones (by simpa using k1),Post.write hw hb e4 ⟨g,_,e1,setRow_heap w g cs _ TT _ e2,?_,e4⟩⟩
     simp only
     exact k2.mono fun _ _=>LfR.mono (zeW (env:=env) e4 _).heap (fun _ _ h=>h)
   . simp [T.evs]at h8
 . rename_i b i off sz;obtain ⟨c,h7,h8⟩:=zaa.1 h6;simp only [zaS,Option.some.injEq]at h7;subst h7;split at h8
   . rename_i TT e l hfs;obtain ⟨_,h9,h10⟩:=zaa.1 h8;have h9:=qan (zah.1 h9);subst h9;obtain ⟨xs,h11,h12⟩:=zaa.1 h10;obtain ⟨⟨v1,rest,ws⟩,h13,h14⟩:=zaa.1 h12;obtain ⟨_,h15,h16⟩:=zaa.1 h14;have hrest:rest=[]:=by have:=zah.1 h15;simpa using this
     subst hrest;obtain ⟨_,h17,h18⟩:=zaa.1 h16;have hnb:∀ p∈ws,p.1≠b:=by
      have:=zah.1 h17
      rw [qaN]at this;intro p hp he;have:=this p hp
      simp [he]at this
     simp at h18;subst h18
     have hbb:=hb b;rw [hfs]at hbb;obtain ⟨v',e1,e2⟩:=hbb;obtain ⟨g,n,c,f1,f2,rfl⟩:=hp;rw [e1]at f1;simp at f1;subst f1
     rcases e2 with ⟨e2,_⟩ | ⟨g',cap,cur,e2,hg,q1,q2,q3,q4,q5,_⟩
     . cases e2
     . injection e2 with e2 e3 e4
       simp at e2;subst e2;subst e3;subst e4
       rw [zjM f2]at h11;obtain ⟨k1,k2⟩:=zlS h11 (zcZ (q4 i f2)) hys;have hel:=(q4 i f2).len;rw [hel]at k1;obtain ⟨hfz,c1,c2,hc12,hr0,hfit⟩:=zcf hb h13 k2;have:c2=[]:=by cases c2 with
        | nil=>rfl
        | cons _ _=>exact hr0.elim
       subst this;rw [qaW]at hc12;subst hc12;have hown:=(q5 rfl).1;have hic:i*e.size+e.size<=cur.size:=by
        rw [q3];calc i*e.size+e.size=(i+1)*e.size:=by rw [qaO,qa6]
         _<=c*e.size:=qaT _ (by omega)
       have hrow:=zvD (cur:=cur.toList) (ds:=x.cells.toList) (a:=i*e.size) (n:=e.size) (off:=off) k1 (by simpa using hic)
       have hL:(((cur.toList.drop (i*e.size)).take e.size).take off++x.cells.toList++((cur.toList.drop (i*e.size)).take e.size).drop (off+x.cells.toList.length)).length=e.size:=by
        simp only [qaD,qau,qaK,qbz]at k1 ⊢;omega
       have hb1:=hb.freeze hfz;have hw1:=hw.unown (nms ws);have hown1:unown own (nms ws) g=some b:=zbu hown fun hm=>by
        obtain ⟨p,hp,he⟩:=qav.1 hm;exact hnb p hp he
       refine ⟨_,unown own (nms ws),zfZ hr htr hg rfl hlen hys.ones (by simp only [qbz]at k1 ⊢;omega),(Post.freeze hw hb hfz).trans (b2:=[(b,_)]) (Post.write hw1 hb1 hown1 ?_)⟩
       have hm:Ext cx w env own (w.setRow g (cur.toList.take (i*e.size+off)++x.cells.toList++cur.toList.drop (i*e.size+off+x.cells.toList.length)).toArray) env (unown own (nms ws)):=zcc.trans (zeW hown1 _) (qao _);refine ⟨_,e1,.inr ⟨g,c,_,by rw [List.length_set],setRow_heap w g cur _ TT _ hg,by simpa using q1,q2,?_,?_,fun _=>⟨hown1,(q5 rfl).2⟩,fun h=>by cases h⟩⟩
       . simp only [List.size_toArray,qaD,qau,qaK,qbz]at k1 ⊢;omega
       . have hH:=hm.heap;have hH1:=(zeW (cx:=cx) (w:=w) (env:=env) hown1 (cur.toList.take (i*e.size+off)++x.cells.toList++cur.toList.drop (i*e.size+off+x.cells.toList.length)).toArray).heap
         generalize (w.setRow g (cur.toList.take (i*e.size+off)++x.cells.toList++cur.toList.drop (i*e.size+off+x.cells.toList.length)).toArray).heap=H at hH hH1 ⊢
         simp only
         rw [hrow,show i*e.size+e.size=i*e.size+_ from congrArg _ hL.symm]
         refine Fits.row (cap:=c) (fun j hj=>(q4 j hj).mono hH) (by simpa using q3) q1 f2 ?_
         exact (hfit (nms ws) fun p hp=>qav.2 ⟨p,hp,rfl⟩).mono hH1
   . simp [T.evs]at h8
 . simp [T.evs]at h6
end
end Go.VI
namespace Go.VI
open Go Go.RowKit
section
variable {P:Program} {te:TE} {cx:Cx} {fs:FS} {w:World} {env:Nm} {own:Ow} {N:Nat->Prop}
theorem zu3{i:Int}{n:Nat}(h:inB i n=true):0<=i/\i<n/\i.toNat<n:=by
 simp only [inB,qab]at h;omega
theorem zlZ{t T:TypeId}{i:TypeInfo}(hu:P.underlying t=some (.slice T))(hi:P.info? T=some i){y:Addr}{n c:Nat}{k:IntKind}{j:Int}(hj:0<=j/\j<n)(hy:y.spot=none):
 (Instr.indexAt t (.slice (some y) n c) (.int k j)).run P w = .ok (.pointer (some ⟨y.block,y.off+j.toNat*i.size,none⟩)) w:=by
 obtain ⟨b,o,s⟩:=y;simp only at hy
 subst hy;simp [Instr.indexAt,asIntOf,run_underlying hu,zbv hi,hj.1,hj.2,Addr.add_lit]
theorem zq2{b o sz:Nat}{i:Int}{p:Lf}:∀ (n k:Nat),(zq3 b o sz i n k).evs fs=some p->∃ j,k+j<k+n/\i=((k+j:Nat):Int)/\p = .bptr b (o+(k+j)*sz)
 | 0,k,h=>by simp [zq3,T.evs]at h
 | n+1,k,h=>by
  simp only [zq3,T.evs]at h;cases hc:decide (i=(k:Int)) with
  | true=>
   simp [hc]at h
   exact ⟨0,by omega,by simpa using hc,h.symm⟩
  | false=>
   simp only [hc,qaf]at h;obtain ⟨j,h1,h2,h3⟩:=zq2 n (k+1) h;exact ⟨j+1,by omega,by rw [h2];congr 1;omega,by rw [h3,show k+1+j=k+(j+1) by omega]⟩
theorem zzc(ht:TEok P te)(hb:RB cx fs w env own){t:TypeId}{x p:Lf}{k:IntKind}{i:Int}{v:Value}(h:(zzK te t x i).evs fs=some p)(hx:LfR w.heap (cx.ok own) env x v):
 ∃ u,(Instr.indexAt t v (.int k i)).run P w = .ok u w/\LfR w.heap (cx.ok own) env p u:=by
 obtain ⟨r,h1,h2⟩:=zaa.1 h;obtain ⟨htr,hr⟩:=zb3 ht h1;subst htr;split at h2
 . rename_i e' hty
   obtain ⟨hu,inf,_,hi,hsz,_⟩:=hr.slice e' hty;split at h2
   . rename_i e l;obtain ⟨_,h3,h4⟩:=zaa.1 h2;obtain ⟨_,h5,h6⟩:=zaa.1 h4;have h3:=qan (zah.1 h3);obtain ⟨q1,q2,q3⟩:=zu3 (zcC.1 h5);simp at h6;subst h6
     obtain ⟨p,c,hv,hp,hr,_⟩:=(show Fits _ _ (.slice e) l [v] from hx)
     simp at hv;subst hv
     cases p with
     | none=>have:=hp rfl;subst this;simp at q3
     | some y=>
      have hy:=hr y rfl (fun h=>by rw [h]at q3;simp at q3)
      exact ⟨_,zlZ hu hi ⟨q1,q2⟩ hy.spot,y,q3,by rw [hsz,h3];rfl,hy⟩
   . rename_i b;obtain ⟨c,h3,h4⟩:=zaa.1 h2;simp only [zaS,Option.some.injEq]at h3;subst h3;split at h4
     . rename_i m TT e l hfs;obtain ⟨_,h5,h6⟩:=zaa.1 h4;obtain ⟨_,h7,h8⟩:=zaa.1 h6;have h5:=qan (zah.1 h5);obtain ⟨q1,q2,q3⟩:=zu3 (zcC.1 h7);simp at h8;subst h8
       have hbb:=hb b;rw [hfs]at hbb;obtain ⟨v',e1,e2⟩:=hbb;obtain ⟨hx1,_⟩:=hx;rw [e1]at hx1;simp at hx1;subst hx1
       rcases e2 with ⟨_,rfl⟩ | ⟨g,cap,cur,rfl,hg,_⟩
       . simp at q3
       . exact ⟨_,zlZ hu hi ⟨q1,q2⟩ rfl,g,_,_,e1,q3,by simp [hsz,h5]⟩
     . simp [T.evs]at h4
   . simp [T.evs]at h2
 . split at h2
   . rename_i n e b o hra;obtain ⟨hagg,hu,inf,d,hi,hsz,hpos,_,_,_⟩:=hr.arr n e hra;obtain ⟨j,hj,hij,rfl⟩:=zq2 n 0 h2;simp only [qaH]at hj hij ⊢;obtain ⟨g,q1,rfl⟩:=hx;refine ⟨.pointer (some ⟨g,o+j*e.size,none⟩),?_,g,q1,rfl⟩;subst hij;have hj2:((j:Int)).toNat=j:=by omega
     have h3:(0:Int)<=(j:Int)/\(j:Int)<n:=by omega
     simp [Instr.indexAt,asIntOf,run_underlying hu,zbv hi,Instr.sureAddr,Addr.add_lit,hsz]
     omega
   . simp [T.evs]at h2
theorem zsY{s:TypeId}{fl:Array Field}{f:Nat}{fd:Field}{i:TypeInfo}(hu:P.underlying s=some (.struct fl))(hf:fl[f]?=some fd)(hi:P.info? fd.type=some i)(h0:0<i.size){g o:Nat}:
 (Instr.fieldAt s (.pointer (some ⟨g,o,none⟩)) f).run P w = .ok (.pointer (some ⟨g,o+fd.offset,none⟩)) w:=by
 have:i.size≠0:=by omega
 simp [Instr.fieldAt,run_underlying hu,hf,Instr.sureAddr,fieldPlace,zbv hi,this,Addr.add_lit]
theorem Row.isStruct_ok{r:Row}(h:r.isStruct=true):r.ty.isAgg=true/\r.arr=none:=by
 simp only [Row.isStruct,qae,Option.isNone_iff_eq_none]at h;exact h
theorem RowOk.field{r:Row}(hr:RowOk P te r)(hagg:r.isStruct=true){f:Nat}{p:Nat×Ty}(h:r.fields[f]?=some p):∃ fl fd i d,P.underlying r.t=some (.struct fl)/\fl[f]?=some fd/\fd.offset=p.1/\P.info? fd.type=some i/\i.size=p.2.size/\0<p.2.size/\P.underlying fd.type=some d/\aggD d=p.2.isAgg:=by
 obtain ⟨fl,h1,h2,h3⟩:=hr.struct (Row.isStruct_ok hagg).1 (Row.isStruct_ok hagg).2;have hlt:f<fl.size:=by rw [h2];exact (qap.1 h).1
 obtain ⟨p',e1,e2,i,d,e3,e4,e5,e6,e7⟩:=h3 f fl[f] (qby hlt);rw [h]at e1;cases e1
 exact ⟨fl,fl[f],i,d,h1,qby hlt,e2,e3,e4,e5,e6,e7⟩
theorem zzg(ht:TEok P te){s:TypeId}{x p:Lf}{f:Nat}{v:Value}(h:(zzN te s x f).evs fs=some p)(hx:LfR w.heap (cx.ok own) env x v):
 ∃ u,(Instr.fieldAt s v f).run P w = .ok u w/\LfR w.heap (cx.ok own) env p u:=by
 obtain ⟨r,h1,h2⟩:=zaa.1 h;obtain ⟨htr,hr⟩:=zb3 ht h1;subst htr;obtain ⟨_,ha,h2⟩:=zaa.1 h2;obtain ⟨⟨off,ty⟩,h3,h4⟩:=zaa.1 h2;simp only [zbb]at h3;obtain ⟨fl,fd,i,d,e1,e2,e3,e4,e5,e6,_⟩:=hr.field (zah.1 ha) h3;have run:=fun (g o:Nat)=>zsY (w:=w) e1 e2 e4 (by omega) (g:=g) (o:=o)
 simp only at e3
 dsimp only at h4
 split at h4
 . simp at h4;subst h4
   obtain ⟨g,f1,rfl⟩:=hx;exact ⟨_,run _ _,g,f1,by rw [e3]⟩
 . simp at h4;subst h4
   obtain ⟨g,n,c,f1,f2,rfl⟩:=hx;exact ⟨_,run _ _,g,n,c,f1,f2,by rw [e3,Nat.add_assoc]⟩
 . simp at h4;subst h4
   obtain ⟨y,f2,rfl,f3⟩:=hx;exact ⟨_,run _ _,y,f2,by rw [e3,Nat.add_assoc],f3⟩
 . simp [T.evs]at h4
theorem part_ok(ht:TEok P te){s:TypeId}{a b:AV}{f:Nat}{v:Value}{h0:Array Obj}{ok:Nat->Prop}{env:Nm}(h:(partT te s a f).evs fs=some b)(hx:AvR h0 ok env a v):
 ∃ u,(Instr.field s v f).run P w = .ok u w/\AvR h0 ok env b u:=by
 obtain ⟨r,h1,h2⟩:=zaa.1 h;obtain ⟨htr,hr⟩:=zb3 ht h1;subst htr;obtain ⟨_,ha,h2⟩:=zaa.1 h2;obtain ⟨⟨off,ty⟩,h3,h4⟩:=zaa.1 h2;simp only [zbb]at h3;obtain ⟨fl,fd,i,d,e1,e2,e3,e4,e5,e6,e7,e8⟩:=hr.field (zah.1 ha) h3;simp only at e3 e5 e8
 dsimp only at h4
 split at h4
 . obtain ⟨a1,h5,h6⟩:=zaa.1 h4;simp at h6;subst h6
   obtain ⟨cs,rfl,hc⟩:=hx;obtain ⟨k1,k2⟩:=zmQ h5 hc;refine ⟨_,?_,k2⟩;simp only [Instr.field,Sem.run_bind,run_underlying e1,Result.andThen_ok,e2,asAgg,Sem.run_pure,part,zlY e7,e8,e3,zaW];cases hag:ty.isAgg with
   | true=>
    simp only [if_true,Sem.run_bind,zbv e4,Result.andThen_ok,e5,Sem.run_pure];congr 2
    apply Array.toList_inj.1
    simp [Array.toList_extract,List.extract,List.take_drop,Nat.add_comm]
   | false=>
    have hs1:ty.size=1:=by cases hty:ty <;> simp_all [Ty.isAgg,Ty.size]
    rw [hs1]at k1 ⊢
    have hlt:off<cs.size:=by simp at k1;omega
    simp only [qbm,qbj,qby hlt,Sem.run_pure];congr 1
    rw [qaU (by simpa using hlt)]
    simp
 . simp [T.evs]at h4
end
end Go.VI
namespace Go.VI
open Go Go.RowKit
section
variable {P:Program} {te:TE} {cx:Cx} {fs:FS} {w:World} {env:Nm} {own:Ow} {N:Nat->Prop}
theorem zw5(off:Nat):∀ (l:List Value) (k:Nat) (cs:Array Value),off+k+l.length<=cs.size->((l.zipIdx k).foldl (fun cs p=>cs.setIfInBounds (off+p.2) p.1) cs).toList=cs.toList.take (off+k)++l++cs.toList.drop (off+k+l.length)
 | [],k,cs,_=>by simp
 | v::l,k,cs,h=>by
  simp only [qaJ]at h;simp only [List.zipIdx_cons,qb8];rw [zw5 off l (k+1) _ (by simp;omega)]
  have hm:(cs.toList.take (off+k)).length=off+k:=by simp;omega
  have d1:(cs.toList.take (off+k)).drop (off+k+1+l.length)=[]:=qbk (by omega)
  have t1:(cs.toList.take (off+k)).take (off+k+1)=cs.toList.take (off+k):=qa3 (by omega)
  rw [Array.toList_setIfInBounds,List.set_eq_take_append_cons_drop,if_pos (by rw [qbz];omega)]
  rw [show off+(k+1)=off+k+1 by omega,List.take_append,qbP,hm,t1,d1]
  rw [show off+k+1-(off+k)=1 by omega,show off+k+1+l.length-(off+k)=l.length+1 by omega]
  simp only [qcv,List.take_zero,List.drop_succ_cons,qaS,qbu,qaR,qaM,qaJ];congr 4
  omega
theorem zoK(off:Nat)(v:Array Value)(cs:Array Value)(h:off+v.size<=cs.size):
 (v.zipIdx.foldl (fun cs x=>cs.setIfInBounds (off+x.2) x.1) cs).toList=cs.toList.take off++v.toList++cs.toList.drop (off+v.toList.length):=by
 rw [<-Array.foldl_toList,Array.toList_zipIdx];have:=zw5 off v.toList 0 cs (by simpa using h)
 simpa using this
theorem zx0{act:Act}(hs:RS cx fs act.tmps w env own){fl:List (Nat×Ty)}:∀ {ps:List (Nat×Operand)} {xs zs:List Lf} {cells:Array Value},(zv1 fl ps xs).evs fs=some zs->All2 (LfR w.heap (cx.ok own) env) xs cells.toList ->
 ∃ cells',Instr.fill (fun i=>(fl.map fun p=>(p.1,p.2.size))[i]?) cells (ps.map fun p=>(p.1,act.eval p.2))=some cells'/\All2 (LfR w.heap (cx.ok own) env) zs cells'.toList
 | [],xs,zs,cells,h,hx=>by simp [zv1,T.evs]at h;subst h;exact ⟨cells,rfl,hx⟩
 | (f,x)::ps,xs,zs,cells,h,hx=>by
  simp only [zv1]at h;obtain ⟨⟨off,t⟩,h1,h2⟩:=zaa.1 h;obtain ⟨a,h3,h4⟩:=zaa.1 h2;obtain ⟨ys,h5,h6⟩:=zaa.1 h4;obtain ⟨_,h7,h8⟩:=zaa.1 h6;obtain ⟨us,h9,h10⟩:=zaa.1 h8;simp only [zbb]at h1;have hys:=ziw h5 (zdN hs h3);have hl:=qan (zah.1 h7);rw [hys.len]at hl;obtain ⟨k1,k2⟩:=zlS h9 hx hys;have hsz:(act.eval x).cells.size=t.size:=by rw [<-hl];simp
  have hb:off+(act.eval x).cells.size<=cells.size:=by simpa using k1
  have hf:=zoK off (act.eval x).cells cells hb;rw [<-hf]at k2;obtain ⟨c',e1,e2⟩:=zx0 hs h10 k2;refine ⟨c',?_,e2⟩;simp only [qaX,Instr.fill,qbc,h1,qbI];rw [if_neg (by simp [hsz];omega)]
  simpa [hsz] using e1
theorem zqZ:∀ (fl:List Field) (ps:List (Nat×Ty)),fl.length=ps.length->(∀ (j:Nat) f,fl[j]?=some f->∃ p,ps[j]?=some p/\f.offset=p.1/\∃ i,P.info? f.type=some i/\i.size=p.2.size) ->
 fl.mapM (fun f=>(P.info? f.type).map fun i=>(f.offset,i.size))=some (ps.map fun p=>(p.1,p.2.size))
 | [],[],_,_=>rfl
 | f::fl,p::ps,hl,h=>by
  obtain ⟨p',e1,e2,i,e3,e4⟩:=h 0 f rfl;simp at e1;subst e1
  have ih:=zqZ fl ps (by simpa using hl) fun j f hf=>by simpa using h (j+1) f (by simpa using hf)
  simp [List.mapM_cons,e3,e2,e4,ih]
 | [],_::_,hl,_=>by simp at hl
 | _::_,[],hl,_=>by simp at hl
theorem zr1{f g:Nat->Option (Nat×Nat)}(h:∀ k p,f k=some p->g k=some p):∀ {ps:List (Nat×Value)} {cs cs':Array Value},Instr.fill f cs ps=some cs'->Instr.fill g cs ps=some cs'
 | [],_,_,h1=>h1
 | (k,v)::ps,cs,cs',h1=>by
  simp only [Instr.fill]at h1 ⊢;cases hk:f k with
  | none=>simp [hk]at h1
  | some p=>
   rw [h k p hk];simp only [hk]at h1;simp only
   split at h1
   . cases h1
   . rename_i hc;rw [if_neg hc];exact zr1 h h1
theorem zzp(ht:TEok P te){act:Act}(hs:RS cx fs act.tmps w env own){t:TypeId}{r:Row}(h1:(tyT te t).evs fs=some r)(hagg:r.ty.isAgg=true){ps:Array (Nat×Operand)}{zs:List Lf}
 (h:(zv1 r.fields ps.toList (zqI r.ty)).evs fs=some zs):∃ v,(Instr.build t (ps.map fun (i,x)=>(i,act.eval x))).run P w = .ok v w/\AvR w.heap (cx.ok own) env (.v (.agg zs)) v:=by
 obtain ⟨htr,hr⟩:=zb3 ht h1;subst htr;obtain ⟨i,z,hi,hsz,hz,hzc⟩:=hr.info;obtain ⟨c',e1,e2⟩:=zx0 hs h (cells:=z.cells) (by rw [hzc];exact zo5 _)
 cases harr:r.arr with
 | some p=>
  obtain ⟨n,e⟩:=p;obtain ⟨_,hu,ie,d,hie,hse,_,_,_,hfl⟩:=hr.arr n e harr;refine ⟨.agg c',run_build w r.t _ c' ?_,c',rfl,e2⟩;unfold Program.built;simp only [hi,hu,hz,hie];rw [hfl]at e1;simp only [qcy];refine zr1 (fun k p hk=>?_) e1
  simp only [List.map_map,qbc,qb4]at hk;obtain ⟨j,hj,hjp⟩:=hk;have:=qap.1 hj
  obtain ⟨_,hjk⟩:=this;simp at hjk
  subst hjk;rw [<-hjp,hse];rfl
 | none=>
  obtain ⟨fl,hu,hl,hf⟩:=hr.struct hagg harr;have hp:=zqZ (P:=P) fl.toList r.fields (by simpa using hl) fun j f hj=>by
   obtain ⟨p,q1,q2,i,d,q3,q4,_⟩:=hf j f (by simpa using hj)
   exact ⟨p,q1,q2,i,q3,q4⟩
  refine ⟨.agg c',run_build w r.t _ c' ?_,c',rfl,e2⟩;unfold Program.built;simp only [hi,hu,hz,hp];rw [<-e1];simp only [qcy];congr 1
  funext j
  simp
theorem zvh(hb:RB cx fs w env own){act:Act}(hs:RS cx fs act.tmps w env own){e:Ty}:∀ {ps:List (Nat×Operand)} {j:Nat} {vs:List e.den} {ws:Ws} {cells:Array Value},(ziF e j ps).evs fs=some (vs,ws) ->
 (j+ps.length)*e.size<=cells.size->∃ (ds:List Value) (cells':Array Value),Instr.fill (fun i=>some (i*e.size,e.size)) cells (ps.map fun p=>(p.1,act.eval p.2))=some cells' /\
  cells'.toList=cells.toList.take (j*e.size)++ds++cells.toList.drop ((j+ps.length)*e.size)/\ds.length=ps.length*e.size/\vs.length=ps.length/\Frz fs ws /\
  ∀ bs,(∀ p∈ws,p.1∈bs)->∀ i (hi:i<vs.length),Fits w.heap (cx.ok (unown own bs)) e vs[i] ((ds.drop (i*e.size)).take e.size)
 | [],j,vs,ws,cells,h,hl=>by
  simp [ziF,T.evs]at h
  obtain ⟨rfl,rfl⟩:=h;exact ⟨[],cells,rfl,by simp,by simp,rfl,Frz.nil,fun _ _ i hi=>by simp at hi⟩
 | (i,x)::ps,j,vs,ws,cells,h,hl=>by
  simp only [ziF]at h;obtain ⟨_,h1,h2⟩:=zaa.1 h;obtain ⟨a,h3,h4⟩:=zaa.1 h2;obtain ⟨ys,h5,h6⟩:=zaa.1 h4;obtain ⟨⟨v,rest,w1⟩,h7,h8⟩:=zaa.1 h6;obtain ⟨_,h9,h10⟩:=zaa.1 h8;obtain ⟨⟨vs',w2⟩,h11,h12⟩:=zaa.1 h10;simp at h12
  obtain ⟨rfl,rfl⟩:=h12;have hij:=qan (zah.1 h1);subst hij;have hrest:rest=[]:=by have:=zah.1 h9;simpa using this
  subst hrest;have hys:=ziw h5 (zdN hs h3);obtain ⟨f1,c1,c2,hc,hr0,hfit⟩:=zcf hb h7 hys;have:c2=[]:=by cases c2 with
   | nil=>rfl
   | cons _ _=>exact hr0.elim
  subst this;rw [qaW]at hc;have hlen:(act.eval x).cells.toList.length=e.size:=by rw [hc];exact (hfit (nms w1) fun p hp=>qav.2 ⟨p,hp,rfl⟩).len
  have hsz:(act.eval x).cells.size=e.size:=by simpa using hlen
  simp only [qaJ]at hl;have hmul:(i+(ps.length+1))*e.size=i*e.size+e.size+ps.length*e.size:=by simp only [qaO,qa6];omega
  have hf:=zoK (i*e.size) (act.eval x).cells cells (by rw [hsz];omega)
  generalize hg:((act.eval x).cells.zipIdx.foldl (fun cs x=>cs.setIfInBounds (i*e.size+x.2) x.1) cells)=mid at hf
  have hmid:mid.size=cells.size:=by
   have:=congrArg List.length hf
   simp only [qaD,qau,qaK,qbz]at this;omega
  obtain ⟨ds,c',e1,e2,e3,e4,e5,e6⟩:=zvh hb hs (cells:=mid) h11 (by rw [hmid,show i+1+ps.length=i+(ps.length+1) by omega];exact hl)
  refine ⟨(act.eval x).cells.toList++ds,c',?_,?_,?_,by simp [e4],f1.append e5,fun bs hbs k hk=>?_⟩
  . simp only [qaX,Instr.fill];rw [if_neg (by simp only [ne_eq,hsz,not_true_eq_false,decide_false,Bool.false_or,qab];omega)]
    rw [hg];exact e1
  . rw [e2,hf];have a1:(cells.toList.take (i*e.size)).length=i*e.size:=by simp;omega
    rw [show (i+1)*e.size=i*e.size+e.size by simp [qaO],qaJ,show i+(ps.length+1)=i+1+ps.length by omega]
    rw [qbZ (by simp only [qaD,a1,hlen];omega),qa3 (by simp only [qaD,a1,hlen];omega)]
    have:(i+1+ps.length)*e.size=i*e.size+e.size+ps.length*e.size:=by rw [<-hmul];congr 1;omega
    rw [this,qbP,qbk (by simp only [qaD,a1,hlen];omega),qaS,qbu]
    simp only [qaD,a1,hlen,qaR];congr 4
    omega
  . simp only [qaD,hlen,e3,qaJ,qaO,qa6];omega
  . cases k with
    | zero=>
     simp only [Nat.zero_mul,qb3];rw [qbZ (by omega),qa3 (by omega)]
     rw [hc];exact hfit bs fun p hp=>hbs p (by simp [hp])
    | succ k=>
     simp only [List.getElem_cons_succ];rw [show (k+1)*e.size=(act.eval x).cells.toList.length+k*e.size by rw [hlen,qaO,qa6];omega,qbP,qbk (by omega),qaS,qcG]
     exact e6 bs (fun p hp=>hbs p (by simp [hp])) k (by simpa using hk)
end
end Go.VI
namespace Go.VI
open Go Go.RowKit
section
variable {P:Program} {te:TE} {cx:Cx} {fs:FS} {w:World} {env:Nm} {own:Ow} {N:Nat->Prop}
theorem zxD(hw:RW cx w env own N)(hb:RB cx fs w env own){nm:Nat}(hn:¬N nm){T:TypeId}{xs:List Lf}{cs:Array Value}(hx:All2 (LfR w.heap (cx.ok own) env) xs cs.toList):
 Post cx fs w env own [(nm,.box T xs)] (w.alloc (.cells cs T)) (updE env nm (.pointer (some ⟨w.heap.size,0,none⟩))) (updO own w.heap.size nm) (fun b=>N b\/b=nm) /\
 LfR (w.alloc (.cells cs T)).heap (cx.ok (updO own w.heap.size nm)) (updE env nm (.pointer (some ⟨w.heap.size,0,none⟩))) (.bptr nm 0) (.pointer (some ⟨w.heap.size,0,none⟩)):=by
 have he:=zmI hw hn (.cells cs T) (.pointer (some ⟨w.heap.size,0,none⟩));refine ⟨Post.new hw hb hn ⟨w.heap.size,cs,by simp [updE],heap_alloc_new w _,hx.mono fun _ _=>LfR.mono he.heap he.env,by simp [updO]⟩,w.heap.size,by simp [updE],rfl⟩
theorem zxE(hw:RW cx w env own N)(hb:RB cx fs w env own){nm:Nat}(hn:¬N nm){T:TypeId}{e:Ty}{l:List e.den}{cap:Nat}{cs:Array Value}(hc:l.length<=cap)(hm:cap<=maxLen)(hs:cs.size=cap*e.size)
 (hx:∀ i (hi:i<l.length),Fits w.heap (cx.ok own) e l[i] ((cs.toList.drop (i*e.size)).take e.size)) :
 Post cx fs w env own [(nm,.arr true T e l)] (w.alloc (.cells cs T)) (updE env nm (.slice (some ⟨w.heap.size,0,none⟩) l.length cap)) (updO own w.heap.size nm) (fun b=>N b\/b=nm) /\
 LfR (w.alloc (.cells cs T)).heap (cx.ok (updO own w.heap.size nm)) (updE env nm (.slice (some ⟨w.heap.size,0,none⟩) l.length cap)) (.own nm) (.slice (some ⟨w.heap.size,0,none⟩) l.length cap):=by
 have he:=zmI hw hn (.cells cs T) (.slice (some ⟨w.heap.size,0,none⟩) l.length cap);refine ⟨Post.new hw hb hn ⟨_,by simp only [updE,if_true],.inr ⟨w.heap.size,cap,cs,rfl,heap_alloc_new w _,hc,hm,hs,fun i hi=>(hx i hi).mono he.heap,fun _=>⟨by simp [updO],.inl hw.size⟩,fun h=>by cases h⟩⟩,by simp [updE],_,_,_,rfl⟩
theorem zzr(ht:TEok P te)(hw:RW cx w env own N)(hb:RB cx fs w env own){t:TypeId}{r:Row}{nm:Nat}(hn:¬N nm)(h1:(tyT te t).evs fs=some r):
 ∃ v w' env' own',(Instr.alloc t true (.tuple #[])).run P w = .ok v w'/\Post cx fs w env own [(nm,.box t (zqI r.ty))] w' env' own' (fun b=>N b\/b=nm)/\LfR w'.heap (cx.ok own') env' (.bptr nm 0) v:=by
 obtain ⟨htr,hr⟩:=zb3 ht h1;subst htr;obtain ⟨i,z,hi,hsz,hz,hzc⟩:=hr.info;obtain ⟨p1,p2⟩:=zxD hw hb hn (T:=r.t) (xs:=zqI r.ty) (cs:=z.cells) (by rw [hzc];exact zo5 _)
 refine ⟨_,_,_,_,?_,p1,p2⟩;simp [Instr.alloc,zeroValue,typeInfo,hi,hz,newVar,newRow]
theorem box_ok(ht:TEok P te)(hw:RW cx w env own N)(hb:RB cx fs w env own){t:TypeId}{nm:Nat}(hn:¬N nm){ys:List Lf}{x:Value}(hx:All2 (LfR w.heap (cx.ok own) env) ys x.cells.toList):
 ∃ v w' env' own',(Instr.box t x).run P w = .ok v w'/\Post cx fs w env own [(nm,.box t ys)] w' env' own' (fun b=>N b\/b=nm)/\LfR w'.heap (cx.ok own') env' (.bptr nm 0) v:=by
 obtain ⟨p1,p2⟩:=zxD hw hb hn (T:=t) hx
 exact ⟨_,_,_,_,by simp [Instr.box,newVar,newRow],p1,p2⟩
theorem zqg(ht:TEok P te)(hw:RW cx w env own N)(hb:RB cx fs w env own){act:Act}(hs:RS cx fs act.tmps w env own){t:TypeId}{r:Row}{nm:Nat}(hn:¬N nm)(h1:(tyT te t).evs fs=some r){e:Ty}(hty:r.ty = .slice e)
 {ps:Array (Nat×Operand)} {vs:List e.den} {ws:Ws} (h2:(ziF e 0 ps.toList).evs fs=some (vs,ws)) {n:Nat} (hv:n=vs.length) (hsmall:n*e.size<=1000) :
 ∃ v w' env' own',(Instr.buildSlice t n (ps.map fun (i,x)=>(i,act.eval x))).run P w = .ok v w'/\Post cx fs w env own ((nm,.arr true r.elem e vs)::ws) w' env' own' (fun b=>N b\/b=nm)/\LfR w'.heap (cx.ok own') env' (.own nm) v:=by
 obtain ⟨htr,hr⟩:=zb3 ht h1;subst htr;obtain ⟨hu,i,z,hi,hsz,_,hpos,_,hz,hzc⟩:=hr.slice e hty;have hzs:z.cells.size=e.size:=by have:=congrArg List.length hzc;simpa [zdH] using this
 have hstart:∃ zz:Array Value,((if n*i.size=0 then pure #[] else (zeroValue r.elem >>= fun v=>pure v.cells):Sem (Array Value)).run P w = .ok zz w):=by
  by_cases h0:n*i.size=0
  . exact ⟨#[],by simp [h0]⟩
  . exact ⟨z.cells,by simp [h0,zeroValue,typeInfo,hi,hz]⟩
 obtain ⟨zz,hrun0⟩:=hstart;obtain ⟨cells0,hcells0,hc0⟩:∃ cells0:Array Value,(Array.range (n*i.size)).map (zz[· % zz.size]!)=cells0/\cells0.size=n*e.size:=⟨_,rfl,by simp [hsz]⟩
 obtain ⟨ds,c',e1,e2,e3,e4,e5,e6⟩:=zvh hb hs (cells:=cells0) h2 (by
  have:ps.toList.length=vs.length:=by
   have:∀ (l:List (Nat×Operand)) (j:Nat) (vs:List e.den) (ws:Ws),(ziF e j l).evs fs=some (vs,ws)->l.length=vs.length:=by
    intro l;induction l with
    | nil=>intro j vs ws h;simp [ziF,T.evs]at h;simp [h.1]
    | cons p l ih=>
     obtain ⟨i,x⟩:=p;intro j vs ws h;simp only [ziF]at h;obtain ⟨_,_,h⟩:=zaa.1 h;obtain ⟨_,_,h⟩:=zaa.1 h;obtain ⟨_,_,h⟩:=zaa.1 h;obtain ⟨⟨_,_,_⟩,_,h⟩:=zaa.1 h;obtain ⟨_,_,h⟩:=zaa.1 h;obtain ⟨⟨vs',w2⟩,h11,h⟩:=zaa.1 h;simp at h
     rw [<-h.1];simp [ih _ _ _ h11]
   exact this _ _ _ _ h2
  rw [this,hc0,hv,qaH];exact qao _)
 have hl:ps.toList.length=n:=by rw [hv];exact e4.symm
 simp only [Nat.zero_mul,List.take_zero,qaS,qaH,hl]at e2;rw [qbk (by simp [hc0]),qaW]at e2
 have hlen:c'.size=n*e.size:=by rw [<-qbz,e2,e3,hl]
 have hw1:=hw.unown (nms ws);have hb1:=hb.freeze e5;have hN:n<=maxLen:=by
  have:n<=n*e.size:=qcx _ hpos
  simp only [maxLen];omega
 obtain ⟨p1,p2⟩:=zxE hw1 hb1 hn (T:=r.elem) (e:=e) (l:=vs) (cap:=n) (cs:=c') (by omega) hN hlen (fun i hi=>by
  rw [e2];exact e6 (nms ws) (fun p hp=>qav.2 ⟨p,hp,rfl⟩) i hi)
 refine ⟨_,_,_,_,?_,(Post.freeze hw hb e5).trans (b2:=[(nm,_)]) p1,p2⟩
 have hbig:¬n*i.size > 2 ^ 24:=by rw [hsz];omega
 have hfill:Instr.fill (fun j=>some (j*i.size,i.size)) cells0 (ps.map fun (i,x)=>(i,act.eval x)).toList=some c':=by
  rw [hsz,<-e1,qcy]
 by_cases h0:n*i.size=0
 . have hz0:zz=#[]:=by simpa [h0] using hrun0.symm
   subst hz0;simp [Instr.buildSlice,run_underlying hu,zbv hi,hbig,h0]
   simp [h0]at hcells0
   subst hcells0;simp at hfill
   simp [hfill,newRow,hv]
 . have hz0:zz=z.cells:=by simpa [h0,zeroValue,typeInfo,hi,hz] using hrun0.symm
   subst hz0;have h0':¬(n=0\/i.size=0):=by simpa [Nat.mul_eq_zero] using h0
   simp only [Instr.buildSlice,Sem.run_bind,run_underlying hu,Result.andThen_ok,zbv hi,hbig,h0,qbj,Sem.run_pure,zeroValue,typeInfo,run_program,hi,hz,hcells0,hfill];simp [newRow,hv]
theorem zoy{z:Array Value}{n k i:Nat}(hz:z.size=k)(hk:0<k)(hi:i<n):((madeCells z (n*k)).toList.drop (i*k)).take k=z.toList:=by
 have hle:i*k+k<=n*k:=by
  calc i*k+k=(i+1)*k:=by rw [qaO,qa6]
   _<=n*k:=qaT _ (by omega)
 apply qbw
 intro j;simp only [madeCells,qcy,Array.toList_range,qa7,qbb,qbc];by_cases hj:j<k
 . rw [if_pos hj,List.getElem?_range (by omega),qbI,hz]
   have:(i*k+j) % k=j:=by rw [Nat.mul_comm,Nat.mul_add_mod];exact Nat.mod_eq_of_lt hj
   rw [this,Array.getElem?_toList,Array.getElem!_eq_getD,qbh,qby (by omega)]
   rfl
 . rw [if_neg hj,Array.getElem?_toList,Array.getElem?_eq_none (by omega)]
theorem small_spec{n b:Nat}(h:zaA n b=true):n*b<=140737488355328:=qa5 h
theorem zrI(ht:TEok P te)(hw:RW cx w env own N)(hb:RB cx fs w env own){t:TypeId}{r:Row}{nm:Nat}(hn:¬N nm)(h1:(tyT te t).evs fs=some r){e:Ty}(hty:r.ty = .slice e){kl kc:IntKind}{n m:Int}
 (h2:0<=n/\n<=m) (h3:zaA m.toNat r.bytes=true) :
 ∃ v w' env' own',(Instr.makeSlice t (.int kl n) (.int kc m)).run P w = .ok v w'/\Post cx fs w env own [(nm,.arr true r.elem e (List.replicate n.toNat e.dflt))] w' env' own' (fun b=>N b\/b=nm)/\LfR w'.heap (cx.ok own') env' (.own nm) v:=by
 obtain ⟨htr,hr⟩:=zb3 ht h1;subst htr;obtain ⟨hu,i,z,hi,hsz,hby,hpos,hbp,hz,hzc⟩:=hr.slice e hty;have h3:=small_spec h3;have hzs:z.cells.size=e.size:=by have:=congrArg List.length hzc;simpa [zdH] using this
 have hmm:m.toNat<=m.toNat*r.bytes:=qcx _ hbp
 have hb':(i.bytes:Int)*m<=281474976710656:=by
  have h4:m=(m.toNat:Int):=by omega
  rw [hby,h4,<-qct,Nat.mul_comm];omega
 have hrun:=run_make (P:=P) w r.t r.elem i z hu hi hz kl kc n m h2.1 h2.2 hb' (by omega)
 rw [hsz]at hrun;have hl:(List.replicate n.toNat e.dflt).length=n.toNat:=by simp
 obtain ⟨p1,p2⟩:=zxE hw hb hn (T:=r.elem) (e:=e) (l:=List.replicate n.toNat e.dflt) (cap:=m.toNat) (cs:=madeCells z.cells (m.toNat*e.size)) (by simp;omega) (by simp only [maxLen];omega) (by simp [size_madeCells]) (fun i hi=>by
  rw [zoy hzs hpos (by simp at hi;omega),hzc]
  simpa using zex e)
 rw [hl]at p1 p2;exact ⟨_,_,_,_,hrun,p1,p2⟩
theorem zyC(ht:TEok P te)(hw:RW cx w env own N)(hb:RB cx fs w env own){t:TypeId}{r:Row}(h1:(tyT te t).evs fs=some r){e:Ty}(hty:r.ty = .slice e){x:Lf}{v:Value}{l:List e.den}{ws:Ws}
 (h2:(zl6 true e x).evs fs=some (l,ws)) (hx:LfR w.heap (cx.ok own) env x v) {lo hi:Option Value} {a b:Int} (hlo:(lo=none/\a=0)\/∃ k,lo=some (.int k a)) (hhi:(hi=none/\b=l.length)\/∃ k,hi=some (.int k b))
 (hab:0<=a/\a<=b/\b<=l.length) :
 ∃ u own',(Instr.sliceAt t v lo hi none).run P w = .ok u w/\Post cx fs w env own ws w env own' N/\LfR w.heap (cx.ok own') env (.imm (.slice e) ((l.take b.toNat).drop a.toNat)) u:=by
 obtain ⟨htr,hr⟩:=zb3 ht h1;subst htr;obtain ⟨hu,i,z,hi',hsz,_⟩:=hr.slice e hty;obtain ⟨_,hfz,_,hfit⟩:=zf5 hb h2 hx;obtain ⟨p,c,hv,hp,hrow,hc⟩:=hfit rfl (nms ws) fun p hp=>qav.2 ⟨p,hp,rfl⟩
 simp at hv;subst hv
 have bound:∀ (k:IntKind) (q:Int) (y:Nat) (code:BoundsCode),0<=q->q<=y->(Instr.sliceBound (.int k q) y code).run P w = .ok q.toNat w:=fun k q y code h0 h1=>by
  simp [Instr.sliceBound,asIntOf,h0,h1]
 have hbounds:(Instr.sliceBounds true l.length c lo hi none).run P w = .ok (a.toNat,b.toNat,c) w:=by
  rcases hlo with ⟨rfl,rfl⟩ | ⟨k,rfl⟩ <;> rcases hhi with ⟨rfl,rfl⟩ | ⟨k',rfl⟩
  . simp [Instr.sliceBounds]
  . simp [Instr.sliceBounds,bound k' b c _ (by omega) (by omega)]
  . simp [Instr.sliceBounds,bound k a l.length _ (by omega) (by omega)]
  . simp [Instr.sliceBounds,bound k' b c _ (by omega) (by omega),bound k a b.toNat _ (by omega) (by omega)]
 refine ⟨.slice (if c=a.toNat then p else p.map (·.add (a.toNat*e.size))) (b.toNat-a.toNat) (c-a.toNat),unown own (nms ws),?_,Post.freeze hw hb hfz,?_⟩
 . simp [Instr.sliceAt,Instr.slice,run_underlying hu,hbounds,zbv hi',hsz]
 . have hlen:((l.take b.toNat).drop a.toNat).length=b.toNat-a.toNat:=by simp;omega
   refine ⟨_,_,by rw [hlen],?_,?_,by omega⟩
   . intro h0;have:p=none:=by
      split at h0
      . exact h0
      . cases p <;> simp_all
     have:=hp this
     subst this;simp
   . intro y hy hne;by_cases hca:c=a.toNat
     . have h0:b.toNat-a.toNat=0:=by omega
       have hnil:(l.take b.toNat).drop a.toNat=[]:=qbT (by omega)
       exact absurd hnil hne
     . rw [if_neg hca]at hy;cases p with
       | none=>simp at hy
       | some x=>
        simp at hy;subst hy
        obtain ⟨s1,s2,cur,T,fz,g1,g2,g3⟩:=hrow x rfl (fun h=>hne (by simp [h]))
        obtain ⟨xb,xo,xs⟩:=x;simp only at s1;subst s1
        have hmul:a.toNat*e.size+(b.toNat-a.toNat)*e.size<=l.length*e.size:=by
         rw [<-qaO];exact qaT _ (by omega)
        refine ⟨by rw [Addr.add_lit],by rw [Addr.add_lit];exact s2,cur,T,fz,by rw [Addr.add_lit];exact g1,by rw [Addr.add_lit,hlen];simp only at g2 ⊢;omega,fun i hi=>?_⟩
        rw [hlen]at hi;have:=g3 (a.toNat+i) (by omega)
        simp only [Addr.add_lit];simp only at this
        rw [qaO,<-Nat.add_assoc]at this;simpa [qcd,qcj] using this
theorem zsU(ht:TEok P te)(hb:RB cx fs w env own){t:TypeId}{r:Row}(h1:(tyT te t).evs fs=some r){e:Ty}(hty:r.ty = .slice e){bb:Nat}{v:Value}{l:List e.den}{ws:Ws}
 (h2:(zl6 false e (.own bb)).evs fs=some (l,ws)) (hx:LfR w.heap (cx.ok own) env (.own bb) v) {lo hi:Option Value} {a b:Int} (hlo:(lo=none/\a=0)\/∃ k,lo=some (.int k a)) (hhi:(hi=none/\b=l.length)\/∃ k,hi=some (.int k b))
 (hab:0<=a/\a<=b/\b<=l.length) :
 ∃ u,(Instr.sliceAt t v lo hi none).run P w = .ok u w/\LfR w.heap (cx.ok own) env (.sub bb e.size a.toNat (b-a).toNat) u:=by
 obtain ⟨htr,hr⟩:=zb3 ht h1;subst htr;obtain ⟨hu,i,z,hi',hsz,_⟩:=hr.slice e hty;obtain ⟨⟨p,c,hv,_,_,hc⟩,_⟩:=zf5 hb h2 hx;subst hv;have bound:∀ (k:IntKind) (q:Int) (y:Nat) (code:BoundsCode),0<=q->q<=y->(Instr.sliceBound (.int k q) y code).run P w = .ok q.toNat w:=fun k q y code h0 h1=>by
  simp [Instr.sliceBound,asIntOf,h0,h1]
 have hbounds:(Instr.sliceBounds true l.length c lo hi none).run P w = .ok (a.toNat,b.toNat,c) w:=by
  rcases hlo with ⟨rfl,rfl⟩ | ⟨k,rfl⟩ <;> rcases hhi with ⟨rfl,rfl⟩ | ⟨k',rfl⟩
  . simp [Instr.sliceBounds]
  . simp [Instr.sliceBounds,bound k' b c _ (by omega) (by omega)]
  . simp [Instr.sliceBounds,bound k a l.length _ (by omega) (by omega)]
  . simp [Instr.sliceBounds,bound k' b c _ (by omega) (by omega),bound k a b.toNat _ (by omega) (by omega)]
 refine ⟨.slice (if c=a.toNat then p else p.map (·.add (a.toNat*e.size))) (b.toNat-a.toNat) (c-a.toNat),by simp [Instr.sliceAt,Instr.slice,run_underlying hu,hbounds,zbv hi',hsz],p,l.length,c,hx.1,by omega,hc,?_⟩
 rw [show (b-a).toNat=b.toNat-a.toNat by omega]
end
end Go.VI
namespace Go.VI
open Go Go.RowKit
section
variable {P:Program} {te:TE} {cx:Cx} {fs:FS} {w:World} {env:Nm} {own:Ow} {N:Nat->Prop}
theorem zhm(base:Nat)(t ty e:TypeId)(i:TypeInfo)(size:Nat)(ht:P.underlying t=some (.slice e))(hi:P.info? e=some i)
 (v:Value) (n:Nat) (xs:List Value) (hown:w.ownsRow base e size v n xs) (c:Nat) :
 (Builtin.append_ #[t,t] ty #[v,.slice none 0 c]).run P w = .ok v w:=by
 rcases hown.2 with ⟨rfl,rfl⟩ | ⟨g,cap,cur,rfl,_,_,hnc,_⟩
 . simp [Builtin.append_,run_underlying ht,sizeOf,typeInfo,hi,Builtin.lenOf,Builtin.firstCells]
 . simp [Builtin.append_,run_underlying ht,sizeOf,typeInfo,hi,Builtin.lenOf,Builtin.firstCells,hnc,storeCells]
theorem zv5{h:Array Obj}{ok:Nat->Prop}{e:Ty}{l:List e.den}{ds:List Value}(hd:ds.length=l.length*e.size)(hf:∀ i (hi:i<l.length),Fits h ok e l[i] ((ds.drop (i*e.size)).take e.size)):∀ u∈ds,u.oneCell'=true:=by
 intro u hu;obtain ⟨j,hj,rfl⟩:=List.getElem_of_mem hu;have hpos:0<e.size:=by
  rcases Nat.eq_zero_or_pos e.size with h0 | h0
  . rw [h0,Nat.mul_zero]at hd;omega
  . exact h0
 have hi:j / e.size<l.length:=by
  rw [Nat.div_lt_iff_lt_mul hpos,<-hd];exact hj
 refine (hf _ hi).one _ ?_;rw [List.mem_iff_getElem?];refine ⟨j % e.size,?_⟩;rw [qa7,if_pos (Nat.mod_lt _ hpos),qbb,Nat.mul_comm,Nat.div_add_mod,qaq hj]
theorem zhn(hw:RW cx w env own N)(hb:RB cx fs w env own){nm:Nat}(hn:¬N nm){TT:TypeId}{e:Ty}{l:List e.den}{v v':Value}{w':World}{n:Nat}{xs:List Value}
 (hl:l.length=n) (hown:w'.ownsRow 0 TT e.size v' n xs) (hgrow:w.grownBy w' v.ownBlock) (hv':v'.ownBlock=v.ownBlock\/∀ g,v'.ownBlock=some g->w.heap.size<=g)
 (hx:∀ i (hi:i<l.length),Fits w.heap (cx.ok own) e l[i] ((xs.drop (i*e.size)).take e.size)) (bb:Option Nat) (hbb:∀ g,v.ownBlock=some g->∃ b,bb=some b/\own g=some b/\cx.low g) (hbn:∀ b,bb=some b->N b)
 (hrange:∀ p n c,v' = .slice p n c->True) (hsl:∃ p n c,v' = .slice p n c) :
 ∃ env' own',Post cx fs w env own ((bb.map fun b=>(b,Cell.no)).toList++[(nm,.arr true TT e l)]) w' env' own' (fun b=>N b\/b=nm)/\LfR w'.heap (cx.ok own') env' (.own nm) v':=by
 let own':Ow:=fun c=>if v'.ownBlock=some c then some nm else if v.ownBlock=some c then none else own c
 have hg':∀ g,v'.ownBlock=some g->cx.low g/\g<w'.heap.size:=fun g hg=>⟨by
  rcases hv' with h | h
  . rw [h]at hg;obtain ⟨b,_,_,h3⟩:=hbb g hg;exact h3
  . exact .inl (qaA hw.size (h g hg)),(hown.lt g hg).2⟩
 have ext:Ext cx w env own w' (updE env nm v') own':=by
  refine ⟨fun c hc hlt=>?_,fun b x hx=>?_⟩
  . have hne:v.ownBlock≠some c:=fun he=>by
     obtain ⟨b,_,h2,_⟩:=hbb c he;rw [hc.1]at h2;cases h2
    have hne':v'.ownBlock≠some c:=fun he=>by
     rcases hv' with h | h
     . rw [h]at he;exact hne he
     . have:=h c he;omega
    exact ⟨⟨by simp only [own'];rw [if_neg hne',if_neg hne];exact hc.1,hc.2⟩,hgrow.block c hlt (Ne.symm hne)⟩
  . simp only [updE];rw [if_neg ?_]
    . exact hx
    . rintro rfl;exact hn (hw.names _ (by simp [hx]))
 refine ⟨updE env nm v',own',⟨⟨hgrow.os.trans hw.os,hgrow.tape.trans hw.tape,hgrow.output.trans hw.output,qaA hw.size hgrow.size,fun c h1 h2=>?_,fun c h=>?_,fun b h=>?_,fun b v hb=>ext.env b v (hw.fix b v hb)⟩,fun b=>?_,ext,hgrow.size⟩,by simp [updE],hsl⟩
 . have hne':v'.ownBlock≠some c:=fun he=>(hg' c he).1.elim (fun h=>by omega) (fun h=>h2 h.1)
   have hne:v.ownBlock≠some c:=fun he=>by
    obtain ⟨b,_,_,h3⟩:=hbb c he;exact h3.elim (fun h=>by omega) (fun h=>h2 h.1)
   have:=hw.old c h1 h2
   have hs:=hw.size;exact ⟨by simp only [own'];rw [if_neg hne',if_neg hne];exact this.1,(hgrow.block c (by omega) (Ne.symm hne)).trans this.2⟩
 . have hne':v'.ownBlock≠some c:=fun he=>by have:=(hg' c he).2;omega
   simp only [own'];rw [if_neg hne'];split
   . rfl
   . exact hw.new c (by have:=hgrow.size;omega)
 . simp only [updE]at h;split at h
   . exact .inr ‹_›
   . exact .inl (hw.names b h)
 . by_cases hbnm:b=nm
   . subst hbnm;have hcell:upd fs ((bb.map fun b=>(b,Cell.no)).toList++[(b,.arr true TT e l)]) (.b b) = .arr true TT e l:=by
      cases bb with
      | none=>simp [upd,Loc.eqb]
      | some b'=>
       have hne:b'≠b:=fun he=>hn (he ▸ hbn b' rfl)
       simp only [qbI,Option.toList_some,qaM,qaS];rw [zch hne,zb0]
     rw [hcell];refine ⟨v',by simp [updE],?_⟩
     rcases hown.2 with ⟨h1,h2⟩ | ⟨g,cap,cur,rfl,hbg,hgg,hnc,hcm,hcs,htake⟩
     . exact .inl ⟨h1,qbT (by omega)⟩
     . refine .inr ⟨g,cap,cur,by rw [hl],hgg,by omega,hcm,hcs,fun i hi=>?_,fun _=>⟨by simp [own',Value.ownBlock],(hg' g (by simp [Value.ownBlock])).1⟩,fun h=>by cases h⟩
       have:=(hx i hi).mono ext.heap
       have hle:i*e.size+e.size<=n*e.size:=by
        calc i*e.size+e.size=(i+1)*e.size:=by rw [qaO,qa6]
         _<=n*e.size:=qaT _ (by omega)
       rw [<-htake,qbK,qbJ,qbE (by omega)]at this
       exact this
   . by_cases hbb':bb=some b
     . subst hbb'
       simp only [qbI,Option.toList_some,qaM];rw [zb0];trivial
     . have hcell:upd fs ((bb.map fun b=>(b,Cell.no)).toList++[(nm,.arr true TT e l)]) (.b b)=fs (.b b):=by
        refine zlL fun p hp=>?_
        rcases qak.1 hp with hp | hp
        . cases bb with
          | none=>simp at hp
          | some b'=>simp at hp;subst hp;exact fun he=>hbb' (by simp [<-he])
        . simp at hp;subst hp;exact Ne.symm hbnm
       rw [hcell];refine (hb b).ext ext fun g hg=>?_
       have hne:v.ownBlock≠some g:=fun he=>by
        obtain ⟨b',h1,h2,_⟩:=hbb g he;rw [hg]at h2;cases h2;exact hbb' h1
       have hlt:=hw.lt hg;have hne':v'.ownBlock≠some g:=fun he=>by
        rcases hv' with h | h
        . rw [h]at he;exact hne he
        . have:=h g he;omega
       exact ⟨by simp only [own'];rw [if_neg hne',if_neg hne];exact hg,hgrow.block g hlt (Ne.symm hne)⟩
theorem zsj(t ty e:TypeId)(i:TypeInfo)(z:Value)(ht:P.underlying t=some (.slice e))(hi:P.info? e=some i)(hz:i.zero=some z)(hsz:0<i.bytes)
 {base:Nat} {v:Value} {n:Nat} {xs:List Value} (hown:w.ownsRow base e i.size v n xs)
 (a:Addr) (m c:Nat) (news:List Value) (hl:news.length=m*i.size) (hnews:∀ j u,news[j]?=some u->w.cell? (a.add j)=some u) (h1:∀ u∈news,u.oneCell'=true)
 (hbytes:(n+m)*i.bytes<=140737488355328) {v':Value} {w':World} (hr:(Builtin.append_ #[t,t] ty #[v,.slice (some a) m c]).run P w = .ok v' w')
 (hnil:v' = .slice none 0 0↔v = .slice none 0 0/\m=0) :
 (v'.ownBlock=v.ownBlock\/∀ g,v'.ownBlock=some g->w.heap.size<=g)/\∃ p n c,v' = .slice p n c:=by
 have h63:n+m<=140737488355328:=qaA (qcx _ hsz) hbytes
 rcases hown.2 with ⟨rfl,rfl⟩ | ⟨g,cap,cur,rfl,hbg,hg,hnc,hcm,hcs,htake⟩
 . by_cases hm:m=0
   . have:=hnil.2 ⟨rfl,hm⟩
     subst this;exact ⟨.inl rfl,_,_,_,rfl⟩
   . have hr2:=run_append_nil (P:=P) w t ty e i z ht hi hz a m c news hl hnews (by omega) (by omega) (by simp only [qaH]at hbytes;omega)
     rw [hr]at hr2;injection hr2 with h1 _
     subst h1;exact ⟨.inr fun g hg=>by simp [Value.ownBlock]at hg;omega,_,_,_,rfl⟩
 . by_cases hroom:n+m<=cap
   . have hfit:n*i.size+news.length<=cur.size:=by rw [hl,hcs,<-qaO];exact qaT _ hroom
     have hr2:=run_append_room (P:=P) w t ty e i ht hi g n cap cur hg a m c news hl hnews h1 hroom hfit
     rw [hr]at hr2;injection hr2 with h1 _
     subst h1;exact ⟨.inl rfl,_,_,_,rfl⟩
   . have holds:∀ j u,xs[j]?=some u->w.cell? ((⟨g,0,none⟩:Addr).add j)=some u:=hown.cells (g:=g) rfl
     have hr2:=run_append_grow (P:=P) w t ty e i z ht hi hz ⟨g,0,none⟩ n cap xs hown.1 holds a m c news hl hnews (by omega) (by omega) (growslice_fits (by omega) hbytes)
     rw [hr]at hr2;injection hr2 with h1 _
     subst h1;exact ⟨.inr fun g hg=>by simp [Value.ownBlock]at hg;omega,_,_,_,rfl⟩
theorem zqT{h:World}{y:Addr}(hy:y.spot=none){cur:Array Value}{T:TypeId}{f:Nat×Nat}(hg:h.heap[y.block]?=some (.cells cur T f))(k:Nat):∀ j u,((cur.toList.drop y.off).take k)[j]?=some u->h.cell? (y.add j)=some u:=by
 intro j u hu;obtain ⟨yb,yo,ys⟩:=y;simp only at hy hg hu
 subst hy;rw [Addr.add_lit,cell_of_row h yb (yo+j) cur T f hg];rw [qa7]at hu;split at hu
 . simpa using hu
 . cases hu
theorem ziK{h:Array Obj}{ok:Nat->Prop}{e:Ty}{l m:List e.den}{xs ys:List Value}(hl:xs.length=l.length*e.size)(hx:∀ i (hi:i<l.length),Fits h ok e l[i] ((xs.drop (i*e.size)).take e.size))
 (hy:∀ i (hi:i<m.length),Fits h ok e m[i] ((ys.drop (i*e.size)).take e.size)):∀ i (hi:i<(l++m).length),Fits h ok e (l++m)[i] (((xs++ys).drop (i*e.size)).take e.size):=by
 intro i hi;by_cases hil:i<l.length
 . rw [qcz hil];have hle:i*e.size+e.size<=xs.length:=by
    rw [hl];calc i*e.size+e.size=(i+1)*e.size:=by rw [qaO,qa6]
     _<=l.length*e.size:=qaT _ (by omega)
   rw [qcn (by omega),qbZ (by simp;omega)]
   exact hx i hil
 . rw [qcE (by omega)]
   have:i*e.size=xs.length+(i-l.length)*e.size:=by rw [hl,<-qaO];congr 1;omega
   rw [this,qbP,qbk (by omega),qaS,qcG]
   exact hy (i-l.length) (by simp at hi;omega)
theorem zyc(ht:TEok P te)(hw:RW cx w env own N)(hb:RB cx fs w env own){t ty:TypeId}{x y:Lf}{vx vy:Value}{nm:Nat}(hn:¬N nm){a:Lf}{bw:Ws}(h:(appT te t x y nm).evs fs=some (a,bw))
 (hx:LfR w.heap (cx.ok own) env x vx) (hy:LfR w.heap (cx.ok own) env y vy) :
 ∃ v' w' env' own',(Builtin.append_ #[t,t] ty #[vx,vy]).run P w = .ok v' w'/\Post cx fs w env own bw w' env' own' (fun b=>N b\/b=nm)/\LfR w'.heap (cx.ok own') env' a v':=by
 obtain ⟨r,h1,h2⟩:=zaa.1 h;obtain ⟨htr,hr⟩:=zb3 ht h1;subst htr;split at h2
 . rename_i e hty;obtain ⟨hu,i,z,hi,hsz,hby,hpos,hbp,hz,hzc⟩:=hr.slice e hty;have hzs:z.cells.size=e.size:=by have:=congrArg List.length hzc;simpa [zdH] using this
   obtain ⟨⟨m,wy⟩,h3,h4⟩:=zaa.1 h2;obtain ⟨⟨p,c,hvy,hpn,hrow,_⟩,_⟩:=zf5 hb h3 hy;subst hvy;have main:∀ {l:List e.den} {vx:Value} {bb:Option Nat},(∃ xs,w.ownsRow 0 r.elem e.size vx l.length xs/\∀ i (hi:i<l.length),Fits w.heap (cx.ok own) e l[i] ((xs.drop (i*e.size)).take e.size)) ->
    (∀ g,vx.ownBlock=some g->∃ b,bb=some b/\own g=some b/\cx.low g)->(∀ b,bb=some b->N b)->(∃ p n c,vx = .slice p n c)->zaA (l.length+m.length) r.bytes=true ->
    ∃ v' w' env' own',(Builtin.append_ #[r.t,r.t] ty #[vx,.slice p m.length c]).run P w = .ok v' w'/\Post cx fs w env own ((bb.map fun b=>(b,Cell.no)).toList++[(nm,.arr true r.elem e (l++m))]) w' env' own' (fun b=>N b\/b=nm) /\
     LfR w'.heap (cx.ok own') env' (.own nm) v':=by
    rintro l vx bb ⟨xs,hown,hxs⟩ hbb hbn hslx hsm;have hsm:=small_spec hsm;rw [<-hby]at hsm;cases p with
    | none=>
     have hm:=hpn rfl;subst hm;have hrun:=zhm (P:=P) 0 r.t ty r.elem i e.size hu hi vx l.length xs hown c
     obtain ⟨env',own',p1,p2⟩:=zhn hw hb hn (by simp) hown ⟨rfl,rfl,rfl,qao _,fun _ _ _=>rfl⟩ (.inl rfl) hxs bb hbb hbn (fun _ _ _ _=>trivial) hslx
     exact ⟨_,_,env',own',hrun,by simpa using p1,p2⟩
    | some y=>
     obtain ⟨ds,hnl,hchunk,hcells⟩:∃ ds:List Value,ds.length=m.length*e.size/\(∀ i (hi:i<m.length),Fits w.heap (cx.ok own) e m[i] ((ds.drop (i*e.size)).take e.size))/\∀ j u,ds[j]?=some u->w.cell? (y.add j)=some u:=by
      by_cases hm:m=[]
      . exact ⟨[],by simp [hm],fun i hi=>by simp [hm]at hi,fun j u h=>by simp at h⟩
      . obtain ⟨hsp,cur,T,f,hg,hle,hfit,_⟩:=hrow y rfl hm;refine ⟨(cur.toList.drop y.off).take (m.length*e.size),by simp;omega,fun i hi=>?_,zqT hsp hg (m.length*e.size)⟩
        have hle:i*e.size+e.size<=m.length*e.size:=by
         calc i*e.size+e.size=(i+1)*e.size:=by rw [qaO,qa6]
          _<=m.length*e.size:=qaT _ (by omega)
        rw [qbK,qbJ,qbE (by omega),qbu]
        exact hfit i hi
     have hones:=zv5 hnl hchunk;have h63:l.length+m.length<=maxLen:=by
      have:l.length+m.length<=(l.length+m.length)*i.bytes:=qcx _ (by omega)
      simp only [maxLen];omega
     obtain ⟨v',w',hrun,hown',hgrow,hnil⟩:=run_append_own (P:=P) w 0 r.t ty r.elem i z e.size i.bytes hu hi hz hsz rfl hzs hpos vx l.length xs hown y m.length c _ hnl hcells hones h63 hsm (qbe _)
     obtain ⟨hb1,hb2⟩:=zsj (P:=P) r.t ty r.elem i z hu hi hz (by omega) (by rw [hsz];exact hown) y m.length c _ (by rw [hsz];exact hnl) hcells hones hsm hrun hnil
     obtain ⟨env',own',p1,p2⟩:=zhn hw hb hn (l:=l++m) (by simp) hown' hgrow hb1 (ziK hown.1 hxs hchunk) bb hbb hbn (fun _ _ _ _=>trivial) hb2
     exact ⟨_,_,env',own',hrun,p1,p2⟩
   dsimp only at h4
   split at h4
   . obtain ⟨_,h5,h6⟩:=zaa.1 h4;simp at h6
     obtain ⟨rfl,rfl⟩:=h6;simp only [LfR]at hx;subst hx;have:=main (l:=[]) (vx:=.slice none 0 0) (bb:=none) ⟨[],World.ownsRow_nil w _ _ _,fun i hi=>by simp at hi⟩ (by simp [Value.ownBlock]) (by simp) ⟨_,_,_,rfl⟩ (by simpa using zcC.1 h5)
     simpa using this
   . rename_i b;obtain ⟨cl,h5,h6⟩:=zaa.1 h4;simp only [zaS,Option.some.injEq]at h5;subst h5;split at h6
     . rename_i TT e' l' hfs
       obtain ⟨_,h7,h8⟩:=zaa.1 h6;obtain ⟨_,h9,h10⟩:=zaa.1 h8;obtain ⟨l,h11,h12⟩:=zaa.1 h10;obtain ⟨_,h13,h14⟩:=zaa.1 h12;simp at h14
       obtain ⟨rfl,rfl⟩:=h14;have hT:=qan (zah.1 h7);subst hT;simp only [zcm,zbb]at h11;have he:e'=e:=by
        unfold Ty.cast at h11;split at h11
        . rename_i he;have:=Ty.eqb_eq he;injection this
        . cases h11
       subst he;have hl:l'=l:=by
        unfold Ty.cast at h11;split at h11
        . simpa using h11
        . cases h11
       subst hl;have hbb:=hb b;rw [hfs]at hbb;obtain ⟨v',e1,e2⟩:=hbb;obtain ⟨hx1,hx2⟩:=hx;rw [e1]at hx1;simp at hx1;subst hx1
       have hN:N b:=hw.names b (by simp [e1])
       have hln:∃ p c,env b=some (.slice p l'.length c):=by
        rcases e2 with ⟨rfl,rfl⟩ | ⟨g,cap,cur,rfl,_⟩
        . exact ⟨_,_,e1⟩
        . exact ⟨_,_,e1⟩
       obtain ⟨pl,cl,hln⟩:=hln;suffices hmain:∃ v2 w' env' own',(Builtin.append_ #[r.t,r.t] ty #[v',.slice p m.length c]).run P w = .ok v2 w'/\Post cx fs w env own [(b,.no),(nm,.arr true r.elem e' (l'++m))] w' env' own' (fun b=>N b\/b=nm) /\
        LfR w'.heap (cx.ok own') env' (.own nm) v2 by
        obtain ⟨v2,w',env',own',q1,q2,q3⟩:=hmain;exact ⟨v2,w',env',own',q1,q2.ln hln,q3⟩
       refine main (l:=l') (bb:=some b) ?_ (fun g hg=>?_) (fun b' hb'=>by simp at hb';exact hb' ▸ hN) hx2 (zcC.1 h13)
       . rcases e2 with ⟨rfl,rfl⟩ | ⟨g,cap,cur,rfl,hg,q1,q2,q3,q4,q5,_⟩
         . exact ⟨[],World.ownsRow_nil w _ _ _,fun i hi=>by simp at hi⟩
         . have hle:l'.length*e'.size<=cur.size:=by rw [q3];exact qaT _ q1
           refine ⟨cur.toList.take (l'.length*e'.size),⟨by simp;omega,.inr ⟨g,cap,cur,rfl,qbe _,hg,q1,q2,q3,rfl⟩⟩,fun i hi=>?_⟩
           have hle:i*e'.size+e'.size<=l'.length*e'.size:=by
            calc i*e'.size+e'.size=(i+1)*e'.size:=by rw [qaO,qa6]
             _<=l'.length*e'.size:=qaT _ (by omega)
           rw [qbK,qbJ,qbE (by omega)]
           exact q4 i hi
       . rcases e2 with ⟨rfl,rfl⟩ | ⟨g',cap,cur,rfl,hg',q1,q2,q3,q4,q5,_⟩
         . simp [Value.ownBlock]at hg
         . simp [Value.ownBlock]at hg
           subst hg;exact ⟨b,rfl,q5 rfl⟩
     . simp [T.evs]at h6
   . rename_i b sz lo n;obtain ⟨cl,h5,h6⟩:=zaa.1 h4;simp only [zaS,Option.some.injEq]at h5;subst h5;split at h6
     . rename_i TT e' l' hfs
       obtain ⟨_,h7,h8⟩:=zaa.1 h6;obtain ⟨l,h11,h12⟩:=zaa.1 h8;obtain ⟨_,h13,h14⟩:=zaa.1 h12;simp at h14
       obtain ⟨rfl,rfl⟩:=h14;have h7:=zah.1 h7;simp only [qae]at h7;have hT:=qan h7.1;have hlo0:=qan h7.2;subst hT;subst hlo0
       simp only [zcm,zbb]at h11;have he:e'=e:=by
        unfold Ty.cast at h11;split at h11
        . rename_i he;have:=Ty.eqb_eq he;injection this
        . cases h11
       subst he;have hl:l'=l:=by
        unfold Ty.cast at h11;split at h11
        . simpa using h11
        . cases h11
       subst hl;have hbb:=hb b;rw [hfs]at hbb;obtain ⟨v',e1,e2⟩:=hbb;obtain ⟨p0,len,c0,hx1,hx2,hx3,hx4⟩:=hx;rw [e1]at hx1;simp at hx1;subst hx1
       have hN:N b:=hw.names b (by simp [e1])
       have hvx:vx = .slice p0 n c0:=by
        rw [hx4,Nat.zero_mul];have:p0.map (·.add 0)=p0:=by cases p0 <;> simp [Addr.add]
        simp [this]
       have hlen:len=l'.length:=by
        rcases e2 with ⟨q,rfl⟩ | ⟨g,cap,cur,q,_⟩
        . exact (Value.slice.inj q).2.1
        . exact (Value.slice.inj q).2.1
       subst hlen;suffices hmain:∃ v' w' env' own',(Builtin.append_ #[r.t,r.t] ty #[vx,.slice p m.length c]).run P w = .ok v' w'/\Post cx fs w env own [(b,.no),(nm,.arr true r.elem e' (l'.take n++m))] w' env' own' (fun b=>N b\/b=nm) /\
        LfR w'.heap (cx.ok own') env' (.own nm) v' by
        obtain ⟨v',w',env',own',q1,q2,q3⟩:=hmain;exact ⟨v',w',env',own',q1,q2.ln e1,q3⟩
       have hnl:(l'.take n).length=n:=by simp;omega
       refine main (l:=l'.take n) (bb:=some b) ?_ (fun g hg=>?_) (fun b' hb'=>by simp at hb';exact hb' ▸ hN) ⟨_,_,_,hvx⟩ (zcC.1 h13)
       . rcases e2 with ⟨q,rfl⟩ | ⟨g,cap,cur,q,hg,q1,q2,q3,q4,q5,_⟩
         . obtain ⟨rfl,_,rfl⟩:=Value.slice.inj q;have hn0:n=0:=by omega
           subst hn0;subst hvx
           exact ⟨[],World.ownsRow_nil w _ _ _,fun i hi=>by simp at hi⟩
         . obtain ⟨rfl,_,rfl⟩:=Value.slice.inj q;subst hvx;have hle:n*e'.size<=cur.size:=by rw [q3];exact qaT _ (by omega)
           refine ⟨cur.toList.take (n*e'.size),by rw [hnl];exact ⟨by simp;omega,.inr ⟨g,c0,cur,rfl,qbe _,hg,by omega,q2,q3,rfl⟩⟩,fun i hi=>?_⟩
           rw [hnl]at hi;have hle:i*e'.size+e'.size<=n*e'.size:=by
            calc i*e'.size+e'.size=(i+1)*e'.size:=by rw [qaO,qa6]
             _<=n*e'.size:=qaT _ (by omega)
           rw [qbK,qbJ,qbE (by omega)]
           have:=q4 i (by omega)
           simpa [qcd] using this
       . rcases e2 with ⟨q,rfl⟩ | ⟨g',cap,cur,q,hg',q1,q2,q3,q4,q5,_⟩
         . obtain ⟨rfl,_,_⟩:=Value.slice.inj q;rw [hvx]at hg;simp [Value.ownBlock]at hg
         . obtain ⟨rfl,_,_⟩:=Value.slice.inj q;rw [hvx]at hg;simp [Value.ownBlock]at hg
           subst hg;exact ⟨b,rfl,q5 rfl⟩
     . simp [T.evs]at h6
   . simp [T.evs]at h4
 . simp [T.evs]at h2
end
end Go.VI
namespace Go.VI
open Go Go.RowKit
section
variable {P:Program} {te:TE} {tbl:Tbl} {cx:Cx} {fs:FS} {w:World} {env:Nm} {own:Ow} {N:Nat->Prop}
theorem bin_ok{op:BinOp}{t:TypeId}{ox oy:Operand}{x y z:Lf}{vx vy:Value}{h0:Array Obj}{ok:Nat->Prop}(h:(binT op x y).evs fs=some z)(hx:LfR h0 ok env x vx)(hy:LfR h0 ok env y vy):
 ∃ v,(do eqGuard op t ox oy vx vy;binOp op t vx vy:Sem Value).run P w = .ok v w/\LfR h0 ok env z v:=by
 have hg:∀ (k k':IntKind) (a b:Int),(eqGuard op t ox oy (.int k a) (.int k' b)).run P w = .ok () w:=fun k k' a b=>by
  unfold eqGuard;cases op <;> simp
 unfold binT at h;split at h
 . rename_i k a k' b
   simp only [LfR,Fits,List.cons.injEq,qbn]at hx hy;subst hx;subst hy
   simp only [T.evs]at h;cases hc:decide (b<0) with
   | true=>simp [hc]at h
   | false=>
    simp [hc,T.evs]at h;subst h
    have:¬b<0:=by simpa using hc
    refine ⟨.int k (k.wrap (a*2 ^ (min b.toNat k.bits))),?_,by simp [LfR,Fits]⟩
    simp [hg,binOp,Op.shift,this]
 . rename_i k a k' b
   simp only [LfR,Fits,List.cons.injEq,qbn]at hx hy;subst hx;subst hy
   simp only [T.evs]at h;cases hc:decide (b<0) with
   | true=>simp [hc]at h
   | false=>
    simp [hc,T.evs]at h;subst h
    have:¬b<0:=by simpa using hc
    refine ⟨.int k (a.fdiv (2 ^ (min b.toNat k.bits))),?_,by simp [LfR,Fits]⟩
    simp [hg,binOp,Op.shift,this]
 . rename_i k a k' b n1 n2
   simp only [LfR,Fits,List.cons.injEq,qbn]at hx hy;subst hx;subst hy
   cases hk:decide (k=k') with
   | false=>simp [hk,T.evs]at h
   | true=>
    have hk':k=k':=by simpa using hk
    subst hk'
    simp only [decide_true,qah]at h;have hgg:=hg k k a b;simp only [Sem.run_bind,hgg,Result.andThen_ok];unfold binI at h;cases op <;> simp only [T.evs,Option.some.injEq,reduceCtorEq]at h
    case quo=>
     cases hb:(b == 0) with
     | true=>simp [hb]at h
     | false=>
      simp [hb]at h;subst h
      have:¬b=0:=by simpa using hb
      exact ⟨.int k (k.wrap (a.tdiv b)),by simp [binOp,Op.intDiv,this],by simp [LfR,Fits]⟩
    case rem=>
     cases hb:(b == 0) with
     | true=>simp [hb]at h
     | false=>
      simp [hb]at h;subst h
      have:¬b=0:=by simpa using hb
      exact ⟨.int k (a.tmod b),by simp [binOp,Op.intDiv,this],by simp [LfR,Fits]⟩
    case add=>subst h;exact ⟨.int k (k.wrap (a+b)),by simp [binOp,Op.intArith],by simp [LfR,Fits]⟩
    case sub=>subst h;exact ⟨.int k (k.wrap (a-b)),by simp [binOp,Op.intArith],by simp [LfR,Fits]⟩
    case mul=>subst h;exact ⟨.int k (k.wrap (a*b)),by simp [binOp,Op.intArith],by simp [LfR,Fits]⟩
    case and=>subst h;exact ⟨.int k (zcN k (· &&& ·) a b),by simp [binOp,Op.intBits,zcN],by simp [LfR,Fits]⟩
    case or=>subst h;exact ⟨.int k (zcN k (· ||| ·) a b),by simp [binOp,Op.intBits,zcN],by simp [LfR,Fits]⟩
    case xor=>subst h;exact ⟨.int k (zcN k (· ^^^ ·) a b),by simp [binOp,Op.intBits,zcN],by simp [LfR,Fits]⟩
    case andNot=>subst h;exact ⟨.int k (zcN k (fun x y=>x &&& ~~~y) a b),by simp [binOp,Op.intBits,zcN],by simp [LfR,Fits]⟩
    case eql=>subst h;exact ⟨.bool (a == b),by simp [binOp,Op.intCmp],by simp [LfR,Fits]⟩
    case neq=>subst h;exact ⟨.bool (a != b),by simp [binOp,Op.intCmp],by simp [LfR,Fits]⟩
    case lss=>subst h;exact ⟨.bool (decide (a<b)),by simp [binOp,Op.intCmp],by simp [LfR,Fits]⟩
    case leq=>subst h;exact ⟨.bool (decide (a<=b)),by simp [binOp,Op.intCmp],by simp [LfR,Fits]⟩
    case gtr=>subst h;exact ⟨.bool (decide (a > b)),by simp [binOp,Op.intCmp],by simp [LfR,Fits]⟩
    case geq=>subst h;exact ⟨.bool (decide (a >= b)),by simp [binOp,Op.intCmp],by simp [LfR,Fits]⟩
 . simp [T.evs]at h
theorem un_ok{op:UnOp}{x z:Lf}{vx:Value}{h0:Array Obj}{ok:Nat->Prop}(h:(unT op x).evs fs=some z)(hx:LfR h0 ok env x vx):∃ v,(Op.unary op vx).run P w = .ok v w/\LfR h0 ok env z v:=by
 unfold unT at h;split at h
 . rename_i k n;simp only [LfR,Fits,List.cons.injEq,qbn]at hx;subst hx;simp [T.evs]at h;subst h
   exact ⟨.int k (k.wrap (-n)),by simp [Op.unary,Op.intArith],by simp [LfR,Fits]⟩
 . rename_i b;simp only [LfR]at hx;subst hx;simp [T.evs]at h;subst h
   exact ⟨.bool !b,by simp [Op.unary],by simp [LfR]⟩
 . rename_i b;simp only [LfR,Fits,List.cons.injEq,qbn]at hx;subst hx;simp [T.evs]at h;subst h
   exact ⟨.bool !b,by simp [Op.unary],by simp [LfR,Fits]⟩
 . simp [T.evs]at h
theorem conv_ok(ht:TEok P te){s d:TypeId}{x z:Lf}{vx:Value}{h0:Array Obj}{ok:Nat->Prop}(h:(convT te s d x).evs fs=some z)(hx:LfR h0 ok env x vx):
 ∃ v,(convert s d vx).run P w = .ok v w/\LfR h0 ok env z v:=by
 obtain ⟨rs,h0',hq⟩:=zaa.1 h;obtain ⟨hts,hrs⟩:=zb3 ht h0';obtain ⟨ds,hds,_⟩:=hrs.agg;rw [hts]at hds;obtain ⟨r,h1,h2⟩:=zaa.1 hq;obtain ⟨htr,hr⟩:=zb3 ht h1;subst htr;split at h2
 . rename_i k k' n hty
   simp only [LfR,Fits,List.cons.injEq,qbn]at hx;subst hx;simp [T.evs]at h2;subst h2
   have hd:=hr.int k hty;refine ⟨.int k (k.wrap n),?_,by simp [LfR,Fits]⟩
   simp [convert,run_underlying hds,run_underlying hd,Conv.intToInt]
 . simp [T.evs]at h2
theorem len_ok(ht:TEok P te)(hb:RB cx fs w env own){t ty:TypeId}{x z:Lf}{vx:Value}(h:(lenT te t x).evs fs=some z)(hx:LfR w.heap (cx.ok own) env x vx):
 ∃ v,(Builtin.len_ #[t] ty #[vx]).run P w = .ok v w/\LfR w.heap (cx.ok own) env z v:=by
 obtain ⟨r,h1,hq⟩:=zaa.1 h;clear h;obtain ⟨htr,hr⟩:=zb3 ht h1;subst htr;split at hq
 case h_2=>simp [T.evs]at hq
 rename_i e0 hty;obtain ⟨hu,_⟩:=hr.slice e0 hty;have run:∀ p n c,(Builtin.len_ #[r.t] ty #[.slice p n c]).run P w = .ok (goInt n) w:=fun p n c=>by simp [Builtin.len_,run_underlying hu]
 unfold lenL at hq;split at hq
 . simp only [LfR]at hx;subst hx
   simp [T.evs]at hq;subst hq
   exact ⟨_,run _ _ _,by simp [LfR,Fits,goInt]⟩
 . rename_i e' l
   obtain ⟨p,c,hv,_⟩:=(show Fits _ _ (.slice e') l [vx] from hx)
   simp at hv;subst hv
   simp [T.evs]at hq;subst hq
   exact ⟨_,run _ _ _,by simp [LfR,Fits,goInt]⟩
 . rename_i b;obtain ⟨c,h1,h2⟩:=zaa.1 hq;simp only [zaS,Option.some.injEq]at h1;subst h1;split at h2
   . rename_i m TT e' l hfs
     simp at h2;subst h2
     have hbb:=hb b;rw [hfs]at hbb;obtain ⟨v',e1,e2⟩:=hbb;obtain ⟨hx1,_⟩:=hx;rw [e1]at hx1;simp at hx1;subst hx1
     rcases e2 with ⟨rfl,rfl⟩ | ⟨g,cap,cur,rfl,_⟩
     . exact ⟨_,run _ _ _,by simp [LfR,Fits,goInt]⟩
     . exact ⟨_,run _ _ _,by simp [LfR,Fits,goInt]⟩
   . rename_i n hfs;simp at h2;subst h2
     have hbb:=hb b;rw [hfs]at hbb;obtain ⟨p,c,e1⟩:=hbb;obtain ⟨hx1,_⟩:=hx;rw [e1]at hx1;simp at hx1;subst hx1
     exact ⟨_,run _ _ _,by simp [LfR,Fits,goInt]⟩
   . simp [T.evs]at h2
 . simp [T.evs]at hq;subst hq
   obtain ⟨p,len,c,_,_,_,rfl⟩:=hx;exact ⟨_,run _ _ _,by simp [LfR,Fits,goInt]⟩
 . simp [T.evs]at hq
end
end Go.VI
namespace Go.VI
open Go Go.RowKit
def okAt(ok:Nat->Prop)(own:Ow)(B:Nat)(c:Nat):Prop:=own c=none/\(ok c\/B<=c)
def zdp(h:Array Obj)(ok:Nat->Prop):(ps:List PTy)->Pden ps->List Value->List Nat->Prop
 | [],_,[],[]=>True
 | .val t::ps,d,x::xs,gs=>(∃ cs,x=zaW t cs/\Fits h ok t d.1 cs)/\zdp h ok ps d.2 xs gs
 | .ptr T t::ps,d,x::xs,g::gs=>x = .pointer (some ⟨g,0,none⟩)/\(∃ cs,h[g]?=some (.cells cs T (0,0))/\Fits h ok t d.1 cs.toList)/\¬ok g/\g ∉ gs/\zdp h ok ps d.2 xs gs
 | _,_,_,_=>False
def OutR(h:Array Obj)(ok:Nat->Prop):(ps:List PTy)->Oden ps->List Nat->Prop
 | [],_,_=>True
 | .val _::ps,o,gs=>OutR h ok ps o gs
 | .ptr T t::ps,o,g::gs=>(∃ cs,h[g]?=some (.cells cs T (0,0))/\Fits h ok t o.1 cs.toList)/\OutR h ok ps o.2 gs
 | .ptr _ _::_,_,[]=>False
def zs4:List Value->Value
 | [v]=>v
 | vs=>.tuple vs.toArray
structure Behind (w w':World) (gs:List Nat):Prop where
 os:w'.os=w.os
 tape:w'.tape=w.tape
 output:w'.output=w.output
 size:w.heap.size<=w'.heap.size
 old:∀ c,c<w.heap.size->c ∉ gs->w'.heap[c]?=w.heap[c]?
structure Returns (E:Entry) (w:World) (ok:Nat->Prop) (gs:List Nat) (r:Rden E.rs×Oden E.ps) (nm:Nat) (w':World) (vals:List Value) (env:Nm) (own:Ow):Prop where
 behind:Behind w w' gs
 owns:∀ c,own c≠none->w.heap.size<=c/\c<w'.heap.size
 envs:∀ b,env b≠none->nm<=b/\b<(resL E.rs r.1 nm).2.2
 res:All2 (A1R w'.heap (okAt ok own w.heap.size) env) (resL E.rs r.1 nm).1 vals
 rows:∀ p∈(resL E.rs r.1 nm).2.1,za9 (fun g=>w.heap.size<=g) w'.heap (okAt ok own w.heap.size) env own p.1 p.2
 outs:OutR w'.heap (okAt ok own w.heap.size) E.ps r.2 gs
def zbA:List AP->List Value->List Value
 | .p::s,v::vs=>v::zbA s vs
 | .clo f n m::s,vs=>.func (.func f) (vs.take n).toArray ((vs.drop n).take m).toArray::zbA s (vs.drop (n+m))
 | _,_=>[]
def Entry.Sound(P:Program)(E:Entry):Prop :=
 ∀ (w:World) (ok:Nat->Prop) (d:Pden E.ps) (args:List Value) (gs:List Nat) (r:Rden E.rs×Oden E.ps),zdp w.heap ok E.ps d args gs->(∀ c,ok c->c<w.heap.size)->E.F d=some r->∀ nm,
  Calls P E.f (zbA E.sh args).toArray w fun e w'=>∃ vals env own,e = .returned (zs4 vals)/\Returns E w ok gs r nm w' vals env own
def zbZ(P:Program)(f:FuncId):Prop:=∀ (args:Array Value) (w:World),(callFunc f args).run P w = .ok (.enter f args) w
def Ent.Sound(P:Program)(E:Ent):Prop :=
 ∀ (cx:Cx) (fs:FS) (w:World) (env:Nm) (own:Ow) (N:Nat->Prop) (avs:List AV) (vals:List Value) (nm:Nat) (r:Option AV×Ws),RW cx w env own N->RB cx fs w env own->All2 (AvR w.heap (cx.ok own) env) avs vals ->
  (∀ b,nm<=b->b<nm+64->¬N b)->(E.G avs nm).evs fs=some r ->
  Calls P E.f vals.toArray w fun e w'=>∃ v a env' own',e = .returned v/\r.1=some a/\AvR w'.heap (cx.ok own') env' a v/\Post cx fs w env own r.2 w' env' own' (fun b=>N b\/(nm<=b/\b<nm+64))
def Tbl.Sound(P:Program)(tbl:Tbl):Prop:=∀ E∈tbl,zbZ P E.f/\E.Sound P
theorem Tbl.find_ok{P:Program}{tbl:Tbl}(h:tbl.Sound P){f:FuncId}{as:List AV}{E:Ent}(hf:tbl.find f as=some E):E.f=f/\zbZ P f/\E.Sound P:=by
 induction tbl with
 | nil=>simp [Tbl.find]at hf
 | cons r te ih=>
  simp only [Tbl.find]at hf;cases hc:(Nat.beq r.f f&&r.test as) with
  | true=>
   simp [hc]at hf;subst hf
   simp only [qae]at hc;have e:=qan hc.1;exact ⟨e,e ▸ (h r (by simp)).1,(h r (by simp)).2⟩
  | false=>simp [hc]at hf;exact ih (fun E hE=>h E (by simp [hE])) hf
section
variable {P:Program} {te:TE} {tbl:Tbl} {cx:Cx} {fs:FS} {w:World} {env:Nm} {own:Ow} {N:Nat->Prop}
theorem zb1{h:Array Obj}{ok:Nat->Prop}{env:Nm}{t:Ty}{a:AV}{ys:List Lf}{v:Value}(h1:(zdU t a).evs fs=some ys)(h2:AvR h ok env a v)(hl:v.cells.toList.length=t.size\/True):
 All2 (LfR h ok env) ys v.cells.toList/\∀ cs,v.cells.toList=cs->v=zaW t cs:=by
 unfold zdU at h1;split at h1
 . rename_i x;cases ha:t.isAgg with
   | true=>simp [ha,T.evs]at h1
   | false=>
    simp [ha,T.evs]at h1;subst h1
    have h3:LfR h ok env x v:=h2;have h4:=h3.one;have hc:v.cells.toList=[v]:=by cases v <;> simp_all [Value.cells,Value.oneCell']
    rw [hc];exact ⟨⟨h3,trivial⟩,fun cs hcs=>by subst hcs;simp [zaW,ha]⟩
 . rename_i xs;cases ha:t.isAgg with
   | false=>simp [ha,T.evs]at h1
   | true=>
    simp [ha,T.evs]at h1;subst h1
    obtain ⟨cs,rfl,hc⟩:=h2;exact ⟨hc,fun cs' hcs=>by subst hcs;simp [zaW,ha,Value.cells]⟩
 . simp [T.evs]at h1
def okIn(cx:Cx)(own:Ow)(w:World)(c:Nat):Prop:=cx.ok own c/\c<w.heap.size
theorem zxZ{own:Ow}{t:Ty}{v:t.den}{cs:List Value}(h:Fits w.heap (cx.ok own) t v cs):Fits w.heap (okIn cx own w) t v cs:=h.mono fun _ h1 h2=>⟨⟨h1,h2⟩,rfl⟩
def BsOk:List PTy->List Nat->Prop
 | [],[]=>True
 | .val _::ps,bs=>BsOk ps bs
 | .ptr _ _::ps,_::bs=>BsOk ps bs
 | _,_=>False
def zkO(env:Nm)(own:Ow)(bs gs:List Nat):Prop:=All2 (fun b g=>own g=some b/\env b=some (.pointer (some ⟨g,0,none⟩))) bs gs
theorem zkO.mem{bs gs:List Nat}(h:zkO env own bs gs):∀ g∈gs,∃ b∈bs,own g=some b:=by
 induction bs generalizing gs with
 | nil=>cases gs with
  | nil=>simp
  | cons _ _=>exact h.elim
 | cons b bs ih=>cases gs with
  | nil=>exact h.elim
  | cons g gs=>
   intro x hx;rcases qas.1 hx with rfl | hx
   . exact ⟨b,by simp,h.1.1⟩
   . obtain ⟨b',hb',he⟩:=ih h.2 x hx;exact ⟨b',by simp [hb'],he⟩
theorem zqk(hb:RB cx fs w env own):∀ {ps:List PTy} {xs:List AV} {vals:List Value} {d:Pden ps} {lent:Ws} {bs:List Nat},(zmT ps xs).evs fs=some (d,lent,bs)->All2 (AvR w.heap (cx.ok own) env) xs vals ->
 Frz fs lent/\BsOk ps bs/\∃ gs,zkO env own bs gs/\∀ ns,(∀ p∈lent,p.1∈ns)->(∀ b∈bs,b ∉ ns)->zdp w.heap (okIn cx (unown own ns) w) ps d vals gs
 | [],[],[],d,lent,bs,h,_=>by
  simp [zmT,T.evs]at h
  obtain ⟨rfl,rfl⟩:=h;exact ⟨Frz.nil,trivial,[],trivial,fun _ _ _=>trivial⟩
 | .val t::ps,x::xs,val::vals,d,lent,bs,h,hv=>by
  simp only [zmT]at h;obtain ⟨ys,h3,h4⟩:=zaa.1 h;obtain ⟨⟨v,rest,w1⟩,h5,h6⟩:=zaa.1 h4;obtain ⟨_,h7,h8⟩:=zaa.1 h6;obtain ⟨⟨vs,w2,bs'⟩,h9,h10⟩:=zaa.1 h8;simp at h10
  obtain ⟨rfl,rfl,rfl⟩:=h10;have hrest:rest=[]:=by have:=zah.1 h7;simpa using this
  subst hrest;obtain ⟨k1,k2⟩:=zb1 h3 hv.1 (.inr trivial);obtain ⟨f1,c1,c2,hc,hr0,hfit⟩:=zcf hb h5 k1;have:c2=[]:=by cases c2 with
   | nil=>rfl
   | cons _ _=>exact hr0.elim
  subst this;rw [qaW]at hc;obtain ⟨f2,hbs,gs,hp,harg⟩:=zqk hb h9 hv.2;exact ⟨f1.append f2,hbs,gs,hp,fun ns hns hnb=>⟨⟨c1,k2 c1 hc,zxZ (hfit ns fun p hp=>hns p (by simp [hp]))⟩,harg ns (fun p hp=>hns p (by simp [hp])) hnb⟩⟩
 | .ptr tt t::ps,x::xs,val::vals,d,lent,bs,h,hv=>by
  simp only [zmT]at h;obtain ⟨lf,h1,h2⟩:=zaa.1 h;split at h2
  . rename_i b;obtain ⟨c,h3,h4⟩:=zaa.1 h2;simp only [zaS,Option.some.injEq]at h3;subst h3;split at h4
    . rename_i T' ys hfs
      obtain ⟨_,h5,h6⟩:=zaa.1 h4;obtain ⟨⟨v,rest,w1⟩,h7,h8⟩:=zaa.1 h6;obtain ⟨_,h9,h10⟩:=zaa.1 h8;obtain ⟨⟨vs,w2,bs'⟩,h11,h12⟩:=zaa.1 h10;obtain ⟨_,h13,h14⟩:=zaa.1 h12;simp at h14
      obtain ⟨rfl,rfl,rfl⟩:=h14;have hT:=qan (zah.1 h5);subst hT;have hrest:rest=[]:=by have:=zah.1 h9;simpa using this
      subst hrest;have hnb:b ∉ bs':=by have:=zah.1 h13;simpa using this
      have hbb:=hb b;rw [hfs]at hbb;obtain ⟨g,cs,e1,e2,e3,e4⟩:=hbb;have hx:=zou h1;subst hx;obtain ⟨g',q1,q2⟩:=hv.1;rw [e1]at q1;simp at q1;subst q1
      obtain ⟨f1,c1,c2,hc,hr0,hfit⟩:=zcf hb h7 e3;have:c2=[]:=by cases c2 with
       | nil=>rfl
       | cons _ _=>exact hr0.elim
      subst this;rw [qaW]at hc;obtain ⟨f2,hbs,gs,hp,harg⟩:=zqk hb h11 hv.2;refine ⟨f1.append f2,hbs,g::gs,⟨⟨e4,e1⟩,hp⟩,fun ns hns hnbs=>⟨q2,⟨cs,e2,by rw [hc];exact zxZ (hfit ns fun p hp=>hns p (by simp [hp]))⟩,?_,?_,harg ns (fun p hp=>hns p (by simp [hp])) fun b hb=>hnbs b (by simp [hb])⟩⟩
      . intro hok;have:=hok.1.1
        rw [zbu e4 (hnbs b (by simp))]at this
        cases this
      . intro hg;obtain ⟨b',hb',he⟩:=hp.mem g hg;rw [e4]at he;cases he;exact hnb hb'
    . simp [T.evs]at h4
  . simp [T.evs]at h2
 | [],_::_,_,_,_,_,h,_=>by simp [zmT,T.evs]at h
 | .val _::_,[],_,_,_,_,h,_=>by simp [zmT,T.evs]at h
 | .ptr _ _::_,[],_,_,_,_,h,_=>by simp [zmT,T.evs]at h
 | _,_::_,[],_,_,_,_,hv=>hv.elim
 | [],[],_::_,_,_,_,_,hv=>hv.elim
theorem ziH{h:Array Obj}{ok:Nat->Prop}{env:Nm}:∀ {cs:List Cp} {vs:List Value},All2 (CpR h ok env) cs vs->All2 (AvR h ok env) (cs.map cpAV) vs
 | [],[],_=>trivial
 | _::_,_::_,hf=>⟨CpR.lf.1 hf.1,ziH hf.2⟩
 | [],_::_,hf=>hf.elim
 | _::_,[],hf=>hf.elim
theorem zlA{h:Array Obj}{ok:Nat->Prop}{env:Nm}:∀ {s:List AP} {as:List AV} {vals:List Value} {fl:List AV},(zmD s as).evs fs=some fl->All2 (AvR h ok env) as vals->∃ fv,All2 (AvR h ok env) fl fv/\zbA s fv=vals
 | [],[],[],fl,h1,_=>by simp [zmD,T.evs]at h1;subst h1;exact ⟨[],trivial,rfl⟩
 | .p::s,a::as,v::vals,fl,h1,hv=>by
  simp only [zmD]at h1;obtain ⟨r,h2,h3⟩:=zaa.1 h1;simp at h3;subst h3
  obtain ⟨fv,h4,h5⟩:=zlA h2 hv.2;exact ⟨v::fv,⟨hv.1,h4⟩,by simp [zbA,h5]⟩
 | .clo f n m::s,a::as,v::vals,fl,h1,hv=>by
  simp only [zmD]at h1;split at h1
  . rename_i g fi ca;obtain ⟨_,h2,h3⟩:=zaa.1 h1;obtain ⟨r,h4,h5⟩:=zaa.1 h3;simp at h5;subst h5
    have hg:=zah.1 h2;simp only [qae]at hg;have e1:=qan hg.1.1;have e2:=qan hg.1.2;have e3:=qan hg.2;subst e1;subst e2;subst e3
    obtain ⟨fv,h6,h7⟩:=zlA h4 hv.2;obtain ⟨vs,us,e4,h8,h9⟩:=hv.1;have l1:=h8.len;have l2:=h9.len;refine ⟨vs.toList++(us.toList++fv),?_,?_⟩
    . have:=(ziH h8).append ((ziH h9).append h6)
      simpa using this
    . have t1:(vs.toList++(us.toList++fv)).take fi.length=vs.toList:=by rw [l1,List.take_left]
      have t2:((vs.toList++(us.toList++fv)).drop fi.length).take ca.length=us.toList:=by rw [l1,List.drop_left,l2,List.take_left]
      have t3:(vs.toList++(us.toList++fv)).drop (fi.length+ca.length)=fv:=by rw [<-qbu,l1,List.drop_left,l2,List.drop_left]
      simp only [zbA,t1,t2,t3,h7,e4]
  . rename_i g;obtain ⟨_,h2,h3⟩:=zaa.1 h1;have hg:=zah.1 h2;simp only [qae]at hg;have e1:=qan hg.1.1;have e2:=qan hg.1.2;have e3:=qan hg.2;subst e1;subst e2;subst e3
    obtain ⟨fv,h6,h7⟩:=zlA h3 hv.2;refine ⟨fv,h6,?_⟩;have e4:v = .func (.func f) #[] #[]:=hv.1
    simp [zbA,h7,e4]
  . simp [T.evs]at h1
 | [],_::_,_,_,h1,_=>by simp [zmD,T.evs]at h1
 | .p::_,[],_,_,h1,_=>by simp [zmD,T.evs]at h1
 | .clo _ _ _::_,[],_,_,h1,_=>by simp [zmD,T.evs]at h1
 | _,_::_,[],_,_,hv=>hv.elim
 | [],[],_::_,_,_,hv=>hv.elim
end
end Go.VI
namespace Go.VI
open Go Go.RowKit
section
variable {P:Program} {te:TE} {tbl:Tbl} {cx:Cx} {fs:FS} {w:World} {env:Nm} {own:Ow} {N:Nat->Prop}
theorem zjt:∀ {ps:List PTy} {bs:List Nat} {o:Oden ps},BsOk ps bs->nms (znA ps o bs)=bs
 | [],[],_,_=>rfl
 | .val _::ps,bs,o,h=>zjt (ps:=ps) h
 | .ptr _ _::ps,b::bs,o,h=>by simp [znA,zjt (ps:=ps) (bs:=bs) h]
 | [],_::_,_,h=>h.elim
 | .ptr _ _::_,[],_,h=>h.elim
theorem za9.conv{B B':Nat->Prop}{h h':Array Obj}{ok ok':Nat->Prop}{env env':Nm}{own own':Ow}{b:Nat}{c:Cell}(hc:za9 B h ok env own b c)(hB:∀ g,own g=some b->B g->B' g)(hok:∀ c,ok c->c<h.size->ok' c/\h'[c]?=h[c]?)
 (he:∀ b x,env b=some x->env' b=some x) (ho:∀ g,own g=some b->own' g=some b/\h'[g]?=h[g]?):za9 B' h' ok' env' own' b c:=by
 cases c with
 | no=>trivial
 | av _=>trivial
 | ln n=>obtain ⟨p,c,hcc⟩:=hc;exact ⟨p,c,he _ _ hcc⟩
 | arr m T e l=>
  obtain ⟨v,hv,hr⟩:=hc;refine ⟨v,he _ _ hv,hr.imp id ?_⟩;rintro ⟨g,cap,cur,rfl,hg,h1,h2,h3,h4,h5,h6⟩;have hlt:=(qaL.1 hg).1;refine ⟨g,cap,cur,rfl,?_,h1,h2,h3,fun i hi=>(h4 i hi).mono hok,fun hm=>⟨(ho g (h5 hm).1).1,hB g (h5 hm).1 (h5 hm).2⟩,fun hm=>(hok g (h6 hm) hlt).1⟩
  cases m with
  | true=>rw [(ho g (h5 rfl).1).2];exact hg
  | false=>rw [(hok g (h6 rfl) hlt).2];exact hg
 | box T xs=>
  obtain ⟨g,cs,h1,h2,h3,h4⟩:=hc;exact ⟨g,cs,he _ _ h1,by rw [(ho g h4).2];exact h2,h3.mono fun _ _=>LfR.mono hok he,(ho g h4).1⟩
 | rb T xs=>
  obtain ⟨g,cs,h1,h2,h3,h4⟩:=hc;have q:=hok g h4 (qaL.1 h2).1;exact ⟨g,cs,he _ _ h1,by rw [q.2];exact h2,h3.mono fun _ _=>LfR.mono hok he,q.1⟩
def own2(a b:Ow):Ow:=fun c=>match a c with
 | some x=>some x
 | none=>b c
def env2(a b:Nm):Nm:=fun c=>match a c with
 | some x=>some x
 | none=>b c
theorem zju{h:Array Obj}{ok:Nat->Prop}{env:Nm}{own:Ow}:∀ {ps:List PTy} {bs gs:List Nat} {o:Oden ps},OutR h ok ps o gs->zkO env own bs gs->∀ p∈znA ps o bs,∃ T xs g cs,p.2 = .box T xs/\env p.1=some (.pointer (some ⟨g,0,none⟩))/\own g=some p.1 /\
 h[g]?=some (.cells cs T (0,0))/\All2 (LfR h ok env) xs cs.toList
 | [],bs,gs,o,_,_=>by simp [znA]
 | .val _::ps,bs,gs,o,h1,h2=>zju (ps:=ps) h1 h2
 | .ptr tt t::ps,b::bs,g::gs,o,h1,h2=>by
  intro p hp;rcases qas.1 hp with rfl | hp
  . obtain ⟨cs,e1,e2⟩:=h1.1;exact ⟨tt,_,g,cs,rfl,h2.1.2,h2.1.1,e1,zcZ e2⟩
  . exact zju (ps:=ps) h1.2 h2.2 p hp
 | .ptr _ _::_,[],_,o,_,_=>by simp [znA]
 | .ptr _ _::_,_::_,[],_,h1,_=>h1.elim
theorem zqY(hw:RW cx w env own N)(hb:RB cx fs w env own){nm:Nat}(hn:∀ b,nm<=b->b<nm+64->¬N b){E:Entry}{bs gs:List Nat}(hbs:BsOk E.ps bs)(hp:zkO env own bs gs){r:Rden E.rs×Oden E.ps}{w':World}{vals:List Value}{ec:Nm}{oc:Ow}
 (hr:Returns E w (okIn cx own w) gs r nm w' vals ec oc) (hk:(resL E.rs r.1 nm).2.2<=nm+64) :
 Post cx fs w env own (znA E.ps r.2 bs++(resL E.rs r.1 nm).2.1) w' (env2 ec env) (own2 oc own) (fun b=>N b\/(nm<=b/\b<nm+64))/\All2 (A1R w'.heap (cx.ok (own2 oc own)) (env2 ec env)) (resL E.rs r.1 nm).1 vals:=by
 have hoc:∀ c,c<w.heap.size->oc c=none:=fun c hc=>by
  cases h:oc c with
  | none=>rfl
  | some x=>have:=(hr.owns c (by simp [h])).1;omega
 have hec:∀ b,N b->ec b=none:=fun b hbN=>by
  cases h:ec b with
  | none=>rfl
  | some x=>have:=hr.envs b (by simp [h]);exact absurd hbN (hn b this.1 (by omega))
 have henv:∀ b x,env b=some x->env2 ec env b=some x:=fun b x hx=>by
  simp only [env2,hec b (hw.names b (by simp [hx])),hx]
 have hgs:∀ c∈gs,∃ b∈bs,own c=some b:=hp.mem
 have hext:Ext cx w env own w' (env2 ec env) (own2 oc own):=by
  refine ⟨fun c hc hlt=>⟨⟨?_,hc.2⟩,hr.behind.old c hlt fun hg=>?_⟩,henv⟩
  . simp only [own2,hoc c hlt];exact hc.1
  . obtain ⟨b,_,he⟩:=hgs c hg;rw [hc.1]at he;cases he
 have hconv:∀ c,okAt (okIn cx own w) oc w.heap.size c->cx.ok (own2 oc own) c:=fun c hc=>by
  refine ⟨?_,?_⟩
  . simp only [own2,hc.1];rcases hc.2 with h | h
    . exact h.1.1
    . exact hw.new c h
  . rcases hc.2 with h | h
    . exact h.1.2
    . have:=hw.size;exact .inr (.inl (by omega))
 have henvc:∀ b x,ec b=some x->env2 ec env b=some x:=fun b x hx=>by simp only [env2,hx]
 refine ⟨⟨⟨hr.behind.os.trans hw.os,hr.behind.tape.trans hw.tape,hr.behind.output.trans hw.output,qaA hw.size hr.behind.size,fun c h1 h2=>?_,fun c h=>?_,fun b h=>?_,fun b v hb=>henv b v (hw.fix b v hb)⟩,fun b=>?_,hext,hr.behind.size⟩,hr.res.mono fun _ _=>A1R.mono (fun c hc _=>⟨hconv c hc,rfl⟩) henvc⟩
 . have h3:=hw.old c h1 h2;have hlt:c<w.heap.size:=by have:=hw.size;omega
   refine ⟨by simp only [own2,hoc c hlt];exact h3.1,(hr.behind.old c hlt fun hg=>?_).trans h3.2⟩
   obtain ⟨b,_,he⟩:=hgs c hg;rw [h3.1]at he;cases he
 . have:oc c=none:=by
    cases h':oc c with
    | none=>rfl
    | some x=>have:=(hr.owns c (by simp [h'])).2;omega
   simp only [own2,this];exact hw.new c (by have:=hr.behind.size;omega)
 . by_cases h':ec b=none
   . simp only [env2,h']at h;exact .inl (hw.names b h)
   . have:=hr.envs b h'
     exact .inr ⟨this.1,by omega⟩
 . by_cases hbm:∃ p∈znA E.ps r.2 bs++(resL E.rs r.1 nm).2.1,p.1=b
   . obtain ⟨c,hc,he⟩:=zsQ (fs:=fs) hbm
     rw [he];rcases qak.1 hc with hc | hc
     . obtain ⟨T,xs,g,cs,h1,h2,h3,h4,h5⟩:=zju (env:=env2 ec env) (own:=own2 oc own) hr.outs (hp.mono fun b g hbg=>⟨by simp only [own2,hoc g (hw.lt hbg.1)];exact hbg.1,henv _ _ hbg.2⟩) _ hc
       simp only at h1 h2 h3
       subst h1;exact ⟨g,cs,h2,h4,h5.mono fun _ _=>LfR.mono (fun c hc _=>⟨hconv c hc,rfl⟩) (fun _ _ h=>h),h3⟩
     . exact (hr.rows _ hc).conv (fun g _ hg=>.inl (qaA hw.size hg)) (fun c hc _=>⟨hconv c hc,rfl⟩) henvc fun g hg=>⟨by simp only [own2,hg],rfl⟩
   . rw [zlL fun p hp he=>hbm ⟨p,hp,he⟩]
     refine (hb b).ext hext fun g hg=>?_
     have hlt:=hw.lt hg;refine ⟨by simp only [own2,hoc g hlt];exact hg,hr.behind.old g hlt fun hgm=>?_⟩
     obtain ⟨b',hb',he⟩:=hgs g hgm;rw [hg]at he;cases he;have:=zjt (o:=r.2) hbs
     rw [<-this]at hb'
     obtain ⟨p,hp,hpe⟩:=qav.1 hb';exact hbm ⟨p,qaG _ hp,hpe⟩
theorem Fits.plain{h h':Array Obj}{ok ok':Nat->Prop}:∀ {t:Ty} {v:t.den} {cs:List Value},t.plain=true->Fits h ok t v cs->Fits h' ok' t v cs
 | .bool,_,_,_,hf=>hf
 | .int _,_,_,_,hf=>hf
 | .unit,_,_,_,hf=>hf
 | .prod a b,v,cs,hp,hf=>by
  simp only [Ty.plain,qae]at hp;obtain ⟨c1,c2,rfl,h1,h2⟩:=hf;exact ⟨c1,c2,rfl,Fits.plain hp.1 h1,Fits.plain hp.2 h2⟩
 | .slice _,_,_,hp,_=>by simp [Ty.plain]at hp
def zd2:Lf->Prop
 | .imm t _=>t.plain=true
 | .undef=>True
 | .own _=>True
 | .kb _=>True
 | _=>False
def zny:Cell->Prop
 | .arr true _ e _=>e.plain=true
 | _=>False
theorem LfR.plain{h:Array Obj}{ok ok':Nat->Prop}{env:Nm}{x:Lf}{v:Value}(hp:zd2 x)(hf:LfR h ok env x v):LfR h ok' env x v:=by
 cases x <;> first | exact hp.elim | exact hf | skip
 exact Fits.plain hp hf
theorem za9.plain{B:Nat->Prop}{h:Array Obj}{ok ok':Nat->Prop}{env:Nm}{own:Ow}{b:Nat}{c:Cell}(hp:zny c)(hf:za9 B h ok env own b c):za9 B h ok' env own b c:=by
 cases c with
 | arr m T e l=>
  cases m with
  | true=>
   obtain ⟨v,hv,hr⟩:=hf;refine ⟨v,hv,hr.imp id ?_⟩;rintro ⟨g,cap,cur,rfl,hg,h1,h2,h3,h4,h5,h6⟩;exact ⟨g,cap,cur,rfl,hg,h1,h2,h3,fun i hi=>Fits.plain hp (h4 i hi),h5,fun h=>by cases h⟩
  | false=>exact hp.elim
 | _=>exact hp.elim
inductive LeafOf:Ty->Lf->Prop where
 | bool (v:Bool):LeafOf .bool (.imm .bool v)
 | int (k:IntKind) (v:Int):LeafOf (.int k) (.imm (.int k) v)
 | slice (e:Ty) (v:List e.den):LeafOf (.slice e) (.imm (.slice e) v)
 | raw (k:RawK):LeafOf (.raw k) .undef
 | ifo (K:Nat) (t:Ty) (v:Option t.den):LeafOf (.ifo K t) (.imm (.ifo K t) v)
theorem zgi:∀ (t:Ty) (v:t.den),All2 LeafOf (zpT t) (flat t v)
 | .bool,v=>⟨.bool v,trivial⟩
 | .int k,v=>⟨.int k v,trivial⟩
 | .slice e,v=>⟨.slice e v,trivial⟩
 | .unit,_=>trivial
 | .raw k,_=>⟨.raw k,trivial⟩
 | .ifo K t,v=>⟨.ifo K t v,trivial⟩
 | .prod a b,v=>(zgi a v.1).append (zgi b v.2)
theorem zcn:∀ {ts:List Ty} {xs:List Lf} {os:List (Option TypeId)} {nm:Nat},All2 LeafOf ts xs->zdP ts os=true->(∀ x∈(ownL xs os nm).1,zd2 x)/\∀ p∈(ownL xs os nm).2.1,zny p.2
 | [],[],os,nm,_,_=>by cases os <;> simp [ownL]
 | t::ts,x::xs,os,nm,h,hp=>by
  have hl:=h.1;cases hl with
  | bool v=>
   cases os with
   | nil=>
    have:=zcn (os:=[]) (nm:=nm) h.2 (by simpa [zdP] using hp)
    cases xs <;> simp_all [ownL,zd2,Ty.plain]
   | cons o os=>
    have:=zcn (os:=os) (nm:=nm) h.2 (by simpa [zdP] using hp)
    cases o <;> (simp_all [ownL,zd2,Ty.plain];exact this.2)
  | int k v=>
   cases os with
   | nil=>
    have:=zcn (os:=[]) (nm:=nm) h.2 (by simpa [zdP] using hp)
    cases xs <;> simp_all [ownL,zd2,Ty.plain]
   | cons o os=>
    have:=zcn (os:=os) (nm:=nm) h.2 (by simpa [zdP] using hp)
    cases o <;> (simp_all [ownL,zd2,Ty.plain];exact this.2)
  | raw k=>
   cases os with
   | nil=>
    have:=zcn (os:=[]) (nm:=nm) h.2 (by simpa [zdP] using hp)
    cases xs <;> simp_all [ownL,zd2]
   | cons o os=>
    have:=zcn (os:=os) (nm:=nm) h.2 (by simpa [zdP] using hp)
    cases o <;> (simp_all [ownL,zd2];exact this.2)
  | ifo K t v=>cases os <;> simp [zdP]at hp
  | slice e v=>
   cases os with
   | nil=>simp [zdP]at hp
   | cons o os=>
    cases o with
    | none=>simp [zdP]at hp
    | some T=>
     simp only [zdP,qae]at hp;have:=zcn (os:=os) (nm:=nm+1) h.2 hp.2
     simp only [ownL];refine ⟨fun x hx=>?_,fun p hp'=>?_⟩
     . rcases qas.1 hx with rfl | hx
       . trivial
       . exact this.1 x hx
     . rcases qas.1 hp' with rfl | hp'
       . exact hp.1
       . exact this.2 p hp'
 | [],_::_,_,_,h,_=>h.elim
 | _::_,[],_,_,h,_=>h.elim
def zyn:A1->Prop
 | .one x=>zd2 x
 | .agg xs=>∀ x∈xs,zd2 x
theorem All2.plain{h:Array Obj}{ok ok':Nat->Prop}{env:Nm}:∀ {xs:List Lf} {cs:List Value},(∀ x∈xs,zd2 x)->All2 (LfR h ok env) xs cs->All2 (LfR h ok' env) xs cs
 | [],[],_,_=>trivial
 | _::_,_::_,hp,hf=>⟨LfR.plain (hp _ (by simp)) hf.1,All2.plain (fun x hx=>hp x (by simp [hx])) hf.2⟩
 | [],_::_,_,hf=>hf.elim
 | _::_,[],_,hf=>hf.elim
theorem A1R.plain{h:Array Obj}{ok ok':Nat->Prop}{env:Nm}{a:A1}{v:Value}(hp:zyn a)(hf:A1R h ok env a v):A1R h ok' env a v:=by
 cases a with
 | one x=>exact LfR.plain hp hf
 | agg xs=>obtain ⟨cs,h1,h2⟩:=hf;exact ⟨cs,h1,All2.plain hp h2⟩
theorem zoj:∀ {rs:List RTy} {v:Rden rs} {nm:Nat},zom rs=true->(∀ a∈(resL rs v nm).1,zyn a)/\∀ p∈(resL rs v nm).2.1,zny p.2
 | [],_,_,_=>by simp [resL]
 | r::rs,v,nm,hp=>by
  simp only [zom,qb0,qae]at hp;have hcl:r.clo=none:=by simpa using hp.1.1
  have h1:=zcn (nm:=nm) (zgi r.t v.1) hp.1.2
  have h2:=zoj (rs:=rs) (v:=v.2) (nm:=(ownL (flat r.t v.1) r.own nm).2.2) (by simpa [zom] using hp.2)
  simp only [resL,hcl];refine ⟨fun a ha=>?_,fun p hp=>?_⟩
  . rcases qas.1 ha with rfl | ha
    . cases hagg:r.t.isAgg with
      | true=>exact h1.1
      | false=>
       simp only [qaf];split
       . rename_i y hy;exact h1.1 y (by simp [hy])
       . exact h1.1
    . exact h2.1 a ha
  . rcases qak.1 hp with hp | hp
    . exact h1.2 p hp
    . exact h2.2 p hp
theorem All2.of_mem{α β:Type}{R S:α->β->Prop}:∀ {as:List α} {bs:List β},(∀ a∈as,∀ b,R a b->S a b)->All2 R as bs->All2 S as bs
 | [],[],_,_=>trivial
 | _::_,_::_,h,k=>⟨h _ (by simp) _ k.1,All2.of_mem (fun a ha=>h a (by simp [ha])) k.2⟩
 | [],_::_,_,k=>k.elim
 | _::_,[],_,k=>k.elim
theorem Returns.plain{E:Entry}{ok ok':Nat->Prop}{r:Rden E.rs×Oden E.ps}{nm:Nat}{w':World}{vals:List Value}{ec:Nm}{oc:Ow}(hpl:zom E.rs=true)(hps:BsOk E.ps [])(hr:Returns E w ok [] r nm w' vals ec oc):Returns E w ok' [] r nm w' vals ec oc:=by
 have hp:=zoj (v:=r.1) (nm:=nm) hpl
 refine ⟨hr.behind,hr.owns,hr.envs,All2.of_mem (fun a ha b=>A1R.plain (hp.1 a ha)) hr.res,fun p hp'=>(hr.rows p hp').plain (hp.2 p hp'),?_⟩
 have:∀ {ps:List PTy} {o:Oden ps},BsOk ps []->OutR w'.heap (okAt ok' oc w.heap.size) ps o []:=by
  intro ps;induction ps with
  | nil=>intro o _;trivial
  | cons p ps ih=>
   intro o h;cases p with
   | val t=>exact ih h
   | ptr T t=>exact h.elim
 exact this hps
theorem zpr{h:Array Obj}{ok:Nat->Prop}{env:Nm}{as:List A1}{vals:List Value}(hr:All2 (A1R h ok env) as vals):AvR h ok env (resAV as) (zs4 vals):=by
 match as,vals,hr with
 | [],[],_=>exact ⟨#[],rfl,trivial⟩
 | [a],[v],hr=>exact hr.1
 | a::b::as,v::u::vals,hr=>exact ⟨_,rfl,hr⟩
theorem Entry.Sound.ent{E:Entry}(hE:E.Sound P):E.ent.Sound P:=by
 intro cx fs w env own N avs vals0 nm r hw hb hav hn h;obtain ⟨fl,h1,h2⟩:=zaa.1 (show (E.G avs nm).evs fs=some r from h)
 obtain ⟨⟨d,lent,bs⟩,h3,h4⟩:=zaa.1 h2;obtain ⟨_,h5,h6⟩:=zaa.1 h4;have hnb:∀ b∈bs,b ∉ nms lent:=by
  have:=zah.1 h5
  rw [qaN]at this;intro b hb hm;obtain ⟨p,hp,he⟩:=qav.1 hm;have:=this p hp
  simp [he,hb]at this
 obtain ⟨fv,hfv,hgr⟩:=zlA h1 hav;simp only [T.evs]at h6;cases hF:E.F d with
 | none=>simp [hF]at h6
 | some q=>
  simp only [hF,qaa]at h6;cases hk:Nat.ble (resL E.rs q.1 nm).2.2 (nm+64) with
  | false=>simp [hk,T.evs]at h6
  | true=>
   simp only [hk,qah,T.evs,Option.some.injEq]at h6;have hk:=qa5 hk;obtain ⟨hfz,hbs,gs,hp,harg⟩:=zqk hb h3 hfv;have harg:=harg (nms lent) (fun p hp=>qav.2 ⟨p,hp,rfl⟩) hnb
   have hw1:=hw.unown (nms lent);have hb1:=hb.freeze hfz;have hp1:zkO env (unown own (nms lent)) bs gs:=by
    have:∀ {bs gs:List Nat},(∀ b∈bs,b ∉ nms lent)->zkO env own bs gs->zkO env (unown own (nms lent)) bs gs:=by
     intro bs;induction bs with
     | nil=>intro gs _ h;cases gs with
      | nil=>trivial
      | cons _ _=>exact h.elim
     | cons b bs ih=>intro gs hn h;cases gs with
      | nil=>exact h.elim
      | cons g gs=>exact ⟨⟨zbu h.1.1 (hn b (by simp)),h.1.2⟩,ih (fun b hb=>hn b (by simp [hb])) h.2⟩
    exact this hnb hp
   have hcall:=hE w _ d _ gs q harg (fun c hc=>hc.2) hF nm
   rw [hgr]at hcall;refine hcall.mono ?_;rintro e w' ⟨vals,ec,oc,rfl,hret⟩;subst h6;cases hpl:zom E.rs&&bs.isEmpty with
   | false=>
    obtain ⟨p1,p2⟩:=zqY hw1 hb1 hn hbs hp1 hret hk;refine ⟨_,_,_,_,rfl,rfl,zpr p2,?_⟩;simp only [qaf];rw [<-qaR];exact (Post.freeze hw hb hfz).trans p1
   | true=>
    simp only [qae,List.isEmpty_iff]at hpl;obtain ⟨hpl,rfl⟩:=hpl;have:gs=[]:=by cases gs with
     | nil=>rfl
     | cons _ _=>exact hp.elim
    subst this;obtain ⟨p1,p2⟩:=zqY hw hb hn hbs hp (hret.plain hpl hbs) hk;refine ⟨_,_,_,_,rfl,rfl,zpr p2,?_⟩;simp only [qah,qaW];exact p1
theorem zpl{act:Act}(hs:RS cx fs act.tmps w env own):∀ {xs:List Operand} {as:List AV},(zsZ xs).evs fs=some as->All2 (AvR w.heap (cx.ok own) env) as (xs.map act.eval)
 | [],as,h=>by simp [zsZ,T.evs]at h;subst h;trivial
 | x::xs,as,h=>by
  simp only [zsZ]at h;obtain ⟨a,h1,h2⟩:=zaa.1 h;obtain ⟨r,h3,h4⟩:=zaa.1 h2;simp at h4;subst h4
  exact ⟨zdN hs h1,zpl hs h3⟩
theorem zqd{act:Act}(hs:RS cx fs act.tmps w env own):∀ {xs:List Operand} {as:List Cp},(zv6 xs).evs fs=some as->All2 (CpR w.heap (cx.ok own) env) as (xs.map act.eval)
 | [],as,h=>by simp [zv6,T.evs]at h;subst h;trivial
 | x::xs,as,h=>by
  simp only [zv6]at h;obtain ⟨a,h1,h2⟩:=zaa.1 h;obtain ⟨r,h3,h4⟩:=zaa.1 h2;simp at h4;subst h4
  refine ⟨?_,zqd hs h3⟩;obtain ⟨l,h5,h6⟩:=zaa.1 h1;have hl:=zbc hs h5;split at h6
  . simp [T.evs]at h6;subst h6;exact hl
  . simp [T.evs]at h6;subst h6;exact hl
  . simp [T.evs]at h6;subst h6;simpa [CpR,LfR,Fits] using hl
  . simp [T.evs]at h6
theorem zvm(ht:tbl.Sound P)(hw:RW cx w env own N)(hb:RB cx fs w env own){nm:Nat}(hn:∀ b,nm<=b->b<nm+64->¬N b){f:FuncId}{avs:List AV}{vals:List Value}(hav:All2 (AvR w.heap (cx.ok own) env) avs vals){r:Option AV×Ws}
 (h:(zzo tbl f avs nm).evs fs=some r):zbZ P f/\Calls P f vals.toArray w fun e w'=>∃ v a env' own',e = .returned v/\r.1=some a/\AvR w'.heap (cx.ok own') env' a v/\Post cx fs w env own r.2 w' env' own' (fun b=>N b\/(nm<=b/\b<nm+64)):=by
 unfold zzo at h;split at h
 . rename_i E hE;obtain ⟨rfl,h1,h2⟩:=Tbl.find_ok ht hE;exact ⟨h1,h2 cx fs w env own N avs vals nm r hw hb hav hn h⟩
 . simp [T.evs]at h
theorem zzm(ht:tbl.Sound P)(hw:RW cx w env own N)(hb:RB cx fs w env own){nm:Nat}(hn:∀ b,nm<=b->b<nm+64->¬N b){x:Lf}{v0:Value}(hx:LfR w.heap (cx.ok own) env x v0){avs:List AV}{vals:List Value}(hav:All2 (AvR w.heap (cx.ok own) env) avs vals){r:Option AV×Ws}
 (h:(zzn tbl x avs nm).evs fs=some r):∃ f vs us,v0 = .func (.func f) vs us/\zbZ P f/\Calls P f (vs++vals.toArray++us) w fun e w'=>∃ v a env' own',e = .returned v/\r.1=some a/\AvR w'.heap (cx.ok own') env' a v/\Post cx fs w env own r.2 w' env' own' (fun b=>N b\/(nm<=b/\b<nm+64)):=by
 unfold zzn at h;split at h
 . rename_i f;obtain ⟨h1,h2⟩:=zvm ht hw hb hn hav h;exact ⟨f,#[],#[],hx,h1,by simpa using h2⟩
 . rename_i f fi ca;obtain ⟨vs,us,e,q1,q2⟩:=hx;obtain ⟨h1,h2⟩:=zvm ht hw hb hn ((ziH q1).append (hav.append (ziH q2))) h;refine ⟨f,vs,us,e,h1,?_⟩;have:(vs.toList++(vals++us.toList)).toArray=vs++vals.toArray++us:=by
    apply Array.toList_inj.1;simp
   rw [<-this];exact h2
 . simp [T.evs]at h
end
end Go.VI
namespace Go.VI
open Go Go.RowKit
section
variable {P:Program} {te:TE} {cx:Cx} {fs:FS} {w:World} {env:Nm} {own:Ow}
theorem zlX{t:TypeId}{ty:Ty}{i:TypeInfo}{d:TypeDesc}(hi:P.info? t=some i)(hsz:i.size=ty.size)(hd:P.underlying t=some d)(hag:aggD d=ty.isAgg){cs:Array Value}{off:Nat}(hl:off+ty.size<=cs.size):
 (part t cs off).run P w = .ok (zaW ty ((cs.toList.drop off).take ty.size)) w:=by
 simp only [part,Sem.run_bind,zlY hd,Result.andThen_ok,hag,zaW];cases hag:ty.isAgg with
 | true=>
  simp only [if_true,Sem.run_bind,zbv hi,Result.andThen_ok,hsz,Sem.run_pure];congr 2
  apply Array.toList_inj.1
  simp [Array.toList_extract,List.extract,List.take_drop,Nat.add_comm]
 | false=>
  have hs1:ty.size=1:=by cases hty:ty <;> simp_all [Ty.isAgg,Ty.size]
  rw [hs1]at hl ⊢
  have hlt:off<cs.size:=by omega
  simp only [qbm,qbj,qby hlt,Sem.run_pure];congr 1
  rw [qaU (by simpa using hlt)]
  simp
theorem zhA{h:Array Obj}{ok:Nat->Prop}{c:TypeId->Ty->Bool}{d:Nat}(hc:∀ t ty,c t ty=true->ty.plain=true->∀ (u v:ty.den) (cs ds:List Value),Fits h ok ty u cs->Fits h ok ty v ds->(Op.equalIn d t (zaW ty cs) (zaW ty ds)).run P w = .ok (ty.eqv u v) w){xs ys:Array Value}:
 ∀ (fl:List Field) (off:Nat) (ty:Ty),zk6 c P fl off ty=true->ty.plain=true->∀ (u v:ty.den),Fits h ok ty u (xs.toList.drop off)->Fits h ok ty v (ys.toList.drop off)->(Op.eqFields d xs ys fl).run P w = .ok (ty.eqv u v) w
 | [],_,.unit,_,_,_,_,_,_=>by simp [Op.eqFields,Ty.eqv]
 | f::fl,off,.prod a b,hcf,hp,u,v,hu,hv=>by
  simp only [zk6,qae,qaC,ne_eq]at hcf;obtain ⟨⟨⟨⟨⟨⟨h1,h2⟩,h0⟩,h3⟩,h4⟩,h5⟩,h6⟩:=hcf;simp only [Nat.blt_eq]at h0;simp only [Ty.plain,qae]at hp;have ho:f.offset=off:=qan h2
  cases hi:P.info? f.type with
  | none=>simp [hi]at h3
  | some i=>
   cases hd:P.underlying f.type with
   | none=>simp [hd]at h4
   | some ds=>
    simp only [hi]at h3;simp only [hd,qaz]at h4;have hsz:=qan h3;obtain ⟨c1,c2,e1,k1,k2⟩:=hu;obtain ⟨d1,d2,e2,k3,k4⟩:=hv;have l1:=k1.len;have l3:=k3.len
    have lx:off+a.size<=xs.size:=by
     have:=congrArg List.length e1
     simp only [qaK,qbz,qaD]at this;omega
    have ly:off+a.size<=ys.size:=by
     have:=congrArg List.length e2
     simp only [qaK,qbz,qaD]at this;omega
    have t1:(xs.toList.drop off).take a.size=c1:=by rw [e1,<-l1];simp
    have t2:(ys.toList.drop off).take a.size=d1:=by rw [e2,<-l3];simp
    have r1:=hc f.type a h5 hp.1 u.1 v.1 c1 d1 k1 k3;have r2:=zhA hc fl (off+a.size) b h6 hp.2 u.2 v.2 (by rw [<-qbu,e1,<-l1];simpa using k2) (by rw [<-qbu,e2,<-l3];simpa using k4)
    simp only [Op.eqFields,if_pos h1,Sem.run_bind,ho,zlX hi hsz hd h4 lx,zlX hi hsz hd h4 ly,Result.andThen_ok,t1,t2,r1];cases hq:a.eqv u.1 v.1 with
    | false=>simp [Ty.eqv,hq]
    | true=>simpa [Ty.eqv,hq] using r2
 | [],_,.prod _ _,h,_,_,_,_,_=>by simp [zk6]at h
 | [],_,.bool,h,_,_,_,_,_=>by simp [zk6]at h
 | [],_,.int _,h,_,_,_,_,_=>by simp [zk6]at h
 | [],_,.slice _,h,_,_,_,_,_=>by simp [zk6]at h
 | _::_,_,.unit,h,_,_,_,_,_=>by simp [zk6]at h
 | _::_,_,.bool,h,_,_,_,_,_=>by simp [zk6]at h
 | _::_,_,.int _,h,_,_,_,_,_=>by simp [zk6]at h
 | _::_,_,.slice _,h,_,_,_,_,_=>by simp [zk6]at h
theorem ztR{h:Array Obj}{ok:Nat->Prop}:∀ (d e:Nat) (t:TypeId) (ty:Ty),zp9 P d t ty=true->ty.plain=true->∀ (u v:ty.den) (cs ds:List Value),Fits h ok ty u cs->Fits h ok ty v ds->(Op.equalIn (d+e) t (zaW ty cs) (zaW ty ds)).run P w = .ok (ty.eqv u v) w
 | 0,_,_,_,hc,_,_,_,_,_,_,_=>by simp [zp9]at hc
 | d+1,e,t,.bool,hc,_,u,v,cs,ds,hu,hv=>by
  simp only [zp9]at hc;split at hc
  . rename_i hd;simp only [Fits]at hu hv;subst hu;subst hv
    simp only [zaW,Ty.isAgg,qbm,qbj,List.headD];rw [Nat.add_right_comm];exact run_equalIn_bool' w (d+e) t u v hd
  . cases hc
 | d+1,e,t,.int k,hc,_,u,v,cs,ds,hu,hv=>by
  simp only [zp9]at hc;split at hc
  . rename_i k' hd
    simp only [Fits]at hu hv;subst hu;subst hv
    simp only [zaW,Ty.isAgg,qbm,qbj,List.headD];rw [Nat.add_right_comm];exact run_equalIn_int w (d+e) t k k' u v hd
  . cases hc
 | d+1,e,t,.prod a b,hc,hp,u,v,cs,ds,hu,hv=>by
  simp only [zp9]at hc;split at hc
  . rename_i fl hd;simp only [qae,qar]at hc;have hfo:P.fieldsOf t=fl:=by simp [Program.fieldsOf,hd]
    rw [show zaW (.prod a b) cs = .agg cs.toArray by simp [zaW,Ty.isAgg],show zaW (.prod a b) ds = .agg ds.toArray by simp [zaW,Ty.isAgg],Nat.add_right_comm,run_equalIn_struct w (d+e) t _ _ (by rw [hfo];exact hd) hc.1.2,hfo]
    exact zhA (fun t ty hc hp u v cs ds hu hv=>ztR d e t ty hc hp u v cs ds hu hv) fl.toList 0 (.prod a b) hc.2 hp u v (by simpa using hu) (by simpa using hv)
  . cases hc
 | d+1,e,t,.unit,hc,hp,u,v,cs,ds,hu,hv=>by
  simp only [zp9]at hc;split at hc
  . rename_i fl hd;simp only [qae,qar]at hc;have hfo:P.fieldsOf t=fl:=by simp [Program.fieldsOf,hd]
    rw [show zaW .unit cs = .agg cs.toArray by simp [zaW,Ty.isAgg],show zaW .unit ds = .agg ds.toArray by simp [zaW,Ty.isAgg],Nat.add_right_comm,run_equalIn_struct w (d+e) t _ _ (by rw [hfo];exact hd) hc.1.2,hfo]
    exact zhA (fun t ty hc hp u v cs ds hu hv=>ztR d e t ty hc hp u v cs ds hu hv) fl.toList 0 .unit hc.2 hp u v (by simpa using hu) (by simpa using hv)
  . cases hc
 | d+1,e,t,.slice _,hc,hp,_,_,_,_,_,_=>by simp [Ty.plain]at hp
theorem eqRun{T:TypeId}{op:BinOp}{ox oy:Operand}{h:Array Obj}{ok:Nat->Prop}:∀ {ty:Ty},ty.plain=true->P.eqGuardType P.depth T=false->∀ (u v:ty.den) {cs ds:List Value},Fits h ok ty u cs->Fits h ok ty v ds->(Op.equalIn 10000 T (zaW ty cs) (zaW ty ds)).run P w = .ok (ty.eqv u v) w ->
 (eqGuard op T ox oy (zaW ty cs) (zaW ty ds)).run P w = .ok () w/\∀ b:Bool,(binOp (cond b .eql .neq) T (zaW ty cs) (zaW ty ds)).run P w = .ok (.bool (cond b (ty.eqv u v) (!ty.eqv u v))) w
 | .bool,_,q,u,v,cs,ds,F1,F2,run=>by
  simp only [Fits]at F1 F2;subst F1;subst F2
  refine ⟨by cases op <;> simp [eqGuard,zaW,Ty.isAgg],fun b=>?_⟩
  simp only [zaW,Ty.isAgg,qbm,qbj,List.headD]at run ⊢;cases b <;> simp [binOp,Op.equal,Op.maxDepth,run]
 | .int k,_,q,u,v,cs,ds,F1,F2,run=>by
  simp only [Fits]at F1 F2;subst F1;subst F2
  refine ⟨by cases op <;> simp [eqGuard,zaW,Ty.isAgg],fun b=>?_⟩
  simp only [zaW,Ty.isAgg,qbm,qbj,List.headD];cases b <;> simp [binOp,Op.intCmp,Ty.eqv,bne]
 | .slice _,hp,_,_,_,_,_,_,_,_=>by simp [Ty.plain]at hp
 | .prod a b,_,q,u,v,cs,ds,F1,F2,run=>by
  simp only [zaW,Ty.isAgg,if_true]at run ⊢;refine ⟨run_eqGuard_agg w op T ox oy _ _ q,fun b=>?_⟩
  cases b
  . simp only [qaf];rw [run_neq_struct,run];rfl
  . simp only [qah];rw [run_eql_struct,run];rfl
 | .unit,_,q,u,v,cs,ds,F1,F2,run=>by
  simp only [zaW,Ty.isAgg,if_true]at run ⊢;refine ⟨run_eqGuard_agg w op T ox oy _ _ q,fun b=>?_⟩
  cases b
  . simp only [qaf];rw [run_neq_struct,run];rfl
  . simp only [qah];rw [run_eql_struct,run];rfl
theorem eq_ok(ht:TEok P te)(hb:RB cx fs w env own){op:BinOp}{t:TypeId}{ox oy:Operand}{a b:AV}{z:Lf}{vx vy:Value}(h:(eqT te op t a b).evs fs=some z)(hx:AvR w.heap (cx.ok own) env a vx)(hy:AvR w.heap (cx.ok own) env b vy):
 ∃ v,(do eqGuard op t ox oy vx vy;binOp op t vx vy:Sem Value).run P w = .ok v w/\LfR w.heap (cx.ok own) env z v:=by
 obtain ⟨r,h1,h2⟩:=zaa.1 h;obtain ⟨htr,hr⟩:=zb3 ht h1;subst htr;obtain ⟨_,hg,h2⟩:=zaa.1 h2;have hg:=zah.1 hg;simp only [qae]at hg;obtain ⟨q1,q2⟩:=hr.cmp hg.1;obtain ⟨ys,h3,h2⟩:=zaa.1 h2;obtain ⟨zs,h4,h2⟩:=zaa.1 h2;obtain ⟨⟨u,ru,wu⟩,h5,h2⟩:=zaa.1 h2;obtain ⟨_,hu,h2⟩:=zaa.1 h2;obtain ⟨⟨v,rv,wv⟩,h6,h2⟩:=zaa.1 h2;obtain ⟨_,hv,h2⟩:=zaa.1 h2;have hu:=zah.1 hu;have hv:=zah.1 hv;simp only [List.isEmpty_iff]at hu hv;subst hu;subst hv
 obtain ⟨k1,k2⟩:=zb1 h3 hx (.inr trivial);obtain ⟨k3,k4⟩:=zb1 h4 hy (.inr trivial);obtain ⟨_,c1,c2,e1,f1,g1⟩:=zcf hb h5 k1;obtain ⟨_,d1,d2,e2,f2,g2⟩:=zcf hb h6 k3;match c2,f1 with
 | [],_=>
 match d2,f2 with
 | [],_=>
 simp only [qaW]at e1 e2;have e1':=k2 _ e1;have e2':=k4 _ e2;have F1:Fits w.heap (cx.ok own) r.ty u c1:=Fits.plain hg.2 (g1 (wu.map (·.1)) fun p hp=>qav.2 ⟨p,hp,rfl⟩)
 have F2:Fits w.heap (cx.ok own) r.ty v d1:=Fits.plain hg.2 (g2 (wv.map (·.1)) fun p hp=>qav.2 ⟨p,hp,rfl⟩)
 have run:=ztR (P:=P) (w:=w) 20 9980 r.t r.ty q2 hg.2 u v c1 d1 F1 F2
 rw [<-e1',<-e2']at run;obtain ⟨hgrd,hfall⟩:=eqRun (w:=w) (op:=op) (ox:=ox) (oy:=oy) hg.2 q1 u v F1 F2 (by rw [<-e1',<-e2'];exact run)
 rw [<-e1',<-e2']at hgrd hfall;simp only [Sem.run_bind,hgrd,Result.andThen_ok];cases op <;> (first | (obtain ⟨_,_,h2⟩:=zaa.1 h2;simp [T.evs]at h2;done) | skip)
 . obtain ⟨_,_,h2⟩:=zaa.1 h2;simp [T.evs]at h2;subst h2
   exact ⟨_,hfall true,by simp [LfR,Fits]⟩
 . obtain ⟨_,_,h2⟩:=zaa.1 h2;simp [T.evs]at h2;subst h2
   exact ⟨_,hfall false,by simp [LfR,Fits]⟩
theorem binA_ok(ht:TEok P te)(hb:RB cx fs w env own){op:BinOp}{t:TypeId}{ox oy:Operand}{a b:AV}{z:Lf}{vx vy:Value}(h:(binA te op t a b).evs fs=some z)(hx:AvR w.heap (cx.ok own) env a vx)(hy:AvR w.heap (cx.ok own) env b vy):
 ∃ v,(do eqGuard op t ox oy vx vy;binOp op t vx vy:Sem Value).run P w = .ok v w/\LfR w.heap (cx.ok own) env z v:=by
 unfold binA at h;split at h
 . rename_i x;cases hi:isInt x with
   | true=>
    rw [hi,qah]at h;obtain ⟨y,h1,h2⟩:=zaa.1 h;rw [zou h1]at hy;exact bin_ok h2 hx hy
   | false=>rw [hi,qaf]at h;exact eq_ok ht hb h hx hy
 . exact eq_ok ht hb h hx hy
end
end Go.VI
namespace Go.VI
open Go Go.RowKit
section
variable {P:Program}
theorem zg8(z:Array Value)(k:Nat):(Builtin.zeroCells z k).toList.length=k*z.size:=by simp [Builtin.zeroCells]
theorem zgT(w:World)(base:Nat)(t tn ty e:TypeId)(i:TypeInfo)(z:Value)(kn kq:IntKind)(ht:P.underlying t=some (.slice e))(htn:P.underlying tn=some (.int kn))(hi:P.info? e=some i)(hz:i.zero=some z)
 (hzs:z.cells.size=i.size) (hsz:0<i.size) (hby:0<i.bytes) (hz1:∀ u∈z.cells.toList,u.oneCell'=true)
 (v:Value) (n:Nat) (xs:List Value) (hown:w.ownsRow base e i.size v n xs) (k:Nat) (hbytes:(n+k)*i.bytes<=140737488355328) (hbase:base<=w.heap.size) (hsl:∃ p n c,v = .slice p n c) :
 ∃ v' w',(Builtin.append_ #[t,tn] ty #[v,.int kq k]).run P w = .ok v' w'/\w'.ownsRow base e i.size v' (n+k) (xs++(Builtin.zeroCells z.cells k).toList)/\w.grownBy w' v.ownBlock /\
  (v'.ownBlock=v.ownBlock\/∀ g,v'.ownBlock=some g->w.heap.size<=g)/\∃ p n c,v' = .slice p n c:=by
 have h63:n+k<=140737488355328:=qaA (qcx _ hby) hbytes
 have hkb:k*i.bytes<=140737488355328:=qaA (qaT _ (by omega)) hbytes
 have hmax:n+k<=maxLen:=by simp only [maxLen];omega
 have hlen:(xs++(Builtin.zeroCells z.cells k).toList).length=(n+k)*i.size:=by rw [qaD,hown.1,zg8,hzs,qaO]
 have grown:∀ (old:Nat),old<n+k->∀ (row:Option Nat),
  (w.drew.alloc (.cells (xs.toArray++Builtin.zeroCells z.cells k++Builtin.zeroCells z.cells (grownCap w (n+k) old e-(n+k))) e)).ownsRow base e i.size
   (.slice (some ⟨w.heap.size,0,none⟩) (n+k) (grownCap w (n+k) old e)) (n+k) (xs++(Builtin.zeroCells z.cells k).toList) /\
  w.grownBy (w.drew.alloc (.cells (xs.toArray++Builtin.zeroCells z.cells k++Builtin.zeroCells z.cells (grownCap w (n+k) old e-(n+k))) e)) row:=by
  intro old ho row;have hge:=grownCap_ge w (n+k) old e;have hcm:=grownCap_le_maxLen w (n+k) old e hmax;refine ⟨⟨hlen,.inr ⟨w.heap.size,_,_,rfl,hbase,heap_alloc_new w.drew _,hge,hcm,?_,?_⟩⟩,⟨rfl,rfl,rfl,by simp,fun k hk _=>heap_alloc_old w.drew _ k hk⟩⟩
  . simp only [Array.size_append,List.size_toArray,size_zeroCells,hzs,hown.1,<-qaO];congr 1
    omega
  . simp only [Array.toList_append];rw [<-hlen];exact List.take_left
 rcases hown.2 with ⟨rfl,rfl⟩ | ⟨g,cap,cur,rfl,hbg,hg,hnc,hcm,hcs,htake⟩
 . have hx:xs=[]:=qbT (by simpa using hown.1)
   subst hx;by_cases hk:k=0
   . subst hk;refine ⟨.slice none 0 0,w,?_,by simpa [Builtin.zeroCells] using World.ownsRow_nil w base e i.size,⟨rfl,rfl,rfl,qao _,fun _ _ _=>rfl⟩,.inl rfl,_,_,_,rfl⟩
     have hw:IntKind.i64.wrap (0:Int)=0:=by rw [IntKind.wrap_i64];omega
     simp [Builtin.append_,run_underlying ht,run_underlying htn,sizeOf,typeInfo,hi,Go.asInt,Go.asIntOf,hw]
   . have hr:=Lib.run_append_nil_zeros (P:=P) w t tn ty e i z kq kn ht htn hi hz k (by omega) hsz (by omega) (by omega)
     have hgr:=grown 0 (by omega) (Value.ownBlock (.slice none 0 0))
     simp only [qaH,qaS,Array.empty_append]at hgr ⊢;exact ⟨_,_,hr,hgr.1,hgr.2,.inr fun g hg=>by simp [Value.ownBlock]at hg;omega,_,_,_,rfl⟩
 . by_cases hroom:n+k<=cap
   . have hfit:n*i.size+(Builtin.zeroCells z.cells k).toList.length<=cur.size:=by rw [zg8,hzs,hcs,<-qaO];exact qaT _ hroom
     have hones:∀ u∈(Builtin.zeroCells z.cells k).toList,u.oneCell'=true:=by
      intro u hu;simp only [Builtin.zeroCells,qcy,Array.toList_range,qav,qbN]at hu;obtain ⟨j,hj,rfl⟩:=hu;have hpos:0<z.cells.size:=by omega
      have hm:j % z.cells.size<z.cells.size:=Nat.mod_lt _ hpos;rw [getElem!_pos z.cells (j % z.cells.size) hm];exact hz1 _ (by simp)
     have hst:=run_storeCells_at P g (n*i.size) e (Builtin.zeroCells z.cells k).toList 0 cur w hg (by simpa using hfit) hones
     simp only [qa9]at hst;refine ⟨.slice (some ⟨g,0,none⟩) (n+k) cap,w.setRow g (cur.toList.take (n*i.size)++(Builtin.zeroCells z.cells k).toList++cur.toList.drop (n*i.size+(Builtin.zeroCells z.cells k).toList.length)).toArray,?_,
      ⟨hlen,.inr ⟨g,cap,_,rfl,hbg,setRow_heap w g cur _ e _ hg,hroom,hcm,?_,?_⟩⟩,⟨rfl,rfl,rfl,by simp,fun k _ hk=>setRow_other w g k _ (fun e=>hk (by simp [Value.ownBlock,e]))⟩,.inl rfl,_,_,_,rfl⟩
     . have hw:IntKind.i64.wrap (k:Int)=k:=by rw [IntKind.wrap_i64];omega
       have hneg:¬((k:Int)<0):=by omega
       have h48i:¬(281474976710656<(k:Int)*(i.bytes:Int)):=by rw [<-qct];omega
       by_cases hk:k=0
       . subst hk;have hz0:Builtin.zeroCells z.cells 0=#[]:=by simp [Builtin.zeroCells]
         have hw0:IntKind.i64.wrap (0:Int)=0:=by rw [IntKind.wrap_i64];omega
         have hst':w=w.setRow g (cur.toList.take (n*i.size)++(Builtin.zeroCells z.cells 0).toList++cur.toList.drop (n*i.size+(Builtin.zeroCells z.cells 0).toList.length)).toArray:=by
          have:=hst
          rw [hz0]at this ⊢
          simpa [storeCells] using this
         rw [<-hst'];simp [Builtin.append_,run_underlying ht,run_underlying htn,sizeOf,typeInfo,hi,Go.asInt,Go.asIntOf,hw0,hnc,storeCells]
       . have hns:¬(k*i.size=0):=Nat.mul_ne_zero hk (by omega)
         simp [Builtin.append_,run_underlying ht,run_underlying htn,sizeOf,typeInfo,zeroValue,hi,hz,Go.asInt,Go.asIntOf,hw,hneg,h48i,hns,hroom,Addr.add_lit,hst]
     . rw [qbz]at hfit;simp only [List.size_toArray,qaD,qau,qaK,qbz];omega
     . rw [htake,<-hlen];exact List.take_left
   . have holds:∀ j u,xs[j]?=some u->w.cell? ((⟨g,0,none⟩:Addr).add j)=some u:=hown.cells (g:=g) rfl
     by_cases hk:k=0
     . omega
     . have hr:=Lib.run_append_grow_zeros (P:=P) w t tn ty e i z kq kn ht htn hi hz (some ⟨g,0,none⟩) n cap xs (run_firstCells_some (P:=P) w.drew i.size n ⟨g,0,none⟩ n cap xs hown.1 holds) k (by omega) hsz (by omega) (by omega) (by omega) (growslice_fits (by omega) hbytes)
       have hgr:=grown cap (by omega) (Value.ownBlock (.slice (some ⟨g,0,none⟩) n cap))
       exact ⟨_,_,hr,hgr.1,hgr.2,.inr fun g hg=>by simp [Value.ownBlock]at hg;omega,_,_,_,rfl⟩
theorem appZ_ok{te:TE}{cx:Cx}{fs:FS}{w:World}{env:Nm}{own:Ow}{N:Nat->Prop}(ht:TEok P te)(hw:RW cx w env own N)(hb:RB cx fs w env own){t tn ty:TypeId}{x:Lf}{vx:Value}{nm:Nat}(hn:¬N nm){kn kq:IntKind}{n:Int}(htn:P.underlying tn=some (.int kn))
 {a:Lf} {bw:Ws} (h:(appZ te t x n nm).evs fs=some (a,bw)) (hx:LfR w.heap (cx.ok own) env x vx) :
 ∃ v' w' env' own',(Builtin.append_ #[t,tn] ty #[vx,.int kq n]).run P w = .ok v' w'/\Post cx fs w env own bw w' env' own' (fun b=>N b\/b=nm)/\LfR w'.heap (cx.ok own') env' a v':=by
 obtain ⟨r,h1,h2⟩:=zaa.1 h;obtain ⟨htr,hr⟩:=zb3 ht h1;subst htr;split at h2
 . rename_i e hty;obtain ⟨hu,i,z,hi,hsz,hby,hpos,hbp,hz,hzc⟩:=hr.slice e hty;have hzs:z.cells.size=e.size:=by have:=congrArg List.length hzc;simpa [zdH] using this
   obtain ⟨_,h3,h4⟩:=zaa.1 h2;have h0:0<=n:=qat (zcC.1 h3)
   obtain ⟨k,rfl⟩:∃ k:Nat,n=k:=⟨n.toNat,by omega⟩
   simp only [qac]at h4;have hz1:∀ u∈z.cells.toList,u.oneCell'=true:=by rw [hzc];exact Fits.one (h:=w.heap) (ok:=fun _=>True) (zex e)
   have hchunk:∀ i (hi:i<(List.replicate k e.dflt).length),Fits w.heap (cx.ok own) e (List.replicate k e.dflt)[i] (((Builtin.zeroCells z.cells k).toList.drop (i*e.size)).take e.size):=fun i hi=>by
    have hik:i<k:=by simpa using hi
    have:=zoy (z:=z.cells) (k:=e.size) (n:=k) (i:=i) hzs hpos hik
    rw [show (Builtin.zeroCells z.cells k)=madeCells z.cells (k*e.size) by simp [Builtin.zeroCells,madeCells,hzs],this,hzc]
    simpa using zex e
   have main:∀ {l:List e.den} {vx:Value} {bb:Option Nat},(∃ xs,w.ownsRow 0 r.elem e.size vx l.length xs/\∀ i (hi:i<l.length),Fits w.heap (cx.ok own) e l[i] ((xs.drop (i*e.size)).take e.size)) ->
    (∀ g,vx.ownBlock=some g->∃ b,bb=some b/\own g=some b/\cx.low g)->(∀ b,bb=some b->N b)->(∃ p n c,vx = .slice p n c)->zaA (l.length+k) r.bytes=true ->
    ∃ v' w' env' own',(Builtin.append_ #[r.t,tn] ty #[vx,.int kq k]).run P w = .ok v' w'/\Post cx fs w env own ((bb.map fun b=>(b,Cell.no)).toList++[(nm,.arr true r.elem e (l++List.replicate k e.dflt))]) w' env' own' (fun b=>N b\/b=nm) /\
     LfR w'.heap (cx.ok own') env' (.own nm) v':=by
    rintro l vx bb ⟨xs,hown,hxs⟩ hbb hbn hslx hsm;have hsm:=small_spec hsm;rw [<-hby]at hsm;obtain ⟨v',w',hrun,hown',hgrow,hb1,hb2⟩:=zgT w 0 r.t tn ty r.elem i z kn kq hu htn hi hz (by rw [hzs,hsz]) (by omega) (by omega) hz1 vx l.length xs (by rw [hsz];exact hown) k hsm (qbe _) hslx
    rw [hsz]at hown'
    obtain ⟨env',own',p1,p2⟩:=zhn hw hb hn (l:=l++List.replicate k e.dflt) (by simp) hown' hgrow hb1 (ziK hown.1 hxs hchunk) bb hbb hbn (fun _ _ _ _=>trivial) hb2
    exact ⟨_,_,env',own',hrun,p1,p2⟩
   split at h4
   . obtain ⟨_,h5,h6⟩:=zaa.1 h4;simp at h6
     obtain ⟨rfl,rfl⟩:=h6;simp only [LfR]at hx;subst hx;have:=main (l:=[]) (vx:=.slice none 0 0) (bb:=none) ⟨[],World.ownsRow_nil w _ _ _,fun i hi=>by simp at hi⟩ (by simp [Value.ownBlock]) (by simp) ⟨_,_,_,rfl⟩ (by simpa using zcC.1 h5)
     simpa using this
   . rename_i b;obtain ⟨cl,h5,h6⟩:=zaa.1 h4;simp only [zaS,Option.some.injEq]at h5;subst h5;split at h6
     . rename_i TT e' l' hfs
       obtain ⟨_,h7,h8⟩:=zaa.1 h6;obtain ⟨l,h11,h12⟩:=zaa.1 h8;obtain ⟨_,h13,h14⟩:=zaa.1 h12;simp at h14
       obtain ⟨rfl,rfl⟩:=h14;have hT:=qan (zah.1 h7);subst hT;simp only [zcm,zbb]at h11;have he:e'=e:=by
        unfold Ty.cast at h11;split at h11
        . rename_i he;have:=Ty.eqb_eq he;injection this
        . cases h11
       subst he;have hl:l'=l:=by
        unfold Ty.cast at h11;split at h11
        . simpa using h11
        . cases h11
       subst hl;have hbb:=hb b;rw [hfs]at hbb;obtain ⟨v',e1,e2⟩:=hbb;obtain ⟨hx1,hx2⟩:=hx;rw [e1]at hx1;simp at hx1;subst hx1
       have hN:N b:=hw.names b (by simp [e1])
       refine main (l:=l') (bb:=some b) ?_ (fun g hg=>?_) (fun b' hb'=>by simp at hb';exact hb' ▸ hN) hx2 (zcC.1 h13)
       . rcases e2 with ⟨rfl,rfl⟩ | ⟨g,cap,cur,rfl,hg,q1,q2,q3,q4,q5,_⟩
         . exact ⟨[],World.ownsRow_nil w _ _ _,fun i hi=>by simp at hi⟩
         . have hle:l'.length*e'.size<=cur.size:=by rw [q3];exact qaT _ q1
           refine ⟨cur.toList.take (l'.length*e'.size),⟨by simp;omega,.inr ⟨g,cap,cur,rfl,qbe _,hg,q1,q2,q3,rfl⟩⟩,fun i hi=>?_⟩
           have hle:i*e'.size+e'.size<=l'.length*e'.size:=by
            calc i*e'.size+e'.size=(i+1)*e'.size:=by rw [qaO,qa6]
             _<=l'.length*e'.size:=qaT _ (by omega)
           rw [qbK,qbJ,qbE (by omega)]
           exact q4 i hi
       . rcases e2 with ⟨rfl,rfl⟩ | ⟨g',cap,cur,rfl,hg',q1,q2,q3,q4,q5,_⟩
         . simp [Value.ownBlock]at hg
         . simp [Value.ownBlock]at hg
           subst hg;exact ⟨b,rfl,q5 rfl⟩
     . simp [T.evs]at h6
   . simp [T.evs]at h4
 . simp [T.evs]at h2
end
end Go.VI
