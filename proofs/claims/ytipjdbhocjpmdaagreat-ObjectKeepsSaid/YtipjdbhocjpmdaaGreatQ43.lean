import Derived.Test.YtipjdbhocjpmdaaGreatQ26
import Derived.Test.YtipjdbhocjpmdaaGreatQ32
import Derived.Test.YtipjdbhocjpmdaaGreatQ42
import Derived.Maps.AppendAt
set_option linter.unusedSimpArgs false
set_option linter.unusedVariables false
set_option maxRecDepth 100000
set_option maxHeartbeats 12800000
namespace Go.Proofs.YtipjdbhocjpmdaaGreat
open Go.RowKit
section
variable {P:Program} {ops:Array Oper} {a:Act} {w:World} {o:Oper}
theorem ze0 {K:Act->World->Prop} {Q:Exit->Act->World->Prop} (s x:Operand) (t:TypeId)
 (ho:o.op = .call { callee:=.builtin .append,args:=#[s,x],argTypes:=#[t,t] })
 (base:Nat) (e:TypeId) (i:TypeInfo) (z:Value) (bytes:Nat) (ht:P.underlying t=some (.slice e)) (hi:P.info? e=some i) (hz:i.zero=some z)
 (hsize:i.size=1) (hby:i.bytes=bytes) (hzs:z.cells.size=1)
 (v:Value) (n:Nat) (xs:List Value) (hs:a.eval s=v) (hown:w.ownsRow base e 1 v n xs)
 (p:Option Addr) (m c:Nat) (kd:IntKind) (ys:List Int) (hx:a.eval x = .slice p m c) (hr:SRow w kd p m c ys)
 (h63:n+m<=maxLen) (hbytes:(n+m)*bytes<=140737488355328) (hbase:base<=w.heap.size)
 (h:∀ v' w',w'.ownsRow base e 1 v' (n+m) (xs ++ zb2 kd ys)->w.grownBy w' v.ownBlock->K (a.put o.dst v') w'):o.wp P a w K Q:=by
 cases p with
 | none =>
  have hm:ys=[]:=by
   rcases ys with _ | ⟨y,r⟩
   · rfl
   · obtain ⟨b,off,hp,_⟩:=hr.row 0 y rfl;cases hp
  subst hm
  have hm0:m=0:=by have:=hr.len;simpa using this.symm
  subst hm0
  have hrun:(Builtin.append_ #[t,t] o.type #[v,.slice none 0 c]).run P w = .ok v w:=by
   rcases hown.2 with ⟨rfl,rfl⟩ | ⟨g,cap,cur,rfl,_,_,hnc,_⟩
   · simp [Builtin.append_,run_underlying ht,sizeOf,typeInfo,hi,Builtin.lenOf,Builtin.firstCells]
   · simp [Builtin.append_,run_underlying ht,sizeOf,typeInfo,hi,Builtin.lenOf,Builtin.firstCells,hnc,storeCells]
  unfold Oper.wp
  simp [execOp,ho,resolve,invoke,builtin,hs,hx,hrun,Result.andThen]
  exact h v w (by simpa [zb2] using hown) ⟨rfl,rfl,rfl,Nat.le_refl _,fun _ _ _=>rfl⟩
 | some ad =>
  have hnews:∀ (j:Nat) (u:Value),(zb2 kd ys)[j]?=some u->w.cell? (ad.add j)=some u:=by
   intro j u hu
   obtain ⟨y,hy,rfl⟩:=ivals_get hu
   obtain ⟨b,off,hp,hc⟩:=hr.row j y hy
   injection hp with hp
   subst hp
   rw [zx1];exact hc
  obtain ⟨v',w',hr',h2,h3,-,-⟩:=run_append_own_at (P:=P) w base t o.type e i z 1 bytes ht hi hz hsize hby hzs (by omega) v n xs hown ad m c (zb2 kd ys) (by rw [zh2,hr.len];omega) hnews (zq9 _ _) h63 hbytes hbase
  unfold Oper.wp execOp
  simp only [ho,resolve,invoke,builtin,Sem.run_bind,Sem.run_pure,Result.andThen_ok,List.map_toArray,List.map_cons,List.map_nil,hs,hx,hr']
  exact h v' w' h2 h3
end
def putV (x:Wd) (k n m:Int):Wd:=⟨zw7 x.h k n m,x.st ++ [zw8 x.h k n m],x.wk⟩
inductive MStep:Wd->Wd->Prop
 | none (x:Wd):MStep x x
 | put (x:Wd) (k n m:Int):1<=k->k<=3->0<=n->n<=100->0<=m->m < 4096->zl4 x.h k n m=0->MStep x (putV x k n m)
 | link (x:Wd) (a i b:Int):a∈0 :: (x.st ++ x.wk)->getE x.h a=0->0<=i->i < (getH x.h a).n->0<=b->b < 18446744073709551616->(ptrB (getH x.h a).k (getH x.h a).n (getH x.h a).m i=true->b∈0 :: (x.st ++ x.wk))->MStep x { x with h:=setV x.h a i b }
 | pin (x:Wd) (a:Int) (i:Nat) (g:Pg) (p:Int):a∈0 :: (x.st ++ x.wk)->ofE x.h.pw x.h.np a=0->ofI x.h.pw x.h.np a=i->x.h.pages[i]?=some g->((0 < g.pins/\p=g.pins - 1)\/(p=g.pins+1/\(0 < g.pins\/g.kind=2\/(zg1 x.h.pages:Int) < x.h.np / 4)))->MStep x { x with h:={ x.h with pages:=x.h.pages.set i ⟨g.kind,g.space,g.used,p⟩ } }
 | drop (x:Wd) (i:Nat) (r:Int) (b:Bool):x.st[i]?=some r->MStep x ⟨x.h,x.st.take i ++ x.st.drop (i+1),if b then x.wk ++ [r] else x.wk⟩
 | collect (x:Wd):collE x.h x.st x.wk=0->MStep x ⟨collH x.h x.st x.wk,collS x.h x.st,collK x.h x.st x.wk⟩
 | dup (x:Wd) (a:Int):a∈0 :: (x.st ++ x.wk)->MStep x ⟨x.h,x.st ++ [a],x.wk⟩
inductive Made:Nat->Wd->Prop
 | empty (pw np:Int):(pw=16\/pw=20\/pw=32)->(np=8\/np=12\/np=16\/np=20\/np=24)->Made 0 ⟨zi1 pw np,[],[]⟩
 | step (n:Nat) (x y:Wd):Made n x->MStep x y->Made (n+1) y
end Go.Proofs.YtipjdbhocjpmdaaGreat
