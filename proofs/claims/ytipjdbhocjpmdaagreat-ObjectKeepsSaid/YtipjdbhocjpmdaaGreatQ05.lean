import Derived.Test.YtipjdbhocjpmdaaGreatQ02
import Derived.Test.YtipjdbhocjpmdaaGreatQ03
import Derived.Lib.AppendZeros
set_option linter.unusedSimpArgs false
set_option linter.unusedVariables false
set_option maxRecDepth 100000
set_option maxHeartbeats 12800000
namespace Go.Proofs.YtipjdbhocjpmdaaGreat
open Go.RowKit
structure Pg where
 kind:Int
 space:Int
 used:Int
 pins:Int
deriving DecidableEq
def Pg.zero:Pg:=⟨0,0,0,0⟩
def Pg.vals (x:Pg):List Value:=[.int .i64 x.kind,.int .i64 x.space,.int .i64 x.used,.int .i64 x.pins]
def zc4 (ps:List Pg):List Value:=ps.flatMap Pg.vals
theorem zr0 (ps:List Pg):(zc4 ps).length=ps.length*4:=flat_len Pg.vals 4 (fun _=>rfl) ps
theorem zr1 (ps:List Pg):∀ v∈zc4 ps,v.oneCell'=true:=by
 intro v hv
 obtain ⟨x,_,hx⟩:=List.mem_flatMap.1 hv
 simp [Pg.vals] at hx
 rcases hx with rfl | rfl | rfl | rfl <;> rfl
theorem zp4 (ps:List Pg) (k:Nat) (x:Pg) (h:ps[k]?=some x):(zc4 ps)[k*4]?=some (.int .i64 x.kind)/\(zc4 ps)[k*4+1]?=some (.int .i64 x.space)/\(zc4 ps)[k*4+2]?=some (.int .i64 x.used)/\(zc4 ps)[k*4+3]?=some (.int .i64 x.pins) :=
 ⟨zx4 Pg.vals 4 (fun _=>rfl) ps k x 0 (by omega) h,zx4 Pg.vals 4 (fun _=>rfl) ps k x 1 (by omega) h,zx4 Pg.vals 4 (fun _=>rfl) ps k x 2 (by omega) h,zx4 Pg.vals 4 (fun _=>rfl) ps k x 3 (by omega) h⟩
theorem zy6:∀ (ps:List Pg) (k:Nat) (x:Pg),((((zc4 ps).set (k*4) (.int .i64 x.kind)).set (k*4+1) (.int .i64 x.space)).set (k*4+2) (.int .i64 x.used)).set (k*4+3) (.int .i64 x.pins)=zc4 (ps.set k x)
 | [],k,x=>by simp [zc4]
 | y :: r,0,x=>by simp [zc4,Pg.vals]
 | y :: r,k+1,x=>by
  have ih:=zy6 r k x
  have e:∀ j,(k+1)*4+j=(k*4+j)+4:=fun j=>by omega
  have e0:(k+1)*4=k*4+4:=by omega
  rw [List.set_cons_succ,e0,show k*4+4+1=(k*4+1)+4 from by omega,show k*4+4+2=(k*4+2)+4 from by omega,show k*4+4+3=(k*4+3)+4 from by omega]
  have c:∀ (l:List Value) (j:Nat) (u:Value),(y.vals ++ l).set (j+4) u=y.vals ++ l.set j u:=fun l j u=>by simp [Pg.vals]
  rw [show zc4 (y :: r)=y.vals ++ zc4 r from rfl,show zc4 (y :: r.set k x)=y.vals ++ zc4 (r.set k x) from rfl,c,c,c,c,ih]
def PRow (w:World) (p:Option Addr) (n cap:Nat) (ps:List Pg):Prop:=VRow w 4 p n cap (zc4 ps)
theorem PRow.len {w:World} {p:Option Addr} {n cap:Nat} {ps:List Pg} (h:PRow w p n cap ps):ps.length=n:=by
 have:=VRow.len h;rw [zr0] at this;omega
theorem PRow.keep {w w':World} {p:Option Addr} {n cap:Nat} {ps:List Pg} (h:PRow w p n cap ps) (hb:Below w.heap.size w w'):PRow w' p n cap ps:=VRow.keep h hb
theorem PRow.i63 {w:World} {p:Option Addr} {n cap:Nat} {ps:List Pg} (h:PRow w p n cap ps):(cap:Int)<=9223372036854775807/\(n:Int)<=9223372036854775807:=VRow.i63 h
theorem PRow.nil (w:World) (p:Option Addr):PRow w p 0 0 []:=VRow.nil w 4 p
theorem PRow.at_ {w:World} {p:Option Addr} {n cap:Nat} {ps:List Pg} (h:PRow w p n cap ps) {k:Nat} (hk:k < n):∃ x b off,ps[k]?=some x/\p=some ⟨b,off,none⟩ /\
 w.cell? ⟨b,off+k*4,none⟩=some (.int .i64 x.kind)/\w.cell? ⟨b,off+k*4+1,none⟩=some (.int .i64 x.space)/\w.cell? ⟨b,off+k*4+2,none⟩=some (.int .i64 x.used)/\w.cell? ⟨b,off+k*4+3,none⟩=some (.int .i64 x.pins):=by
 obtain ⟨b,off,hp,hc⟩:=VRow.at_ h hk (by omega)
 have hx:ps[k]?=some (ps[k]'(by rw [h.len];exact hk)):=List.getElem?_eq_getElem _
 obtain ⟨h0,h1,h2,h3⟩:=zp4 ps k _ hx
 exact ⟨_,b,off,hx,hp,hc 0 _ h0,hc 1 _ h1,hc 2 _ h2,hc 3 _ h3⟩
theorem PRow.of_own {w:World} {base n:Nat} {e:TypeId} {v:Value} {ps:List Pg} (h:w.ownsRow base e 4 v n (zc4 ps)):∃ p cap,v = .slice p n cap/\PRow w p n cap ps:=VRow.of_own h
theorem zc6 {ps:List Pg} {i:Nat} {x:Pg} (h:ps[i]?=some x):ps.getD i Pg.zero=x:=by rw [List.getD_eq_getElem?_getD,h];rfl
def zo2 (sp:Int):List Pg->Nat
 | []=>0
 | x :: r=>if x.kind=3/\x.space=sp then zo2 sp r+1 else 0
def ze6:List Pg->Nat
 | []=>0
 | x :: r=>(if x.kind=0 then 0 else 1)+ze6 r
theorem inUse_le:∀ ps:List Pg,ze6 ps<=ps.length
 | []=>Nat.le_refl _
 | x :: r=>by have:=inUse_le r;unfold ze6;rw [List.length_cons];split <;> omega
theorem inUse_append:∀ a b:List Pg,ze6 (a ++ b)=ze6 a+ze6 b
 | [],b=>by simp [ze6]
 | x :: r,b=>by rw [List.cons_append,ze6,ze6,inUse_append r b];omega
theorem inUse_take {ps:List Pg} {k:Nat} {x:Pg} (h:ps[k]?=some x):ze6 (ps.take (k+1))=ze6 (ps.take k)+if x.kind=0 then 0 else 1:=by
 rw [zi9 h,inUse_append];simp [ze6]
def zs4 (out:List (Int × Int)) (k:Int) (x:Pg):List (Int × Int) :=
 if x.kind=0 then (match out.getLast? with | some r=>if r.1+r.2=k then out.dropLast ++ [(r.1,r.2+1)] else out ++ [(k,1)] | none=>[(k,1)]) else out
def zi3 (ps:List Pg):Nat->List (Int × Int)
 | 0=>[]
 | k+1=>match ps[k]? with | some x=>zs4 (zi3 ps k) k x | none=>zi3 ps k
def runsV (ps:List Pg):List (Int × Int):=zi3 ps ps.length
def zc7 (ps:List Pg) (k:Int):Int:=match (runsV ps).find? (fun r=>decide (1<=k) && decide (k<=r.2)) with | some r=>r.1 | none=>-1
def put (ps:List Pg) (i k:Nat) (x:Pg):List Pg:=ps.take i ++ List.replicate k x ++ ps.drop (i+k)
theorem put_zero (ps:List Pg) (i:Nat) (x:Pg):put ps i 0 x=ps:=by simp [put]
theorem zw1 {ps:List Pg} {i k:Nat} {x:Pg} (h:i+k<=ps.length):(put ps i k x).length=ps.length:=by
 unfold put;rw [List.length_append,List.length_append,List.length_take,List.length_replicate,List.length_drop];omega
theorem zq4 {ps:List Pg} {i k:Nat} {x:Pg} (h:i+k<=ps.length) {j:Nat} (hj:i+k<=j\/j < i):(put ps i k x)[j]?=ps[j]?:=by
 unfold put
 rcases hj with hj | hj
 · rw [List.getElem?_append_right (by rw [List.length_append,List.length_take,List.length_replicate];omega),List.getElem?_drop]
   congr 1
   rw [List.length_append,List.length_take,List.length_replicate];omega
 · rw [List.append_assoc,List.getElem?_append_left (by rw [List.length_take];omega),List.getElem?_take,if_pos hj]
theorem put_in {ps:List Pg} {i k:Nat} {x:Pg} (h:i+k<=ps.length) {j:Nat} (h1:i<=j) (h2:j < i+k):(put ps i k x)[j]?=some x:=by
 unfold put
 rw [List.append_assoc,List.getElem?_append_right (by rw [List.length_take];omega),List.getElem?_append_left (by rw [List.length_take,List.length_replicate];omega),List.getElem?_replicate,if_pos (by rw [List.length_take];omega)]
theorem put_succ {ps:List Pg} {i k:Nat} {x:Pg} (h:i+k < ps.length):(put ps i k x).set (i+k) x=put ps i (k+1) x:=by
 apply List.ext_getElem?
 intro j
 rw [List.getElem?_set]
 have hl:(put ps i k x).length=ps.length:=zw1 (by omega)
 by_cases hj:i+k=j
 · rw [if_pos hj,if_pos (by omega),put_in (by omega) (by omega) (by omega)]
 · rw [if_neg hj]
   by_cases h1:i<=j/\j < i+k
   · rw [put_in (by omega) h1.1 h1.2,put_in (by omega) h1.1 (by omega)]
   · rw [zq4 (by omega) (by omega),zq4 (by omega) (by omega)]
def zh7 (ps:List Pg) (i k:Nat):Bool:=((ps.drop i).take k).all fun x=>decide (x.kind=0)
theorem zu0 (ps:List Pg) (i:Nat):zh7 ps i 0=true:=by simp [zh7]
theorem zr5 {ps:List Pg} {i k:Nat} {x:Pg} (h:ps[i+k]?=some x):zh7 ps i (k+1)=(zh7 ps i k && decide (x.kind=0)):=by
 unfold zh7
 rw [zi9 (l:=ps.drop i) (k:=k) (x:=x) (by rw [List.getElem?_drop];exact h),List.all_append]
 simp
theorem freeB_mono {ps:List Pg} {i k m:Nat} (h:zh7 ps i k=true) (hm:m<=k):zh7 ps i m=true:=by
 unfold zh7 at *
 rw [List.all_eq_true] at *
 intro x hx
 refine h x ?_
 rw [show (ps.drop i).take m=((ps.drop i).take k).take m from by rw [List.take_take,Nat.min_eq_left hm]] at hx
 exact List.mem_of_mem_take hx
def zl6 (ps:List Pg) (i k:Int) (x y:Pg):List Pg:=if 0<=i/\i < ps.length/\k<=ps.length - i then (if zh7 ps i.toNat k.toNat then (put ps i.toNat k.toNat y).set i.toNat x else []) else []
def zp7 (ps:List Pg) (i k:Int):Int:=if 0<=i/\i < ps.length/\k<=ps.length - i then (if zh7 ps i.toNat k.toNat then 0 else 20) else 2
def zj3 (ps:List Pg) (i sp:Int):List Pg:=if 0<=sp/\sp<=1 then zl6 ps i 1 ⟨1,sp,0,0⟩ Pg.zero else []
def zk9 (ps:List Pg) (i sp:Int):Int:=if 0<=sp/\sp<=1 then zp7 ps i 1 else 1
def zl0 (pw np:Int) (ps:List Pg) (i sp n:Int):List Pg:=if 1<=zb6 pw np n/\0<=sp/\sp<=1 then zl6 ps i (zb6 pw np n) ⟨2,sp,n,0⟩ ⟨3,sp,0,0⟩ else []
def zo4 (pw np:Int) (ps:List Pg) (i sp n:Int):Int:=if 1<=zb6 pw np n/\0<=sp/\sp<=1 then zp7 ps i (zb6 pw np n) else 1
def zh3 (n:Int):Bool:=decide (0<=n/\n<=2147483647)
def zg8 (pw np:Int) (x:Pg) (r:List Pg) (due:Int):Option Int :=
 if ¬(x.kind=3↔0 < due)\/x.space < 0\/1 < x.space\/zh3 x.pins=false then none
 else if x.kind=0 then (if x=Pg.zero then some (max 0 (due - 1)) else none)
 else if x.kind=1 then (if x.used < 0\/pw < x.used then none else some (max 0 (due - 1)))
 else if x.kind=2 then (if zb6 pw np x.used < 1\/(zo2 x.space r:Int) < zb6 pw np x.used - 1 then none else some (max 0 (zb6 pw np x.used - 1)))
 else if x.kind=3 then (if x.used=0/\x.pins=0 then some (max 0 (due - 1)) else none)
 else none
def zf0 (pw np:Int):List Pg->Int->Bool
 | [],_=>true
 | x :: r,due=>match zg8 pw np x r due with | some d=>zf0 pw np r d | none=>false
def zm7 (ps:List Pg) (b:Int):Bool:=decide (b = -1\/(0<=b/\b < ps.length/\(ps.getD b.toNat Pg.zero).kind=1))
def ze8 (pw np:Int) (nw:Nat) (ps:List Pg) (sp b:Int):Bool :=
 zb8 pw np && decide ((nw:Int)=np*pw) && decide ((ps.length:Int)=np) && decide (0<=sp/\sp<=1) && zm7 ps b && zf0 pw np ps 0
def zl1 (sp:Int) (l:List Pg):Bool:=l.all fun t=>decide (t.kind=3/\t.space=sp)
def zl9 (pw np:Int) (ps:List Pg):Nat->Int
 | 0=>0
 | i+1=>if (ps.getD i Pg.zero).kind=2 then max 0 (zb6 pw np (ps.getD i Pg.zero).used - 1) else max 0 (zl9 pw np ps i - 1)
theorem tails_ge (sp:Int):∀ (l:List Pg) (m:Nat),m<=zo2 sp l↔(m<=l.length/\zl1 sp (l.take m)=true)
 | [],m=>by
  rw [zo2]
  constructor
  · intro h;obtain rfl:m=0:=by omega
    exact ⟨Nat.le_refl _,rfl⟩
  · rintro ⟨h,-⟩;exact h
 | x :: r,0=>by simp [zl1]
 | x :: r,m+1=>by
  rw [zo2,List.take_succ_cons,List.length_cons]
  have ih:=tails_ge sp r m
  have e:zl1 sp (x :: r.take m)=(decide (x.kind=3/\x.space=sp) && zl1 sp (r.take m)):=rfl
  rw [e,Bool.and_eq_true,decide_eq_true_eq]
  by_cases h:x.kind=3/\x.space=sp
  · rw [if_pos h]
    constructor
    · intro a
      obtain ⟨a1,a2⟩:=ih.1 (by omega)
      exact ⟨by omega,h,a2⟩
    · rintro ⟨a1,-,a2⟩
      have:=ih.2 ⟨by omega,a2⟩
      omega
  · rw [if_neg h]
    constructor
    · intro a;omega
    · rintro ⟨-,a,-⟩;exact absurd a h
theorem due_step {pw np:Int} {ps:List Pg} {i:Nat} {x:Pg} (hx:ps[i]?=some x) {r:List Pg} {d:Int} (h:zg8 pw np x r (zl9 pw np ps i)=some d):d=zl9 pw np ps (i+1):=by
 rw [zl9,zc6 hx]
 unfold zg8 at h
 split at h
 · cases h
 · split at h
   · rename_i k0
     rw [if_neg (by omega)]
     split at h
     · exact (Option.some.inj h).symm
     · cases h
   · split at h
     · rename_i k1
       rw [if_neg (by omega)]
       split at h
       · cases h
       · exact (Option.some.inj h).symm
     · split at h
       · rename_i k2
         rw [if_pos k2]
         split at h
         · cases h
         · exact (Option.some.inj h).symm
       · rename_i k2
         rw [if_neg k2]
         split at h
         · split at h
           · exact (Option.some.inj h).symm
           · cases h
         · cases h
theorem proper_at {pw np:Int} {ps:List Pg} (h:zf0 pw np ps 0=true):∀ i,i<=ps.length->zf0 pw np (ps.drop i) (zl9 pw np ps i)=true
 | 0,_=>by rw [List.drop_zero];exact h
 | i+1,hi=>by
  have ih:=proper_at h i (by omega)
  have hx:ps[i]?=some (ps[i]'(by omega)):=List.getElem?_eq_getElem _
  rw [List.drop_eq_getElem_cons (by omega),zf0] at ih
  cases hs:zg8 pw np (ps[i]'(by omega)) (ps.drop (i+1)) (zl9 pw np ps i) with
  | none=>rw [hs] at ih;cases ih
  | some d=>rw [hs] at ih;rw [<-due_step hx hs];exact ih
def cutS (s:Nat) (p:Option Addr) (cap l:Nat):Option Addr:=if cap=l then p else p.map (·.add (l*s))
theorem cutS_some {s b off cap l:Nat} (h:cap≠l):cutS s (some ⟨b,off,none⟩) cap l=some ⟨b,off+l*s,none⟩:=by
 unfold cutS;rw [if_neg h];simp [zx1]
theorem VRow.cut {w:World} {s:Nat} {p:Option Addr} {n cap:Nat} {vs:List Value} (h:VRow w s p n cap vs) {l m:Nat} (hl:l+m<=n):VRow w s (cutS s p cap l) m (cap - l) ((vs.drop (l*s)).take (m*s)):=by
 have hle:l*s+m*s<=n*s:=by rw [<-Nat.add_mul];exact Nat.mul_le_mul_right _ hl
 refine ⟨by rw [List.length_take,List.length_drop,h.len];omega,by have:=h.le;omega,by have:=h.max;omega,fun i x hx=>?_⟩
 rw [List.getElem?_take] at hx
 split at hx
 · rename_i him
   rw [List.getElem?_drop] at hx
   obtain ⟨b,off,rfl,hc⟩:=h.row _ x hx
   have hm0:0 < m:=by
    rcases Nat.eq_zero_or_pos m with h0 | h0
    · subst h0;simp at him
    · exact h0
   refine ⟨b,off+l*s,cutS_some (by have:=h.le;omega),?_⟩
   rw [Nat.add_assoc];exact hc
 · cases hx
section
variable {P:Program} {w:World} {ops:Array Oper} {rest:List Oper} {o:Oper} {a:Act} {Q:Exit->Act->World->Prop}
theorem yd9 (hgd:o.guard=none) (x l h:Operand) (t:TypeId) (ho:o.op = .slice t x (some l) (some h) none) (e:TypeId) (ht:P.underlying t=some (.slice e)) (s:Nat) (hsz:(P.info? e).map (·.size)=some s)
 (p:Option Addr) (n cap:Nat) (hx:a.eval x = .slice p n cap) (kl kh:IntKind) (L H:Int) (hl:a.eval l = .int kl L) (hh:a.eval h = .int kh H) (i m:Nat) (hL:L=i) (hH:H=(i:Int)+m) (hfit:i+m<=cap)
 (hK:wpList P ops Q rest (a.put o.dst (.slice (cutS s p cap i) m (cap - i))) w):wpList P ops Q (o :: rest) a w:=by
 refine wpList_plain hgd fun K hK'=>?_
 have hte:P.underlying t=some (.slice (P.elem t)):=by simp [Program.elem,ht]
 have he:P.elem t=e:=by have:=hte.symm.trans ht;injection this with h1;injection h1
 obtain ⟨ii,hi,hs⟩:=Option.map_eq_some_iff.1 hsz
 subst hL
 have hrun:(Instr.sliceAt t (.slice p n cap) (some (.int kl (i:Int))) (some (.int kh H)) none).run P w = .ok (.slice (cutS s p cap i) m (cap - i)) w:=by
  have e2:H.toNat - i=m:=by omega
  rw [run_sliceAt_slice w t _ _ _ _ hte,run_slice_lh w t p n cap hte kl kh _ _ (by omega) (by omega) (by omega)]
  simp [sizeOf,typeInfo,he,hi,hs,Result.andThen,sliced,cutS,e2]
 unfold Oper.wp
 simp [execOp,ho,hx,hl,hh,hrun,Result.andThen]
 exact hK' _ _ hK
end
structure OwnL (w:World) (b:Nat) (vs:List Value):Prop where
 cell:∀ (i:Nat) (v:Value),vs[i]?=some v->w.cell? ⟨b,i,none⟩=some v
 free:∀ i:Nat,w.frozen? ⟨b,i,none⟩=false
theorem OwnL.lt {w:World} {b:Nat} {vs:List Value} (h:OwnL w b vs) {v:Value} (h0:vs[0]?=some v):b < w.heap.size:=zb4 (h.cell 0 v h0)
theorem OwnL.keep {w w':World} {b:Nat} {vs:List Value} (h:OwnL w b vs) (hb:Below w.heap.size w w') (hlt:b < w.heap.size):OwnL w' b vs :=
 ⟨fun i v hv=>za0 hb (h.cell i v hv),fun i=>by rw [hb.frozen (p:=⟨b,i,none⟩) hlt];exact h.free i⟩
theorem OwnL.new (w:World) (vs:List Value) (T:TypeId):OwnL (w.alloc (.cells vs.toArray T)) w.heap.size vs :=
 ⟨fun i v hv=>by simp [hv],fun i=>by simp⟩
theorem OwnL.set {w:World} {b:Nat} {vs:List Value} (h:OwnL w b vs) (j:Nat) (x:Value) (hj:j < vs.length):OwnL (w.setCell ⟨b,j,none⟩ x) b (vs.set j x):=by
 refine ⟨fun i v hv=>?_,fun i=>by rw [World.frozen?_setCell];exact h.free i⟩
 rw [List.getElem?_set] at hv
 by_cases hij:j=i
 · subst hij
   rw [if_pos rfl,if_pos hj] at hv
   obtain rfl:x=v:=Option.some.inj hv
   exact World.cell?_setCell_same _ _ _ (h.cell j _ (List.getElem?_eq_getElem hj))
 · rw [if_neg hij] at hv
   rw [World.cell?_setCell_other _ _ _ _ (fun e=>hij (by injection e))]
   exact h.cell i v hv
theorem OwnL.other {w:World} {b:Nat} {vs:List Value} (h:OwnL w b vs) (a:Addr) (x:Value) (hne:a.block≠b):OwnL (w.setCell a x) b vs :=
 ⟨fun i v hv=>by rw [World.cell?_setCell_other _ _ _ _ (fun e=>hne (by rw [e]))];exact h.cell i v hv,fun i=>by rw [World.frozen?_setCell];exact h.free i⟩
theorem zd0 {w:World} {B e s g n c:Nat} {xs:List Value} (h:w.ownsRow B e s (.slice (some ⟨g,0,none⟩) n c) n xs) (a:Addr) (x:Value) (hne:g≠a.block):(w.setCell a x).ownsRow B e s (.slice (some ⟨g,0,none⟩) n c) n xs:=by
 refine ⟨h.1,?_⟩
 rcases h.2 with hn | ⟨g',cap,cur,hv,hg,hh,rest⟩
 · exact .inl hn
 · simp only [Value.slice.injEq,Option.some.injEq,Addr.mk.injEq,and_true,true_and] at hv
   obtain ⟨rfl,rfl⟩:=hv
   exact .inr ⟨g,c,cur,rfl,hg,by rw [Below.heap_setCell _ _ _ _ hne];exact hh,rest⟩
section
variable {P:Program} (w:World)
theorem ye1 (t tn ty e:TypeId) (i:TypeInfo) (z:Value) (k kn:IntKind) (ht:P.underlying t=some (.slice e)) (htn:P.underlying tn=some (.int kn)) (hi:P.info? e=some i) (hz:i.zero=some z)
 (g sLen sCap:Nat) (cur:Array Value) (hg:w.heap[g]?=some (.cells cur e (0,0))) (m:Nat) (hzs:z.cells.size=i.size) (hsz:0 < i.size)
 (h1:∀ u∈(Builtin.zeroCells z.cells m).toList,u.oneCell'=true) (h63:m<=9223372036854775807) (h48:m*i.bytes<=281474976710656)
 (hroom:sLen+m<=sCap) (hfit:sLen*i.size+m*i.size<=cur.size) :
 (Builtin.append_ #[t,tn] ty #[.slice (some ⟨g,0,none⟩) sLen sCap,.int k m]).run P w =
  .ok (.slice (some ⟨g,0,none⟩) (sLen+m) sCap) (w.setRow g (cur.toList.take (sLen*i.size) ++ (Builtin.zeroCells z.cells m).toList ++ cur.toList.drop (sLen*i.size+m*i.size)).toArray):=by
 have hl:(Builtin.zeroCells z.cells m).toList.length=m*i.size:=by rw [Array.length_toList,size_zeroCells,hzs]
 have hst:=run_storeCells_at P g (sLen*i.size) e (Builtin.zeroCells z.cells m).toList 0 cur w hg (by rw [hl];simpa using hfit) h1
 rw [hl] at hst
 simp only [Nat.add_zero] at hst
 have hw:IntKind.i64.wrap (m:Int)=m:=by rw [IntKind.wrap_i64];omega
 have h48i:¬(281474976710656 < (m:Int)*(i.bytes:Int)):=by rw [<-Int.natCast_mul];omega
 have hneg:¬((m:Int) < 0):=by omega
 by_cases hm:m=0
 · subst hm
   have he:(Builtin.zeroCells z.cells 0).toList=[]:=List.eq_nil_of_length_eq_zero (by simpa using hl)
   rw [he] at hst
   have hw0:IntKind.i64.wrap (0:Int)=0:=by rw [IntKind.wrap_i64];omega
   have hr0:sLen<=sCap:=hroom
   simp only [Nat.zero_mul,Nat.add_zero] at hst
   simp [Builtin.append_,run_underlying ht,run_underlying htn,sizeOf,typeInfo,zeroValue,hi,hz,asInt,asIntOf,hw0,hr0,Addr.add_lit,hst,he]
 · have hns:¬(m*i.size=0):=Nat.mul_ne_zero hm (by omega)
   simp [Builtin.append_,run_underlying ht,run_underlying htn,sizeOf,typeInfo,zeroValue,hi,hz,asInt,asIntOf,hw,hm,hneg,hns,h48i,hroom,Addr.add_lit,hst]
theorem ye2 (t tn ty e:TypeId) (i:TypeInfo) (z:Value) (k kn:IntKind) (ht:P.underlying t=some (.slice e)) (htn:P.underlying tn=some (.int kn)) (hi:P.info? e=some i) (hz:i.zero=some z)
 (b:Addr) (sLen sCap:Nat) (olds:List Value) (hlo:olds.length=sLen*i.size) (holds:∀ j v,olds[j]?=some v->w.cell? (b.add j)=some v)
 (m:Nat) (hsz:0 < i.size) (h48:m*i.bytes<=281474976710656)
 (hg:sCap < sLen+m) (hm:m≠0) (h63:((sLen+m:Nat):Int)<=9223372036854775807) (hfit:Builtin.nextslicecap (sLen+m) sCap*i.bytes<=281474976710656) :
 (Builtin.append_ #[t,tn] ty #[.slice (some b) sLen sCap,.int k m]).run P w =
  .ok (.slice (some ⟨w.heap.size,0,none⟩) (sLen+m) (grownCap w (sLen+m) sCap e))
   (w.drew.alloc (.cells (olds.toArray ++ Builtin.zeroCells z.cells m ++ Builtin.zeroCells z.cells (grownCap w (sLen+m) sCap e - (sLen+m))) e)):=by
 have hn:¬(sLen+m<=sCap):=by omega
 have h63':¬(9223372036854775807 < ((sLen:Int)+(m:Int))):=by omega
 have h48':¬(281474976710656 < Builtin.nextslicecap (sLen+m) sCap*i.bytes):=by omega
 have hw:IntKind.i64.wrap (m:Int)=m:=by rw [IntKind.wrap_i64];omega
 have h48i:¬(281474976710656 < (m:Int)*(i.bytes:Int)):=by rw [<-Int.natCast_mul];omega
 have hneg:¬((m:Int) < 0):=by omega
 have hns:¬(m*i.size=0):=Nat.mul_ne_zero hm (by omega)
 have hfo:=run_firstCells_some (P:=P) w.drew i.size sLen b sLen sCap olds hlo (by simpa using holds)
 simp [Builtin.append_,run_underlying ht,run_underlying htn,sizeOf,typeInfo,zeroValue,hi,hz,asInt,asIntOf,hw,hm,hneg,hns,h48i,hn,h63',h48',Question.forced,hfo,newRow,grownCap]
theorem zw6 (base:Nat) (t tn ty e:TypeId) (i:TypeInfo) (z:Value) (size bytes:Nat) (k kn:IntKind) (ht:P.underlying t=some (.slice e)) (htn:P.underlying tn=some (.int kn)) (hi:P.info? e=some i) (hz:i.zero=some z)
 (hsize:i.size=size) (hby:i.bytes=bytes) (hzs:z.cells.size=size) (hsz:0 < size)
 (v:Value) (n:Nat) (xs:List Value) (hown:w.ownsRow base e size v n xs) (hv:v.ownBlock≠none)
 (m:Nat) (h1:∀ u∈(Builtin.zeroCells z.cells m).toList,u.oneCell'=true)
 (h63:n+m<=maxLen) (hbytes:(n+m)*bytes<=140737488355328) (hbase:base<=w.heap.size) :
 ∃ v' w',(Builtin.append_ #[t,tn] ty #[v,.int k m]).run P w = .ok v' w'/\w'.ownsRow base e size v' (n+m) (xs ++ (Builtin.zeroCells z.cells m).toList)/\w.grownBy w' v.ownBlock /\
  ∃ g cap,v' = .slice (some ⟨g,0,none⟩) (n+m) cap/\(v.ownBlock=some g\/g=w.heap.size)/\g < w'.heap.size:=by
 subst hsize
 subst hby
 have hsmall:n+m<=9223372036854775807:=by simp only [maxLen] at h63;omega
 have hl:(Builtin.zeroCells z.cells m).toList.length=m*i.size:=by rw [Array.length_toList,size_zeroCells,hzs]
 have hlen:(xs ++ (Builtin.zeroCells z.cells m).toList).length=(n+m)*i.size:=by rw [List.length_append,hown.1,hl,Nat.add_mul]
 have hmb:m*i.bytes<=281474976710656:=by
  have:m*i.bytes<=(n+m)*i.bytes:=Nat.mul_le_mul_right _ (by omega)
  omega
 rcases hown.2 with ⟨rfl,rfl⟩ | ⟨g,cap,cur,rfl,hbg,hg,hnc,hcm,hcs,htake⟩
 · simp [Value.ownBlock] at hv
 · by_cases hroom:n+m<=cap
   · have hfit:n*i.size+m*i.size<=cur.size:=by rw [hcs,<-Nat.add_mul];exact Nat.mul_le_mul_right _ hroom
     have hr:=ye1 (P:=P) w t tn ty e i z k kn ht htn hi hz g n cap cur hg m hzs hsz h1 (by omega) hmb hroom hfit
     refine ⟨_,_,hr,⟨hlen,.inr ⟨g,cap,_,rfl,hbg,setRow_heap w g cur _ e _ hg,hroom,hcm,?_,?_⟩⟩,⟨rfl,rfl,rfl,by simp,fun k _ hk=>setRow_other w g k _ (fun e=>hk (by simp [Value.ownBlock,e]))⟩,g,cap,rfl,.inl rfl,?_⟩
     · simp only [List.size_toArray,List.length_append,List.length_take,List.length_drop,Array.length_toList,size_zeroCells,hzs]
       omega
     · rw [htake,<-hlen]
       exact List.take_left
     · have:=(Array.getElem?_eq_some_iff.1 hg).1
       simpa using this
   · have holds:∀ j u,xs[j]?=some u->w.cell? ((⟨g,0,none⟩:Addr).add j)=some u:=hown.cells (g:=g) rfl
     have hr:=ye2 (P:=P) w t tn ty e i z k kn ht htn hi hz ⟨g,0,none⟩ n cap xs hown.1 holds m hsz hmb (by omega) (by omega) (by omega) (growslice_fits (by omega) hbytes)
     have hge:=grownCap_ge w (n+m) cap e
     have hcm:grownCap w (n+m) cap e<=maxLen:=grownCap_le_maxLen w (n+m) cap e h63
     refine ⟨_,_,hr,⟨hlen,.inr ⟨w.heap.size,_,_,rfl,hbase,heap_alloc_new w.drew _,hge,hcm,?_,?_⟩⟩,⟨rfl,rfl,rfl,by simp,fun j hj _=>_root_.Go.heap_alloc_old w.drew _ hj⟩,w.heap.size,_,rfl,.inr rfl,by simp⟩
     · simp only [Array.size_append,List.size_toArray,size_zeroCells,hzs,hown.1,<-Nat.add_mul]
       congr 1
       omega
     · simp only [Array.toList_append,List.append_assoc]
       rw [<-List.append_assoc,<-hlen]
       exact List.take_left
end
theorem zp9 {P:Program} {w:World} {ops:Array Oper} {o:Oper} {a:Act} {K:Act->World->Prop} {Q:Exit->Act->World->Prop} {E:Prop} (hgd:o.guard=none) (s x:Operand) (t tn:TypeId)
 (ho:o.op = .call { callee:=.builtin .append,args:=#[s,x],argTypes:=#[t,tn] })
 (base:Nat) (e:TypeId) (i:TypeInfo) (z:Value) (size bytes:Nat) (k kn:IntKind) (ht:P.underlying t=some (.slice e)) (htn:P.underlying tn=some (.int kn)) (hi:P.info? e=some i) (hz:i.zero=some z)
 (hsize:i.size=size) (hby:i.bytes=bytes) (hzs:z.cells.size=size) (hsz:0 < size)
 (v:Value) (n:Nat) (xs:List Value) (hs:a.eval s=v) (hown:w.ownsRow base e size v n xs) (hv:v.ownBlock≠none)
 (m:Nat) (hx:a.eval x = .int k m) (h1:∀ u∈(Builtin.zeroCells z.cells m).toList,u.oneCell'=true)
 (h63:n+m<=maxLen) (hbytes:(n+m)*bytes<=140737488355328) (hbase:base<=w.heap.size)
 (h:∀ g cap w',w'.ownsRow base e size (.slice (some ⟨g,0,none⟩) (n+m) cap) (n+m) (xs ++ (Builtin.zeroCells z.cells m).toList)->w.grownBy w' v.ownBlock->(v.ownBlock=some g\/g=w.heap.size)->g < w'.heap.size->K (a.put o.dst (.slice (some ⟨g,0,none⟩) (n+m) cap)) w') :
 if Region.wanted o (yielded ops a.tmps)=true then Oper.wp P o a w K Q else E:=by
 have hw:Region.wanted o (yielded ops a.tmps)=true:=by simp [Region.wanted,hgd]
 rw [if_pos hw]
 obtain ⟨v',w',hr,h2,h3,g,cap,rfl,h4,h5⟩:=zw6 (P:=P) w base t tn o.type e i z size bytes k kn ht htn hi hz hsize hby hzs hsz v n xs hown hv m h1 h63 hbytes hbase
 exact Lib.wp_append_run w s x t tn ho v _ hs hx _ w' hr (h g cap w' h2 h3 h4 h5)
theorem zr3 (kd:IntKind) (m:Nat):(Builtin.zeroCells (Value.int kd 0).cells m).toList=zb2 kd (List.replicate m 0):=by
 unfold Builtin.zeroCells
 rw [Array.toList_map]
 apply List.ext_getElem
 · simp [zb2,Value.cells]
 · intro i h1 h2
   simp [zb2,Value.cells,Nat.mod_one]
theorem own_one (w:World) (e:TypeId) (x:Value):(w.alloc (.cells #[x] e)).ownsRow w.heap.size e 1 (.slice (some ⟨w.heap.size,0,none⟩) 1 1) 1 [x] :=
 ⟨by simp,.inr ⟨w.heap.size,1,#[x],rfl,Nat.le_refl _,heap_alloc_new w _,Nat.le_refl _,by decide,by simp,by simp⟩⟩
end Go.Proofs.YtipjdbhocjpmdaaGreat
