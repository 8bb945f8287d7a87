import Derived.Test.YtipjdbhocjpmdaaGreatQ01
import Derived.Test.YtipjdbhocjpmdaaGreatQ02
import Derived.Test.YtipjdbhocjpmdaaGreatQ07
set_option linter.unusedSimpArgs false
set_option linter.unusedVariables false
set_option maxRecDepth 100000
set_option maxHeartbeats 12800000
namespace Go.Proofs.YtipjdbhocjpmdaaGreat
open Go.RowKit
theorem ret_u64 {a b:Int} (h:a=b):Ending.returned (.int .u64 a) = .returned (.int .u64 b):=by rw [h]
theorem zv9 (n:Int) (w:World) :
 Calls Tryz.prog 116 #[.int .i64 n] w fun e w'=>e = .returned (.int .u64 (ze9 n))/\w=w':=by
 by_cases h:n < 0
 · have e:=onesV_neg n h
   have e:=qq e
   go_enter Tryz.func116,Tryz.ntmps116
   go_wp2
   go_ret
   exact ⟨ret_u64 (by rw [e.out]),rfl⟩
 · have e:=onesV_wrap n
   have e:=qq e
   go_enter Tryz.func116,Tryz.ntmps116
   go_wp2
   go_ret
   exact ⟨ret_u64 (by rw [<-e.out]),rfl⟩
def Clos (F:FuncId) (cp:Value) (ws:List Int) (w:World):Prop :=
 ∀ (i:Nat) (x:Int),ws[i]?=some x->Calls Tryz.prog F #[.int .i64 i,cp] w fun e w'=>e = .returned (.int .i64 x)/\w=w'
theorem fit_any (F:FuncId) (cp:Value) (n:Nat) (ws:List Int) (w:World) (hlen:Hid (ws.length=n)) (hn:(n:Int)<=9223372036854775807) (hcf:∀ a w,(callFunc F a).run Tryz.prog w = .ok (.enter F a) w) (hc:Clos F cp ws w) :
 Calls Tryz.prog 114 #[.int .i64 n,.func (.func F) #[] #[cp]] w fun e w'=>e = .returned (.bool (fitL 64 ws))/\w=w':=by
 go_enter Tryz.func114,Tryz.ntmps114
 go_wp2
 go_loop [5,8] (fun l i=>∃ (k:Nat) (lv:Int),k<=n/\0<=lv/\lv<=64/\fitL lv (ws.drop k)=fitL 64 ws/\l = .int .i64 lv/\i = .int .i64 k) (fun _ i=>n - (intOf i).toNat)
 case atStart=>exact ⟨0,64,by omega,by omega,by omega,rfl,rfl,rfl⟩
 case round =>
  obtain ⟨k,lv,hk,hl1,hl2,hf,rfl,rfl⟩:=hrel
  have Hf:=qq hf
  clear hf
  by_cases hlt:k < n
  · obtain ⟨x,hx⟩:∃ x,ws[k]?=some x:=⟨_,List.getElem?_eq_getElem (by rw [hlen.out];exact hlt)⟩
    have Hx:=qq hx
    clear hx
    by_cases h1:x < 1
    · have E:=qq (fitL_no (left:=lv) Hx.out (Or.inl h1))
      go_wp2_with (refine (hc k x Hx.out).mono ?_;rintro e w' ⟨rfl,rfl⟩)
      go_ret
      exact ⟨za9 (by rw [<-Hf.out,E.out]),rfl⟩
    · by_cases h2:lv < x
      · have E:=qq (fitL_no (left:=lv) Hx.out (Or.inr h2))
        go_wp2_with (refine (hc k x Hx.out).mono ?_;rintro e w' ⟨rfl,rfl⟩)
        go_ret
        exact ⟨za9 (by rw [<-Hf.out,E.out]),rfl⟩
      · have E:=qq (fitL_yes (left:=lv) Hx.out h1 h2)
        go_wp2_with (refine (hc k x Hx.out).mono ?_;rintro e w' ⟨rfl,rfl⟩)
        go_round
        case rel=>exact ⟨k+1,lv - x,by omega,by omega,by omega,by rw [<-Hf.out,E.out],by go_num,by go_num⟩
        case measure=>simp [intOf];omega
  · have E:=qq (fitL_end (left:=lv) (ws:=ws) (k:=k) (by rw [hlen.out];omega))
    go_wp2
    go_ret
    exact ⟨za9 (by rw [<-Hf.out,E.out]),rfl⟩
def FRow (w:World) (p:Option Addr) (fs:List (Int × Nat)):Prop :=
 ∀ (i:Nat) (x:Int × Nat),fs[i]?=some x->∃ b off,p=some ⟨b,off,none⟩/\w.cell? ⟨b,off+i*2,none⟩=some (.int .i64 x.1)/\w.cell? ⟨b,off+i*2+1,none⟩=some (.int .u64 x.2)
theorem FRow.keep {w w':World} {p:Option Addr} {fs:List (Int × Nat)} (h:FRow w p fs) (hb:Below w.heap.size w w'):FRow w' p fs:=by
 intro i x hx
 obtain ⟨b,off,hp,h1,h2⟩:=h i x hx
 exact ⟨b,off,hp,za0 hb h1,za0 hb h2⟩
theorem sumW_snoc (l:List Int) (x:Int):sumW (l ++ [x])=sumW l+x.toNat:=by
 induction l with
 | nil=>simp [sumW]
 | cons g l ih=>rw [List.cons_append,sumW,ih,sumW];omega
def shrN (x s:Nat):Nat:=x >>> s
def zr8:Nat->List Int->List Int
 | _,[]=>[]
 | x,a :: r=>((x &&& zj7 a:Nat):Int) :: zr8 (x >>> a.toNat) r
theorem uvals_snoc (ws:List Int) (a:Int):∀ x,zr8 x (ws ++ [a])=zr8 x ws ++ [(((x >>> sumW ws) &&& zj7 a:Nat):Int)]:=by
 induction ws with
 | nil=>intro x;simp [zr8,sumW]
 | cons b r ih=>intro x;rw [List.cons_append,zr8,ih,zr8,sumW,Nat.shiftRight_add];rfl
theorem uvals_len (ws:List Int):∀ x,(zr8 x ws).length=ws.length:=by
 induction ws with
 | nil=>intro x;rfl
 | cons b r ih=>intro x;rw [zr8,List.length_cons,ih,List.length_cons]
def unpE (x:Nat) (ws:List Int):Int:=if fitL 64 ws=true then (if x >>> sumW ws=0 then 0 else 2) else 1
def unpV (x:Nat) (ws:List Int):List Int:=if fitL 64 ws=true then (if x >>> sumW ws=0 then zr8 x ws else []) else []
theorem unp_no {x:Nat} {ws:List Int} (h:¬fitL 64 ws=true):Hid (unpE x ws=1)/\Hid (unpV x ws=[]):=by
 unfold unpE unpV;rw [if_neg h,if_neg h];exact ⟨rfl,rfl⟩
theorem unp_bad {x:Nat} {ws:List Int} (h:fitL 64 ws=true) (hx:¬x >>> sumW ws=0):Hid (unpE x ws=2)/\Hid (unpV x ws=[]):=by
 unfold unpE unpV;rw [if_pos h,if_pos h,if_neg hx,if_neg hx];exact ⟨rfl,rfl⟩
theorem unp_ok {x:Nat} {ws:List Int} (h:fitL 64 ws=true) (hx:x >>> sumW ws=0):Hid (unpE x ws=0)/\Hid (unpV x ws=zr8 x ws):=by
 unfold unpE unpV;rw [if_pos h,if_pos h,if_pos hx,if_pos hx];exact ⟨rfl,rfl⟩
def urow (x:Nat) (ws:List Int) (k:Nat):List Int:=zr8 x (ws.take k) ++ List.replicate (ws.length - k) 0
theorem urow_len (x:Nat) (ws:List Int) (k:Nat) (hk:k<=ws.length):(urow x ws k).length=ws.length:=by
 unfold urow;rw [List.length_append,uvals_len,List.length_take,List.length_replicate];omega
theorem urow_set {x:Nat} {ws:List Int} {k:Nat} {a:Int} (h:ws[k]?=some a):(urow x ws k).set k (((x >>> sumW (ws.take k)) &&& zj7 a:Nat):Int)=urow x ws (k+1):=by
 have hk:=(List.getElem?_eq_some_iff.1 h).1
 unfold urow
 have e1:ws.length - k=(ws.length - (k+1))+1:=by omega
 have e2:(zr8 x (ws.take k)).length=k:=by rw [uvals_len,List.length_take];omega
 rw [zi9 h,uvals_snoc,e1,List.replicate_succ,List.set_append_right _ _ (by omega),e2,Nat.sub_self,List.set_cons_zero,List.append_assoc];rfl
theorem urow_get {x:Nat} {ws:List Int} {k:Nat} (h:k < ws.length):∃ u,(zb2 .u64 (urow x ws k))[k]?=some (.int .u64 u):=by
 have hl:=urow_len x ws k (by omega)
 exact ⟨(urow x ws k)[k]'(by omega),by rw [zb2,List.getElem?_map,List.getElem?_eq_getElem (by omega)];rfl⟩
theorem shr_step {x s:Nat} {a:Int}:((shrN x s:Nat):Int) / 2 ^ a.toNat=((shrN x (s+a.toNat):Nat):Int):=by
 unfold shrN;rw [shr_cast,Nat.shiftRight_add]
theorem sumT_snoc {ws:List Int} {k:Nat} {a:Int} (h:ws[k]?=some a):sumW (ws.take (k+1))=sumW (ws.take k)+a.toNat:=by
 rw [zi9 h,sumW_snoc]
theorem row_step {x k n g base:Nat} {e:TypeId} {ws:List Int} {a:Int} {wr:World} (h:wr.ownsRow base e 1 (.slice (some ⟨g,0,none⟩) n n) n (zb2 .u64 (urow x ws k))) (ha:ws[k]?=some a) (hx:x < 18446744073709551616) :
 (wr.setCell ⟨g,k,none⟩ (.int .u64 (bits .and .u64 ((shrN x (sumW (ws.take k)):Nat):Int) (ze9 a)))).ownsRow base e 1 (.slice (some ⟨g,0,none⟩) n n) n (zb2 .u64 (urow x ws (k+1))):=by
 have h1:=(h.stored k (.int .u64 (bits .and .u64 ((shrN x (sumW (ws.take k)):Nat):Int) (ze9 a)))).1
 have e1:(zb2 .u64 (urow x ws k)).set k (.int .u64 (bits .and .u64 ((shrN x (sumW (ws.take k)):Nat):Int) (ze9 a)))=zb2 .u64 (urow x ws (k+1)):=by
  rw [and_spell (shrN x (sumW (ws.take k))) a (shr_lt _ _ hx),ivals_set,<-urow_set ha];rfl
 rw [e1] at h1
 exact h1
theorem unpClos_one (n cap:Nat) (i:Nat) (b off b0:Nat) (x:Int) (w:World) (hi:i < n) (_hn:(n:Int)<=9223372036854775807) (hb:w.cell? ⟨b,0,none⟩=some (.slice (some ⟨b0,off,none⟩) n cap)) (hc:w.cell? ⟨b0,off+i,none⟩=some (.int .i64 x)) :
 Calls Tryz.prog 115 #[.int .i64 i,.pointer (some ⟨b,0,none⟩)] w fun e w'=>e = .returned (.int .i64 x)/\w=w':=by
 go_enter Tryz.func115,Tryz.ntmps115
 go_wp2
 go_ret
 exact ⟨rfl,rfl⟩
theorem unpClos (p:Option Addr) (n cap:Nat) (b:Nat) (ws:List Int) (w:World) (hlen:ws.length=n) (hn:(n:Int)<=9223372036854775807) (hb:w.cell? ⟨b,0,none⟩=some (.slice p n cap)) (hr:IRow w .i64 p ws) :
 Clos 115 (.pointer (some ⟨b,0,none⟩)) ws w:=by
 intro i x hx
 obtain ⟨b0,off,rfl,h1⟩:=hr i x hx
 exact unpClos_one n cap i b off b0 x w (by have:=(List.getElem?_eq_some_iff.1 hx).1;omega) hn hb h1
theorem yb0 (x:Nat) (p:Option Addr) (n cap:Nat) (ws:List Int) (w:World) (hx:x < 18446744073709551616) (hlen:Hid (ws.length=n)) (hn:n<=100000) (hr:IRow w .i64 p ws) :
 Calls Tryz.prog 99 #[.int .u64 x,.slice p n cap] w fun e w'=>RetS (unpV x ws) (unpE x ws) e w'/\Below w.heap.size w w':=by
 obtain ⟨i0,hi,hz0,hz1,hz2⟩:=info_parts zf2
 have hbel:Below w.heap.size w (w.alloc (.cells #[.slice p n cap] 28)):=(Below.refl _ _).alloc (Nat.le_refl _) _
 have hr1:=qq (hr.keep hbel)
 clear hr
 have hfit:=qq (fit_any 115 (.pointer (some ⟨w.heap.size,0,none⟩)) n ws (w.alloc (.cells #[.slice p n cap] 28)) hlen (by omega) (fun _ _=>by kernel_rfl) (unpClos p n cap w.heap.size ws _ hlen.out (by omega) (by simp) hr1.out))
 clear hbel
 by_cases hf:fitL 64 ws=true
 · go_enter Tryz.func99,Tryz.ntmps99
   go_wp2_with (first | (refine hfit.out.mono ?_;rintro e w' ⟨rfl,rfl⟩) | (at_make;refine wpList_make_full _ rfl _ _ 24 rfl (w.heap.size+1) 48 i0 (.int .u64 0) 1 Tryz.underlying24 hi hz0 hz1 .i64 .i64 n n n rfl rfl rfl rfl ?c1 ?c2 ?c3 ?_))
   case c1=>rw [hz2];omega
   case c2=>unfold maxLen;omega
   case c3=>simp
   intro w2 hown hg
   rw [zw4] at hown
   have hb2:Below (w.heap.size+1) (w.alloc (.cells #[.slice p n cap] 28)) w2:=(Below.refl _ _).grown hg (by simp) (fun k h=>by cases h)
   have Hown0:=qq hown
   clear hg hfit hown
   have hbox2:w2.cell? ⟨w.heap.size,0,none⟩=some (.slice p n cap):=by rw [hb2.cell (by simp)];simp
   go_wp2
   have hlen2:=qq hlen.out.symm
   go_loopw [0,18] (fun a i wr=>∃ k:Nat,k<=n/\a = .int .u64 ((shrN x (sumW (ws.take k)):Nat):Int)/\i = .int .i64 k/\wr.ownsRow (w.heap.size+1) 48 1 (.slice (some ⟨w.heap.size+1,0,none⟩) n n) n (zb2 .u64 (urow x ws k))/\Below (w.heap.size+1) (w.alloc (.cells #[.slice p n cap] 28)) wr) (fun _ i _=>n - (intOf i).toNat)
   case atStart =>
    refine ⟨0,by omega,rfl,rfl,?_,hb2⟩
    have e:urow x ws 0=List.replicate n 0:=by unfold urow;rw [hlen.out];rfl
    rw [e]
    simpa using Hown0.out
   case round =>
    obtain ⟨k,hk,rfl,rfl,hown,hb⟩:=hrel
    have hbox:wr.cell? ⟨w.heap.size,0,none⟩=some (.slice p n cap):=by rw [hb.cell (by simp)];simp
    have Hown:=qq hown
    clear hown
    by_cases hlt:k < n
    · obtain ⟨a,ha⟩:∃ a,ws[k]?=some a:=⟨_,List.getElem?_eq_getElem (by rw [hlen.out];exact hlt)⟩
      obtain ⟨b,off,rfl,c0⟩:=hr1.out _ a ha
      have c1:=za0 (hb.mono (by simp)) c0
      obtain ⟨ha1,ha2⟩:=fitL_mem _ _ (by omega) hf a (List.mem_of_getElem? ha)
      have lb:=zb4 c1
      obtain ⟨u,hu⟩:=urow_get (x:=x) (ws:=ws) (k:=k) (by rw [hlen.out];exact hlt)
      have hst:wr.cell? ⟨w.heap.size+1,k,none⟩=some (.int .u64 u):=by rw [Hown.out.cellAt k (by omega)];exact hu
      have hfz:wr.frozen? ⟨w.heap.size+1,k,none⟩=false:=Hown.out.frozenAt k
      have Ha:=qq ha
      have hset:=qq (row_step (x:=x) Hown.out ha hx)
      have hne:b≠w.heap.size+1:=by have:=zb4 c0;simp at this;omega
      have c2:∀ v,(wr.setCell ⟨w.heap.size+1,k,none⟩ v).cell? ⟨b,off+k,none⟩=some (.int .i64 a):=fun v=>by rw [World.cell?_of_block (Below.heap_setCell _ _ _ _ hne)];exact c1
      clear ha hu c0
      go_wp2_with (go_at_call 116;refine (zv9 _ _).mono ?_;rintro e w' ⟨rfl,rfl⟩)
      go_roundw
      case rel=>exact ⟨k+1,by omega,by rw [shr_step,<-sumT_snoc Ha.out],by go_num,hset.out,hb.setCell (Nat.le_refl _) _⟩
      case measure=>simp [intOf];omega
    · have e1:ws.take k=ws:=List.take_of_length_le (by rw [hlen.out];omega)
      have e2:urow x ws k=zr8 x ws:=by unfold urow;rw [e1,hlen.out,show n - k=0 from by omega];simp
      rw [e2] at Hown
      rw [e1]
      clear e1 e2
      obtain ⟨q,c,hv,hrow⟩:=SRow.of_own Hown.out
      injection hv with hv1 hv2 hv3
      subst hv1 hv3
      have Hrow:=qq hrow
      clear Hown hv2 hrow
      by_cases hz:x >>> sumW ws=0
      · obtain ⟨E,V⟩:=unp_ok hf hz
        have ht:(((shrN x (sumW ws):Nat):Int) != 0)=false:=by unfold shrN;rw [hz];rfl
        clear hz
        go_wp2
        go_ret2
        rw [V.out,E.out]
        exact ⟨⟨_,_,_,rfl,Hrow.out⟩,zh1 hb⟩
      · obtain ⟨E,V⟩:=unp_bad hf hz
        have ht:(((shrN x (sumW ws):Nat):Int) != 0)=true:=by unfold shrN;rw [bne_iff_ne];omega
        clear hz
        go_wp2
        go_ret2
        rw [V.out,E.out]
        exact ⟨RetS.nil _ _,zh1 hb⟩
 · obtain ⟨E,V⟩:=unp_no (x:=x) hf
   clear hr1
   go_enter Tryz.func99,Tryz.ntmps99
   go_wp2_with (refine hfit.out.mono ?_;rintro e w' ⟨rfl,rfl⟩)
   go_ret2
   rw [V.out,E.out]
   exact ⟨RetS.nil _ _,(Below.refl _ _).alloc (Nat.le_refl _) _⟩
theorem ret_ib {k:IntKind} {x y:Int} {a b:Bool} (h1:x=y) (h2:a=b):Ending.returned (.tuple #[.int k x,.bool a]) = .returned (.tuple #[.int k y,.bool b]):=by rw [h1,h2]
theorem span_ok0 (p:Option Addr) (len cap n:Nat) (a:Int) (w:World) (hl:(len:Int)<=1000000) (h1:4096<=a) (h2:a - 4096+n<=len) :
 Calls Tryz.prog 103 #[.slice p len cap,.int .u64 a,.int .i64 n] w fun e w'=>e = .returned (.tuple #[.int .i64 (a - 4096),.bool true])/\w=w':=by
 go_enter Tryz.func103,Tryz.ntmps103
 go_wp2
 go_ret2
 exact ⟨ret_ib rfl (decide_eq_true (by omega)),rfl⟩
theorem span_ok (p:Option Addr) (len cap i n:Nat) (w:World) (hl:(len:Int)<=1000000) (h:i+n<=len) :
 Calls Tryz.prog 103 #[.slice p len cap,.int .u64 (4096+(i:Int)),.int .i64 n] w fun e w'=>e = .returned (.tuple #[.int .i64 i,.bool true])/\w=w':=by
 have:=span_ok0 p len cap n (4096+(i:Int)) w hl (by omega) (by omega)
 rw [show (4096+(i:Int)) - 4096=(i:Int) from by omega] at this
 exact this
def SpanNo (w:World) (e:Ending) (w':World):Prop:=∃ i:Int,e = .returned (.tuple #[.int .i64 i,.bool false])/\w=w'
theorem span_no (p:Option Addr) (len cap:Nat) (a:Int) (n:Nat) (w:World) (hl:(len:Int)<=1000000) (hn:(n:Int)<=9223372036854775807) (ha:0<=a) (ha2:a < 18446744073709551616) (h:a < 4096\/len < a - 4096+n) :
 Calls Tryz.prog 103 #[.slice p len cap,.int .u64 a,.int .i64 n] w fun e w'=>SpanNo w e w':=by
 by_cases h1:a < 4096
 · go_enter Tryz.func103,Tryz.ntmps103
   go_wp2
   go_ret2
   exact ⟨_,rfl,rfl⟩
 · by_cases h2:4096+(len:Int) < a
   · clear h
     go_enter Tryz.func103,Tryz.ntmps103
     go_wp2
     go_ret2
     exact ⟨_,rfl,rfl⟩
   · have h3:¬(n:Int)<=(len:Int) - (a - 4096):=by omega
     have h4:decide ((n:Int)<=(len:Int) - (a - 4096))=false:=decide_eq_false h3
     have h4:=qq h4
     clear h
     go_enter Tryz.func103,Tryz.ntmps103
     go_wp2
     go_ret2
     exact ⟨_,rfl,rfl⟩
theorem refIndex_any (p:Option Addr) (len cap:Nat) (a:Int) (w:World) (hl:(len:Int)<=1000000) (ha:0<=a) (ha2:a < 18446744073709551616) :
 Calls Tryz.prog 101 #[.slice p len cap,.int .u64 a] w fun e w'=>e = .returned (.tuple #[.int .i64 (indexV len a),.int .i64 (indexE len a)])/\w=w':=by
 rcases zn1 len a 1 with ⟨i,rfl,hi,hk⟩ | ⟨hk,hi⟩
 · have hc:=qq (span_ok p len cap i 1 w hl hi)
   obtain ⟨e1,e2⟩:=index_ok hk
   have E1:=qq e1;have E2:=qq e2
   clear e1 e2 hi hk
   go_enter Tryz.func101,Tryz.ntmps101
   go_wp2_with fail
   refine hc.out.mono ?_
   rintro e w' ⟨rfl,rfl⟩
   go_wp2
   go_ret2
   exact ⟨zp3 E1.out.symm E2.out.symm,rfl⟩
 · have hc:=qq (span_no p len cap a 1 w hl (by omega) ha ha2 hi)
   obtain ⟨e1,e2⟩:=index_no hk
   have E1:=qq e1;have E2:=qq e2
   clear e1 e2 hi hk
   go_enter Tryz.func101,Tryz.ntmps101
   go_wp2_with fail
   refine hc.out.mono ?_
   rintro e w' ⟨_,rfl,rfl⟩
   go_wp2
   go_ret2
   exact ⟨zp3 E1.out.symm E2.out.symm,rfl⟩
theorem zd9 (p:Option Addr) (n cap:Nat) (xs:List Int) (a:Int) (w:World) (hr:SRow w .u64 p n cap xs) (hl:(n:Int)<=1000000) (ha:0<=a) (ha2:a < 18446744073709551616) :
 Calls Tryz.prog 71 #[.slice p n cap,.int .u64 a] w fun e w'=>e = .returned (.tuple #[.int .u64 (ze1 xs a),.int .i64 (loadE xs a)])/\w=w':=by
 have hc:=qq (refIndex_any p n cap a w hl ha ha2)
 have hn:=qq hr.len
 rcases zn1 n a 1 with ⟨i,rfl,hi,hk⟩ | ⟨hk,hi⟩
 · obtain ⟨x,b,off,hx,rfl,hcell⟩:=hr.at_ (k:=i) (by omega)
   obtain ⟨e1,e2⟩:=load_ok' (by rw [hn.out];exact hk) hx
   obtain ⟨e3,e4⟩:=index_ok hk
   rw [e3,e4] at hc
   have E1:=qq e1;have E2:=qq e2
   clear e1 e2 e3 e4 hk hx hr
   go_enter Tryz.func71,Tryz.ntmps71
   go_wp2_with fail
   refine hc.out.mono ?_
   rintro e w' ⟨rfl,rfl⟩
   clear hc
   go_wp2
   go_ret2
   exact ⟨zp3 E1.out.symm E2.out.symm,rfl⟩
 · obtain ⟨e1,e2⟩:=load_no' (xs:=xs) (a:=a) (by rw [hn.out];exact hk)
   obtain ⟨e3,e4⟩:=index_no hk
   rw [e3,e4] at hc
   have E1:=qq e1;have E2:=qq e2
   clear e1 e2 e3 e4 hk hr hi
   go_enter Tryz.func71,Tryz.ntmps71
   go_wp2_with fail
   refine hc.out.mono ?_
   rintro e w' ⟨rfl,rfl⟩
   clear hc
   go_wp2
   go_ret2
   exact ⟨zp3 E1.out.symm E2.out.symm,rfl⟩
theorem lit_row (w:World) (T:TypeId) (base:Nat) (hb:base<=w.heap.size):(w.alloc (.cells #[] T)).ownsRow base T 1 (.slice (some ⟨w.heap.size,0,none⟩) 0 0) 0 [] :=
 World.ownsRow_lit w #[] 0 hb (Nat.zero_le _) rfl
theorem refRead_any (p:Option Addr) (n cap:Nat) (xs:List Int) (a m:Int) (w:World) (hr:SRow w .u64 p n cap xs) (hn:n<=100000) (ha:0<=a) (ha2:a < 18446744073709551616) (hm:m<=9223372036854775807) :
 Calls Tryz.prog 76 #[.slice p n cap,.int .u64 a,.int .i64 m] w fun e w'=>RetS (zp8 xs a m) (zs7 xs a m) e w'/\Below w.heap.size w w':=by
 obtain ⟨i0,hi0,hz0,hz1,hz2⟩:=info_parts zf2
 have hlen:=qq hr.len
 by_cases h1:m < 0
 · obtain ⟨e1,e2⟩:=read_arg (xs:=xs) (a:=a) h1
   have E1:=qq e1;have E2:=qq e2
   clear e1 e2 hr
   go_enter Tryz.func76,Tryz.ntmps76
   go_wp2
   go_ret2
   exact ⟨RetS.no E1.out E2.out,Below.refl _ _⟩
 · obtain ⟨k,rfl⟩:∃ k:Nat,m=k:=⟨m.toNat,by omega⟩
   rcases zn1 n a k with ⟨i,rfl,hi,hk⟩ | ⟨hk,hi⟩
   · obtain ⟨e1,e2⟩:=read_ok (xs:=xs) (i:=i) (n:=k) (by rw [hlen.out];exact hk)
     have E1:=qq e1;have E2:=qq e2
     have hc:=qq (span_ok p n cap i k w (by omega) hi)
     have hle:=hr.le
     have hb0:Below w.heap.size w (w.alloc (.cells #[] 48)):=(Below.refl _ _).alloc (Nat.le_refl _) _
     have hcut:=qq ((hr.cut hi).keep hb0)
     have Hb0:=qq hb0
     clear e1 e2 hk hr hb0
     go_enter Tryz.func76,Tryz.ntmps76
     go_wp2_with fail
     refine hc.out.mono ?_
     rintro e w' ⟨rfl,rfl⟩
     clear hc
     go_wp2_with ((with_reducible show wpList _ _ _ _ _ _);first
      | refine wpList_cut (o:=⟨some 27,_,_,_,_,_⟩) rfl _ _ _ _ rfl 48 Tryz.underlying24 sizeU64 p n cap rfl .i64 .i64 i _ rfl rfl i k rfl ?c1 ?c2 ?_
      | refine zd7 (o:=⟨some 28,_,_,_,_,_⟩) rfl _ _ _ rfl w.heap.size 48 i0 (.int .u64 0) 8 Tryz.underlying24 hi0 hz0 hz1 hz2 rfl _ 0 [] rfl (lit_row w _ _ (Nat.le_refl _)) (cutP p cap i) k (cap - i) .u64 _ rfl hcut.out ?c3 ?c4 ?c5 ?_)
     case c1=>first | rfl | omega
     case c2=>omega
     case c3=>unfold maxLen;omega
     case c4=>omega
     case c5=>simp
     intro v' w2 hown hg
     try simp only [List.nil_append,Nat.zero_add] at hown
     obtain ⟨q,c,rfl,hrow⟩:=SRow.of_own hown
     have hb2:Below w.heap.size w w2:=Hb0.out.grown hg (by simp) (fun j hj=>by simp [Value.ownBlock] at hj;omega)
     have hrow:=qq hrow
     clear hown hg hcut
     go_wp2
     go_ret2
     exact ⟨RetS.mk hrow.out E1.out E2.out,hb2⟩
   · obtain ⟨e1,e2⟩:=read_no (xs:=xs) (a:=a) (n:=k) (by rw [hlen.out];exact hk)
     have E1:=qq e1;have E2:=qq e2
     have hc:=qq (span_no p n cap a k w (by omega) hm ha ha2 hi)
     clear e1 e2 hr hi hk
     go_enter Tryz.func76,Tryz.ntmps76
     go_wp2_with fail
     refine hc.out.mono ?_
     rintro e w' ⟨_,rfl,rfl⟩
     clear hc
     go_wp2
     go_ret2
     exact ⟨RetS.no E1.out E2.out,Below.refl _ _⟩
theorem own_set {w:World} {base g n cap:Nat} {e:TypeId} {xs:List Int} (h:w.ownsRow base e 1 (.slice (some ⟨g,0,none⟩) n cap) n (zb2 .u64 xs)) (j:Nat) (u:Int) :
 (w.setCell ⟨g,j,none⟩ (.int .u64 u)).ownsRow base e 1 (.slice (some ⟨g,0,none⟩) n cap) n (zb2 .u64 (xs.set j u)):=by
 have h1:=(h.stored j (.int .u64 u)).1
 rw [ivals_set] at h1;exact h1
theorem own_form {w:World} {base n:Nat} {e:TypeId} {v:Value} {xs:List Value} (h:w.ownsRow base e 1 v n xs):∃ q cap,v = .slice q n cap/\(0 < n->∃ g,q=some ⟨g,0,none⟩/\base<=g):=by
 rcases h.2 with ⟨rfl,h0⟩ | ⟨g,cap',cur,hv,hg,_⟩
 · subst h0;exact ⟨none,0,rfl,fun h=>by omega⟩
 · exact ⟨_,_,hv,fun _=>⟨g,rfl,hg⟩⟩
def wrow (xs l:List Int) (i k:Nat):List Int:=splice xs i (l.take k)
theorem wrow_len {xs l:List Int} {i k:Nat} (h:i+l.length<=xs.length):(wrow xs l i k).length=xs.length:=by
 unfold wrow;rw [zo7 (by rw [List.length_take];omega)]
theorem wrow_zero (xs l:List Int) (i:Nat):wrow xs l i 0=xs:=by unfold wrow splice;simp
theorem wrow_end {xs l:List Int} {i k:Nat} (h:l.length<=k):wrow xs l i k=splice xs i l:=by unfold wrow;rw [List.take_of_length_le h]
theorem wrow_set {xs l:List Int} {i k:Nat} {x:Int} (h:i+l.length<=xs.length) (hx:l[k]?=some x):(wrow xs l i k).set (i+k) x=wrow xs l i (k+1):=by
 have hk:=(List.getElem?_eq_some_iff.1 hx).1
 apply List.ext_getElem?
 intro j
 have hl1:(l.take k).length=k:=by rw [List.length_take];omega
 have hl2:(l.take (k+1)).length=k+1:=by rw [List.length_take];omega
 rw [List.getElem?_set]
 by_cases h1:i+k=j
 · subst h1
   rw [if_pos rfl,if_pos (by rw [wrow_len h];omega)]
   unfold wrow
   rw [zy7 (by omega) (by omega) (by omega),List.getElem?_take,if_pos (by omega),show i+k - i=k from by omega,hx]
 · rw [if_neg h1]
   unfold wrow
   by_cases h2:i<=j/\j < i+k
   · rw [zy7 (by omega) (by omega) (by omega),zy7 (by omega) (by omega) (by omega),List.getElem?_take,List.getElem?_take,if_pos (by omega),if_pos (by omega)]
   · rw [ya1 (by omega) (by omega),ya1 (by omega) (by omega)]
theorem yb6 (p q:Option Addr) (n cap m c:Nat) (xs l:List Int) (a:Int) (w:World) (hr:SRow w .u64 p n cap xs) (hs:SRow w .u64 q m c l) (hn:n<=100000) (hm:m<=100000) (ha:0<=a) (ha2:a < 18446744073709551616) :
 Calls Tryz.prog 81 #[.slice p n cap,.int .u64 a,.slice q m c] w fun e w'=>RetS (zc8 xs a l) (zh4 xs a l) e w'/\Below w.heap.size w w':=by
 obtain ⟨i0,hi0,hz0,hz1,hz2⟩:=info_parts zf2
 have hlen:=qq hr.len
 have hlen2:=qq hs.len
 rcases zn1 n a m with ⟨i,rfl,hi,hk⟩ | ⟨hk,hi⟩
 · obtain ⟨e1,e2⟩:=write_ok (xs:=xs) (l:=l) (i:=i) (by rw [hlen.out,hlen2.out];exact hk)
   have E1:=qq e1;have E2:=qq e2
   have hc:=qq (span_ok p n cap i m w (by omega) hi)
   have hb0:Below w.heap.size w (w.alloc (.cells #[] 48)):=(Below.refl _ _).alloc (Nat.le_refl _) _
   have hr0:=qq (hr.keep hb0)
   have hs0:=qq hs
   have Hb0:=qq hb0
   have hle:=hr.le
   clear e1 e2 hk hr hs hb0
   go_enter Tryz.func81,Tryz.ntmps81
   go_wp2_with fail
   refine hc.out.mono ?_
   rintro e w' ⟨rfl,rfl⟩
   clear hc
   go_wp2_with ((with_reducible show wpList _ _ _ _ _ _);refine zd7 (o:=⟨some 24,_,_,_,_,_⟩) rfl _ _ _ rfl w.heap.size 48 i0 (.int .u64 0) 8 Tryz.underlying24 hi0 hz0 hz1 hz2 rfl _ 0 [] rfl (lit_row w _ _ (Nat.le_refl _)) p n cap .u64 _ rfl hr0.out ?c3 ?c4 ?c5 ?_)
   case c3=>unfold maxLen;omega
   case c4=>omega
   case c5=>simp
   intro v' w2 hown hg
   try simp only [List.nil_append,Nat.zero_add] at hown
   have hb2:Below w.heap.size w w2:=Hb0.out.grown hg (by simp) (fun j hj=>by simp [Value.ownBlock] at hj;omega)
   obtain ⟨q',cap',rfl,hq'⟩:=own_form hown
   have Hq:=qq hq'
   have Hown:=qq hown
   clear hown hg hr0 Hb0 hq'
   go_wp2_with fail
   go_loopw [11] (fun i' wr=>∃ k:Nat,k<=m/\i' = .int .i64 k/\wr.ownsRow w.heap.size 48 1 (.slice q' n cap') n (zb2 .u64 (wrow xs l i k))/\Below w.heap.size w wr) (fun i' _=>m - (intOf i').toNat)
   case atStart=>exact ⟨0,by omega,rfl,by rw [wrow_zero];exact Hown.out,hb2⟩
   case round =>
    obtain ⟨k,hk,rfl,hown,hb⟩:=hrel
    have Ho:=qq hown
    clear hown hb2
    by_cases hlt:k < m
    · obtain ⟨g,rfl,hg⟩:=Hq.out (by omega)
      obtain ⟨x,b,off,hx,rfl,hc0⟩:=hs0.out.at_ hlt
      have c1:=za0 hb hc0
      have hu:(zb2 .u64 (wrow xs l i k))[i+k]?=some (.int .u64 ((wrow xs l i k)[i+k]'(by rw [wrow_len (by rw [hlen.out,hlen2.out];exact hi),hlen.out];omega))):=yb1 (List.getElem?_eq_getElem _)
      have hst:=Ho.out.cellAt (i+k) (by omega)
      rw [hu] at hst
      have hfz:wr.frozen? ⟨g,i+k,none⟩=false:=Ho.out.frozenAt (i+k)
      have hset:=qq (own_set Ho.out (i+k) x)
      rw [wrow_set (by rw [hlen.out,hlen2.out];exact hi) hx] at hset
      have h3:(i:Int)+k < n:=by omega
      have h4:((i:Int)+k).toNat=i+k:=by omega
      clear hu hx hc0
      go_wp2
      go_roundw
      case rel=>exact ⟨k+1,by omega,by go_num,hset.out,hb.setCell hg _⟩
      case measure=>simp [intOf];omega
    · have hrow:=Ho.out
      rw [wrow_end (by rw [hlen2.out];omega)] at hrow
      obtain ⟨q2,c2,hv,hrow⟩:=SRow.of_own hrow
      injection hv with hv1 hv2 hv3
      subst hv1 hv3
      have hrow:=qq hrow
      clear hv2
      go_wp2
      go_ret2
      exact ⟨RetS.mk hrow.out E1.out E2.out,hb⟩
 · obtain ⟨e1,e2⟩:=write_no (xs:=xs) (l:=l) (a:=a) (by rw [hlen.out,hlen2.out];exact hk)
   have E1:=qq e1;have E2:=qq e2
   have hc:=qq (span_no p n cap a m w (by omega) (by omega) ha ha2 hi)
   clear e1 e2 hr hs hi hk
   go_enter Tryz.func81,Tryz.ntmps81
   go_wp2_with fail
   refine hc.out.mono ?_
   rintro e w' ⟨_,rfl,rfl⟩
   clear hc
   go_wp2
   go_ret2
   exact ⟨RetS.no E1.out E2.out,Below.refl _ _⟩
theorem zl7 (w:World) (T:TypeId) (v:Int):SRow (w.alloc (.cells #[.int .u64 v] T)) .u64 (some ⟨w.heap.size,0,none⟩) 1 1 [v] :=
 ⟨rfl,Nat.le_refl _,by unfold maxLen;omega,fun i x hx=>by
  match i with
  | 0=>simp at hx;subst hx;exact ⟨_,_,rfl,by simp⟩
  | i+1=>simp at hx⟩
theorem refStore_any (p:Option Addr) (n cap:Nat) (xs:List Int) (a v:Int) (w:World) (hr:SRow w .u64 p n cap xs) (hn:n<=100000) (ha:0<=a) (ha2:a < 18446744073709551616) :
 Calls Tryz.prog 78 #[.slice p n cap,.int .u64 a,.int .u64 v] w fun e w'=>RetS (zc8 xs a [v]) (zh4 xs a [v]) e w'/\Below w.heap.size w w':=by
 have hb0:Below w.heap.size w (w.alloc (.cells #[.int .u64 v] 48)):=(Below.refl _ _).alloc (Nat.le_refl _) _
 have hc:=qq (yb6 p (some ⟨w.heap.size,0,none⟩) n cap 1 1 xs [v] a _ (hr.keep hb0) (zl7 w 48 v) hn (by omega) ha ha2)
 clear hr hb0
 go_enter Tryz.func78,Tryz.ntmps78
 go_wp2_with fail
 refine hc.out.mono ?_
 rintro e w' ⟨⟨q,m,c,rfl,hq⟩,hb⟩
 have hq:=qq hq
 clear hc
 go_wp2
 go_ret2
 exact ⟨⟨q,m,c,rfl,hq.out⟩,za3 ((Below.refl _ _).alloc (Nat.le_refl _) _) hb⟩
theorem read_then {xs:List Int} {t f m:Int}:(zs7 xs f m=0->zj0 xs t f m=zc8 xs t (zp8 xs f m)/\moveE xs t f m=zh4 xs t (zp8 xs f m))/\(zs7 xs f m≠0->zj0 xs t f m=[]/\moveE xs t f m=zs7 xs f m):=by
 by_cases h1:m < 0
 · obtain ⟨e1,e2⟩:=read_arg (xs:=xs) (a:=f) h1
   obtain ⟨e3,e4⟩:=move_arg (xs:=xs) (t:=t) (f:=f) h1
   rw [e2]
   exact ⟨fun h=>by omega,fun _=>⟨e3,e4⟩⟩
 · obtain ⟨k,rfl⟩:∃ k:Nat,m=k:=⟨m.toNat,by omega⟩
   rcases zn1 xs.length f k with ⟨j,rfl,hj,hk⟩ | ⟨hk,hj⟩
   · obtain ⟨e1,e2⟩:=read_ok hk
     rw [e1,e2]
     refine ⟨fun _=>?_,fun h=>by omega⟩
     have hl:((xs.drop j).take k).length=k:=by rw [List.length_take,List.length_drop];omega
     rcases zn1 xs.length t k with ⟨i,rfl,hi,hk2⟩ | ⟨hk2,hi⟩
     · obtain ⟨e3,e4⟩:=move_ok hk2 hk
       obtain ⟨e5,e6⟩:=write_ok (xs:=xs) (l:=(xs.drop j).take k) (i:=i) (by rw [hl];exact hk2)
       rw [e3,e4,e5,e6];exact ⟨rfl,rfl⟩
     · obtain ⟨e3,e4⟩:=move_no (xs:=xs) (t:=t) (f:=4096+(j:Int)) (n:=k) (Or.inl hk2)
       obtain ⟨e5,e6⟩:=write_no (xs:=xs) (l:=(xs.drop j).take k) (a:=t) (by rw [hl];exact hk2)
       rw [e3,e4,e5,e6];exact ⟨rfl,rfl⟩
   · obtain ⟨e1,e2⟩:=read_no hk
     obtain ⟨e3,e4⟩:=move_no (xs:=xs) (t:=t) (f:=f) (n:=k) (Or.inr hk)
     rw [e2]
     exact ⟨fun h=>by omega,fun _=>⟨e3,e4⟩⟩
theorem readV_len (xs:List Int) (a m:Int):(zp8 xs a m).length<=xs.length:=by
 unfold zp8
 by_cases h1:m < 0
 · rw [if_pos h1];exact Nat.zero_le _
 · rw [if_neg h1]
   by_cases h2:okA xs.length a m.toNat=true
   · rw [if_pos h2,List.length_take,List.length_drop];omega
   · rw [if_neg h2];exact Nat.zero_le _
theorem refMove_any (p:Option Addr) (n cap:Nat) (xs:List Int) (t f m:Int) (w:World) (hr:SRow w .u64 p n cap xs) (hn:n<=100000) (ht:0<=t) (ht2:t < 18446744073709551616) (hf:0<=f) (hf2:f < 18446744073709551616) (hm:m<=9223372036854775807) :
 Calls Tryz.prog 148 #[.slice p n cap,.int .u64 t,.int .u64 f,.int .i64 m] w fun e w'=>RetS (zj0 xs t f m) (moveE xs t f m) e w'/\Below w.heap.size w w':=by
 have hc:=qq (refRead_any p n cap xs f m w hr hn hf hf2 hm)
 have hlen:=qq hr.len
 have Hr:=qq hr
 have hrl:=readV_len xs f m
 clear hr
 by_cases h0:zs7 xs f m=0
 · obtain ⟨e1,e2⟩:=(read_then (xs:=xs) (t:=t) (f:=f) (m:=m)).1 h0
   have E1:=qq e1;have E2:=qq e2
   rw [h0] at hc
   clear e1 e2 h0
   go_enter Tryz.func148,Tryz.ntmps148
   go_wp2_with fail
   refine hc.out.mono ?_
   rintro e w1 ⟨⟨q,k,c,rfl,hq⟩,hb⟩
   have hk:k<=100000:=by rw [<-hq.len];rw [hlen.out] at hrl;omega
   have hw:=qq (yb6 p q n cap k c xs (zp8 xs f m) t w1 (Hr.out.keep hb) hq hn hk ht ht2)
   clear hc hq hrl
   go_wp2_with fail
   refine hw.out.mono ?_
   rintro e w2 ⟨⟨q2,k2,c2,rfl,hq2⟩,hb2⟩
   have hq2:=qq hq2
   clear hw
   go_wp2
   go_ret2
   exact ⟨RetS.mk hq2.out E1.out E2.out,za3 hb hb2⟩
 · obtain ⟨e1,e2⟩:=(read_then (xs:=xs) (t:=t) (f:=f) (m:=m)).2 h0
   have E1:=qq e1;have E2:=qq e2
   have h0':(zs7 xs f m != 0)=true:=by rw [bne_iff_ne];exact h0
   clear e1 e2 h0 hrl
   go_enter Tryz.func148,Tryz.ntmps148
   go_wp2_with fail
   refine hc.out.mono ?_
   rintro e w1 ⟨⟨q,k,c,rfl,hq⟩,hb⟩
   clear hc hq
   go_wp2
   go_ret2
   exact ⟨RetS.no E1.out E2.out,hb⟩
end Go.Proofs.YtipjdbhocjpmdaaGreat
