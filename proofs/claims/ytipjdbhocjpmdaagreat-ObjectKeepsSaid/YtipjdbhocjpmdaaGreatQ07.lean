import Derived.Test.YtipjdbhocjpmdaaGreatQ01
import Derived.Test.YtipjdbhocjpmdaaGreatQ03
import Derived.WalkKit
import Derived.Laws.ShiftsVarLaws
import Derived.Laws.BitsAll
set_option linter.unusedSimpArgs false
set_option linter.unusedVariables false
set_option maxRecDepth 100000
set_option maxHeartbeats 12800000
namespace Go.Proofs.YtipjdbhocjpmdaaGreat
open Go.RowKit
def ze9 (n:Int):Int:=2 ^ min n.toNat 64 - 1
def zj7 (n:Int):Nat:=2 ^ min n.toNat 64 - 1
theorem pow_le64 (k:Nat) (h:k<=64):(2:Nat) ^ k<=18446744073709551616:=by
 have:(2:Nat) ^ k<=2 ^ 64:=Nat.pow_le_pow_right (by decide) h
 simpa using this
theorem zn8 (k:Nat):1<=(2:Nat) ^ k:=Nat.one_le_two_pow
theorem zt0 (k:Nat):((2 ^ k:Nat):Int)=(2:Int) ^ k:=by rw [Int.natCast_pow];rfl
theorem ipow_le64 (k:Nat) (h:k<=64):(2:Int) ^ k<=18446744073709551616:=by
 have:=pow_le64 k h;rw [<-zt0];omega
theorem ipow_pos2 (k:Nat):1<=(2:Int) ^ k:=by
 have:=zn8 k;rw [<-zt0];omega
theorem zm8 (n:Int):ze9 n=((zj7 n:Nat):Int):=by
 unfold ze9 zj7
 have:=zn8 (min n.toNat 64)
 rw [Int.natCast_sub this]
 simp
theorem onesV_neg (n:Int) (h:n < 0):ze9 n=0:=by
 unfold ze9
 have:n.toNat=0:=by omega
 simp [this]
theorem onesV_wrap (n:Int):IntKind.u64.wrap (IntKind.u64.wrap (2 ^ min n.toNat 64) - 1)=ze9 n:=by
 unfold ze9
 have h1:=ipow_le64 (min n.toNat 64) (by omega)
 have h2:=ipow_pos2 (min n.toNat 64)
 rw [IntKind.wrap_u64,IntKind.wrap_u64]
 omega
theorem onesN_lt (n:Int):zj7 n < 18446744073709551616:=by
 unfold zj7;have:=pow_le64 (min n.toNat 64) (by omega);have:=zn8 (min n.toNat 64);omega
theorem shr_cast (x k:Nat):(x:Int) / 2 ^ k=((x >>> k:Nat):Int):=by
 rw [Nat.shiftRight_eq_div_pow,<-zt0,Int.natCast_ediv]
theorem shr_lt (x k:Nat) (hx:x < 18446744073709551616):x >>> k < 18446744073709551616:=by
 rw [Nat.shiftRight_eq_div_pow];exact Nat.lt_of_le_of_lt (Nat.div_le_self _ _) hx
theorem and_ones (v:Nat) (n:Int):v &&& zj7 n=v % 2 ^ min n.toNat 64:=by
 unfold zj7;exact Nat.and_two_pow_sub_one_eq_mod v _
theorem and_spell (v:Nat) (n:Int) (hv:v < 18446744073709551616):bits .and .u64 (v:Int) (ze9 n)=((v &&& zj7 n:Nat):Int):=by
 rw [zm8];exact u64_and_nat _ _ hv (onesN_lt _)
def fitL:Int->List Int->Bool
 | _,[]=>true
 | left,x :: r=>if x < 1\/left < x then false else fitL (left - x) r
theorem fitL_no {left x:Int} {ws:List Int} {k:Nat} (hx:ws[k]?=some x) (h:x < 1\/left < x):fitL left (ws.drop k)=false:=by
 obtain ⟨hk,rfl⟩:=List.getElem?_eq_some_iff.1 hx
 rw [List.drop_eq_getElem_cons hk,fitL,if_pos h]
theorem fitL_yes {left x:Int} {ws:List Int} {k:Nat} (hx:ws[k]?=some x) (h1:¬x < 1) (h2:¬left < x):fitL left (ws.drop k)=fitL (left - x) (ws.drop (k+1)):=by
 obtain ⟨hk,rfl⟩:=List.getElem?_eq_some_iff.1 hx
 rw [List.drop_eq_getElem_cons hk,fitL,if_neg (by omega)]
theorem fitL_end {left:Int} {ws:List Int} {k:Nat} (hk:ws.length<=k):fitL left (ws.drop k)=true:=by
 rw [List.drop_eq_nil_of_le hk,fitL]
theorem fitL_cons {left x:Int} {r:List Int} (h:fitL left (x :: r)=true):1<=x/\x<=left/\fitL (left - x) r=true:=by
 rw [fitL] at h
 by_cases c:x < 1\/left < x
 · rw [if_pos c] at h;cases h
 · rw [if_neg c] at h;exact ⟨by omega,by omega,h⟩
def sumW:List Int->Nat
 | []=>0
 | x :: r=>x.toNat+sumW r
theorem fitL_mem:∀ (ws:List Int) (left:Int),0<=left->fitL left ws=true->∀ x∈ws,1<=x/\x<=left
 | [],_,_,_,x,hx=>by cases hx
 | y :: r,left,h,hf,x,hx=>by
  obtain ⟨h1,h2,h3⟩:=fitL_cons hf
  rcases List.mem_cons.1 hx with rfl | hx
  · exact ⟨h1,h2⟩
  · have:=fitL_mem r (left - y) (by omega) h3 x hx
    omega
def zb3 (k n m:Int):Bool:=decide (0<=k/\k<=3/\0<=n/\n<=255/\(k=1->n<=32/\m < 2 ^ n.toNat)/\(¬k=1->m=0))
theorem ze3 {k n m:Int} (h:zb3 k n m=true):0<=k/\k<=3/\0<=n/\n<=255/\(k=1->n<=32/\m < 2 ^ n.toNat)/\(¬k=1->m=0):=by
 unfold zb3 at h;exact of_decide_eq_true h
theorem valid_mk {k n m:Int} (h:0<=k/\k<=3/\0<=n/\n<=255/\(k=1->n<=32/\m < 2 ^ n.toNat)/\(¬k=1->m=0)):zb3 k n m=true:=by
 unfold zb3;exact decide_eq_true h
theorem zi4 {k n m:Int} (h:¬(0<=k/\k<=3/\0<=n/\n<=255/\(k=1->n<=32/\m < 2 ^ n.toNat)/\(¬k=1->m=0))):zb3 k n m=false:=by
 unfold zb3;exact decide_eq_false h
theorem pow_le32 (n:Int) (h:n<=32):(2:Int) ^ n.toNat<=4294967296:=by
 have:(2:Nat) ^ n.toNat<=2 ^ 32:=Nat.pow_le_pow_right (by decide) (by omega)
 rw [<-zt0];omega
theorem valid_map {k n m:Int} (h:zb3 k n m=true):m < 4294967296:=by
 obtain ⟨h1,h2,h3,h4,h5,h6⟩:=ze3 h
 by_cases c:k=1
 · obtain ⟨h7,h8⟩:=h5 c;have:=pow_le32 n h7;omega
 · have:=h6 c;omega
def zg9 (k n m:Int):Int:=1+4*k+16*n+65536*m
def encV (k n m:Int):Int:=if zb3 k n m then zg9 k n m else 0
def encE (k n m:Int):Int:=if zb3 k n m then 0 else 1
theorem enc_ok {k n m:Int} (h:zb3 k n m=true):encV k n m=zg9 k n m/\encE k n m=0:=by
 unfold encV encE;rw [if_pos h,if_pos h];exact ⟨rfl,rfl⟩
theorem enc_no {k n m:Int} (h:zb3 k n m=false):encV k n m=0/\encE k n m=1:=by
 unfold encV encE;rw [if_neg (by simp [h]),if_neg (by simp [h])];exact ⟨rfl,rfl⟩
theorem word_bd {k n m:Int} (h:zb3 k n m=true) (hm:0<=m):0<=zg9 k n m/\zg9 k n m < 281474976710656:=by
 have:=valid_map h
 obtain ⟨h1,h2,h3,h4,h5,h6⟩:=ze3 h
 unfold zg9;omega
def dK (x:Nat):Nat:=x / 4 % 4
def dN (x:Nat):Nat:=x / 16 % 4096
def dM (x:Nat):Nat:=x / 65536 % 4294967296
def okD (x:Nat):Bool:=decide (x % 4=1) && decide (x < 281474976710656) && zb3 (dK x) (dN x) (dM x)
def decK (x:Nat):Int:=if okD x then dK x else 0
def decN (x:Nat):Int:=if okD x then dN x else 0
def decM (x:Nat):Int:=if okD x then dM x else 0
theorem dec_ok {x:Nat} (h:okD x=true):decK x=dK x/\decN x=dN x/\decM x=dM x:=by
 unfold decK decN decM;rw [if_pos h,if_pos h,if_pos h];exact ⟨rfl,rfl,rfl⟩
theorem dec_no {x:Nat} (h:okD x=false):decK x=0/\decN x=0/\decM x=0:=by
 unfold decK decN decM;rw [if_neg (by simp [h]),if_neg (by simp [h]),if_neg (by simp [h])];exact ⟨rfl,rfl,rfl⟩
theorem zr2 {x:Nat} (h:okD x=true):x % 4=1/\x < 281474976710656/\zb3 (dK x) (dN x) (dM x)=true:=by
 unfold okD at h;simp only [Bool.and_eq_true,decide_eq_true_eq] at h;exact ⟨h.1.1,h.1.2,h.2⟩
theorem okD_mk {x:Nat} (h1:x % 4=1) (h2:x < 281474976710656) (h3:zb3 (dK x) (dN x) (dM x)=true):okD x=true:=by
 unfold okD;simp only [Bool.and_eq_true,decide_eq_true_eq];exact ⟨⟨h1,h2⟩,h3⟩
theorem okD_no {x:Nat} (h:¬x % 4=1\/¬x < 281474976710656\/zb3 (dK x) (dN x) (dM x)=false):okD x=false:=by
 rw [<-Bool.not_eq_true];intro c;obtain ⟨h1,h2,h3⟩:=zr2 c
 rcases h with h | h | h
 · exact h h1
 · exact h h2
 · rw [h3] at h;cases h
theorem dec_word {x:Nat} (h:okD x=true):zg9 (dK x) (dN x) (dM x)=x:=by
 obtain ⟨h1,h2,h3⟩:=zr2 h
 obtain ⟨_,_,_,h4,_,_⟩:=ze3 h3
 unfold zg9 dK dN dM at *;omega
theorem word_dec {k n m:Int} (h:zb3 k n m=true) (hm:0<=m) {x:Nat} (hx:zg9 k n m=x):okD x=true/\(dK x:Int)=k/\(dN x:Int)=n/\(dM x:Int)=m:=by
 have hm2:=valid_map h
 obtain ⟨h1,h2,h3,h4,h5,h6⟩:=ze3 h
 have e1:(dK x:Int)=k:=by unfold zg9 at hx;unfold dK;omega
 have e2:(dN x:Int)=n:=by unfold zg9 at hx;unfold dN;omega
 have e3:(dM x:Int)=m:=by unfold zg9 at hx;unfold dM;omega
 refine ⟨okD_mk ?_ ?_ ?_,e1,e2,e3⟩
 · unfold zg9 at hx;omega
 · unfold zg9 at hx;omega
 · rw [e1,e2,e3];exact h
theorem word_iff {x:Nat}:okD x=true↔zb3 (dK x) (dN x) (dM x)=true/\zg9 (dK x) (dN x) (dM x)=x :=
 ⟨fun h=>⟨(zr2 h).2.2,dec_word h⟩,fun h=>(word_dec h.1 (Int.natCast_nonneg _) h.2).1⟩
def fwdV (a:Int):Int:=if a < 4294967296 then 4*a+2 else 0
def fwdE (a:Int):Int:=if a < 4294967296 then 0 else 1
theorem fwd_ok {a:Int} (h:a < 4294967296):fwdV a=4*a+2/\fwdE a=0:=by
 unfold fwdV fwdE;rw [if_pos h,if_pos h];exact ⟨rfl,rfl⟩
theorem fwd_no {a:Int} (h:¬a < 4294967296):fwdV a=0/\fwdE a=1:=by
 unfold fwdV fwdE;rw [if_neg h,if_neg h];exact ⟨rfl,rfl⟩
def okT (x:Nat):Bool:=decide (x % 4=2) && decide (x < 17179869184)
def tgtV (x:Nat):Int:=if okT x then ((x / 4:Nat):Int) else 0
theorem okT_parts {x:Nat} (h:okT x=true):x % 4=2/\x < 17179869184:=by
 unfold okT at h;simp only [Bool.and_eq_true,decide_eq_true_eq] at h;exact h
theorem okT_mk {x:Nat} (h1:x % 4=2) (h2:x < 17179869184):okT x=true:=by
 unfold okT;simp only [Bool.and_eq_true,decide_eq_true_eq];exact ⟨h1,h2⟩
theorem apart (x:Nat):¬(okD x=true/\okT x=true):=by
 rintro ⟨h,k⟩;have:=(zr2 h).1;have:=(okT_parts k).1;omega
def zd8 (k n m:Int):Int:=if zb3 k n m then n+1 else 0
theorem zu2 {k n m:Int} (h:zb3 k n m=true):zd8 k n m=n+1:=by unfold zd8;rw [if_pos h]
theorem size_no {k n m:Int} (h:zb3 k n m=false):zd8 k n m=0:=by unfold zd8;rw [if_neg (by simp [h])]
def ptrB (k n m i:Int):Bool:=zb3 k n m && decide (0<=i) && decide (i < n) && (decide (k=2) || (decide (k=1) && m.toNat.testBit i.toNat))
theorem ptr_no {k n m i:Int} (h:zb3 k n m=false\/i < 0\/n<=i):ptrB k n m i=false:=by
 unfold ptrB
 rcases h with h | h | h
 · simp [h]
 · have:decide (0<=i)=false:=decide_eq_false (by omega)
   simp [this]
 · have:decide (i < n)=false:=decide_eq_false (by omega)
   simp [this]
theorem ptr_ok {k n m i:Int} (h:zb3 k n m=true) (h1:0<=i) (h2:i < n):ptrB k n m i=(decide (k=2) || (decide (k=1) && m.toNat.testBit i.toNat)):=by
 unfold ptrB;simp [h,h1,h2]
def zj8 (k n m:Int) (j:Nat):List Int:=((List.range j).map Int.ofNat).filter (fun i=>ptrB k n m i)
def ptrsV (k n m:Int):List Int:=if zb3 k n m then zj8 k n m n.toNat else []
theorem ptrsTo_succ (k n m:Int) (j:Nat):zj8 k n m (j+1)=if ptrB k n m j then zj8 k n m j ++ [(j:Int)] else zj8 k n m j:=by
 unfold zj8
 rw [List.range_succ,List.map_append,List.filter_append]
 by_cases h:ptrB k n m j=true
 · rw [if_pos h]
   have:([j].map Int.ofNat).filter (fun i=>ptrB k n m i)=[(j:Int)]:=by simp [h]
   rw [this]
 · rw [if_neg h]
   have:([j].map Int.ofNat).filter (fun i=>ptrB k n m i)=[]:=by simp [h]
   rw [this,List.append_nil]
theorem ptrsTo_len (k n m:Int) (j:Nat):(zj8 k n m j).length<=j:=by
 unfold zj8;refine Nat.le_trans (List.length_filter_le _ _) ?_;simp
theorem ptrsTo_mem {k n m:Int} {j:Nat} {x:Int} (h:x∈zj8 k n m j):ptrB k n m x=true:=(List.mem_filter.1 h).2
theorem ptrsV_mem {k n m:Int} {x:Int} (h:x∈ptrsV k n m):ptrB k n m x=true:=by
 unfold ptrsV at h
 by_cases c:zb3 k n m=true
 · rw [if_pos c] at h;exact ptrsTo_mem h
 · rw [if_neg c] at h;cases h
theorem ptrs_ok {k n m:Int} (h:zb3 k n m=true):ptrsV k n m=zj8 k n m n.toNat:=by unfold ptrsV;rw [if_pos h]
theorem ptrs_no {k n m:Int} (h:zb3 k n m=false):ptrsV k n m=[]:=by unfold ptrsV;rw [if_neg (by simp [h])]
theorem bit32_spell (m:Nat) (i:Nat) (hm:m < 4294967296):bits .and .u32 ((m:Int) / 2 ^ i) 1=(((m.testBit i).toNat:Nat):Int):=by
 rw [shr_cast]
 have hl:m >>> i < 4294967296:=by rw [Nat.shiftRight_eq_div_pow];exact Nat.lt_of_le_of_lt (Nat.div_le_self _ _) hm
 have:=u32_and_nat (m >>> i) 1 hl (by omega)
 rw [show ((1:Nat):Int)=1 from rfl] at this
 rw [this,Nat.and_one_is_mod,Nat.toNat_testBit,Nat.shiftRight_eq_div_pow]
theorem bit_test (m i:Nat) (hm:m < 4294967296):(bits .and .u32 ((m:Int) / 2 ^ min i 32) 1 == 1)=m.testBit i:=by
 have e:m.testBit i=m.testBit (min i 32):=by
  by_cases h:i<=32
  · rw [show min i 32=i from by omega]
  · have h1:(2:Nat) ^ 32<=2 ^ i:=Nat.pow_le_pow_right (by decide) (by omega)
    rw [show min i 32=32 from by omega,Nat.testBit_lt_two_pow (Nat.lt_of_lt_of_le hm (by simpa using h1)),Nat.testBit_lt_two_pow (by omega)]
 rw [bit32_spell m _ hm,e]
 cases m.testBit (min i 32) <;> rfl
theorem shl_map {n:Int} (h2:n<=32):IntKind.u64.wrap (2 ^ n.toNat)=2 ^ n.toNat:=by
 rw [IntKind.wrap_u64]
 have:=pow_le32 n h2
 have:=ipow_pos2 n.toNat
 omega
theorem refValid_rec (n m:Int) (w:World) (hm0:0<=m) (hm:m < 4294967296) :
 Calls Tryz.prog 102 #[.agg #[.int .i64 1,.int .i64 n,.int .u32 m]] w fun e w'=>e = .returned (.bool (zb3 1 n m))/\Below w.heap.size w w':=by
 by_cases h1:0<=n
 · by_cases h2:n<=255
   · by_cases h3:n<=32
     · have hs:=shl_map h3
       by_cases h4:m < 2 ^ n.toNat
       · have E:=qq (valid_mk (k:=1) (n:=n) (m:=m) ⟨by omega,by omega,h1,by omega,fun _=>⟨h3,h4⟩,fun h=>absurd rfl h⟩)
         have hd:Hid (decide (m < IntKind.u64.wrap (2 ^ n.toNat))=true):=decide_eq_true (by rw [hs];exact h4)
         clear hs h4
         go_enter Tryz.func102,Tryz.ntmps102
         go_wp2
         go_ret
         exact ⟨za9 (by rw [E.out];exact hd.out),za1⟩
       · have E:=qq (zi4 (k:=1) (n:=n) (m:=m) fun h=>h4 (h.2.2.2.2.1 rfl).2)
         have hd:Hid (decide (m < IntKind.u64.wrap (2 ^ n.toNat))=false):=decide_eq_false (by rw [hs];exact h4)
         clear hs h4
         go_enter Tryz.func102,Tryz.ntmps102
         go_wp2
         go_ret
         exact ⟨za9 (by rw [E.out];exact hd.out),za1⟩
     · have E:=qq (zi4 (k:=1) (n:=n) (m:=m) fun h=>h3 (h.2.2.2.2.1 rfl).1)
       go_enter Tryz.func102,Tryz.ntmps102
       go_wp2
       go_ret
       exact ⟨za9 E.out.symm,za1⟩
   · have E:=qq (zi4 (k:=1) (n:=n) (m:=m) fun h=>h2 h.2.2.2.1)
     go_enter Tryz.func102,Tryz.ntmps102
     go_wp2
     go_ret
     exact ⟨za9 E.out.symm,za1⟩
 · have E:=qq (zi4 (k:=1) (n:=n) (m:=m) fun h=>h1 h.2.2.1)
   go_enter Tryz.func102,Tryz.ntmps102
   go_wp2
   go_ret
   exact ⟨za9 E.out.symm,za1⟩
theorem refValid_other (k n m:Int) (hk:¬k=1) (w:World) :
 Calls Tryz.prog 102 #[.agg #[.int .i64 k,.int .i64 n,.int .u32 m]] w fun e w'=>e = .returned (.bool (zb3 k n m))/\Below w.heap.size w w':=by
 have d1:(k != 1)=true:=bne_iff_ne.2 hk
 by_cases h0:0<=k
 · by_cases h00:k<=3
   · by_cases h1:0<=n
     · by_cases h2:n<=255
       · have E:Hid (zb3 k n m=(m == 0)):=by
          by_cases h3:m=0
          · subst h3;rw [valid_mk ⟨h0,h00,h1,h2,fun c=>absurd c hk,fun _=>rfl⟩];rfl
          · rw [zi4 fun h=>h3 (h.2.2.2.2.2 hk)];exact (beq_eq_false_iff_ne.2 h3).symm
         clear hk
         go_enter Tryz.func102,Tryz.ntmps102
         go_wp2
         go_ret
         exact ⟨za9 E.out.symm,za1⟩
       · have E:=qq (zi4 (k:=k) (n:=n) (m:=m) fun h=>h2 h.2.2.2.1)
         clear hk
         go_enter Tryz.func102,Tryz.ntmps102
         go_wp2
         go_ret
         exact ⟨za9 E.out.symm,za1⟩
     · have E:=qq (zi4 (k:=k) (n:=n) (m:=m) fun h=>h1 h.2.2.1)
       clear hk
       go_enter Tryz.func102,Tryz.ntmps102
       go_wp2
       go_ret
       exact ⟨za9 E.out.symm,za1⟩
   · have E:=qq (zi4 (k:=k) (n:=n) (m:=m) fun h=>h00 h.2.1)
     clear hk
     go_enter Tryz.func102,Tryz.ntmps102
     go_wp2
     go_ret
     exact ⟨za9 E.out.symm,za1⟩
 · have E:=qq (zi4 (k:=k) (n:=n) (m:=m) fun h=>h0 h.1)
   clear hk
   go_enter Tryz.func102,Tryz.ntmps102
   go_wp2
   go_ret
   exact ⟨za9 E.out.symm,za1⟩
theorem zj9 (k n m:Int) (w:World) (hm0:0<=m) (hm:m < 4294967296) :
 Calls Tryz.prog 102 #[.agg #[.int .i64 k,.int .i64 n,.int .u32 m]] w fun e w'=>e = .returned (.bool (zb3 k n m))/\Below w.heap.size w w':=by
 by_cases h1:k=1
 · subst h1;exact refValid_rec n m w hm0 hm
 · exact refValid_other k n m h1 w
theorem refEncode_ok (k n m:Int) (w:World) (hm0:0<=m) (hm:m < 4294967296) (hv:zb3 k n m=true) :
 Calls Tryz.prog 80 #[.agg #[.int .i64 k,.int .i64 n,.int .u32 m]] w fun e w'=>e = .returned (.tuple #[.int .u64 (zg9 k n m),.int .i64 0])/\Below w.heap.size w w':=by
 obtain ⟨h1,h2,h3,h4,-,-⟩:=ze3 hv
 have hc:=qq (zj9 k n m (w.alloc (.cells #[.int .i64 k,.int .i64 n,.int .u32 m] 54)) hm0 hm)
 have E:=qq (show zg9 k n m=1+4*k+16*n+m*65536 from by unfold zg9;omega)
 rw [hv] at hc
 clear hv
 go_enter Tryz.func80,Tryz.ntmps80
 go_wp2_with fail
 refine hc.out.mono ?_
 rintro e w1 ⟨rfl,hb1⟩
 obtain ⟨c0,c1,c2⟩:=box3 (by simpa using hb1)
 clear hc
 go_wp2
 go_ret2
 exact ⟨zp3 (by rw [E.out];try simp) rfl,za4 hb1⟩
theorem refEncode_no (k n m:Int) (w:World) (hm0:0<=m) (hm:m < 4294967296) (hv:zb3 k n m=false) :
 Calls Tryz.prog 80 #[.agg #[.int .i64 k,.int .i64 n,.int .u32 m]] w fun e w'=>e = .returned (.tuple #[.int .u64 0,.int .i64 1])/\Below w.heap.size w w':=by
 have hc:=qq (zj9 k n m (w.alloc (.cells #[.int .i64 k,.int .i64 n,.int .u32 m] 54)) hm0 hm)
 rw [hv] at hc
 clear hv
 go_enter Tryz.func80,Tryz.ntmps80
 go_wp2_with fail
 refine hc.out.mono ?_
 rintro e w1 ⟨rfl,hb1⟩
 clear hc
 go_wp2
 go_ret2
 exact ⟨rfl,za4 hb1⟩
theorem zr9 (k n m:Int) (w:World) (hm0:0<=m) (hm:m < 4294967296) :
 Calls Tryz.prog 80 #[.agg #[.int .i64 k,.int .i64 n,.int .u32 m]] w fun e w'=>e = .returned (.tuple #[.int .u64 (encV k n m),.int .i64 (encE k n m)])/\Below w.heap.size w w':=by
 by_cases hv:zb3 k n m=true
 · obtain ⟨e1,e2⟩:=enc_ok hv
   rw [e1,e2]
   exact refEncode_ok k n m w hm0 hm hv
 · have hv:zb3 k n m=false:=by simpa using hv
   obtain ⟨e1,e2⟩:=enc_no hv
   rw [e1,e2]
   exact refEncode_no k n m w hm0 hm hv
end Go.Proofs.YtipjdbhocjpmdaaGreat
