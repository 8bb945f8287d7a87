import Derived.Test.YtipjdbhocjpmdaaGreatQ01
set_option linter.unusedSimpArgs false
set_option linter.unusedVariables false
set_option maxRecDepth 100000
set_option maxHeartbeats 12800000
namespace Go.Proofs.YtipjdbhocjpmdaaGreat
open Go.RowKit
def zb8 (pw np:Int):Bool:=decide (16<=pw/\pw<=64/\pw % 4=0/\8<=np/\np<=64)
theorem zb1 {pw np:Int} (h:zb8 pw np=true):16<=pw/\pw<=64/\pw % 4=0/\8<=np/\np<=64:=by
 unfold zb8 at h;exact of_decide_eq_true h
theorem conf_mk {pw np:Int} (h:16<=pw/\pw<=64/\pw % 4=0/\8<=np/\np<=64):zb8 pw np=true:=by
 unfold zb8;exact decide_eq_true h
theorem zw0 {pw np:Int} (h:¬(16<=pw/\pw<=64/\pw % 4=0/\8<=np/\np<=64)):zb8 pw np=false:=by
 unfold zb8;exact decide_eq_false h
def zq3 (pw np:Int):Int:=if zb8 pw np then np / 4 else 0
def zs9 (pw np:Int):Int:=if zb8 pw np then pw / 4 else 0
def zl2 (pw n:Int):Int:=if n<=pw / 4 then 0 else if n<=pw then 1 else if n<=2*pw then 2 else if n<=3*pw then 3 else if n<=4*pw then 4 else -1
def zb6 (pw np n:Int):Int:=if zb8 pw np=true/\1<=n then zl2 pw n else -1
theorem zx2 {pw np n:Int} (h:zb8 pw np=true) (h1:1<=n):zb6 pw np n=zl2 pw n:=by unfold zb6;rw [if_pos ⟨h,h1⟩]
theorem zx3 {pw np n:Int} (h:zb8 pw np=false\/n < 1):zb6 pw np n = -1:=by
 unfold zb6
 rw [if_neg]
 rintro ⟨a,b⟩
 rcases h with h | h
 · rw [a] at h;cases h
 · omega
def inPg (pw np p o:Int):Bool:=decide (0<=p/\p < np/\0<=o/\o < pw)
def zd4 (pw np p o:Int):Int:=if zb8 pw np then (if inPg pw np p o then 4096+p*pw+o else 0) else 0
def addrE (pw np p o:Int):Int:=if zb8 pw np then (if inPg pw np p o then 0 else 2) else 1
def inAr (pw np a:Int):Bool:=decide (4096<=a/\a < 4096+np*pw)
def ofI (pw np a:Int):Int:=if zb8 pw np then (if inAr pw np a then (a - 4096) / pw else 0) else 0
def ofK (pw np a:Int):Int:=if zb8 pw np then (if inAr pw np a then (a - 4096) % pw else 0) else 0
def ofE (pw np a:Int):Int:=if zb8 pw np then (if inAr pw np a then 0 else 2) else 1
theorem limit_ok {pw np:Int} (h:zb8 pw np=true):zq3 pw np=np / 4:=by unfold zq3;rw [if_pos h]
theorem limit_no {pw np:Int} (h:zb8 pw np=false):zq3 pw np=0:=by unfold zq3;rw [if_neg (by simp [h])]
theorem small_ok {pw np:Int} (h:zb8 pw np=true):zs9 pw np=pw / 4:=by unfold zs9;rw [if_pos h]
theorem small_no {pw np:Int} (h:zb8 pw np=false):zs9 pw np=0:=by unfold zs9;rw [if_neg (by simp [h])]
theorem addr_ok {pw np p o:Int} (h:zb8 pw np=true) (h1:inPg pw np p o=true):zd4 pw np p o=4096+p*pw+o/\addrE pw np p o=0:=by
 unfold zd4 addrE;rw [if_pos h,if_pos h,if_pos h1,if_pos h1];exact ⟨rfl,rfl⟩
theorem yb2 {pw np p o:Int} (h:zb8 pw np=true) (h1:inPg pw np p o=false):zd4 pw np p o=0/\addrE pw np p o=2:=by
 unfold zd4 addrE;rw [if_pos h,if_pos h,if_neg (by simp [h1]),if_neg (by simp [h1])];exact ⟨rfl,rfl⟩
theorem addr_no {pw np p o:Int} (h:zb8 pw np=false):zd4 pw np p o=0/\addrE pw np p o=1:=by
 unfold zd4 addrE;rw [if_neg (by simp [h]),if_neg (by simp [h])];exact ⟨rfl,rfl⟩
theorem of_ok {pw np a:Int} (h:zb8 pw np=true) (h1:inAr pw np a=true):ofI pw np a=(a - 4096) / pw/\ofK pw np a=(a - 4096) % pw/\ofE pw np a=0:=by
 unfold ofI ofK ofE;rw [if_pos h,if_pos h,if_pos h,if_pos h1,if_pos h1,if_pos h1];exact ⟨rfl,rfl,rfl⟩
theorem of_out {pw np a:Int} (h:zb8 pw np=true) (h1:inAr pw np a=false):ofI pw np a=0/\ofK pw np a=0/\ofE pw np a=2:=by
 unfold ofI ofK ofE;rw [if_pos h,if_pos h,if_pos h,if_neg (by simp [h1]),if_neg (by simp [h1]),if_neg (by simp [h1])];exact ⟨rfl,rfl,rfl⟩
theorem of_no {pw np a:Int} (h:zb8 pw np=false):ofI pw np a=0/\ofK pw np a=0/\ofE pw np a=1:=by
 unfold ofI ofK ofE;rw [if_neg (by simp [h]),if_neg (by simp [h]),if_neg (by simp [h])];exact ⟨rfl,rfl,rfl⟩
theorem zd6 {pw np:Int} (h:zb8 pw np=true):128<=np*pw/\np*pw<=4096:=by
 obtain ⟨h1,h2,_,h4,h5⟩:=zb1 h
 exact ⟨Int.le_trans (show (128:Int)<=8*16 from by decide) (Int.mul_le_mul h4 h1 (by decide) (by omega)),Int.le_trans (Int.mul_le_mul h5 h2 (by omega) (by omega)) (by decide)⟩
theorem zj2 {pw np p:Int} (h:zb8 pw np=true) (h0:0<=p) (h1:p < np):0<=p*pw/\p*pw+pw<=np*pw:=by
 obtain ⟨h2,_⟩:=zb1 h
 have e:p*pw+pw=(p+1)*pw:=by rw [Int.add_mul,Int.one_mul]
 exact ⟨Int.mul_nonneg h0 (by omega),by rw [e];exact Int.mul_le_mul_of_nonneg_right (by omega) (by omega)⟩
theorem of_addr {pw np p o:Int} (h:zb8 pw np=true) (h1:inPg pw np p o=true):inAr pw np (4096+p*pw+o)=true/\(4096+p*pw+o - 4096) / pw=p/\(4096+p*pw+o - 4096) % pw=o:=by
 unfold inPg at h1
 obtain ⟨a,b,c,d⟩:=of_decide_eq_true h1
 obtain ⟨e,f⟩:=zj2 h a b
 have g:=zb1 h
 have e1:4096+p*pw+o - 4096=o+p*pw:=by omega
 refine ⟨decide_eq_true (by omega),?_,?_⟩
 · rw [e1,Int.add_mul_ediv_right _ _ (by omega),Int.ediv_eq_zero_of_lt c d];omega
 · rw [e1,Int.add_mul_emod_self_right,Int.emod_eq_of_lt c d]
def okA (len:Nat) (a:Int) (n:Nat):Bool:=decide (4096<=a/\a - 4096+n<=len)
theorem zn1 (len:Nat) (a:Int) (n:Nat):(∃ i:Nat,a=4096+(i:Int)/\i+n<=len/\okA len a n=true)\/(okA len a n=false/\(a < 4096\/len < a - 4096+n)):=by
 by_cases h:4096<=a/\a - 4096+n<=len
 · left;exact ⟨(a - 4096).toNat,by omega,by omega,decide_eq_true h⟩
 · right;exact ⟨decide_eq_false h,by omega⟩
theorem okA_off (i:Nat):((4096+(i:Int)) - 4096).toNat=i:=by omega
def indexV (len:Nat) (a:Int):Int:=if okA len a 1 then a - 4096 else 0
def indexE (len:Nat) (a:Int):Int:=if okA len a 1 then 0 else 2
def ze1 (xs:List Int) (a:Int):Int:=if okA xs.length a 1 then xs.getD (a - 4096).toNat 0 else 0
def loadE (xs:List Int) (a:Int):Int:=if okA xs.length a 1 then 0 else 2
def zp8 (xs:List Int) (a n:Int):List Int:=if n < 0 then [] else if okA xs.length a n.toNat then (xs.drop (a - 4096).toNat).take n.toNat else []
def zs7 (xs:List Int) (a n:Int):Int:=if n < 0 then 1 else if okA xs.length a n.toNat then 0 else 2
def zc8 (xs:List Int) (a:Int) (l:List Int):List Int:=if okA xs.length a l.length then splice xs (a - 4096).toNat l else []
def zh4 (xs:List Int) (a:Int) (l:List Int):Int:=if okA xs.length a l.length then 0 else 2
def zj0 (xs:List Int) (t f n:Int):List Int:=if n < 0 then [] else if okA xs.length t n.toNat/\okA xs.length f n.toNat then splice xs (t - 4096).toNat ((xs.drop (f - 4096).toNat).take n.toNat) else []
def moveE (xs:List Int) (t f n:Int):Int:=if n < 0 then 1 else if okA xs.length t n.toNat/\okA xs.length f n.toNat then 0 else 2
theorem nneg (n:Nat):¬((n:Int) < 0):=by omega
theorem index_ok {len i:Nat} (h:okA len (4096+(i:Int)) 1=true):indexV len (4096+(i:Int))=i/\indexE len (4096+(i:Int))=0:=by
 unfold indexV indexE;rw [if_pos h,if_pos h];exact ⟨by omega,rfl⟩
theorem index_no {len:Nat} {a:Int} (h:okA len a 1=false):indexV len a=0/\indexE len a=2:=by
 unfold indexV indexE;rw [if_neg (by simp [h]),if_neg (by simp [h])];exact ⟨rfl,rfl⟩
theorem load_ok' {xs:List Int} {i:Nat} {x:Int} (h:okA xs.length (4096+(i:Int)) 1=true) (hx:xs[i]?=some x):ze1 xs (4096+(i:Int))=x/\loadE xs (4096+(i:Int))=0:=by
 unfold ze1 loadE;rw [if_pos h,if_pos h,okA_off,List.getD_eq_getElem?_getD,hx];exact ⟨rfl,rfl⟩
theorem load_no' {xs:List Int} {a:Int} (h:okA xs.length a 1=false):ze1 xs a=0/\loadE xs a=2:=by
 unfold ze1 loadE;rw [if_neg (by simp [h]),if_neg (by simp [h])];exact ⟨rfl,rfl⟩
theorem read_arg {xs:List Int} {a n:Int} (h:n < 0):zp8 xs a n=[]/\zs7 xs a n=1:=by
 unfold zp8 zs7;rw [if_pos h,if_pos h];exact ⟨rfl,rfl⟩
theorem read_ok {xs:List Int} {i n:Nat} (h:okA xs.length (4096+(i:Int)) n=true):zp8 xs (4096+(i:Int)) n=(xs.drop i).take n/\zs7 xs (4096+(i:Int)) n=0:=by
 unfold zp8 zs7;rw [if_neg (nneg n),if_neg (nneg n),Int.toNat_natCast,if_pos h,if_pos h,okA_off];exact ⟨rfl,rfl⟩
theorem read_no {xs:List Int} {a:Int} {n:Nat} (h:okA xs.length a n=false):zp8 xs a n=[]/\zs7 xs a n=2:=by
 unfold zp8 zs7;rw [if_neg (nneg n),if_neg (nneg n),Int.toNat_natCast,if_neg (by simp [h]),if_neg (by simp [h])];exact ⟨rfl,rfl⟩
theorem write_ok {xs l:List Int} {i:Nat} (h:okA xs.length (4096+(i:Int)) l.length=true):zc8 xs (4096+(i:Int)) l=splice xs i l/\zh4 xs (4096+(i:Int)) l=0:=by
 unfold zc8 zh4;rw [if_pos h,if_pos h,okA_off];exact ⟨rfl,rfl⟩
theorem write_no {xs l:List Int} {a:Int} (h:okA xs.length a l.length=false):zc8 xs a l=[]/\zh4 xs a l=2:=by
 unfold zc8 zh4;rw [if_neg (by simp [h]),if_neg (by simp [h])];exact ⟨rfl,rfl⟩
theorem move_arg {xs:List Int} {t f n:Int} (h:n < 0):zj0 xs t f n=[]/\moveE xs t f n=1:=by
 unfold zj0 moveE;rw [if_pos h,if_pos h];exact ⟨rfl,rfl⟩
theorem move_ok {xs:List Int} {i j n:Nat} (h:okA xs.length (4096+(i:Int)) n=true) (h2:okA xs.length (4096+(j:Int)) n=true) :
 zj0 xs (4096+(i:Int)) (4096+(j:Int)) n=splice xs i ((xs.drop j).take n)/\moveE xs (4096+(i:Int)) (4096+(j:Int)) n=0:=by
 unfold zj0 moveE;rw [if_neg (nneg n),if_neg (nneg n),Int.toNat_natCast,if_pos ⟨h,h2⟩,if_pos ⟨h,h2⟩,okA_off,okA_off];exact ⟨rfl,rfl⟩
theorem move_no {xs:List Int} {t f:Int} {n:Nat} (h:okA xs.length t n=false\/okA xs.length f n=false):zj0 xs t f n=[]/\moveE xs t f n=2:=by
 have h2:¬(okA xs.length t n=true/\okA xs.length f n=true):=by rcases h with h | h <;> simp [h]
 unfold zj0 moveE;rw [if_neg (nneg n),if_neg (nneg n),Int.toNat_natCast,if_neg h2,if_neg h2];exact ⟨rfl,rfl⟩
theorem zo7 {xs l:List Int} {i:Nat} (h:i+l.length<=xs.length):(splice xs i l).length=xs.length:=length_splice xs i l h
theorem zy7 {xs l:List Int} {i j:Nat} (h:i+l.length<=xs.length) (h1:i<=j) (h2:j < i+l.length):(splice xs i l)[j]?=l[j - i]?:=by
 unfold splice
 have e:(xs.take i).length=i:=by rw [List.length_take];omega
 rw [List.getElem?_append_right (by omega),e,List.getElem?_append_left (by omega)]
theorem ya1 {xs l:List Int} {i j:Nat} (h:i+l.length<=xs.length) (h1:j < i\/i+l.length<=j):(splice xs i l)[j]?=xs[j]?:=by
 unfold splice
 have e:(xs.take i).length=i:=by rw [List.length_take];omega
 rcases h1 with h1 | h1
 · rw [List.getElem?_append_left (by omega),List.getElem?_take,if_pos h1]
 · rw [List.getElem?_append_right (by omega),e,List.getElem?_append_right (by omega),List.getElem?_drop]
   congr 1;omega
def DupRet (T:TypeId) (xs:List Int) (n:Nat) (w:World) (e:Ending) (w':World):Prop:=∃ g,e = .returned (.slice (some ⟨g,0,none⟩) n n)/\w.heap.size<=g/\Blk w' g T .u64 xs/\Below w.heap.size w w'
end Go.Proofs.YtipjdbhocjpmdaaGreat
