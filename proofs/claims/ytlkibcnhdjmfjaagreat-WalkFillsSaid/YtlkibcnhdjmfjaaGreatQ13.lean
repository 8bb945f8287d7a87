import Derived.Test.YtlkibcnhdjmfjaaGreatQ08
import Derived.Test.YtlkibcnhdjmfjaaGreatQ09
import Derived.Test.YtlkibcnhdjmfjaaGreatQ10
import Derived.Test.YtlkibcnhdjmfjaaGreatQ11
import Derived.Test.YtlkibcnhdjmfjaaGreatQ12
set_option linter.unusedSimpArgs false
set_option linter.unusedVariables false
set_option maxRecDepth 100000
set_option maxHeartbeats 4000000
noncomputable section
namespace Go.VI
open Go
namespace P
end P
theorem zpi (ps:List PgD) (hl:ps.length<=100000000):Tot (fun r=>r.1.1=(P.ziO (ps.map toPg):Int)) (F_page_InUse (ps,())):=by
 rw [zmP];dsimp only
 refine zad (P:=fun r=>r.1.1=(P.ziO (ps.map toPg):Int)) (zak (fun x=>∃ k:Nat,x.1.2.1=(k:Int)/\k<=ps.length/\x.1.1=(P.ziO ((ps.map toPg).take k):Int)) (fun x=>((ps.length:Int)-x.1.2.1).toNat) ⟨0,rfl,by omega,by simp [P.ziO]⟩ ?_) fun r hr=>zab hr
 rintro ⟨⟨(n:Int),(i:Int),_⟩,_⟩ ⟨k,e,hk,e2⟩
 dsimp only at e e2 ⊢
 subst e e2
 have hle:=P.zee ((ps.map toPg).take k)
 rw [List.length_take]at hle
 refine zac (fun h=>?_) fun h=>zab ?_
 · simp only [decide_eq_true_eq]at h
   have hk:k<ps.length:=by omega
   have w2:W ((k:Int)+1)=k+1:=W_id (by omega)
   have w1:W ((P.ziO ((ps.map toPg).take k):Int)+1)=P.ziO ((ps.map toPg).take k)+1:=W_id (by omega)
   refine zae (zil.2 ⟨by omega,h⟩) (zab ?_)
   rw [w1,w2,Int.toNat_natCast]
   simp only [Sum.elim_inl]
   refine ⟨⟨k+1,by omega,by omega,?_⟩,by omega⟩
   rw [P.zh2 (zi0 hk)]
   have:(toPg (ps.getD k PG0)).kind=(ps.getD k PG0).1:=rfl
   rw [this]
   cases hc:((ps.getD k PG0).1 != 0)
   · simp only [bne_eq_false_iff_eq]at hc
     rw [if_pos hc];simp
   · simp only [bne_iff_ne,ne_eq]at hc
     rw [if_neg hc];simp
 · simp only [decide_eq_false_iff_not]at h
   simp only [Sum.elim_inr]
   rw [List.take_of_length_le (by rw [List.length_map];omega)]
end Go.VI
namespace Go.VI
open Go
abbrev FiD:=Int×Int×Unit
def toFi (f:Int×Nat):FiD:=(f.1,(f.2:Int),())
theorem bits_or (a b:Nat) (ha:a<18446744073709551616) (hb:b<18446744073709551616):ziW IntKind.u64 (fun (x1 x2:BitVec IntKind.u64.bits)=>x1 ||| x2) (a:Int) (b:Int)=((a ||| b:Nat):Int):=by
 have hx:a ||| b<2 ^ 64:=Nat.or_lt_two_pow (by omega) (by omega)
 show IntKind.u64.wrap ((BitVec.ofInt 64 (a:Int) ||| BitVec.ofInt 64 (b:Int)).toNat:Int)=_
 have e:∀ c:Nat,c<18446744073709551616->(BitVec.ofInt 64 (c:Int)).toNat=c:=fun c hc=>by
  rw [BitVec.toNat_ofInt];omega
 rw [BitVec.toNat_or,e a ha,e b hb,IntKind.wrap_u64]
 omega
theorem fi_at (fs:List (Int×Nat)) {k:Nat} (hk:k<fs.length):∃ x,fs[k]?=some x/\(fs.map toFi).getD k (0,0,())=toFi x:=by
 refine ⟨fs[k],List.getElem?_eq_getElem hk,?_⟩
 rw [List.getD_eq_getElem?_getD,List.getElem?_map,List.getElem?_eq_getElem hk];rfl
theorem zbo (fs:List (Int×Nat)) (k:Nat) (x:Int×Nat) (hx:fs[k]?=some x):F_bits_Pack_S1_c ((k:Int),fs.map toFi,())=some ((x.1,()),fs.map toFi,()):=by
 obtain ⟨hk,-⟩:=List.getElem?_eq_some_iff.1 hx
 obtain ⟨y,hy,e⟩:=fi_at fs hk
 obtain rfl:x=y:=by rw [hx]at hy;exact Option.some.inj hy
 rw [zeX];dsimp only
 rw [zil.2 ⟨by omega,by rw [List.length_map];omega⟩,Int.toNat_natCast,e];rfl
theorem zg3 (fs:List (Int×Nat)) (hl:fs.length<=100000000):Tot (fun r=>r.1.1=P.fitL 64 (fs.map (·.1))/\r.2.1=fs.map toFi) (F_bits_fit_c_bits_Pack_S1 (((fs.map toFi).length:Int),fs.map toFi,())):=by
 rw [zbI];dsimp only
 rw [List.length_map]
 have hlm:(fs.map (·.1)).length=fs.length:=List.length_map ..
 refine zad (P:=fun r=>match r with
  | .inl x=>(x.1.1=false/\P.fitL 64 (fs.map (·.1))=false)/\x.2.2.1.1=fs.map toFi
  | .inr x=>P.fitL 64 (fs.map (·.1))=true/\x.2.2.1.1=fs.map toFi) (zak (fun x=>∃ k:Nat,x.1.2.2.1=(k:Int)/\k<=fs.length/\x.2.2.1.1=fs.map toFi/\0<=x.1.2.1/\x.1.2.1<=64/\P.fitL x.1.2.1 ((fs.map (·.1)).drop k)=P.fitL 64 (fs.map (·.1))) (fun x=>((fs.length:Int)-x.1.2.2.1).toNat) ⟨0,rfl,by omega,rfl,by dsimp only;omega,by dsimp only;omega,rfl⟩ ?_) fun r hr=>ziA (fun x hx=>?_) fun x hx=>?_
 · rintro ⟨⟨(q:Bool),(lf:Int),(i:Int),_⟩,_,⟨(l:List FiD),_⟩,_⟩ ⟨k,e,hk,el,h0,h64,hp⟩
   dsimp only at e el h0 h64 hp ⊢
   rw [e,el]
   refine zac (fun h1=>?_) fun h1=>zab ?_
   · simp only [decide_eq_true_eq]at h1
     have hk':k<fs.length:=by omega
     obtain ⟨x,hx,-⟩:=fi_at fs hk'
     have hx':(fs.map (·.1))[k]?=some x.1:=by rw [List.getElem?_map,hx];rfl
     rw [zbo fs k x hx,Option.bind_some]
     dsimp only
     refine zac (fun h2=>zab ⟨⟨rfl,?_⟩,rfl⟩) fun h2=>?_
     · rw [<-hp];exact P.zm6 hx' (.inl (by simpa using h2))
     simp only [decide_eq_false_iff_not]at h2
     rw [zbo fs k x hx,Option.bind_some]
     dsimp only
     refine zac (fun h3=>zab ⟨⟨rfl,?_⟩,rfl⟩) fun h3=>?_
     · rw [<-hp];exact P.zm6 hx' (.inr (by simpa using h3))
     simp only [decide_eq_false_iff_not]at h3
     rw [zbo fs k x hx,Option.bind_some]
     dsimp only
     rw [W_id (n:=lf-x.1) (by omega),W_id (n:=(k:Int)+1) (by omega)]
     refine zab ⟨⟨k+1,by dsimp only;omega,by omega,rfl,by dsimp only;omega,by dsimp only;omega,?_⟩,by dsimp only;omega⟩
     rw [<-hp];exact (P.zrP hx' h2 (by omega)).symm
   · simp only [decide_eq_false_iff_not]at h1
     refine ⟨?_,rfl⟩
     rw [<-hp];exact P.zrR (by omega)
 · subst hx;exact zab ⟨hr.1.1.trans hr.1.2.symm,hr.2⟩
 · subst hx;exact zab ⟨hr.1.symm,hr.2⟩
theorem zqT (fs:List (Int×Nat)) (hl:fs.length<=1000) (hv:∀ f∈fs,f.2<18446744073709551616):Tot (fun r=>r.1.1=(P.zmB fs).1/\r.1.2.1=(P.zmB fs).2) (F_bits_Pack (fs.map toFi,())):=by
 rw [zoA];dsimp only
 refine zad (zg3 fs (by omega)) ?_
 rintro ⟨⟨(b:Bool),_⟩,(l:List FiD),_⟩ ⟨hb,el⟩
 dsimp only at hb el ⊢
 rw [hb,el,List.length_map]
 refine zac (fun h1=>zab ?_) fun h1=>?_
 · simp only [Bool.not_eq_true']at h1
   rw [P.zvw (by rw [h1];decide)];exact ⟨rfl,rfl⟩
 simp only [Bool.not_eq_false']at h1
 rw [W_id (n:=(fs.length:Int)-1) (by omega)]
 refine zad (P:=fun r=>match r with
  | .inl x=>P.okF fs=false/\x.1.1=0/\x.1.2.1=2
  | .inr y=>P.okF fs=true/\y.1.2.2.1=((P.zkD fs:Nat):Int)) (zak (fun y=>∃ j:Nat,y.1.2.2.2.1=(j:Int)/\j<=fs.length/\P.okF (fs.drop (fs.length-j))=true/\y.1.2.2.1=((P.zkD (fs.drop (fs.length-j)):Nat):Int)) (fun y=>((fs.length:Int)-y.1.2.2.2.1).toNat) ⟨0,rfl,by omega,by rw [List.drop_of_length_le (by omega)];rfl,by rw [List.drop_of_length_le (by omega)];rfl⟩ ?_) ?_
 · rintro ⟨⟨(y1:Int),(y2:Int),(v:Int),(i:Int),_⟩,_⟩ ⟨j,e,hj,ho,ev⟩
   dsimp only at e ev ⊢
   rw [e]
   refine zac (fun h2=>?_) fun h2=>zab ?_
   · simp only [decide_eq_true_eq]at h2
     obtain ⟨k,hk⟩:∃ k:Nat,k+1+j=fs.length:=⟨fs.length-1-j,by omega⟩
     have w1:W ((fs.length:Int)-1-j)=(k:Nat):=by rw [W_id (by omega)];omega
     have hk':k<fs.length:=by omega
     obtain ⟨x,hx,hg⟩:=fi_at fs hk'
     rw [w1,Int.toNat_natCast,hg]
     rw [show fs.length-j=k+1 from by omega]at ho ev
     have hin:inB (k:Int) fs.length=true:=zil.2 ⟨by omega,by omega⟩
     refine zae hin ?_
     have hx1:(toFi x).1=x.1:=rfl
     have hx2:(toFi x).2.1=(x.2:Int):=rfl
     rw [hx1,hx2,zdI,Option.bind_some]
     dsimp only
     refine zac (fun h3=>zab ⟨?_,rfl,rfl⟩) fun h3=>?_
     · simp only [decide_eq_true_eq]at h3
       exact P.zvu hx (by omega)
     simp only [decide_eq_false_iff_not]at h3
     obtain ⟨fa1,fa2⟩:=P.zrO h1 k
     rw [zf6 hx]at fa1 fa2
     have hxb:=fa1 x.1 (by simp)
     refine zae (by simp;omega) (zab ?_)
     have hlt:=P.zrx (fs.drop (k+1)) ho (fun z hz=>(P.zrO h1 (k+1)).1 z hz)
     simp only [List.map_cons,P.sumW]at fa2
     generalize hR:P.zkD (fs.drop (k+1))=R at *
     generalize hS:P.sumW ((fs.drop (k+1)).map (·.1))=S at *
     have hpow:R*2 ^ x.1.toNat<18446744073709551616:=by
      calc R*2 ^ x.1.toNat<2 ^ S*2 ^ x.1.toNat:=Nat.mul_lt_mul_of_pos_right hlt (Nat.pow_pos (by omega))
       _=2 ^ (S+x.1.toNat):=(Nat.pow_add ..).symm
       _<=2 ^ 64:=Nat.pow_le_pow_right (by omega) (by omega)
       _=_:=by decide
     have hu:U (v*2 ^ min x.1.toNat IntKind.u64.bits)=((R <<< x.1.toNat:Nat):Int):=by
      have hb:IntKind.u64.bits=64:=rfl
      rw [hb,show min x.1.toNat 64=x.1.toNat from by omega,ev,<-P.zcK,<-Int.natCast_mul,Nat.shiftLeft_eq]
      exact U_id (by omega)
     have hp:P.zkD (fs.drop k)=R <<< x.1.toNat ||| x.2:=by rw [zf6 hx,P.zkD,hR]
     have hx3:=hv x (List.mem_of_getElem? hx)
     rw [hu,bits_or _ _ (by rw [Nat.shiftLeft_eq];exact hpow) hx3]
     rw [W_id (n:=(j:Int)+1) (by omega)]
     refine ⟨⟨j+1,by dsimp only;omega,by omega,?_,?_⟩,by dsimp only;omega⟩
     · rw [show fs.length-(j+1)=k from by omega,zf6 hx]
       unfold P.okF at ho ⊢
       rw [List.all_cons,ho,Bool.and_true]
       exact decide_eq_true (by omega)
     · rw [show fs.length-(j+1)=k from by omega,hp]
   · simp only [decide_eq_false_iff_not]at h2
     obtain rfl:j=fs.length:=by omega
     rw [Nat.sub_self,List.drop_zero]at ho ev
     exact ⟨ho,ev⟩
 · intro r hr
   refine ziA (fun x hx=>?_) fun x hx=>?_
   · subst hx
     obtain ⟨h2,h3,h4⟩:=hr
     rw [P.ztT h1 h2]
     exact zab ⟨h3,h4⟩
   · subst hx
     obtain ⟨h2,h3⟩:=hr
     rw [P.zry h1 h2]
     exact zab ⟨h3,rfl⟩
theorem zg1 (k n m:Int) (hm:0<=m/\m<4294967296):F_header_Encode ((k,n,m,()),())=some ((P.encV k n m,P.encE k n m,()),()):=by
 have key:∀ {o:Option ((Int×Int×Unit)×Unit)},Tot (fun r=>r.1.1=P.encV k n m/\r.1.2.1=P.encE k n m) o->o=some ((P.encV k n m,P.encE k n m,()),()):=fun h=>by
  obtain ⟨⟨⟨(a:Int),(b:Int),_⟩,_⟩,rfl,e1,e2⟩:=h
  dsimp only at e1 e2
  rw [e1,e2]
 refine key ?_
 rw [zfJ];dsimp only
 rw [zbU k n m hm,Option.bind_some]
 dsimp only
 cases hv:P.zir k n m
 · obtain ⟨e1,e2⟩:=P.zwu hv
   rw [e1,e2];exact zab ⟨rfl,rfl⟩
 · obtain ⟨e1,e2⟩:=P.zwt hv
   have vp:=P.zam hv
   obtain ⟨k,rfl⟩:=Int.eq_ofNat_of_zero_le vp.1
   obtain ⟨n,rfl⟩:=Int.eq_ofNat_of_zero_le vp.2.2.1
   obtain ⟨m,rfl⟩:=Int.eq_ofNat_of_zero_le hm.1
   rw [e1,e2,U_id (n:=(k:Int)) (by omega),U_id (n:=(n:Int)) (by omega),U_id (n:=(m:Int)) (by omega)]
   have hp:=P.ztS (k:=k) (n:=n) (m:=m) (by omega) (by omega) (by omega)
   have ht:=zqT [(2,1),(2,k),(12,n),(32,m)] (by simp) (by
    intro f hf
    simp only [List.mem_cons,List.not_mem_nil,or_false]at hf
    rcases hf with e | e | e | e <;> rw [e] <;> dsimp only <;> omega)
   rw [hp]at ht
   have e:([(2,1,()),(2,(k:Int),()),(12,(n:Int),()),(32,(m:Int),())]:List FiD)=([(2,1),(2,k),(12,n),(32,m)]:List (Int×Nat)).map toFi:=rfl
   rw [e]
   refine zac (fun c=>by simp at c) fun _=>zad ht ?_
   rintro ⟨⟨(a:Int),(b:Int),_⟩,_⟩ hr
   exact zab hr
theorem znt (h:HpD) (hw:HpW h) (a k n m:Int) (ha:0<=a/\a<18446744073709551616) (hm:0<=m/\m<4294967296):Tot (fun r=>r.1.2.1=P.zj5 (toHp h) a k n m/\toHp r.1.1=P.zk6 (toHp h) a k n m) (F_object_Init (h,a,(k,n,m,()),())):=by
 rw [zhq];dsimp only
 rw [zal]
 have bad:P.zj5 (toHp h) a k n m=1->Tot (fun r:(HpD×Int×Unit)×Unit=>r.1.2.1=P.zj5 (toHp h) a k n m/\toHp r.1.1=P.zk6 (toHp h) a k n m) (some ((H0,1,()),())):=fun e=>by
  unfold P.zk6
  rw [e]
  exact zab ⟨rfl,rfl⟩
 refine zad (zbu h hw) ?_
 rintro ⟨⟨(b:Bool),_⟩,_⟩ hb
 have hb:b=P.okH (toHp h):=hb
 subst hb
 refine zac (fun h1=>bad ?_) fun h1=>?_
 · simp only [Bool.not_eq_true']at h1
   unfold P.zj5
   rw [if_neg (by rw [h1];simp)]
 simp only [Bool.not_eq_false']at h1
 rw [zg1 k n m hm,Option.bind_some]
 dsimp only
 cases hv:P.zir k n m
 · obtain ⟨e1,e2⟩:=P.zwu hv
   rw [e2]
   refine bad ?_
   unfold P.zj5
   rw [if_neg (by rw [hv];simp)]
 obtain ⟨e1,e2⟩:=P.zwt hv
 have vp:=P.zam hv
 rw [e1,e2,zbv k n m hm,Option.bind_some,P.zjA hv]
 dsimp only
 refine zac (fun c=>by simp at c) fun _=>zae (decide_eq_true (by omega)) (zae (zag.2 (by omega)) (zae (zil.2 ⟨by omega,by rw [List.length_replicate];omega⟩) ?_))
 have el:(List.replicate (n+1).toNat (0:Int)).set (Int.toNat 0) (P.zjK k n m)=P.zkH k n m:=by
  rw [show (n+1).toNat=n.toNat+1 from by omega,List.replicate_succ];rfl
 rw [el,zhC h hw a (P.zkH k n m) (by rw [P.zgF];omega) ha,Option.bind_some]
 refine zab ?_
 have hE:P.zj5 (toHp h) a k n m=P.zjo h.2.1 a (P.zkH k n m):=by unfold P.zj5;rw [if_pos ⟨hv,h1⟩];rfl
 unfold P.zk6
 rw [hE]
 by_cases hz:P.zjo h.2.1 a (P.zkH k n m)=0
 · rw [if_pos hz,if_pos hz];exact ⟨rfl,rfl⟩
 · rw [if_neg hz,if_neg hz];exact ⟨rfl,rfl⟩
end Go.VI
namespace Go.VI
open Go
namespace P
end P
theorem zhB (pw np p o:Int) (hc:confB pw np=true) (h:0<=p/\p<np/\0<=o/\o<pw):F_page_Address ((pw,np,()),p,o,())=some ((4096+p*pw+o,0,()),()):=by
 have c2:=zaD.1 hc
 have kp:=P.zaw (pw:=pw) (np:=np) (by rw [zas];exact hc) (p:=p) (by omega) (by omega)
 have cp:=P.conf_prod (pw:=pw) (np:=np) (by rw [zas];exact hc)
 rw [zgA];dsimp only
 rw [zaM,Option.bind_some,hc,zay,Option.bind_some,zay,Option.bind_some]
 dsimp only
 rw [W_id (n:=np-1) (by omega),W_id (n:=pw-1) (by omega),decide_eq_true (show 0<=p/\p<=np-1 by omega),decide_eq_true (show 0<=o/\o<=pw-1 by omega)]
 simp only [Bool.not_true,cond_false]
 have v1:W (p*pw)=p*pw:=W_id (by omega)
 have v2:W (p*pw+o)=p*pw+o:=W_id (by omega)
 have v3:U (p*pw+o)=p*pw+o:=U_id (by omega)
 have v4:U (4096+(p*pw+o))=4096+(p*pw+o):=U_id (by omega)
 rw [v1,v2,v3,v4,Int.add_assoc]
end Go.VI
namespace Go.VI
open Go Go.Proofs
def itm (h:P.Hp) (a:Int):Tden tsW:=(a,(((P.atH h a).k,(P.atH h a).n,(P.atH h a).m,()),(P.atE h a,())),())
theorem zf4 (h:P.Hp) (a:Int):errB (itm h a) = !decide (P.atE h a=0):=by
 show (P.atE h a != 0)=_
 by_cases e:P.atE h a=0 <;> simp [e]
def zwa (h:P.Hp) (w:Option (List Int)) (L:List (Tden tsW)):Prop:=match w with
 | some l=>L=l.map (itm h)/\∀ x∈l,P.atE h x=0
 | none=>∃ (l:List Int) (a:Int),L=l.map (itm h)++[itm h a]/\(∀ x∈l,P.atE h x=0)/\P.atE h a=19
theorem zwa.cons {h:P.Hp} {w:Option (List Int)} {L:List (Tden tsW)} {a:Int} (k:zwa h w L) (ha:P.atE h a=0):zwa h (w.map (a :: ·)) (itm h a::L):=by
 cases w with
 | some l=>exact ⟨by rw [k.1];rfl,fun x hx=>by rcases List.mem_cons.1 hx with rfl | hx;exact ha;exact k.2 x hx⟩
 | none=>
  obtain ⟨l,b,e1,e2,e3⟩:=k
  exact ⟨a::l,b,by rw [e1];rfl,fun x hx=>by rcases List.mem_cons.1 hx with rfl | hx;exact ha;exact e2 x hx,e3⟩
theorem zvF {x:Tden tsW} {L:List (Tden tsW)} (hx:errB x=false) (h:okL L=true):okL (x::L)=true:=by
 cases L with
 | nil=>rfl
 | cons y r=>simp only [okL,hx,Bool.not_false,Bool.true_and];exact h
theorem at_page {h:P.Hp} (h1:P.okH h=true) {j:Nat} {o:Int} (hj:(j:Int)<h.np) (ho:0<=o/\o<h.pw):(P.atE h (4096+j*h.pw+o)=0\/P.atE h (4096+j*h.pw+o)=19)/\P.zjy h (4096+j*h.pw+o)=P.pgAt h j/\P.ofK h.pw h.np (4096+j*h.pw+o)=o:=by
 have c:=(P.zan h1).1
 obtain ⟨a1,a2,a3⟩:=P.zt3 c (p:=(j:Int)) (o:=o) (decide_eq_true ⟨by omega,by omega,by omega,by omega⟩)
 obtain ⟨b1,b2,b3⟩:=P.zlY c a1
 rw [a2]at b1
 rw [a3]at b2
 refine ⟨?_,?_,b2⟩
 · unfold P.atE
   rw [if_pos h1,if_pos b3]
   cases P.atB h (4096+j*h.pw+o) <;> simp
 · unfold P.zjy P.pgAt
   rw [b1]
theorem zuV (h:HpD) (hw:HpW h) (h1:P.okH (toHp h)=true) (j:Nat) (hj:j<h.2.2.1.length):∃ L,listP (h,(j:Int),())=some L/\L.length<=1002 /\
 ((P.zjt (toHp h) j=0/\L=(P.zi7 (toHp h) j).map (itm (toHp h))/\∀ x∈P.zi7 (toHp h) j,P.atE (toHp h) x=0)\/(P.zjt (toHp h) j=19/\∃ (l:List Int) (a:Int),L=l.map (itm (toHp h))++[itm (toHp h) a]/\(∀ x∈l,P.atE (toHp h) x=0)/\P.atE (toHp h) a=19)):=by
 have hlm:(toHp h).pages.length=h.2.2.1.length:=List.length_map ..
 have hin:¬((j:Int)<0\/(toHp h).pages.length<=(j:Int)):=by rw [hlm];omega
 obtain ⟨p1,p2,p3,p4,p5,p6⟩:=P.zax (zkM h1)
 have hat:(toHp h).pages[j]?=some (toPg (h.2.2.1.getD j PG0)):=zi0 hj
 have hpg:P.pgAt (toHp h) (j:Int)=toPg (h.2.2.1.getD j PG0):=by
  unfold P.pgAt
  rw [Int.toNat_natCast];exact P.zin hat
 have hub:=fun hk=>ztp p1 p6 hat hk
 have hsm:=fun hk=>P.zfX p6 hat hk
 have hok:=P.zaJ.1 p6 j _ hat
 have cp:=P.zai p1
 have hnp:(toHp h).np=h.1.2.1:=rfl
 have hpw:(toHp h).pw=h.1.1:=rfl
 have hjn:(j:Int)<h.1.2.1:=by rw [<-hnp];omega
 have hcB:confB h.1.1 h.1.2.1=true:=by rw [<-zas];exact p1
 generalize hG:h.2.2.1.getD j PG0=G at hpg hub hsm hok
 obtain ⟨gk,gs,gu,gp,_⟩:=G
 have hub:gk=1\/gk=2->0<=gu/\gu<=1000:=hub
 have hsm:gk=1->_:=hsm
 have hk:(P.pgAt (toHp h) (j:Int)).kind=gk:=by rw [hpg];rfl
 have hu:(P.pgAt (toHp h) (j:Int)).used=gu:=by rw [hpg];rfl
 have hkc:(gk=0\/gk=3)/\gu=0\/gk=1\/gk=2:=by
  unfold P.zi9 at hok
  have e:(toPg (gk,gs,gu,gp,())).kind=gk:=rfl
  have e2:(toPg (gk,gs,gu,gp,())).used=gu:=rfl
  rw [e]at hok
  by_cases k0:gk=0
  · rw [if_pos k0]at hok
    unfold P.zoT at hok
    have:=of_decide_eq_true hok
    rw [e2]at this
    exact .inl ⟨.inl k0,this.2.1⟩
  · by_cases k1:gk=1
    · exact .inr (.inl k1)
    · by_cases k2:gk=2
      · exact .inr (.inr k2)
      · by_cases k3:gk=3
        · rw [if_neg k0,if_neg k1,if_neg k2,if_pos k3]at hok
          unfold P.zkh at hok
          have:=of_decide_eq_true (Bool.and_eq_true_iff.1 hok).1
          rw [e2]at this
          exact .inl ⟨.inr k3,this.1⟩
        · rw [if_neg k0,if_neg k1,if_neg k2,if_neg k3]at hok;cases hok
 have step:∀ o:Nat,zjn (h,(j:Int),()) (o:Int)=cond (decide ((o:Int)<gu)) ((F_page_Address (h.1,(j:Int),(o:Int),())).bind fun r=>(F_object_At (h,r.1.1,())).bind fun q=>
  cond (errB (xP r q)) (some (.inl (xP r q,none))) ((F_header_Size (q.1.1,())).bind fun u=>some (.inl (xP r q,some (IntKind.i64.wrap ((o:Int)+u.1.1)))))) (some (.inr ())):=fun o=>by
  rw [zvf]
  dsimp only
  rw [zil.2 ⟨by omega,by omega⟩,cond_true,Int.toNat_natCast]
  have:h.2.2.1.getD j (0,0,0,0,())=(gk,gs,gu,gp,()):=hG
  rw [this]
 have up:∀ (f o:Nat),gu.toNat-o<=f->(o=0\/gk=1)->o<=2000->(gk=1\/gk=2)->∃ n L,zjk (zjn (h,(j:Int),())) n (o:Int)=some L/\okL L=true/\L.length<=f+1/\zwa (toHp h) (P.zjp (toHp h) j (decide (gk=2)) gu.toNat o) L:=by
  intro f
  induction f with
  | zero=>
   intro o hf ho ho2 hk12
   refine ⟨1,[],?_,rfl,by simp,?_⟩
   · simp only [zjk]
     rw [step o,decide_eq_false (by have:=hub hk12;omega)];rfl
   · rw [P.zaU (by omega)];exact ⟨rfl,by simp⟩
  | succ f ih=>
   intro o hf ho ho2 hk12
   have hgu:=hub hk12
   by_cases hlt:o<gu.toNat
   · have hop:(o:Int)<h.1.1:=by
      rcases ho with rfl | k1
      · rw [<-hpw];omega
      · have h2:=(hsm k1).2.1.2
        have e2:(toPg (gk,gs,gu,gp,())).used=gu:=rfl
        rw [e2]at h2
        rw [<-hpw];omega
     have hA:=zhB h.1.1 h.1.2.1 (j:Int) (o:Int) hcB ⟨by omega,hjn,by omega,hop⟩
     obtain ⟨ead,-⟩:=P.zlb p1 (p:=(j:Int)) (o:=(o:Int)) (decide_eq_true ⟨by omega,hjn,by omega,by rw [hpw];exact hop⟩)
     obtain ⟨e19,epo,eok⟩:=at_page h1 (j:=j) (o:=(o:Int)) hjn ⟨by omega,by rw [hpw];exact hop⟩
     have hab:=P.zlQ (toHp h).pw (toHp h).np j o
     rw [ead]at hab
     have hq:=zqS h hw _ hab
     generalize ha:4096+(j:Int)*(toHp h).pw+(o:Int)=a at *
     have ha':4096+(j:Int)*h.1.1+(o:Int)=a:=ha
     rw [ha']at hA
     obtain ⟨⟨⟨⟨k',n,m,_⟩,e,_⟩,_⟩,hF,he,hH⟩:=hq
     have hA2:F_page_Address (h.1,(j:Int),(o:Int),())=some ((a,0,()),()):=hA
     have ek:(P.atH (toHp h) a).k=k':=(congrArg P.Hd.k hH).symm
     have en:(P.atH (toHp h) a).n=n:=(congrArg P.Hd.n hH).symm
     have em:(P.atH (toHp h) a).m=m:=(congrArg P.Hd.m hH).symm
     have he:e=P.atE (toHp h) a:=he
     have hx:xP ((a,0,()),()) (((k',n,m,()),e,()),())=itm (toHp h) a:=by
      unfold xP itm
      rw [ek,en,em,<-he]
     have hst:=step o
     rw [decide_eq_true (by omega),cond_true,hA2,Option.bind_some,hF,Option.bind_some,hx,zf4]at hst
     by_cases e0:P.atE (toHp h) a=0
     · rw [decide_eq_true e0]at hst
       simp only [Bool.not_true,cond_false]at hst
       obtain ⟨-,a2,a3,a4,a5,a6⟩:=P.zo9 e0
       rw [ek,en,em]at a2
       rw [em]at a3 a4
       rw [en]at a5 a6
       rw [zbv k' n m ⟨a3,a4⟩,Option.bind_some,P.zjA a2]at hst
       have w:IntKind.i64.wrap ((o:Int)+(n+1))=((o+(n.toNat+1):Nat):Int):=by
        show W _=_
        rw [W_id (by omega)];omega
       dsimp only at hst
       rw [w]at hst
       have hes:errB (itm (toHp h) a)=false:=by rw [zf4,decide_eq_true e0];rfl
       rcases hk12 with k1 | k2
       · obtain ⟨N,L,g1,g2,g3,g4⟩:=ih (o+(n.toNat+1)) (by omega) (.inr k1) (by omega) (.inl k1)
         have hdf:decide (gk=2)=false:=decide_eq_false (by omega)
         rw [hdf]at g4
         refine ⟨N+1,itm (toHp h) a::L,?_,zvF hes g2,by simp;omega,?_⟩
         · simp only [zjk]
           rw [hst]
           dsimp only
           rw [g1];rfl
         · rw [hdf]
           have hws:=P.zbB (h:=toHp h) (i:=(j:Int)) (u:=gu.toNat) (o:=o) hlt (by rw [ead];exact e0)
           rw [ead,en]at hws
           rw [hws]
           exact g4.cons e0
       · have ho0:o=0:=by omega
         subst ho0
         have hdt:decide (gk=2)=true:=decide_eq_true k2
         have hfull:gu=n+1:=by
          have hB:P.atB (toHp h) a=true:=by
           unfold P.atE at e0
           rw [if_pos h1]at e0
           split at e0
           · cases hb:P.atB (toHp h) a with
             | true=>rfl
             | false=>rw [hb]at e0;simp at e0
           · omega
          unfold P.atB at hB
          rw [epo,hk,hu]at hB
          rw [if_neg (by omega)]at hB
          simp only [Bool.and_eq_true,decide_eq_true_eq]at hB
          have hn2:(P.atH (toHp h) a).n=P.dN (P.ziE (toHp h) a):=by unfold P.atH;rw [if_pos e0];rfl
          rw [en]at hn2
          omega
         refine ⟨2,[itm (toHp h) a],?_,rfl,by simp,?_⟩
         · simp only [zjk]
           rw [hst]
           dsimp only
           rw [step,decide_eq_false (by omega)];rfl
         · rw [hdt]
           have hws:=P.zcX (h:=toHp h) (i:=(j:Int)) (u:=gu.toNat) (o:=0) hlt (by rw [ead];exact e0)
           rw [ead]at hws
           rw [hws]
           exact ⟨rfl,by simpa using e0⟩
     · rw [decide_eq_false e0]at hst
       simp only [Bool.not_false,cond_true]at hst
       refine ⟨1,[itm (toHp h) a],?_,rfl,by simp,?_⟩
       · simp only [zjk];rw [hst]
       · rw [P.zbJ hlt (by rw [ead];exact e0)]
         exact ⟨[],a,rfl,by simp,e19.resolve_left e0⟩
   · refine ⟨1,[],?_,rfl,by simp,?_⟩
     · simp only [zjk]
       rw [step o,decide_eq_false (by omega)];rfl
     · rw [P.zaU hlt];exact ⟨rfl,by simp⟩
 rcases hkc with ⟨k03,hu0⟩ | hk12
 · refine ⟨[],?_,by simp,.inl ?_⟩
   · unfold listP
     have:zjk (zjn (h,(j:Int),())) 1 ((0:Nat):Int)=some []:=by
      simp only [zjk]
      rw [step 0,decide_eq_false (by omega)];rfl
     rw [show (0:Int)=((0:Nat):Int) from rfl,zoM this];rfl
   · obtain ⟨e1,e2⟩:=P.zcz h1 hin (by rw [hk];exact k03)
     rw [e1,e2];exact ⟨rfl,rfl,by simp⟩
 · obtain ⟨n,L,g1,g2,g3,g4⟩:=up 1001 0 (by have:=hub hk12;omega) (.inl rfl) (by omega) hk12
   refine ⟨L,?_,g3,?_⟩
   · unfold listP
     rw [show (0:Int)=((0:Nat):Int) from rfl,zoM g1,Option.bind_some,g2];rfl
   · have hW:P.zjZ (toHp h) (j:Int)=P.zjp (toHp h) j (decide (gk=2)) gu.toNat 0:=by
      unfold P.zjZ
      rw [hk,hu]
     have hnk:¬((P.pgAt (toHp h) (j:Int)).kind=0\/(P.pgAt (toHp h) (j:Int)).kind=3):=by rw [hk];omega
     rw [<-hW]at g4
     cases hq:P.zjZ (toHp h) (j:Int) with
     | none=>
      rw [hq]at g4
      exact .inr ⟨(P.zn2 h1 hin hnk hq).1,g4⟩
     | some l=>
      rw [hq]at g4
      obtain ⟨e1,e2⟩:=P.zgm h1 hin hnk hq
      rw [e1,e2]
      exact .inl ⟨rfl,g4.1,g4.2⟩
end Go.VI
namespace Go.VI
open Go Go.Proofs
theorem lenH_eq (d:Pden psH):lenH d=(d.1.2.2.1.length:Int):=by kernel_rfl
theorem zvL (d:Pden psH) (n v:Int):nextH d n v=IntKind.i64.wrap (v+1):=by kernel_rfl
theorem zh1 {h:P.Hp}:∀ {l:List Int},(∀ x∈l,P.atE h x=0)->zj0 (l.map (itm h))=false
 | [],_=>rfl
 | [a],hl=>by
  show errB (itm h a)=false
  rw [zf4,decide_eq_true (hl a (by simp))];rfl
 | a::b::l,hl=>zh1 (l:=b::l) fun x hx=>hl x (List.mem_cons_of_mem _ hx)
def zm1 (h:P.Hp) (k:Nat):List Int:=(List.range' k (h.pages.length-k)).flatMap fun (t:Nat)=>P.zi7 h t
theorem znr (h:HpD) (hw:HpW h):∃ L,listH (h,())=some L/\L.length<=100000/\(
 (P.okH (toHp h)=false/\L=[xErr]) \/
 (P.okH (toHp h)=true/\P.ziK (toHp h)=0/\L=(P.ziB (toHp h)).map (itm (toHp h))/\∀ x∈P.ziB (toHp h),P.atE (toHp h) x=0) \/
 (P.okH (toHp h)=true/\P.ziK (toHp h)=19/\∃ (l:List Int) (a:Int),L=l.map (itm (toHp h))++[itm (toHp h) a]/\(∀ x∈l,P.atE (toHp h) x=0)/\P.atE (toHp h) a=19)):=by
 obtain ⟨⟨⟨b,_⟩,_⟩,hF,hb⟩:=zbu h hw
 have hb:b=P.okH (toHp h):=hb
 subst hb
 unfold listH
 dsimp only
 rw [hF,Option.bind_some,lenH_eq]
 dsimp only
 cases h1:P.okH (toHp h) with
 | false=>exact ⟨[xErr],rfl,by simp,.inl ⟨rfl,rfl⟩⟩
 | true=>
 simp only [cond_true]
 have hlm:(toHp h).pages.length=h.2.2.1.length:=List.length_map ..
 obtain ⟨p1,p2,p3,p4,p5,p6⟩:=P.zax (zkM h1)
 have cp:=P.zai p1
 have hn64:h.2.2.1.length<=64:=by omega
 have up:∀ (f k:Nat),k+f=h.2.2.1.length->∃ L,pagesH (h,()) (h.2.2.1.length:Int) (f+1) (k:Int)=some L/\L.length<=1002*f /\
  (((∀ t,k<=t->t<h.2.2.1.length->P.zjt (toHp h) (t:Nat)=0)/\L=(zm1 (toHp h) k).map (itm (toHp h))/\∀ x∈zm1 (toHp h) k,P.atE (toHp h) x=0)\/((∃ t,k<=t/\t<h.2.2.1.length/\¬P.zjt (toHp h) (t:Nat)=0)/\∃ (l:List Int) (a:Int),L=l.map (itm (toHp h))++[itm (toHp h) a]/\(∀ x∈l,P.atE (toHp h) x=0)/\P.atE (toHp h) a=19)):=by
  intro f
  induction f with
  | zero=>
   intro k hk
   refine ⟨[],?_,by simp,.inl ⟨fun t h1 h2=>by omega,?_,?_⟩⟩
   · simp only [pagesH]
     rw [decide_eq_false (by omega)];rfl
   · unfold zm1;rw [show (toHp h).pages.length-k=0 by omega];rfl
   · unfold zm1;rw [show (toHp h).pages.length-k=0 by omega];simp
  | succ f ih=>
   intro k hk
   obtain ⟨Lp,q1,q2,q3⟩:=zuV h hw h1 k (by omega)
   have w:IntKind.i64.wrap ((k:Int)+1)=((k+1:Nat):Int):=by
    show W _=_
    rw [W_id (by omega)];omega
   have hst:pagesH (h,()) (h.2.2.1.length:Int) (f+1+1) (k:Int)=cond (zj0 Lp) (some Lp) ((pagesH (h,()) (h.2.2.1.length:Int) (f+1) ((k+1:Nat):Int)).map (Lp ++ ·)):=by
    rw [pagesH,decide_eq_true (by omega),cond_true]
    dsimp only
    rw [q1,Option.bind_some,zvL,w]
   rcases q3 with ⟨e0,eL,eA⟩ | ⟨e19,l,a,eL,eA,ea⟩
   · obtain ⟨L,g1,g2,g3⟩:=ih (k+1) (by omega)
     rw [eL,zh1 eA,cond_false,g1,<-eL]at hst
     have hfr:zm1 (toHp h) k=P.zi7 (toHp h) (k:Nat)++zm1 (toHp h) (k+1):=by
      unfold zm1
      rw [show (toHp h).pages.length-k=((toHp h).pages.length-(k+1))+1 by omega,List.range'_succ];rfl
     refine ⟨Lp++L,hst,by simp;omega,?_⟩
     rcases g3 with ⟨z1,z2,z3⟩ | ⟨⟨t,t1,t2,t3⟩,l,a,z2,z3,z4⟩
     · refine .inl ⟨fun t t1 t2=>?_,by rw [hfr,List.map_append,eL,z2],fun x hx=>?_⟩
       · by_cases hh:t=k
         · subst hh;exact e0
         · exact z1 t (by omega) t2
       · rw [hfr]at hx
         rcases List.mem_append.1 hx with hx | hx
         · exact eA x hx
         · exact z3 x hx
     · refine .inr ⟨⟨t,by omega,t2,t3⟩,P.zi7 (toHp h) (k:Nat)++l,a,by rw [eL,z2];simp,fun x hx=>?_,z4⟩
       rcases List.mem_append.1 hx with hx | hx
       · exact eA x hx
       · exact z3 x hx
   · have he:zj0 Lp=true:=by
      rw [eL,zbP,zf4,decide_eq_false (by omega)];rfl
     rw [he,cond_true]at hst
     exact ⟨Lp,hst,by omega,.inr ⟨⟨k,by omega,by omega,by omega⟩,l,a,eL,eA,ea⟩⟩
 obtain ⟨L,g1,g2,g3⟩:=up h.2.2.1.length 0 (by omega)
 have hf0:zm1 (toHp h) 0=P.zi1 (toHp h) (toHp h).pages.length:=by
  unfold zm1 P.zi1
  rw [List.range_eq_range',Nat.sub_zero]
 refine ⟨L,g1,by omega,.inr ?_⟩
 rcases g3 with ⟨z1,z2,z3⟩ | ⟨⟨t,t1,t2,t3⟩,l,a,z2,z3,z4⟩
 · obtain ⟨s1,s2⟩:=P.zge h1 (fun t ht=>z1 t (by omega) (by rw [<-hlm];exact ht))
   refine .inl ⟨trivial,s1,?_,?_⟩
   · rw [s2,<-hf0];exact z2
   · rw [s2,<-hf0];exact z3
 · obtain ⟨s1,s2⟩:=P.znR h1 (by rw [hlm];exact t2) t3
   exact .inr ⟨trivial,s1,l,a,z2,z3,z4⟩
end Go.VI
namespace Go.VI
open Go Go.Proofs
abbrev LS:=Unit×(List Int×Unit)×(List Int×Unit)×(Int×Unit)×(Unit×Unit)×Unit
def lf (kp:(Int×Int×Int×Unit)×Unit->Option ((Bool×Unit)×Unit)) (y:Tden tsW) (x:LS):Option (LS⊕LS) :=
 bif y.2.1.2.1 != 0 then some (Sum.inr ((),(x.2.1.1,()),([],()),(y.2.1.2.1,()),((),()),()))
 else (kp ((y.2.1.1.1,y.2.1.1.2.1,y.2.1.1.2.2.1,()),())).bind fun (r:(Bool×Unit)×Unit)=>
  bif bif r.1.1 then ziv (x.2.1.1.length + [y.1].length) 8 else true then
   bif r.1.1 then some (Sum.inl ((),(x.2.1.1++[y.1],()),(x.2.2.1.1,()),(x.2.2.2.1.1,()),((),()),()))
   else some (Sum.inl ((),(x.2.1.1,()),(x.2.2.1.1,()),(x.2.2.2.1.1,()),((),()),()))
  else none
theorem lf_ok {h:P.Hp} {kp:(Int×Int×Int×Unit)×Unit->Option ((Bool×Unit)×Unit)} {kb:Int->Bool} (hk:∀ k n m,kp ((k,n,m,()),())=some ((kb k,()),())) {R:List (Tden tsW)}:∀ (l acc:List Int) (c:List Int) (e:Int),(∀ x∈l,P.atE h x=0)->acc.length+l.length<=200000 ->
 zj1 (lf kp) (l.map (itm h)++R) ((),(acc,()),(c,()),(e,()),((),()),())=zj1 (lf kp) R ((),(acc++l.filter (fun a=>kb (P.atH h a).k),()),(c,()),(e,()),((),()),())
 | [],acc,c,e,_,_=>by simp
 | a::l,acc,c,e,ha,hl=>by
  have h0:=ha a (by simp)
  have he:(P.atE h a != 0)=false:=by rw [h0];rfl
  have hst:lf kp (itm h a) ((),(acc,()),(c,()),(e,()),((),()),())=some (.inl ((),(acc++[a].filter (fun a=>kb (P.atH h a).k),()),(c,()),(e,()),((),()),())):=by
   unfold lf itm
   dsimp only
   rw [he,cond_false,hk,Option.bind_some]
   have hs:ziv (acc.length+1) 8=true:=zag.2 (by simp at hl;omega)
   cases hb:kb (P.atH h a).k with
   | true=>simp [hs,hb]
   | false=>simp [hb]
  simp only [List.map_cons,List.cons_append,zj1]
  rw [hst]
  dsimp only
  rw [lf_ok hk l _ c e (fun x hx=>ha x (by simp [hx])) (by have:=List.length_filter_le (fun a=>kb (P.atH h a).k) [a];simp at hl this ⊢;omega)]
  rw [List.append_assoc,<-List.filter_append];rfl
theorem zuj {h:P.Hp} {kp:(Int×Int×Int×Unit)×Unit->Option ((Bool×Unit)×Unit)} {kb:Int->Bool} (hk:∀ k n m,kp ((k,n,m,()),())=some ((kb k,()),())) {l:List Int} (hl:∀ x∈l,P.atE h x=0) (hn:l.length<=200000) :
 zj1 (lf kp) (l.map (itm h)) ((),([],()),([],()),(0,()),((),()),())=some (.inl ((),(l.filter (fun a=>kb (P.atH h a).k),()),([],()),(0,()),((),()),())):=by
 have:=lf_ok hk (R:=[]) l [] [] 0 hl (by simpa using hn)
 rw [List.append_nil]at this
 rw [this];rfl
theorem zui {h:P.Hp} {kp:(Int×Int×Int×Unit)×Unit->Option ((Bool×Unit)×Unit)} {kb:Int->Bool} (hk:∀ k n m,kp ((k,n,m,()),())=some ((kb k,()),())) {l:List Int} {y:Tden tsW} (hy:y.2.1.2.1≠0) (hl:∀ x∈l,P.atE h x=0) (hn:l.length<=200000) :
 zj1 (lf kp) (l.map (itm h)++[y]) ((),([],()),([],()),(0,()),((),()),())=some (.inr ((),(l.filter (fun a=>kb (P.atH h a).k),()),([],()),(y.2.1.2.1,()),((),()),())):=by
 rw [lf_ok hk (R:=[y]) l [] [] 0 hl (by simpa using hn)]
 have:(y.2.1.2.1 != 0)=true:=by simpa using hy
 simp only [zj1,lf,this,cond_true,List.nil_append]
theorem anyK (k n m:Int):F_walk_isAny ((k,n,m,()),())=some ((true,()),()):=by rw [zmF]
theorem objK (k n m:Int):F_walk_isObject ((k,n,m,()),())=some ((k != 0,()),()):=by rw [zfC]
theorem zsY (h:HpD) (hw:HpW h):F_walk_list_c_walk_inHeap_S1_walk_isAny (h,())=some ((P.ziB (toHp h),P.ziK (toHp h),()),(h,())):=by
 have hnf:F_walk_list_c_walk_inHeap_S1_walk_isAny (h,())=((listH (h,())).bind fun L=>zj1 (lf F_walk_isAny) L ((),([],()),([],()),(0,()),((),()),())).bind fun r=>Sum.elim (fun (x:LS)=>some ((x.2.1.1,0,()),(h,()))) (fun (y:LS)=>some ((y.2.2.1.1,y.2.2.2.1.1,()),(h,()))) r:=by
  rw [zaQ];rfl
 obtain ⟨L,h1,h2,h3⟩:=znr h hw
 rw [hnf,h1,Option.bind_some]
 rcases h3 with ⟨b1,b2⟩ | ⟨b1,b2,b3,b4⟩ | ⟨b1,b2,l,a,b3,b4,b5⟩
 · obtain ⟨e1,e2⟩:=P.zby b1
   rw [b2,e1,e2];rfl
 · rw [b3,zuj anyK b4 (by rw [b3]at h2;simp at h2;omega),Option.bind_some,b2]
   simp
 · rw [b3,zui anyK (y:=itm (toHp h) a) (by show P.atE (toHp h) a≠0;omega) b4 (by rw [b3]at h2;simp at h2;omega),Option.bind_some]
   have hV:P.ziB (toHp h)=[]:=by unfold P.ziK at b2;unfold P.ziB;rw [if_pos b1]at b2 ⊢;split at b2 <;> simp_all
   rw [hV,b2]
   show some (([],P.atE (toHp h) a,()),(h,()))=_
   rw [b5]
theorem objs_eq (h:P.Hp) (l:List Int):l.filter (fun a=>(P.atH h a).k != 0)=P.zje h l:=by
 unfold P.zje
 congr 1
 funext a
 by_cases e:(P.atH h a).k=0 <;> simp [e]
theorem zsX (h:HpD) (hw:HpW h):F_walk_list_c_walk_inHeap_S1_walk_isObject (h,())=some ((P.zij (toHp h),P.ziK (toHp h),()),(h,())):=by
 have hnf:F_walk_list_c_walk_inHeap_S1_walk_isObject (h,())=((listH (h,())).bind fun L=>zj1 (lf F_walk_isObject) L ((),([],()),([],()),(0,()),((),()),())).bind fun r=>Sum.elim (fun (x:LS)=>some ((x.2.1.1,0,()),(h,()))) (fun (y:LS)=>some ((y.2.2.1.1,y.2.2.2.1.1,()),(h,()))) r:=by
  rw [zaK];rfl
 obtain ⟨L,h1,h2,h3⟩:=znr h hw
 rw [hnf,h1,Option.bind_some]
 rcases h3 with ⟨b1,b2⟩ | ⟨b1,b2,b3,b4⟩ | ⟨b1,b2,l,a,b3,b4,b5⟩
 · obtain ⟨e1,e2⟩:=P.zby b1
   rw [b2];unfold P.zij;rw [e1,e2];rfl
 · rw [b3,zuj (kb:=fun k=>k != 0) objK b4 (by rw [b3]at h2;simp at h2;omega),Option.bind_some,b2]
   rw [objs_eq];rfl
 · rw [b3,zui (kb:=fun k=>k != 0) objK (y:=itm (toHp h) a) (by show P.atE (toHp h) a≠0;omega) b4 (by rw [b3]at h2;simp at h2;omega),Option.bind_some]
   have hV:P.ziB (toHp h)=[]:=by unfold P.ziK at b2;unfold P.ziB;rw [if_pos b1]at b2 ⊢;split at b2 <;> simp_all
   unfold P.zij
   rw [hV,b2]
   show some (([],P.atE (toHp h) a,()),(h,()))=_
   rw [b5];rfl
theorem zno (h:HpD) (hw:HpW h):F_walk_Starts (h,())=some ((P.ziB (toHp h),P.ziK (toHp h),()),()):=by
 rw [zhd];dsimp only
 rw [zal,zbQ]
 dsimp only
 rw [Option.bind_some]
 dsimp only
 rw [zsY h hw];rfl
theorem zbS (h:HpD) (hw:HpW h):F_walk_Objects (h,())=some ((P.zij (toHp h),P.ziK (toHp h),()),()):=by
 rw [zgs];dsimp only
 rw [zal,zbQ]
 dsimp only
 rw [Option.bind_some]
 dsimp only
 rw [zsX h hw];rfl
theorem zqD (h:HpD) (hw:HpW h) (i:Int):F_walk_Page (h,i,())=some ((P.zi7 (toHp h) i,P.zjt (toHp h) i,()),()):=by
 rw [zn9];dsimp only
 rw [zal]
 obtain ⟨⟨⟨b,_⟩,_⟩,hF,hb⟩:=zbu h hw
 have hb:b=P.okH (toHp h):=hb
 subst hb
 rw [hF,Option.bind_some]
 dsimp only
 cases h1:P.okH (toHp h) with
 | false=>
  obtain ⟨e1,e2⟩:=P.zmA (i:=i) h1
  rw [e1,e2];rfl
 | true=>
 simp only [Bool.not_true,cond_false]
 have hlm:(toHp h).pages.length=h.2.2.1.length:=List.length_map ..
 by_cases hr:i<0\/(h.2.2.1.length:Int)<=i
 · obtain ⟨e1,e2⟩:=P.zmz (i:=i) h1 (by rw [hlm];exact hr)
   rw [e1,e2]
   rcases hr with hr | hr
   · rw [decide_eq_true hr];rfl
   · by_cases hi:i<0
     · rw [decide_eq_true hi];rfl
     · rw [decide_eq_false hi,decide_eq_true (show i >= (h.2.2.1.length:Int) from hr)];rfl
 rw [decide_eq_false (show ¬i<0 by omega),decide_eq_false (show ¬i >= (h.2.2.1.length:Int) by omega),zhc]
 dsimp only
 simp only [cond_false,Option.bind_some]
 obtain ⟨j,rfl⟩:=Int.eq_ofNat_of_zero_le (show 0<=i by omega)
 have hnf:F_walk_list_c_walk_inPage_S1_walk_isAny (h,(j:Int),())=((listP (h,(j:Int),())).bind fun L=>zj1 (lf F_walk_isAny) L ((),([],()),([],()),(0,()),((),()),())).bind fun r=>Sum.elim (fun (x:LS)=>some ((x.2.1.1,0,()),(h,(j:Int),()))) (fun (y:LS)=>some ((y.2.2.1.1,y.2.2.2.1.1,()),(h,(j:Int),()))) r:=by
  rw [zaP];rfl
 obtain ⟨L,g1,g2,g3⟩:=zuV h hw h1 j (by omega)
 rw [zal,hnf,g1,Option.bind_some]
 rcases g3 with ⟨b2,b3,b4⟩ | ⟨b2,l,a,b3,b4,b5⟩
 · rw [b3,zuj anyK b4 (by rw [b3]at g2;simp at g2;omega),Option.bind_some,b2]
   simp
 · rw [b3,zui anyK (y:=itm (toHp h) a) (by show P.atE (toHp h) a≠0;omega) b4 (by rw [b3]at g2;simp at g2;omega),Option.bind_some]
   have hV:P.zi7 (toHp h) j=[]:=by
    unfold P.zjt at b2;unfold P.zi7
    rw [if_pos h1]at b2 ⊢
    split at b2
    · omega
    · rename_i q
      rw [if_neg q]
      split at b2
      · omega
      · rename_i q2
        rw [if_neg q2]
        cases hq:P.zjZ (toHp h) j with
        | none=>rfl
        | some l=>rw [hq]at b2;simp at b2
   rw [hV,b2]
   show some (([],P.atE (toHp h) a,()),())=_
   rw [b5]
end Go.VI
namespace Go.VI
open Go Go.Proofs
abbrev CnT:=Int×Int×Int×Int×Int×Unit
def cs (h:P.Hp) (c:CnT) (a:Int):CnT:=if (P.atH h a).k=0 then (c.1,c.2.1,W (c.2.2.1+1),W (c.2.2.2.1+((P.atH h a).n+1)),c.2.2.2.2.1,()) else (W (c.1+1),W (c.2.1+((P.atH h a).n+1)),c.2.2.1,c.2.2.2.1,c.2.2.2.2.1,())
def cnV (h:P.Hp):CnT:=(P.ziB h).foldl (cs h) (0,0,0,0,0,())
def zkR (h:P.Hp):CnT:=if P.ziK h=0 then ((cnV h).1,(cnV h).2.1,(cnV h).2.2.1,(cnV h).2.2.2.1,W ((h.pages.length:Int)-P.ziO h.pages),()) else (0,0,0,0,0,())
abbrev CS:=Unit×Unit×CnT×(Int×Unit)×CnT×Unit
def cf (y:Tden tsW) (x:CS):Option (CS⊕CS) :=
 bif y.2.1.2.1 != 0 then some (Sum.inr ((),(),(0,0,0,0,0,()),(y.2.1.2.1,()),(x.2.2.2.2.1.1,x.2.2.2.2.1.2.1,x.2.2.2.2.1.2.2.1,x.2.2.2.2.1.2.2.2.1,x.2.2.2.2.1.2.2.2.2.1,()),()))
 else (F_header_Size ((y.2.1.1.1,y.2.1.1.2.1,y.2.1.1.2.2.1,()),())).bind
  fun (r:(Int×Unit)×Unit)=>(F_walk_isObject ((y.2.1.1.1,y.2.1.1.2.1,y.2.1.1.2.2.1,()),())).bind
  fun (r_1:(Bool×Unit)×Unit)=>
  bif r_1.1.1 then some (Sum.inl ((),(),(x.2.2.1.1,x.2.2.1.2.1,x.2.2.1.2.2.1,x.2.2.1.2.2.2.1,x.2.2.1.2.2.2.2.1,()),(x.2.2.2.1.1,()),(W (x.2.2.2.2.1.1+1),W (x.2.2.2.2.1.2.1+r.1.1),x.2.2.2.2.1.2.2.1,x.2.2.2.2.1.2.2.2.1,x.2.2.2.2.1.2.2.2.2.1,()),()))
  else some (Sum.inl ((),(),(x.2.2.1.1,x.2.2.1.2.1,x.2.2.1.2.2.1,x.2.2.1.2.2.2.1,x.2.2.1.2.2.2.2.1,()),(x.2.2.2.1.1,()),(x.2.2.2.2.1.1,x.2.2.2.2.1.2.1,W (x.2.2.2.2.1.2.2.1+1),W (x.2.2.2.2.1.2.2.2.1+r.1.1),x.2.2.2.2.1.2.2.2.2.1,()),()))
theorem cf_ok {h:P.Hp} {R:List (Tden tsW)}:∀ (l:List Int) (c:CnT),(∀ x∈l,P.atE h x=0) ->
 zj1 cf (l.map (itm h)++R) ((),(),(0,0,0,0,0,()),(0,()),c,())=zj1 cf R ((),(),(0,0,0,0,0,()),(0,()),l.foldl (cs h) c,())
 | [],c,_=>rfl
 | a::l,c,ha=>by
  have h0:=ha a (by simp)
  have he:(P.atE h a != 0)=false:=by rw [h0];rfl
  obtain ⟨-,a2,a3,a4,a5,a6⟩:=P.zo9 h0
  have hst:cf (itm h a) ((),(),(0,0,0,0,0,()),(0,()),c,())=some (.inl ((),(),(0,0,0,0,0,()),(0,()),cs h c a,())):=by
   unfold cf itm cs
   dsimp only
   rw [he,cond_false,zbv _ _ _ ⟨a3,a4⟩,Option.bind_some,objK,Option.bind_some,P.zjA a2]
   dsimp only
   by_cases hk:(P.atH h a).k=0
   · rw [if_pos hk,show ((P.atH h a).k != 0)=false by simp [hk]];rfl
   · rw [if_neg hk,show ((P.atH h a).k != 0)=true by simp [hk]];rfl
  simp only [List.map_cons,List.cons_append,zj1]
  rw [hst]
  dsimp only
  rw [cf_ok l _ (fun x hx=>ha x (by simp [hx]))];rfl
theorem zfv (h:HpD) (hw:HpW h):F_walk_Count (h,())=some ((zkR (toHp h),P.ziK (toHp h),()),()):=by
 have hnf:F_walk_Count (h,())=((listH (h,())).bind fun L=>zj1 cf L ((),(),(0,0,0,0,0,()),(0,()),(0,0,0,0,0,()),())).bind fun r=>Sum.elim (fun (x:CS)=>(F_page_InUse (h.2.2.1,())).bind fun (r:(Int×Unit)×Unit)=>some (((x.2.2.2.2.1.1,x.2.2.2.2.1.2.1,x.2.2.2.2.1.2.2.1,x.2.2.2.2.1.2.2.2.1,W ((h.2.2.1.length:Int)-r.1.1),()),0,()),())) (fun (y:CS)=>some (((y.2.2.1.1,y.2.2.1.2.1,y.2.2.1.2.2.1,y.2.2.1.2.2.2.1,y.2.2.1.2.2.2.2.1,()),y.2.2.2.1.1,()),())) r:=by
  rw [zmG]
  dsimp only
  rw [zal,zbQ]
  dsimp only
  rw [Option.bind_some]
  dsimp only
  rw [zal]
  rfl
 have hlm:(toHp h).pages.length=h.2.2.1.length:=List.length_map ..
 obtain ⟨L,h1,h2,h3⟩:=znr h hw
 rw [hnf,h1,Option.bind_some]
 rcases h3 with ⟨b1,b2⟩ | ⟨b1,b2,b3,b4⟩ | ⟨b1,b2,l,a,b3,b4,b5⟩
 · obtain ⟨e1,e2⟩:=P.zby b1
   rw [b2];unfold zkR;rw [e1];rfl
 · have:=cf_ok (R:=[]) (P.ziB (toHp h)) (0,0,0,0,0,()) b4
   rw [List.append_nil]at this
   rw [b3,this]
   simp only [zj1,Option.bind_some,Sum.elim_inl]
   obtain ⟨⟨⟨u,_⟩,_⟩,hU,hu⟩:=zpi h.2.2.1 hw.pl
   have hu:u=(P.ziO (h.2.2.1.map toPg):Int):=hu
   rw [hU,Option.bind_some]
   unfold zkR
   rw [b2,if_pos rfl,hlm,hu];rfl
 · rw [b3,cf_ok l _ b4]
   have hy:((itm (toHp h) a).2.1.2.1 != 0)=true:=by show (P.atE (toHp h) a != 0)=true;rw [b5];rfl
   simp only [zj1,cf,hy,cond_true,Option.bind_some,Sum.elim_inr]
   unfold zkR
   rw [b2]
   show some (((0,0,0,0,0,()),P.atE (toHp h) a,()),())=_
   rw [b5];rfl
theorem zqN (h:HpD) (hw:HpW h):Tot (fun r=>r=((zkR (toHp h),P.ziK (toHp h),()),())) (F_r06_Count (h,())):=by
 have hlm:(toHp h).pages.length=h.2.2.1.length:=List.length_map ..
 rw [zok];dsimp only
 rw [zal]
 refine zad (zcO h hw) ?_
 rintro ⟨⟨(l:List Int),(e:Int),_⟩,_⟩ ⟨hl,he⟩
 dsimp only at hl he ⊢
 refine zac (fun h1=>zab ?_) fun h1=>?_
 · simp only [bne_iff_ne,ne_eq]at h1
   unfold zkR
   rw [if_neg (by rw [<-he];exact h1),he]
 simp only [bne_eq_false_iff_eq]at h1
 have he0:P.ziK (toHp h)=0:=by rw [<-he];exact h1
 have hlb:=P.zaR (toHp h)
 have hwb:=P.zeI (toHp h)
 have hat:∀ x∈l,P.atE (toHp h) x=0:=by
  obtain ⟨L,g1,g2,g3⟩:=znr h hw
  rcases g3 with ⟨b1,b2⟩ | ⟨b1,b2,b3,b4⟩ | ⟨b1,b2,b3⟩
  · rw [(P.zby b1).1]at he0;omega
  · rw [hl];exact b4
  · omega
 rw [<-hl]at hlb hwb
 refine zad (P:=fun r=>r.2.2.1=l.foldl (cs (toHp h)) (0,0,0,0,0,())) (zak (fun x=>∃ k:Nat,x.1.1=(k:Int)/\k<=l.length/\x.2.2.1=(l.take k).foldl (cs (toHp h)) (0,0,0,0,0,())) (fun x=>((l.length:Int)-x.1.1).toNat) ⟨0,rfl,by omega,rfl⟩ ?_) fun r hr=>?_
 · rintro ⟨⟨(k':Int),_⟩,_,⟨(c1:Int),(c2:Int),(c3:Int),(c4:Int),(c5:Int),_⟩,_⟩ ⟨k,e1,e2,e3⟩
   dsimp only at e1 e3 ⊢
   subst e1
   refine zac (fun h4=>?_) fun h4=>zab ?_
   · simp only [decide_eq_true_eq]at h4
     have hk:k<l.length:=by omega
     have w:W ((k:Int)+1)=((k+1:Nat):Int):=by rw [W_id (by omega)];omega
     rw [w,Int.toNat_natCast]
     have hx:=getD_some hk
     have hxa:=hat _ (zav (d:=0) hk)
     refine zae (zil.2 ⟨by omega,h4⟩) (zad (zc7 h hw (l.getD k 0) (hwb _ (zav hk))) ?_)
     rintro ⟨⟨⟨(hk':Int),(n:Int),(m:Int),_⟩,(e':Int),_⟩,_⟩ ⟨-,hH⟩
     dsimp only at hH ⊢
     obtain ⟨-,a2,a3,a4,a5,a6⟩:=P.zo9 hxa
     have ek:(P.atH (toHp h) (l.getD k 0)).k=hk':=(congrArg P.Hd.k hH).symm
     have en:(P.atH (toHp h) (l.getD k 0)).n=n:=(congrArg P.Hd.n hH).symm
     have em:(P.atH (toHp h) (l.getD k 0)).m=m:=(congrArg P.Hd.m hH).symm
     rw [ek,en,em]at a2
     rw [em]at a3 a4
     rw [za4 hk' n m ⟨a3,a4⟩,Option.bind_some,P.zjA a2]
     dsimp only
     have hfold:(l.take (k+1)).foldl (cs (toHp h)) (0,0,0,0,0,())=cs (toHp h) (c1,c2,c3,c4,c5,()) (l.getD k 0):=by
      rw [P.zaC hx,List.foldl_append,<-e3];rfl
     refine zac (fun h5=>?_) fun h5=>?_
     · simp only [beq_iff_eq]at h5
       refine zab ?_
       simp only [Sum.elim_inl]
       refine ⟨⟨k+1,rfl,by omega,?_⟩,by omega⟩
       rw [hfold];unfold cs;rw [if_pos (by rw [ek];exact h5),en]
     · simp only [beq_eq_false_iff_ne,ne_eq]at h5
       refine zab ?_
       simp only [Sum.elim_inl]
       refine ⟨⟨k+1,rfl,by omega,?_⟩,by omega⟩
       rw [hfold];unfold cs;rw [if_neg (by rw [ek];exact h5),en]
   · simp only [decide_eq_false_iff_not]at h4
     simp only [Sum.elim_inr]
     rw [List.take_of_length_le (by omega)]at e3
     exact e3
 · obtain ⟨_,_,⟨(c1:Int),(c2:Int),(c3:Int),(c4:Int),(c5:Int),_⟩,_⟩:=r
   have hr:(c1,c2,c3,c4,c5,())=l.foldl (cs (toHp h)) (0,0,0,0,0,()):=hr
   dsimp only
   refine zad (zdE _ hw.pl) ?_
   rintro ⟨⟨(u:Int),_⟩,_⟩ hu
   have hu:u=(P.ziO (h.2.2.1.map toPg):Int):=hu
   refine zab ?_
   unfold zkR cnV
   rw [if_pos he0,<-hl,<-hr,hlm,hu,he0];rfl
end Go.VI
namespace Go.VI
open Go Go.Proofs
theorem zhz (l:List Int) (a:Int) (hl:l.length<=100000000):Tot (fun r=>decide (r.1.1 >= 0)=decide (a∈l)) (F_slices_Index_uint64 (l,a,())):=by
 rw [zct];dsimp only
 refine zad (P:=fun r=>match r with
  | .inl x=>0<=x.1.1/\a∈l
  | .inr _=>¬a∈l) (zak (fun x=>∃ k:Nat,x.1.2.1=(k:Int)/\k<=l.length/\¬a∈l.take k) (fun x=>((l.length:Int)-x.1.2.1).toNat) ⟨0,rfl,by omega,by simp⟩ ?_) ?_
 · rintro ⟨⟨(b:Int),(k':Int),_⟩,_⟩ ⟨k,e1,e2,e3⟩
   dsimp only at e1 ⊢
   subst e1
   refine zac (fun h4=>?_) fun h4=>zab ?_
   · simp only [decide_eq_true_eq]at h4
     have hk:k<l.length:=by omega
     have w:W ((k:Int)+1)=((k+1:Nat):Int):=by rw [W_id (by omega)];omega
     rw [w,Int.toNat_natCast]
     refine zae (zil.2 ⟨by omega,h4⟩) (zac (fun h5=>zab ?_) fun h5=>zab ?_)
     · simp only [beq_iff_eq]at h5
       simp only [Sum.elim_inr]
       exact ⟨by omega,by rw [h5];exact zav hk⟩
     · simp only [beq_eq_false_iff_ne,ne_eq]at h5
       simp only [Sum.elim_inl]
       refine ⟨⟨k+1,rfl,by omega,?_⟩,by omega⟩
       rw [P.zaC (getD_some hk),List.mem_append,List.mem_singleton]
       rintro (c | c)
       · exact e3 c
       · exact h5 c
   · simp only [decide_eq_false_iff_not]at h4
     simp only [Sum.elim_inr]
     rwa [List.take_of_length_le (by omega)]at e3
 · rintro r hr
   refine ziA (fun x hx=>?_) fun y hy=>zab ?_
   · subst hx
     exact zab (by rw [decide_eq_true hr.2];exact decide_eq_true hr.1)
   · subst hy
     exact (decide_eq_false hr).symm
theorem zpN {h:P.Hp} (he:¬P.ziK h=0):P.zij h=[]:=by
 unfold P.zij
 have:P.ziB h=[]:=by
  cases h1:P.okH h with
  | false=>exact (P.zby h1).2
  | true=>
   unfold P.ziK at he;unfold P.ziB
   rw [if_pos h1]at he ⊢
   split at he
   · omega
   · rename_i q;rw [if_neg q]
 rw [this];rfl
theorem zdu (h:P.Hp):(P.zij h).length<=4096:=by
 unfold P.zij P.zje
 exact Nat.le_trans (List.length_filter_le _ _) (P.zaR h)
theorem zcN (h:HpD) (hw:HpW h) (a:Int):Tot (fun r=>r.1.1=decide (a∈P.zij (toHp h))) (F_walk_IsObject (h,a,())):=by
 rw [zfD];dsimp only
 rw [zal,zbS h hw,Option.bind_some]
 dsimp only
 refine zac (fun h1=>?_) fun h1=>zab ?_
 · rw [zbR];dsimp only
   refine zad (P:=fun r=>r.1.1=decide (a∈P.zij (toHp h))) (zad (zhz _ a (by have:=zdu (toHp h);omega)) fun r hr=>zab hr) fun r hr=>zab hr
 · rw [zpN (by simpa using h1)];simp
theorem zdn (h:HpD) (hw:HpW h) (a:Int):Tot (fun r=>r.1.1=decide (a∈P.zij (toHp h))) (F_r06_IsObject (h,a,())):=by
 rw [zgv];dsimp only
 rw [zal]
 refine zad (zbb h hw) ?_
 rintro ⟨⟨(l:List Int),(e:Int),_⟩,_⟩ ⟨hl,-⟩
 dsimp only at hl ⊢
 refine zad (zbE l a (by rw [hl];have:=zdu (toHp h);omega)) ?_
 rintro r hr
 rw [hl]at hr
 exact zab hr
theorem zck (raw:HpD) (hr:WBo raw.2.1) (tape odd:List Int):Tot (fun (r:(List HpD×Unit)×Unit)=>r.1.1.length<=3/\∀ h∈r.1.1,HpW h) (F_l06_heaps (raw,tape,odd,())):=by
 rw [zoy];dsimp only
 refine zad (zqR tape) ?_
 rintro ⟨⟨⟨⟨⟨pw,np,_⟩,ws,ps,sp,bu,_⟩,st,wk,_⟩,_⟩,_⟩ ⟨n,hm⟩
 have hw:=hm.hw
 dsimp only at hm hw ⊢
 refine zad (zep n _ hm odd 0 (by omega) (by omega)) ?_
 rintro ⟨⟨⟨⟨⟨pw',np',_⟩,ws',ps',sp',bu',_⟩,st',wk',_⟩,_⟩,_⟩ hw'
 dsimp only at hw' ⊢
 obtain ⟨⟨rpw,rnp,_⟩,rws,rps,rsp,rbu,_⟩:=raw
 rw [zpj,Option.bind_some]
 dsimp only at hr ⊢
 refine zae (ziu fun _=>zag.2 (by simp)) (zac (fun h1=>zab ⟨by simp,?_⟩) fun h1=>zab ⟨by simp,?_⟩)
 · simp only [decide_eq_true_eq]at h1
   intro h hh
   simp only [List.cons_append,List.nil_append,List.mem_cons,List.not_mem_nil,or_false]at hh
   rcases hh with e | e | e
   · rw [e];exact hw
   · rw [e];exact hw'
   · rw [e];exact ⟨by dsimp only;omega,by dsimp only;omega,hr⟩
 · intro h hh
   simp only [List.mem_cons,List.not_mem_nil,or_false]at hh
   rcases hh with e | e
   · rw [e];exact hw
   · rw [e];exact hw'
theorem zcl:F_l06_awake ()=some ((true,()),()):=by
 refine zlB ?_
 rw [zoz];dsimp only
 refine zad (zph 16 8 (by decide)) ?_
 rintro ⟨⟨⟨⟨(pw:Int),(np:Int),_⟩,(ws:List Int),(ps:List PgD),(sp:Int),(bu:Int),_⟩,(e:Int),_⟩,_⟩ ⟨h1,h2⟩
 have hn:P.zoC 16 8=⟨16,8,List.replicate 128 0,List.replicate 8 P.Pg.zero,0,-1⟩:=(P.zqe (pw:=16) (np:=8) (by decide)).1.trans rfl
 have h1:toHp ((pw,np,()),ws,ps,sp,bu,())=P.zoC 16 8:=h1
 rw [hn]at h1
 have hl:ws.length=128/\ps.length=8:=by
  have a:=congrArg (fun h=>h.words.length) h1
  have b:=congrArg (fun h=>h.pages.length) h1
  simp only [toHp,List.length_map,List.length_replicate]at a b
  exact ⟨a,b⟩
 have hws:ws=List.replicate 128 0:=congrArg P.Hp.words h1
 have hps:ps.map toPg=List.replicate 8 P.Pg.zero:=congrArg P.Hp.pages h1
 have hX:toHp ((pw,np,()),ws.set 0 29,ps.set 0 (1,0,2,0,()),sp,bu,())=⟨16,8,(List.replicate 128 0).set 0 29,(List.replicate 8 P.Pg.zero).set 0 ⟨1,0,2,0⟩,0,-1⟩:=by
  have e1:pw=16:=congrArg P.Hp.pw h1
  have e2:np=8:=congrArg P.Hp.np h1
  have e3:sp=0:=congrArg P.Hp.space h1
  have e4:bu = -1:=congrArg P.Hp.bump h1
  subst e1 e2 e3 e4
  unfold toHp
  dsimp only
  rw [List.map_set,hps,hws];rfl
 have hw':HpW ((pw,np,()),ws.set 0 29,ps.set 0 (1,0,2,0,()),sp,bu,()):=⟨by dsimp only;rw [List.length_set];omega,by dsimp only;rw [List.length_set];omega,fun x hx=>by
  dsimp only at hx
  rcases List.mem_or_eq_of_mem_set hx with hx | hx
  · rw [hws]at hx
    have:=List.eq_of_mem_replicate hx
    omega
  · omega⟩
 dsimp only
 refine zae (zil.2 ⟨by omega,by omega⟩) (zae (zil.2 ⟨by omega,by omega⟩) ?_)
 rw [show (0:Int).toNat=0 from rfl,zbS _ hw',Option.bind_some,zfv _ hw',Option.bind_some]
 dsimp only
 rw [hX]
 generalize hH:(⟨16,8,(List.replicate 128 0).set 0 29,(List.replicate 8 P.Pg.zero).set 0 ⟨1,0,2,0⟩,0,-1⟩:P.Hp)=H
 have hok:P.okH H=true:=by rw [<-hH];decide +kernel
 have hp8:H.pages.length=8:=by rw [<-hH];rfl
 have hA:P.ziR H.pw H.np 0 (0:Nat)=4096:=by rw [<-hH];decide +kernel
 have ha0:P.atE H 4096=0:=by rw [<-hH];decide +kernel
 have hn1:(P.atH H 4096).n.toNat=1:=by rw [<-hH];decide +kernel
 have hk3:(P.atH H 4096).k=3:=by rw [<-hH];decide +kernel
 have hn1':(P.atH H 4096).n=1:=by rw [<-hH];decide +kernel
 have hu:P.ziO H.pages=1:=by rw [<-hH];decide +kernel
 have w0:P.zjt H (0:Nat)=0/\P.zi7 H (0:Nat)=[4096]:=by
  refine P.zgm hok (by omega) (by rw [<-hH];decide +kernel) ?_
  have:P.zjZ H (0:Nat)=P.zjp H 0 false 2 0:=by rw [<-hH];rfl
  rw [this,P.zbB (by omega) (by rw [hA];exact ha0),hA,hn1,P.zaU (by omega)];rfl
 have wk:∀ k:Nat,1<=k->k<8->P.zjt H k=0/\P.zi7 H k=[]:=fun k k1 k8=>by
  refine P.zcz hok (by omega) (.inl ?_)
  rw [<-hH]
  have:∀ k:Fin 8,1<=k.val->(P.pgAt ⟨16,8,(List.replicate 128 0).set 0 29,(List.replicate 8 P.Pg.zero).set 0 ⟨1,0,2,0⟩,0,-1⟩ (k.val:Int)).kind=0:=by decide +kernel
  exact this ⟨k,k8⟩ k1
 have hall:∀ k:Nat,k<H.pages.length->P.zjt H k=0:=fun k hk=>by
  rcases Nat.eq_zero_or_pos k with rfl | hk0
  · exact w0.1
  · exact (wk k hk0 (by omega)).1
 obtain ⟨s1,s2⟩:=P.zge hok hall
 have hto:∀ k:Nat,1<=k->k<=8->P.zi1 H k=[4096]:=by
  intro k
  induction k with
  | zero=>intro h;omega
  | succ k ih=>
   intro _ h8
   rw [P.zbr]
   rcases Nat.eq_zero_or_pos k with rfl | hk0
   · rw [w0.2];rfl
   · rw [ih hk0 (by omega),(wk k hk0 (by omega)).2];rfl
 rw [hp8,hto 8 (by omega) (by omega)]at s2
 have hO:P.zij H=[4096]:=by
  unfold P.zij P.zje
  rw [s2]
  simp [hk3]
 have hC:zkR H=(1,2,0,0,7,()):=by
  unfold zkR cnV
  rw [s1,if_pos rfl,s2,hu,hp8]
  simp only [List.foldl]
  unfold cs
  rw [if_neg (by omega),hn1']
  decide
 rw [hO,hC,s1]
 exact ⟨_,rfl,rfl⟩
end Go.VI
namespace Go.VI
open Go Go.Proofs
theorem zsl (h:P.Hp) (i:Int):(P.zi7 h i).length<=64:=by
 cases h1:P.okH h with
 | false=>rw [(P.zmA (i:=i) h1).2];simp
 | true=>exact P.zcA h1
theorem zre (raw:HpD) (hr:WBo raw.2.1) (tape odd:List Int) (i:Int):F_l06_WalkPages (raw,tape,odd,i,())=some ((true,()),()):=by
 refine zlB ?_
 rw [zfH];dsimp only
 rw [zal]
 refine zad (zck raw hr tape odd) ?_
 rintro ⟨⟨(hs:List HpD),_⟩,_⟩ ⟨hl,hh⟩
 dsimp only at hl hh ⊢
 refine zad (P:=fun r=>∃ y,r = .inr y) (zb9 (n:=hs.length) (by omega) fun q k hk=>?_) fun r hr=>ziA (fun x hx=>?_) fun x hx=>?_
 · rw [Int.toNat_natCast,W_id (n:=(k:Int)+1) (by omega)]
   have hwk:=hh (hs.getD k H0) (zav hk)
   generalize hs.getD k H0=h at *
   have hls:([i,ziW IntKind.i64 (fun (x1 x2:BitVec IntKind.i64.bits)=>x1 &&& x2) i 15]:List Int).length=2:=rfl
   generalize ([i,ziW IntKind.i64 (fun (x1 x2:BitVec IntKind.i64.bits)=>x1 &&& x2) i 15]:List Int)=js at hls ⊢
   refine zad (P:=fun r=>∃ y,r = .inr y) (zb9 (n:=js.length) (by omega) fun q2 k2 hk2=>?_) ?_
   · rw [Int.toNat_natCast,W_id (n:=(k2:Int)+1) (by omega)]
     generalize js.getD k2 0=j
     rw [zal,zqD h hwk j,Option.bind_some]
     refine zad (zc6 h hwk j) ?_
     rintro ⟨⟨(l:List Int),(e:Int),_⟩,_⟩ ⟨hl2,he2⟩
     dsimp only at hl2 he2 ⊢
     subst hl2 he2
     refine zac (fun c=>by simp at c) fun _=>zad (ze6 _ (by have:=zsl (toHp h) j;omega)) ?_
     rintro ⟨⟨(b:Bool),_⟩,_⟩ hb
     have hb:b=true:=hb
     subst hb
     exact zac (fun c=>by simp at c) fun _=>zab ⟨_,rfl⟩
   · rintro _ ⟨y,rfl⟩
     exact zab ⟨_,rfl⟩
 · subst hx;obtain ⟨y,hy⟩:=hr;cases hy
 · rw [zcl]
   exact zab rfl
theorem L_WalkPagesu (d) (h:wfP E_l06_WalkPages.ps d):F_l06_WalkPages d=some ((true,()),()):=by
 obtain ⟨raw,tape,odd,i,_⟩:=d
 obtain ⟨hr,-,-,-,-⟩:=h
 exact zre raw (fun x hx=>wf_u (hr.2.1.2 x hx)) tape odd i
theorem zpu (raw:HpD) (hr:WBo raw.2.1) (tape odd:List Int):F_l06_WalkCounts (raw,tape,odd,())=some ((true,()),()):=by
 refine zlB ?_
 rw [zeW];dsimp only
 rw [zal]
 refine zad (zck raw hr tape odd) ?_
 rintro ⟨⟨(hs:List HpD),_⟩,_⟩ ⟨hl,hh⟩
 dsimp only at hl hh ⊢
 refine zad (P:=fun r=>∃ y,r = .inr y) (zb9 (n:=hs.length) (by omega) fun q k hk=>?_) fun r hr=>ziA (fun x hx=>?_) fun x hx=>?_
 · rw [Int.toNat_natCast,W_id (n:=(k:Int)+1) (by omega)]
   have hwk:=hh (hs.getD k H0) (zav hk)
   generalize hs.getD k H0=h at *
   rw [zal,zfv h hwk,Option.bind_some]
   refine zad (zqN h hwk) ?_
   rintro _ rfl
   dsimp only
   refine zac (fun c=>by simp at c) fun _=>zab ⟨_,rfl⟩
 · subst hx;obtain ⟨y,hy⟩:=hr;cases hy
 · rw [zcl]
   exact zab rfl
theorem L_WalkCountsu (d) (h:wfP E_l06_WalkCounts.ps d):F_l06_WalkCounts d=some ((true,()),()):=by
 obtain ⟨raw,tape,odd,_⟩:=d
 obtain ⟨hr,-,-,-⟩:=h
 exact zpu raw (fun x hx=>wf_u (hr.2.1.2 x hx)) tape odd
theorem znH (raw:HpD) (hr:WBo raw.2.1) (tape odd:List Int) (addr:Int):F_l06_WalkObjects (raw,tape,odd,addr,())=some ((true,()),()):=by
 refine zlB ?_
 rw [zd7];dsimp only
 rw [zal]
 refine zad (zck raw hr tape odd) ?_
 rintro ⟨⟨(hs:List HpD),_⟩,_⟩ ⟨hl,hh⟩
 dsimp only at hl hh ⊢
 refine zad (P:=fun r=>∃ y,r = .inr y) (zb9 (n:=hs.length) (by omega) fun q k hk=>?_) fun r hr=>ziA (fun x hx=>?_) fun x hx=>?_
 · rw [Int.toNat_natCast,W_id (n:=(k:Int)+1) (by omega)]
   have hwk:=hh (hs.getD k H0) (zav hk)
   generalize hs.getD k H0=h at *
   simp only [zal]
   rw [zno h hwk,Option.bind_some]
   refine zad (zcO h hwk) ?_
   rintro ⟨⟨(l:List Int),(e:Int),_⟩,_⟩ ⟨hl2,he2⟩
   dsimp only at hl2 he2 ⊢
   subst hl2 he2
   rw [zbS h hwk,Option.bind_some]
   refine zad (zbb h hwk) ?_
   rintro ⟨⟨(l:List Int),(e:Int),_⟩,_⟩ ⟨hl2,he2⟩
   dsimp only at hl2 he2 ⊢
   subst hl2 he2
   refine zac (fun c=>by simp at c) fun _=>zac (fun c=>by simp at c) fun _=>zad (ze6 _ (by have:=P.zaR (toHp h);omega)) ?_
   rintro ⟨⟨(b:Bool),_⟩,_⟩ hb
   have hb:b=true:=hb
   subst hb
   refine zac (fun c=>by simp at c) fun _=>zad (ze6 _ (by have:=zdu (toHp h);omega)) ?_
   rintro ⟨⟨(b:Bool),_⟩,_⟩ hb
   have hb:b=true:=hb
   subst hb
   refine zac (fun c=>by simp at c) fun _=>zae (by decide) (zad (zcN h hwk addr) ?_)
   rintro ⟨⟨(b1:Bool),_⟩,_⟩ hb1
   refine zad (zdn h hwk addr) ?_
   rintro ⟨⟨(b2:Bool),_⟩,_⟩ hb2
   have hb:b1=b2:=Eq.trans hb1 (Eq.symm hb2)
   subst hb
   refine zac (fun c=>by simp at c) fun _=>zad (zcN h hwk _) ?_
   rintro ⟨⟨(b3:Bool),_⟩,_⟩ hb3
   refine zad (zdn h hwk _) ?_
   rintro ⟨⟨(b4:Bool),_⟩,_⟩ hb4
   have hb:b3=b4:=Eq.trans hb3 (Eq.symm hb4)
   subst hb
   exact zac (fun c=>by simp at c) fun _=>zab ⟨_,rfl⟩
 · subst hx;obtain ⟨y,hy⟩:=hr;cases hy
 · rw [zcl]
   exact zab rfl
theorem L_WalkObjectsu (d) (h:wfP E_l06_WalkObjects.ps d):F_l06_WalkObjects d=some ((true,()),()):=by
 obtain ⟨raw,tape,odd,addr,_⟩:=d
 obtain ⟨hr,-,-,-,-⟩:=h
 exact znH raw (fun x hx=>wf_u (hr.2.1.2 x hx)) tape odd addr
theorem T_fill (h:HpD) (hw:HpW h) (a n:Int) (ha:0<=a/\a<18446744073709551616) (hn : -9223372036854775808<=n/\n<9223372036854775808):∃ v e,F_walk_Fill (h,a,n,())=some ((v,e,()),())/\F_r06_Fill (h,a,n,())=some ((v,e,()),())/\v.2.1.length<=100000000/\v.2.2.1.length<=100000000:=by
 rw [zoa,zp1];dsimp only
 simp only [zal]
 obtain ⟨⟨⟨v,e,_⟩,_⟩,hF,he,hv⟩:=znt h hw a 0 (W (n-1)) 0 ha (by omega)
 obtain ⟨⟨⟨v2,e2,_⟩,_⟩,hF2,he2,hv2⟩:=zib h hw a 0 (W (n-1)) 0 ha (by omega)
 obtain ⟨⟨⟨b,_⟩,_⟩,hP,hb⟩:=zaz h hw
 have hb:b=P.okH (toHp h):=hb
 dsimp only at he hv he2 hv2
 have ee:e=e2:=he.trans he2.symm
 have vv:v=v2:=zrm (hv.trans hv2.symm)
 subst ee vv hb
 have hlm:v.2.1.length=(toHp v).words.length:=rfl
 have hlp:v.2.2.1.length=(toHp v).pages.length:=(List.length_map ..).symm
 rw [hF,hF2,hP]
 simp only [Option.bind_some,zal]
 have hlen:v.2.1.length<=100000000/\v.2.2.1.length<=100000000:=by
  rw [hlm,hlp,hv]
  unfold P.zk6
  split
  · rename_i h0
    unfold P.zj5 at h0
    split at h0
    · refine ⟨?_,?_⟩
      · show (P.ziw (toHp h).words a _).length<=_
        have:=hw.wl
        rw [show (P.ziw (toHp h).words a (P.zkH 0 (W (n-1)) 0)).length=(toHp h).words.length from P.zb0 (by
         unfold P.zjo at h0
         split at h0
         · assumption
         · omega)]
        exact this
      · show (toHp h).pages.length<=_
        rw [show (toHp h).pages.length=h.2.2.1.length from List.length_map ..];exact hw.pl
    · omega
  · exact ⟨by show (0:Nat)<=_;omega,by show (0:Nat)<=_;omega⟩
 refine ⟨v,e,rfl,?_,hlen⟩
 by_cases hg:P.okH (toHp h)=true/\1<=n/\n<=256
 · obtain ⟨g1,g2,g3⟩:=hg
   rw [g1,decide_eq_false (show ¬n<1 by omega),decide_eq_false (show ¬n > 256 by omega)];rfl
 · have hE:P.zj5 (toHp h) a 0 (W (n-1)) 0=1:=by
    unfold P.zj5
    rw [if_neg]
    rintro ⟨q1,q2⟩
    have q3:=P.zam q1
    apply hg
    refine ⟨q2,?_⟩
    by_cases hm:n = -9223372036854775808
    · subst hm
      have:W (-9223372036854775808-1)=9223372036854775807:=by decide
      rw [this]at q3;omega
    · rw [W_id (by omega)]at q3;omega
   have hV:toHp v=P.Hp.zero:=by rw [hv];unfold P.zk6;rw [if_neg (by omega)]
   have hv0:v=H0:=zrm (hV.trans rfl)
   have he1:e=1:=he.trans hE
   subst hv0 he1
   by_cases g1:P.okH (toHp h)=true
   · rw [g1]
     by_cases g2:n<1
     · rw [decide_eq_true g2];rfl
     · rw [decide_eq_false g2,decide_eq_true (show n > 256 from Int.not_le.1 fun c=>hg ⟨g1,by omega,c⟩)];rfl
   · rw [show P.okH (toHp h)=false by simpa using g1];rfl
theorem zrf (raw:HpD) (hr:WBo raw.2.1) (tape odd:List Int) (addr n:Int) (ha:0<=addr/\addr<18446744073709551616) (hn : -9223372036854775808<=n/\n<9223372036854775808):F_l06_WalkFills (raw,tape,odd,addr,n,())=some ((true,()),()):=by
 refine zlB ?_
 rw [zfI];dsimp only
 rw [zal]
 refine zad (zck raw hr tape odd) ?_
 rintro ⟨⟨(hs:List HpD),_⟩,_⟩ ⟨hl,hh⟩
 dsimp only at hl hh ⊢
 have hns:∀ x∈([n,ziW IntKind.i64 (fun (x1 x2:BitVec IntKind.i64.bits)=>x1 &&& x2) n 15]:List Int),-9223372036854775808<=x/\x<9223372036854775808:=by
  intro x hx
  simp only [List.mem_cons,List.not_mem_nil,or_false]at hx
  rcases hx with rfl | rfl
  · exact hn
  · exact W_range _
 have has:∀ x∈([addr,U (4096+addr.tmod 600)]:List Int),0<=x/\x<18446744073709551616:=by
  intro x hx
  simp only [List.mem_cons,List.not_mem_nil,or_false]at hx
  have h6:addr.tmod 600=addr % 600:=Int.tmod_eq_emod_of_nonneg (by omega)
  rcases hx with rfl | rfl
  · exact ha
  · rw [h6,U_id (by omega)];omega
 have hnl:([n,ziW IntKind.i64 (fun (x1 x2:BitVec IntKind.i64.bits)=>x1 &&& x2) n 15]:List Int).length=2:=rfl
 have hal:([addr,U (4096+addr.tmod 600)]:List Int).length=2:=rfl
 generalize ([n,ziW IntKind.i64 (fun (x1 x2:BitVec IntKind.i64.bits)=>x1 &&& x2) n 15]:List Int)=ns at hns hnl ⊢
 generalize ([addr,U (4096+addr.tmod 600)]:List Int)=ads at has hal ⊢
 refine zad (P:=fun r=>∃ y,r = .inr y) (zb9 (n:=hs.length) (by omega) fun q k hk=>?_) fun r hr=>ziA (fun x hx=>?_) fun x hx=>?_
 · rw [Int.toNat_natCast,W_id (n:=(k:Int)+1) (by omega)]
   have hwk:=hh (hs.getD k H0) (zav hk)
   generalize hs.getD k H0=h at *
   simp only [zal]
   refine zae (by decide) (zad (P:=fun r=>∃ y,r = .inr y) (zb9 (n:=ads.length) (by omega) fun q2 k2 hk2=>?_) ?_)
   · rw [Int.toNat_natCast,W_id (n:=(k2:Int)+1) (by omega)]
     have hax:=has (ads.getD k2 0) (zav hk2)
     generalize ads.getD k2 0=a at *
     refine zad (P:=fun r=>∃ y,r = .inr y) (zb9 (n:=ns.length) (by omega) fun q3 k3 hk3=>?_) ?_
     · rw [Int.toNat_natCast,W_id (n:=(k3:Int)+1) (by omega)]
       have hnx:=hns (ns.getD k3 0) (zav hk3)
       generalize ns.getD k3 0=m at *
       obtain ⟨v,e,f1,f2,f3,f4⟩:=T_fill h hwk a m hax hnx
       rw [f1,Option.bind_some,f2,Option.bind_some]
       dsimp only
       refine zac (fun c=>by simp at c) fun _=>zad (zs0 v f3 f4) ?_
       rintro ⟨⟨(b:Bool),_⟩,_⟩ hb
       have hb:b=true:=hb
       subst hb
       exact zac (fun c=>by simp at c) fun _=>zab ⟨_,rfl⟩
     · rintro _ ⟨y,rfl⟩
       exact zab ⟨_,rfl⟩
   · rintro _ ⟨y,rfl⟩
     exact zab ⟨_,rfl⟩
 · subst hx;obtain ⟨y,hy⟩:=hr;cases hy
 · rw [zcl]
   exact zab rfl
theorem L_WalkFillsu (d) (h:wfP E_l06_WalkFills.ps d):F_l06_WalkFills d=some ((true,()),()):=by
 obtain ⟨raw,tape,odd,addr,n,_⟩:=d
 obtain ⟨hr,-,-,ha,hn,-⟩:=h
 exact zrf raw (fun x hx=>wf_u (hr.2.1.2 x hx)) tape odd addr n (wf_u ha) (wf_i hn)
end Go.VI
