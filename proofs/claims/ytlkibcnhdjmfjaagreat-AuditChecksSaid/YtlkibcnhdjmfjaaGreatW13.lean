import Derived.Test.YtlkibcnhdjmfjaaGreatW08
import Derived.Test.YtlkibcnhdjmfjaaGreatW09
import Derived.Test.YtlkibcnhdjmfjaaGreatW10
import Derived.Test.YtlkibcnhdjmfjaaGreatW11
import Derived.Test.YtlkibcnhdjmfjaaGreatW12
set_option linter.unusedSimpArgs false
set_option linter.unusedVariables false
set_option maxRecDepth 100000
set_option maxHeartbeats 4000000
noncomputable section
namespace Go.VI
open Go
namespace P
end P
theorem zf0(pw np p o:Int)(hc:confB pw np=true)(h:0<=p/\p<np/\0<=o/\o<pw):F_page_Address ((pw,np,()),p,o,())=some ((4096+p*pw+o,0,()),()):=by
 have c2:=zaV.1 hc;have kp:=P.zaY (pw:=pw) (np:=np) (by rw [zaH];exact hc) (p:=p) (by omega) (by omega)
 have cp:=P.conf_prod (pw:=pw) (np:=np) (by rw [zaH];exact hc)
 rw [zkB];dsimp only
 rw [zbB,qab,hc,za6,qab,za6,qab];dsimp only;rw [W_id (n:=np-1) (by omega),W_id (n:=pw-1) (by omega),qac (show 0<=p/\p<=np-1 by omega),qac (show 0<=o/\o<=pw-1 by omega)]
 simp only [qbX,qag];have v1:W (p*pw)=p*pw:=W_id (by omega)
 have v2:W (p*pw+o)=p*pw+o:=W_id (by omega)
 have v3:U (p*pw+o)=p*pw+o:=U_id (by omega)
 have v4:U (4096+(p*pw+o))=4096+(p*pw+o):=U_id (by omega)
 rw [v1,v2,v3,v4,Int.add_assoc]
end Go.VI
namespace Go.VI
open Go Go.Proofs
def itm(h:P.Hp)(a:Int):Tden tsW:=(a,(((P.atH h a).k,(P.atH h a).n,(P.atH h a).m,()),(P.atE h a,())),())
theorem zjY(h:P.Hp)(a:Int):errB (itm h a) = !decide (P.atE h a=0):=by
 show (P.atE h a != 0)=_
 by_cases e:P.atE h a=0 <;> simp [e]
def zwN(h:P.Hp)(w:Option (List Int))(L:List (Tden tsW)):Prop:=match w with
 | some l=>L=l.map (itm h)/\∀ x∈l,P.atE h x=0
 | none=>∃ (l:List Int) (a:Int),L=l.map (itm h)++[itm h a]/\(∀ x∈l,P.atE h x=0)/\P.atE h a=19
theorem zwN.cons{h:P.Hp}{w:Option (List Int)}{L:List (Tden tsW)}{a:Int}(k:zwN h w L)(ha:P.atE h a=0):zwN h (w.map (a :: ·)) (itm h a::L):=by
 cases w with
 | some l=>exact ⟨by rw [k.1];rfl,fun x hx=>by rcases qat.1 hx with rfl | hx;exact ha;exact k.2 x hx⟩
 | none=>
  obtain ⟨l,b,e1,e2,e3⟩:=k;exact ⟨a::l,b,by rw [e1];rfl,fun x hx=>by rcases qat.1 hx with rfl | hx;exact ha;exact e2 x hx,e3⟩
theorem zwi{x:Tden tsW}{L:List (Tden tsW)}(hx:errB x=false)(h:okL L=true):okL (x::L)=true:=by
 cases L with
 | nil=>rfl
 | cons y r=>simp only [okL,hx,Bool.not_false,qaS];exact h
theorem at_page{h:P.Hp}(h1:P.okH h=true){j:Nat}{o:Int}(hj:(j:Int)<h.np)(ho:0<=o/\o<h.pw):(P.atE h (4096+j*h.pw+o)=0\/P.atE h (4096+j*h.pw+o)=19)/\P.zb9 h (4096+j*h.pw+o)=P.pgAt h j/\P.ofK h.pw h.np (4096+j*h.pw+o)=o:=by
 have c:=(P.zaq h1).1;obtain ⟨a1,a2,a3⟩:=P.zh9 c (p:=(j:Int)) (o:=o) (qac ⟨by omega,by omega,by omega,by omega⟩)
 obtain ⟨b1,b2,b3⟩:=P.zgO c a1;rw [a2]at b1;rw [a3]at b2;refine ⟨?_,?_,b2⟩
 · unfold P.atE;rw [if_pos h1,if_pos b3];cases P.atB h (4096+j*h.pw+o) <;> simp
 · unfold P.zb9 P.pgAt;rw [b1]
theorem zvF(h:HpD)(hw:HpW h)(h1:P.okH (toHp h)=true)(j:Nat)(hj:j<h.2.2.1.length):∃ L,listP (h,(j:Int),())=some L/\L.length<=1002 /\
 ((P.zbc (toHp h) j=0/\L=(P.zaD (toHp h) j).map (itm (toHp h))/\∀ x∈P.zaD (toHp h) j,P.atE (toHp h) x=0)\/(P.zbc (toHp h) j=19/\∃ (l:List Int) (a:Int),L=l.map (itm (toHp h))++[itm (toHp h) a]/\(∀ x∈l,P.atE (toHp h) x=0)/\P.atE (toHp h) a=19)):=by
 have hlm:(toHp h).pages.length=h.2.2.1.length:=qai ..
 have hin:¬((j:Int)<0\/(toHp h).pages.length<=(j:Int)):=by rw [hlm];omega
 obtain ⟨p1,p2,p3,p4,p5,p6⟩:=P.zaU (zfJ h1);have hat:(toHp h).pages[j]?=some (toPg (h.2.2.1.getD j PG0)):=zbe hj
 have hpg:P.pgAt (toHp h) (j:Int)=toPg (h.2.2.1.getD j PG0):=by
  unfold P.pgAt;rw [qad];exact P.zav hat
 have hub:=fun hk=>zug p1 p6 hat hk
 have hsm:=fun hk=>P.zjR p6 hat hk
 have hok:=P.zbb.1 p6 j _ hat;have cp:=P.zai p1;have hnp:(toHp h).np=h.1.2.1:=rfl
 have hpw:(toHp h).pw=h.1.1:=rfl
 have hjn:(j:Int)<h.1.2.1:=by rw [<-hnp];omega
 have hcB:confB h.1.1 h.1.2.1=true:=by rw [<-zaH];exact p1
 generalize hG:h.2.2.1.getD j PG0=G at hpg hub hsm hok
 obtain ⟨gk,gs,gu,gp,_⟩:=G;have hub:gk=1\/gk=2->0<=gu/\gu<=1000:=hub
 have hsm:gk=1->_:=hsm
 have hk:(P.pgAt (toHp h) (j:Int)).kind=gk:=by rw [hpg];rfl
 have hu:(P.pgAt (toHp h) (j:Int)).used=gu:=by rw [hpg];rfl
 have hkc:(gk=0\/gk=3)/\gu=0\/gk=1\/gk=2:=by
  unfold P.zbG at hok;have e:(toPg (gk,gs,gu,gp,())).kind=gk:=rfl
  have e2:(toPg (gk,gs,gu,gp,())).used=gu:=rfl
  rw [e]at hok;by_cases k0:gk=0
  · rw [if_pos k0]at hok;unfold P.zpH at hok;have:=qar hok
    rw [e2]at this;exact .inl ⟨.inl k0,this.2.1⟩
  · by_cases k1:gk=1
    · exact .inr (.inl k1)
    · by_cases k2:gk=2
      · exact .inr (.inr k2)
      · by_cases k3:gk=3
        · rw [if_neg k0,if_neg k1,if_neg k2,if_pos k3]at hok;unfold P.zd2 at hok;have:=qar (qbh.1 hok).1
          rw [e2]at this;exact .inl ⟨.inr k3,this.1⟩
        · rw [if_neg k0,if_neg k1,if_neg k2,if_neg k3]at hok;cases hok
 have step:∀ o:Nat,zbT (h,(j:Int),()) (o:Int)=cond (decide ((o:Int)<gu)) ((F_page_Address (h.1,(j:Int),(o:Int),())).bind fun r=>(F_object_At (h,r.1.1,())).bind fun q=>
  cond (errB (xP r q)) (some (.inl (xP r q,none))) ((F_header_Size (q.1.1,())).bind fun u=>some (.inl (xP r q,some (IntKind.i64.wrap ((o:Int)+u.1.1)))))) (some (.inr ())):=fun o=>by
  rw [zvT];dsimp only;rw [zaj.2 ⟨by omega,by omega⟩,qah,qad]
  have:h.2.2.1.getD j (0,0,0,0,())=(gk,gs,gu,gp,()):=hG
  rw [this]
 have up:∀ (f o:Nat),gu.toNat-o<=f->(o=0\/gk=1)->o<=2000->(gk=1\/gk=2)->∃ n L,zcc (zbT (h,(j:Int),())) n (o:Int)=some L/\okL L=true/\L.length<=f+1/\zwN (toHp h) (P.zb1 (toHp h) j (decide (gk=2)) gu.toNat o) L:=by
  intro f;induction f with
  | zero=>
   intro o hf ho ho2 hk12;refine ⟨1,[],?_,rfl,by simp,?_⟩
   · simp only [zcc];rw [step o,qaj (by have:=hub hk12;omega)];rfl
   · rw [P.zbF (by omega)];exact ⟨rfl,by simp⟩
  | succ f ih=>
   intro o hf ho ho2 hk12;have hgu:=hub hk12;by_cases hlt:o<gu.toNat
   · have hop:(o:Int)<h.1.1:=by
      rcases ho with rfl | k1
      · rw [<-hpw];omega
      · have h2:=(hsm k1).2.1.2;have e2:(toPg (gk,gs,gu,gp,())).used=gu:=rfl
        rw [e2]at h2;rw [<-hpw];omega
     have hA:=zf0 h.1.1 h.1.2.1 (j:Int) (o:Int) hcB ⟨by omega,hjn,by omega,hop⟩
     obtain ⟨ead,-⟩:=P.zdy p1 (p:=(j:Int)) (o:=(o:Int)) (qac ⟨by omega,hjn,by omega,by rw [hpw];exact hop⟩)
     obtain ⟨e19,epo,eok⟩:=at_page h1 (j:=j) (o:=(o:Int)) hjn ⟨by omega,by rw [hpw];exact hop⟩
     have hab:=P.zle (toHp h).pw (toHp h).np j o;rw [ead]at hab;have hq:=zgu h hw _ hab;generalize ha:4096+(j:Int)*(toHp h).pw+(o:Int)=a at *
     have ha':4096+(j:Int)*h.1.1+(o:Int)=a:=ha
     rw [ha']at hA;obtain ⟨⟨⟨⟨k',n,m,_⟩,e,_⟩,_⟩,hF,he,hH⟩:=hq;have hA2:F_page_Address (h.1,(j:Int),(o:Int),())=some ((a,0,()),()):=hA
     have ek:(P.atH (toHp h) a).k=k':=(congrArg P.Hd.k hH).symm
     have en:(P.atH (toHp h) a).n=n:=(congrArg P.Hd.n hH).symm
     have em:(P.atH (toHp h) a).m=m:=(congrArg P.Hd.m hH).symm
     have he:e=P.atE (toHp h) a:=he
     have hx:xP ((a,0,()),()) (((k',n,m,()),e,()),())=itm (toHp h) a:=by
      unfold xP itm;rw [ek,en,em,<-he]
     have hst:=step o;rw [qac (by omega),qah,hA2,qab,hF,qab,hx,zjY]at hst
     by_cases e0:P.atE (toHp h) a=0
     · rw [qac e0]at hst;simp only [qbX,qag]at hst;obtain ⟨-,a2,a3,a4,a5,a6⟩:=P.zgn e0;rw [ek,en,em]at a2;rw [em]at a3 a4;rw [en]at a5 a6;rw [zeB k' n m ⟨a3,a4⟩,qab,P.zcm a2]at hst;have w:IntKind.i64.wrap ((o:Int)+(n+1))=((o+(n.toNat+1):Nat):Int):=by
        show W _=_
        rw [W_id (by omega)];omega
       dsimp only at hst
       rw [w]at hst;have hes:errB (itm (toHp h) a)=false:=by rw [zjY,qac e0];rfl
       rcases hk12 with k1 | k2
       · obtain ⟨N,L,g1,g2,g3,g4⟩:=ih (o+(n.toNat+1)) (by omega) (.inr k1) (by omega) (.inl k1)
         have hdf:decide (gk=2)=false:=qaj (by omega)
         rw [hdf]at g4;refine ⟨N+1,itm (toHp h) a::L,?_,zwi hes g2,by simp;omega,?_⟩
         · simp only [zcc];rw [hst];dsimp only;rw [g1];rfl
         · rw [hdf];have hws:=P.zcZ (h:=toHp h) (i:=(j:Int)) (u:=gu.toNat) (o:=o) hlt (by rw [ead];exact e0)
           rw [ead,en]at hws;rw [hws];exact g4.cons e0
       · have ho0:o=0:=by omega
         subst ho0;have hdt:decide (gk=2)=true:=qac k2
         have hfull:gu=n+1:=by
          have hB:P.atB (toHp h) a=true:=by
           unfold P.atE at e0;rw [if_pos h1]at e0;split at e0
           · cases hb:P.atB (toHp h) a with
             | true=>rfl
             | false=>rw [hb]at e0;simp at e0
           · omega
          unfold P.atB at hB;rw [epo,hk,hu]at hB;rw [if_neg (by omega)]at hB
          simp only [qae,qaa]at hB;have hn2:(P.atH (toHp h) a).n=P.dN (P.zaw (toHp h) a):=by unfold P.atH;rw [if_pos e0];rfl
          rw [en]at hn2;omega
         refine ⟨2,[itm (toHp h) a],?_,rfl,by simp,?_⟩
         · simp only [zcc];rw [hst];dsimp only;rw [step,qaj (by omega)];rfl
         · rw [hdt];have hws:=P.zdE (h:=toHp h) (i:=(j:Int)) (u:=gu.toNat) (o:=0) hlt (by rw [ead];exact e0)
           rw [ead]at hws;rw [hws];exact ⟨rfl,by simpa using e0⟩
     · rw [qaj e0]at hst;simp only [Bool.not_false,qah]at hst;refine ⟨1,[itm (toHp h) a],?_,rfl,by simp,?_⟩
       · simp only [zcc];rw [hst]
       · rw [P.zcU hlt (by rw [ead];exact e0)]
         exact ⟨[],a,rfl,by simp,e19.resolve_left e0⟩
   · refine ⟨1,[],?_,rfl,by simp,?_⟩
     · simp only [zcc];rw [step o,qaj (by omega)];rfl
     · rw [P.zbF hlt];exact ⟨rfl,by simp⟩
 rcases hkc with ⟨k03,hu0⟩ | hk12
 · refine ⟨[],?_,by simp,.inl ?_⟩
   · unfold listP;have:zcc (zbT (h,(j:Int),())) 1 ((0:Nat):Int)=some []:=by
      simp only [zcc];rw [step 0,qaj (by omega)];rfl
     rw [show (0:Int)=((0:Nat):Int) from rfl,zpx this];rfl
   · obtain ⟨e1,e2⟩:=P.ze0 h1 hin (by rw [hk];exact k03)
     rw [e1,e2];exact ⟨rfl,rfl,by simp⟩
 · obtain ⟨n,L,g1,g2,g3,g4⟩:=up 1001 0 (by have:=hub hk12;omega) (.inl rfl) (by omega) hk12
   refine ⟨L,?_,g3,?_⟩
   · unfold listP;rw [show (0:Int)=((0:Nat):Int) from rfl,zpx g1,qab,g2];rfl
   · have hW:P.zco (toHp h) (j:Int)=P.zb1 (toHp h) j (decide (gk=2)) gu.toNat 0:=by
      unfold P.zco;rw [hk,hu]
     have hnk:¬((P.pgAt (toHp h) (j:Int)).kind=0\/(P.pgAt (toHp h) (j:Int)).kind=3):=by rw [hk];omega
     rw [<-hW]at g4;cases hq:P.zco (toHp h) (j:Int) with
     | none=>
      rw [hq]at g4;exact .inr ⟨(P.zoU h1 hin hnk hq).1,g4⟩
     | some l=>
      rw [hq]at g4;obtain ⟨e1,e2⟩:=P.zgL h1 hin hnk hq;rw [e1,e2];exact .inl ⟨rfl,g4.1,g4.2⟩
end Go.VI
namespace Go.VI
open Go Go.Proofs
theorem lenH_eq(d:Pden psH):lenH d=(d.1.2.2.1.length:Int):=by kernel_rfl
theorem zwn(d:Pden psH)(n v:Int):nextH d n v=IntKind.i64.wrap (v+1):=by kernel_rfl
theorem zmG{h:P.Hp}:∀ {l:List Int},(∀ x∈l,P.atE h x=0)->zdW (l.map (itm h))=false
 | [],_=>rfl
 | [a],hl=>by
  show errB (itm h a)=false
  rw [zjY,qac (hl a (by simp))];rfl
 | a::b::l,hl=>zmG (l:=b::l) fun x hx=>hl x (qaH _ hx)
def znW(h:P.Hp)(k:Nat):List Int:=(List.range' k (h.pages.length-k)).flatMap fun (t:Nat)=>P.zaD h t
theorem X_listH(h:HpD)(hw:HpW h):∃ L,listH (h,())=some L/\L.length<=100000/\(
 (P.okH (toHp h)=false/\L=[xErr]) \/
 (P.okH (toHp h)=true/\P.zbS (toHp h)=0/\L=(P.zaL (toHp h)).map (itm (toHp h))/\∀ x∈P.zaL (toHp h),P.atE (toHp h) x=0) \/
 (P.okH (toHp h)=true/\P.zbS (toHp h)=19/\∃ (l:List Int) (a:Int),L=l.map (itm (toHp h))++[itm (toHp h) a]/\(∀ x∈l,P.atE (toHp h) x=0)/\P.atE (toHp h) a=19)):=by
 obtain ⟨⟨⟨b,_⟩,_⟩,hF,hb⟩:=zbQ h hw;have hb:b=P.okH (toHp h):=hb
 subst hb;unfold listH;dsimp only;rw [hF,qab,lenH_eq];dsimp only;cases h1:P.okH (toHp h) with
 | false=>exact ⟨[xErr],rfl,by simp,.inl ⟨rfl,rfl⟩⟩
 | true=>
 simp only [qah];have hlm:(toHp h).pages.length=h.2.2.1.length:=qai ..
 obtain ⟨p1,p2,p3,p4,p5,p6⟩:=P.zaU (zfJ h1);have cp:=P.zai p1;have hn64:h.2.2.1.length<=64:=by omega
 have up:∀ (f k:Nat),k+f=h.2.2.1.length->∃ L,pagesH (h,()) (h.2.2.1.length:Int) (f+1) (k:Int)=some L/\L.length<=1002*f /\
  (((∀ t,k<=t->t<h.2.2.1.length->P.zbc (toHp h) (t:Nat)=0)/\L=(znW (toHp h) k).map (itm (toHp h))/\∀ x∈znW (toHp h) k,P.atE (toHp h) x=0)\/((∃ t,k<=t/\t<h.2.2.1.length/\¬P.zbc (toHp h) (t:Nat)=0)/\∃ (l:List Int) (a:Int),L=l.map (itm (toHp h))++[itm (toHp h) a]/\(∀ x∈l,P.atE (toHp h) x=0)/\P.atE (toHp h) a=19)):=by
  intro f;induction f with
  | zero=>
   intro k hk;refine ⟨[],?_,by simp,.inl ⟨fun t h1 h2=>by omega,?_,?_⟩⟩
   · simp only [pagesH];rw [qaj (by omega)];rfl
   · unfold znW;rw [show (toHp h).pages.length-k=0 by omega];rfl
   · unfold znW;rw [show (toHp h).pages.length-k=0 by omega];simp
  | succ f ih=>
   intro k hk;obtain ⟨Lp,q1,q2,q3⟩:=zvF h hw h1 k (by omega)
   have w:IntKind.i64.wrap ((k:Int)+1)=((k+1:Nat):Int):=by
    show W _=_
    rw [W_id (by omega)];omega
   have hst:pagesH (h,()) (h.2.2.1.length:Int) (f+1+1) (k:Int)=cond (zdW Lp) (some Lp) ((pagesH (h,()) (h.2.2.1.length:Int) (f+1) ((k+1:Nat):Int)).map (Lp ++ ·)):=by
    rw [pagesH,qac (by omega),qah]
    dsimp only;rw [q1,qab,zwn,w]
   rcases q3 with ⟨e0,eL,eA⟩ | ⟨e19,l,a,eL,eA,ea⟩
   · obtain ⟨L,g1,g2,g3⟩:=ih (k+1) (by omega)
     rw [eL,zmG eA,qag,g1,<-eL]at hst;have hfr:znW (toHp h) k=P.zaD (toHp h) (k:Nat)++znW (toHp h) (k+1):=by
      unfold znW;rw [show (toHp h).pages.length-k=((toHp h).pages.length-(k+1))+1 by omega,qcl];rfl
     refine ⟨Lp++L,hst,by simp;omega,?_⟩
     rcases g3 with ⟨z1,z2,z3⟩ | ⟨⟨t,t1,t2,t3⟩,l,a,z2,z3,z4⟩
     · refine .inl ⟨fun t t1 t2=>?_,by rw [hfr,qbM,eL,z2],fun x hx=>?_⟩
       · by_cases hh:t=k
         · subst hh;exact e0
         · exact z1 t (by omega) t2
       · rw [hfr]at hx;rcases qas.1 hx with hx | hx
         · exact eA x hx
         · exact z3 x hx
     · refine .inr ⟨⟨t,by omega,t2,t3⟩,P.zaD (toHp h) (k:Nat)++l,a,by rw [eL,z2];simp,fun x hx=>?_,z4⟩
       rcases qas.1 hx with hx | hx
       · exact eA x hx
       · exact z3 x hx
   · have he:zdW Lp=true:=by
      rw [eL,zdP,zjY,qaj (by omega)];rfl
     rw [he,qah]at hst;exact ⟨Lp,hst,by omega,.inr ⟨⟨k,by omega,by omega,by omega⟩,l,a,eL,eA,ea⟩⟩
 obtain ⟨L,g1,g2,g3⟩:=up h.2.2.1.length 0 (by omega)
 have hf0:znW (toHp h) 0=P.zbw (toHp h) (toHp h).pages.length:=by
  unfold znW P.zbw;rw [List.range_eq_range',Nat.sub_zero]
 refine ⟨L,g1,by omega,.inr ?_⟩
 rcases g3 with ⟨z1,z2,z3⟩ | ⟨⟨t,t1,t2,t3⟩,l,a,z2,z3,z4⟩
 · obtain ⟨s1,s2⟩:=P.zd3 h1 (fun t ht=>z1 t (by omega) (by rw [<-hlm];exact ht))
   refine .inl ⟨trivial,s1,?_,?_⟩
   · rw [s2,<-hf0];exact z2
   · rw [s2,<-hf0];exact z3
 · obtain ⟨s1,s2⟩:=P.zoH h1 (by rw [hlm];exact t2) t3
   exact .inr ⟨trivial,s1,l,a,z2,z3,z4⟩
end Go.VI
namespace Go.VI
open Go Go.Proofs
abbrev LS:=Unit×(List Int×Unit)×(List Int×Unit)×(Int×Unit)×(Unit×Unit)×Unit
def lf(kp:(Int×Int×Int×Unit)×Unit->Option ((Bool×Unit)×Unit))(y:Tden tsW)(x:LS):Option (LS⊕LS) :=
 bif y.2.1.2.1 != 0 then some (Sum.inr ((),(x.2.1.1,()),([],()),(y.2.1.2.1,()),((),()),()))
 else (kp ((y.2.1.1.1,y.2.1.1.2.1,y.2.1.1.2.2.1,()),())).bind fun (r:(Bool×Unit)×Unit)=>
  bif bif r.1.1 then zaJ (x.2.1.1.length + [y.1].length) 8 else true then
   bif r.1.1 then some (Sum.inl ((),(x.2.1.1++[y.1],()),(x.2.2.1.1,()),(x.2.2.2.1.1,()),((),()),()))
   else some (Sum.inl ((),(x.2.1.1,()),(x.2.2.1.1,()),(x.2.2.2.1.1,()),((),()),()))
  else none
theorem lf_ok{h:P.Hp}{kp:(Int×Int×Int×Unit)×Unit->Option ((Bool×Unit)×Unit)}{kb:Int->Bool}(hk:∀ k n m,kp ((k,n,m,()),())=some ((kb k,()),())){R:List (Tden tsW)}:∀ (l acc:List Int) (c:List Int) (e:Int),(∀ x∈l,P.atE h x=0)->acc.length+l.length<=200000 ->
 zhf (lf kp) (l.map (itm h)++R) ((),(acc,()),(c,()),(e,()),((),()),())=zhf (lf kp) R ((),(acc++l.filter (fun a=>kb (P.atH h a).k),()),(c,()),(e,()),((),()),())
 | [],acc,c,e,_,_=>by simp
 | a::l,acc,c,e,ha,hl=>by
  have h0:=ha a (by simp)
  have he:(P.atE h a != 0)=false:=by rw [h0];rfl
  have hst:lf kp (itm h a) ((),(acc,()),(c,()),(e,()),((),()),())=some (.inl ((),(acc++[a].filter (fun a=>kb (P.atH h a).k),()),(c,()),(e,()),((),()),())):=by
   unfold lf itm;dsimp only;rw [he,qag,hk,qab];have hs:zaJ (acc.length+1) 8=true:=zan.2 (by simp at hl;omega)
   cases hb:kb (P.atH h a).k with
   | true=>simp [hs,hb]
   | false=>simp [hb]
  simp only [qaY,qaF,zhf];rw [hst];dsimp only;rw [lf_ok hk l _ c e (fun x hx=>ha x (by simp [hx])) (by have:=qbz (fun a=>kb (P.atH h a).k) [a];simp at hl this ⊢;omega)]
  rw [qaN,<-qcj];rfl
theorem zw3{h:P.Hp}{kp:(Int×Int×Int×Unit)×Unit->Option ((Bool×Unit)×Unit)}{kb:Int->Bool}(hk:∀ k n m,kp ((k,n,m,()),())=some ((kb k,()),())){l:List Int}(hl:∀ x∈l,P.atE h x=0)(hn:l.length<=200000):
 zhf (lf kp) (l.map (itm h)) ((),([],()),([],()),(0,()),((),()),())=some (.inl ((),(l.filter (fun a=>kb (P.atH h a).k),()),([],()),(0,()),((),()),())):=by
 have:=lf_ok hk (R:=[]) l [] [] 0 hl (by simpa using hn)
 rw [qaZ]at this;rw [this];rfl
theorem zw2{h:P.Hp}{kp:(Int×Int×Int×Unit)×Unit->Option ((Bool×Unit)×Unit)}{kb:Int->Bool}(hk:∀ k n m,kp ((k,n,m,()),())=some ((kb k,()),())){l:List Int}{y:Tden tsW}(hy:y.2.1.2.1≠0)(hl:∀ x∈l,P.atE h x=0)(hn:l.length<=200000):
 zhf (lf kp) (l.map (itm h)++[y]) ((),([],()),([],()),(0,()),((),()),())=some (.inr ((),(l.filter (fun a=>kb (P.atH h a).k),()),([],()),(y.2.1.2.1,()),((),()),())):=by
 rw [lf_ok hk (R:=[y]) l [] [] 0 hl (by simpa using hn)]
 have:(y.2.1.2.1 != 0)=true:=by simpa using hy
 simp only [zhf,lf,this,qah,qaV]
theorem anyK(k n m:Int):F_walk_isAny ((k,n,m,()),())=some ((true,()),()):=by rw [znw]
theorem objK(k n m:Int):F_walk_isObject ((k,n,m,()),())=some ((k != 0,()),()):=by rw [zjr]
theorem objs_eq(h:P.Hp)(l:List Int):l.filter (fun a=>(P.atH h a).k != 0)=P.zbW h l:=by
 unfold P.zbW;congr 1
 funext a
 by_cases e:(P.atH h a).k=0 <;> simp [e]
theorem ztR(h:HpD)(hw:HpW h):F_walk_list_c_walk_inHeap_S1_walk_isObject (h,())=some ((P.zag (toHp h),P.zbS (toHp h),()),(h,())):=by
 have hnf:F_walk_list_c_walk_inHeap_S1_walk_isObject (h,())=((listH (h,())).bind fun L=>zhf (lf F_walk_isObject) L ((),([],()),([],()),(0,()),((),()),())).bind fun r=>Sum.elim (fun (x:LS)=>some ((x.2.1.1,0,()),(h,()))) (fun (y:LS)=>some ((y.2.2.1.1,y.2.2.2.1.1,()),(h,()))) r:=by
  rw [zby];rfl
 obtain ⟨L,h1,h2,h3⟩:=X_listH h hw;rw [hnf,h1,qab];rcases h3 with ⟨b1,b2⟩ | ⟨b1,b2,b3,b4⟩ | ⟨b1,b2,l,a,b3,b4,b5⟩
 · obtain ⟨e1,e2⟩:=P.zmk b1;rw [b2];unfold P.zag;rw [e1,e2];rfl
 · rw [b3,zw3 (kb:=fun k=>k != 0) objK b4 (by rw [b3]at h2;simp at h2;omega),qab,b2]
   rw [objs_eq];rfl
 · rw [b3,zw2 (kb:=fun k=>k != 0) objK (y:=itm (toHp h) a) (by show P.atE (toHp h) a≠0;omega) b4 (by rw [b3]at h2;simp at h2;omega),qab]
   have hV:P.zaL (toHp h)=[]:=by unfold P.zbS at b2;unfold P.zaL;rw [if_pos b1]at b2 ⊢;split at b2 <;> simp_all
   unfold P.zag;rw [hV,b2];show some (([],P.atE (toHp h) a,()),(h,()))=_
   rw [b5];rfl
theorem zfY(h:HpD)(hw:HpW h):F_walk_Objects (h,())=some ((P.zag (toHp h),P.zbS (toHp h),()),()):=by
 rw [zku];dsimp only
 rw [zar,zlL];dsimp only;rw [qab];dsimp only;rw [ztR h hw];rfl
theorem zlg(h:HpD)(hw:HpW h)(i:Int):F_walk_Page (h,i,())=some ((P.zaD (toHp h) i,P.zbc (toHp h) i,()),()):=by
 rw [zo0];dsimp only
 rw [zar];obtain ⟨⟨⟨b,_⟩,_⟩,hF,hb⟩:=zbQ h hw;have hb:b=P.okH (toHp h):=hb
 subst hb;rw [hF,qab];dsimp only;cases h1:P.okH (toHp h) with
 | false=>
  obtain ⟨e1,e2⟩:=P.znr (i:=i) h1
  rw [e1,e2];rfl
 | true=>
 simp only [qbX,qag];have hlm:(toHp h).pages.length=h.2.2.1.length:=qai ..
 by_cases hr:i<0\/(h.2.2.1.length:Int)<=i
 · obtain ⟨e1,e2⟩:=P.znq (i:=i) h1 (by rw [hlm];exact hr)
   rw [e1,e2];rcases hr with hr | hr
   · rw [qac hr];rfl
   · by_cases hi:i<0
     · rw [qac hi];rfl
     · rw [qaj hi,qac (show i >= (h.2.2.1.length:Int) from hr)];rfl
 rw [qaj (show ¬i<0 by omega),qaj (show ¬i >= (h.2.2.1.length:Int) by omega),zlK]
 dsimp only;simp only [qag,qab];obtain ⟨j,rfl⟩:=qaQ (show 0<=i by omega)
 have hnf:F_walk_list_c_walk_inPage_S1_walk_isAny (h,(j:Int),())=((listP (h,(j:Int),())).bind fun L=>zhf (lf F_walk_isAny) L ((),([],()),([],()),(0,()),((),()),())).bind fun r=>Sum.elim (fun (x:LS)=>some ((x.2.1.1,0,()),(h,(j:Int),()))) (fun (y:LS)=>some ((y.2.2.1.1,y.2.2.2.1.1,()),(h,(j:Int),()))) r:=by
  rw [zbJ];rfl
 obtain ⟨L,g1,g2,g3⟩:=zvF h hw h1 j (by omega)
 rw [zar,hnf,g1,qab];rcases g3 with ⟨b2,b3,b4⟩ | ⟨b2,l,a,b3,b4,b5⟩
 · rw [b3,zw3 anyK b4 (by rw [b3]at g2;simp at g2;omega),qab,b2]
   simp
 · rw [b3,zw2 anyK (y:=itm (toHp h) a) (by show P.atE (toHp h) a≠0;omega) b4 (by rw [b3]at g2;simp at g2;omega),qab]
   have hV:P.zaD (toHp h) j=[]:=by
    unfold P.zbc at b2;unfold P.zaD
    rw [if_pos h1]at b2 ⊢
    split at b2
    · omega
    · rename_i q;rw [if_neg q];split at b2
      · omega
      · rename_i q2;rw [if_neg q2];cases hq:P.zco (toHp h) j with
        | none=>rfl
        | some l=>rw [hq]at b2;simp at b2
   rw [hV,b2];show some (([],P.atE (toHp h) a,()),())=_
   rw [b5]
end Go.VI
namespace Go.VI
open Go Go.Proofs
abbrev CnT:=Int×Int×Int×Int×Int×Unit
def cs(h:P.Hp)(c:CnT)(a:Int):CnT:=if (P.atH h a).k=0 then (c.1,c.2.1,W (c.2.2.1+1),W (c.2.2.2.1+((P.atH h a).n+1)),c.2.2.2.2.1,()) else (W (c.1+1),W (c.2.1+((P.atH h a).n+1)),c.2.2.1,c.2.2.2.1,c.2.2.2.2.1,())
abbrev CS:=Unit×Unit×CnT×(Int×Unit)×CnT×Unit
def cf(y:Tden tsW)(x:CS):Option (CS⊕CS) :=
 bif y.2.1.2.1 != 0 then some (Sum.inr ((),(),(0,0,0,0,0,()),(y.2.1.2.1,()),(x.2.2.2.2.1.1,x.2.2.2.2.1.2.1,x.2.2.2.2.1.2.2.1,x.2.2.2.2.1.2.2.2.1,x.2.2.2.2.1.2.2.2.2.1,()),()))
 else (F_header_Size ((y.2.1.1.1,y.2.1.1.2.1,y.2.1.1.2.2.1,()),())).bind
  fun (r:(Int×Unit)×Unit)=>(F_walk_isObject ((y.2.1.1.1,y.2.1.1.2.1,y.2.1.1.2.2.1,()),())).bind
  fun (r_1:(Bool×Unit)×Unit)=>
  bif r_1.1.1 then some (Sum.inl ((),(),(x.2.2.1.1,x.2.2.1.2.1,x.2.2.1.2.2.1,x.2.2.1.2.2.2.1,x.2.2.1.2.2.2.2.1,()),(x.2.2.2.1.1,()),(W (x.2.2.2.2.1.1+1),W (x.2.2.2.2.1.2.1+r.1.1),x.2.2.2.2.1.2.2.1,x.2.2.2.2.1.2.2.2.1,x.2.2.2.2.1.2.2.2.2.1,()),()))
  else some (Sum.inl ((),(),(x.2.2.1.1,x.2.2.1.2.1,x.2.2.1.2.2.1,x.2.2.1.2.2.2.1,x.2.2.1.2.2.2.2.1,()),(x.2.2.2.1.1,()),(x.2.2.2.2.1.1,x.2.2.2.2.1.2.1,W (x.2.2.2.2.1.2.2.1+1),W (x.2.2.2.2.1.2.2.2.1+r.1.1),x.2.2.2.2.1.2.2.2.2.1,()),()))
end Go.VI
namespace Go.VI
open Go Go.Proofs
theorem zkq(h:P.Hp):(P.zag h).length<=4096:=by
 unfold P.zag P.zbW;exact qaD (qbz _ _) (P.zcG h)
end Go.VI
namespace Go.VI
open Go Go.Proofs
theorem zd7(h:P.Hp)(i:Int):(P.zaD h i).length<=64:=by
 cases h1:P.okH h with
 | false=>rw [(P.znr (i:=i) h1).2];simp
 | true=>exact P.ze1 h1
end Go.VI
namespace Go.VI.P
open Go
theorem zoF{sz:Int->Int}{a b:Int}(hb:b=a+sz a):∀ {l:List Int} {x E:Int},Tile sz x E l->a∈l->b∈l->Tile (fun y=>if y=a then sz a+sz b else sz y) x E (l.filter fun y=>decide (¬y=b))
 | [],x,E,h,ha,_=>by cases ha
 | q::r,x,E,h,ha,hbm=>by
  obtain ⟨h1,h2,h3⟩:=h;by_cases e:q=a
  · subst e;have hne:¬q=b:=by omega
    rw [List.filter_cons_of_pos (by exact qac hne)]
    have hbr:b∈r:=by
     rcases qat.1 hbm with c | c
     · exact absurd c.symm hne
     · exact c
    cases r with
    | nil=>cases hbr
    | cons q2 r2=>
     obtain ⟨g1,g2,g3⟩:=h3;have e2:q2=b:=by omega
     subst e2;rw [List.filter_cons_of_neg (by simp)]
     have hr:∀ y∈r2,q2+sz q2<=y:=fun y hy=>(zna (by rw [<-g1]at g3;exact g3) y hy).1
     rw [List.filter_eq_self.2 fun y hy=>qac (by have:=hr y hy;omega)]
     refine ⟨h1,?_,?_⟩
     · simp only [if_true];omega
     · simp only [if_true];rw [show x+(sz q+sz q2)=x+sz q+sz q2 by omega]
       exact zde (fun y hy=>by rw [if_neg];have:=hr y hy;omega) g3
  · have har:a∈r:=by
     rcases qat.1 ha with c | c
     · exact absurd c.symm e
     · exact c
    have t:=zna h3 a har;have hne:¬q=b:=by omega
    have hbr:b∈r:=by
     rcases qat.1 hbm with c | c
     · exact absurd c.symm hne
     · exact c
    rw [List.filter_cons_of_pos (by exact qac hne)]
    refine ⟨h1,?_,?_⟩
    · simp only [if_neg e];exact h2
    · simp only [if_neg e];exact zoF hb h3 har hbr
theorem zkQ{p:Int->Bool}{f g:Nat->List Int}:∀ (l:List Nat),(∀ k∈l,g k=(f k).filter p)->l.flatMap g=(l.flatMap f).filter p
 | [],_=>rfl
 | k::l,h=>by
  rw [List.flatMap_cons,List.flatMap_cons,qcj,h k (qbe ..),zkQ l fun j hj=>h j (qaH _ hj)]
theorem join{h:Hp}(G:Good h){a b:Int}(ha:a∈zaL h)(hb:b∈zaL h)(hab:b=a+osz h a)(hpage:(a-4096) / h.pw=(b-4096) / h.pw):
 zaA 0 (osz h a+osz h b-1) 0=true/\zim h a 0 (osz h a+osz h b-1) 0=0/\zbS (zkI h a 0 (osz h a+osz h b-1) 0)=0/\zaL (zkI h a 0 (osz h a+osz h b-1) 0)=(zaL h).filter fun y=>decide (¬y=b):=by
 have hok:=G.ok;obtain ⟨p1,p2,p3,p4,p5,p6,p7⟩:=zaq hok;have c:=zai p1;obtain ⟨k,hk,hak⟩:=(zcF hok G.pg).1 ha;obtain ⟨k2,hk2,hbk⟩:=(zcF hok G.pg).1 hb;obtain ⟨j,g,ba⟩:=zb6 hok hk hak;obtain ⟨j2,g2,bb⟩:=zb6 hok hk2 hbk;have ea:=ba.ad;have eb:=bb.ad;have ja:=ba.jl;have jb:=bb.jl;have e1:(a-4096) / h.pw=k:=by
  rw [ea,show 4096+(k:Int)*h.pw+j-4096=j+(k:Int)*h.pw by omega,qcq _ _ (by omega),qcB (by omega) ja];omega
 have e2:(b-4096) / h.pw=k2:=by
  rw [eb,show 4096+(k2:Int)*h.pw+j2-4096=j2+(k2:Int)*h.pw by omega,qcq _ _ (by omega),qcB (by omega) jb];omega
 obtain rfl:k=k2:=by omega
 have hgg:g2=g:=by have:=bb.pg;rw [ba.pg]at this;injection this with this;exact this.symm
 subst hgg;have pa:=ba.pos;have pb:=bb.pos;have hkd:=bb.kd;have h1:g2.kind=1/\j2+osz h b<=g2.used/\g2.used<=h.pw:=by
  rcases hkd with q | q
  · exact q
  · omega
 obtain ⟨t1,t2,t3,t4⟩:=zmm hok ba.pg h1.1 (G.pg k hk);have hv:zaA 0 (osz h a+osz h b-1) 0=true:=zgB (by omega)
 have hb1:=bb.wl;have hlenL:=zhb (k:=0) (n:=osz h a+osz h b-1) (m:=0)
 have hoA:okA h.words.length a (zdv 0 (osz h a+osz h b-1) 0).length=true:=zaE.2 (by omega)
 have hE:zim h a 0 (osz h a+osz h b-1) 0=0:=by
  unfold zim;rw [if_pos ⟨hv,hok⟩];unfold zeS;rw [if_pos hoA]
 refine ⟨hv,hE,?_⟩;have hV:zkI h a 0 (osz h a+osz h b-1) 0={ h with words:=zaF h.words a (zdv 0 (osz h a+osz h b-1) 0) }:=by
  unfold zkI;rw [if_pos hE]
 rw [hV];obtain ⟨l1,l2,l3⟩:=zu6 (k:=0) (m:=0) (n:=osz h a+osz h b-1) (by omega) hoA
 have okX:okH { h with words:=zaF h.words a (zdv 0 (osz h a+osz h b-1) 0) }=true:=by
  rw [zuP (zd1 hoA)];exact hok
 generalize hH:({ h with words:=zaF h.words a (zdv 0 (osz h a+osz h b-1) 0) }:Hp)=H at *
 have eW:H.words=zaF h.words a (zdv 0 (osz h a+osz h b-1) 0):=by rw [<-hH]
 have eP:H.pages=h.pages:=by rw [<-hH]
 have epw:H.pw=h.pw:=by rw [<-hH]
 rw [<-eW]at l1 l3;have hwA:zaw H a=(zdD 0 (osz h a+osz h b-1) 0).toNat:=by rw [zdh pa.2,l1]
 have hwb:=zqs hv (by omega)
 obtain ⟨d1,d2,d3,d4⟩:=zr7 hv (by omega) (x:=(zdD 0 (osz h a+osz h b-1) 0).toNat) (by omega)
 rw [<-hwA]at d1 d2 d3 d4;have hne:¬a=b:=by omega
 have hout:∀ x∈zaL h,¬x=a->¬x=b->zaw H x=zaw h x:=fun x hx n1 n2=>by
  obtain ⟨i0,-,hx0⟩:=(zcF hok G.pg).1 hx;obtain ⟨xi,xj,xg,bx⟩:=zfX (zfw hx);have px:=bx.pos;have q1:=ziX G hx ha n1;have q2:=ziX G hx hb n2;rw [zdh px.2,zdh px.2,l3 x (by omega)]
 have pages:∀ t:Nat,t<h.pages.length->zbc H t=0/\zaD H t=(zaD h t).filter fun y=>decide (¬y=b):=fun t ht=>by
  by_cases e:t=k
  · subst e;refine zmn okX (by rw [eP];exact ba.pg) h1.1 t1 (by rw [epw];exact t2) (sz:=fun y=>if y=a then osz h a+osz h b else osz h y) (by rw [epw];exact zoF hab t3 hak hbk) fun q hq=>?_
    obtain ⟨hq1,hq2⟩:=qbG.1 hq;have hq2:¬q=b:=qar hq2
    by_cases eq:q=a
    · subst eq;refine ⟨d1,?_⟩;simp only [if_true];omega
    · rw [hout q ((zcF hok G.pg).2 ⟨t,ht,hq1⟩) eq hq2];simp only [if_neg eq];exact t4 q hq1
  · have hnot:∀ x∈zaD h t,¬x=a/\¬x=b:=fun x hx=>by
     obtain ⟨xj,xg,bx⟩:=zb6 hok ht hx;have ox:=bx.oi;have oa:=ba.oi;have ob:=bb.oi;constructor
     · intro q;subst q;omega
     · intro q;subst q;omega
    have hg:h.pages[t]?=some h.pages[t]:=qap ht
    obtain ⟨r1,r2⟩:=zuv hok okX epw hg (by rw [eP];exact hg) rfl rfl (G.pg t ht) fun x hx=>hout x ((zcF hok G.pg).2 ⟨t,ht,hx⟩) (hnot x hx).1 (hnot x hx).2
    exact ⟨r1,by rw [r2,List.filter_eq_self.2 fun x hx=>qac (hnot x hx).2]⟩
 have eL:H.pages.length=h.pages.length:=by rw [eP]
 obtain ⟨s1,s2⟩:=zd3 okX (by rw [eL];exact fun t ht=>(pages t ht).1)
 obtain ⟨r1,r2⟩:=zd3 hok G.pg;refine ⟨s1,?_⟩;rw [s2,r2,eL];exact zkQ _ fun t ht=>(pages t (qbJ.1 ht)).2
end Go.VI.P
namespace Go.VI
open Go Go.Proofs
theorem zlc(h:HpD)(hw:HpW h){x:Int}(hx:P.atE (toHp h) x=0):∃ k n m e,F_r05_At (h,x,())=some (((k,n,m,()),e,()),())/\F_r03_Size ((k,n,m,()),())=some ((P.osz (toHp h) x,()),())/\4096<=x/\x<=100004096/\1<=P.osz (toHp h) x/\P.osz (toHp h) x<=256:=by
 obtain ⟨i,j,g,b⟩:=P.zfX hx;have p1:=b.pos;have p2:=b.wl;have p3:(toHp h).words.length<=100000000:=hw.wl
 obtain ⟨⟨⟨⟨(k:Int),(n:Int),(m:Int),_⟩,(e:Int),_⟩,_⟩,hF,-,hH⟩:=zfE h hw x (by omega)
 dsimp only at hH
 obtain ⟨-,a2,a3,a4,a5,a6⟩:=P.zgn hx;have ek:(P.atH (toHp h) x).k=k:=(congrArg P.Hd.k hH).symm
 have en:(P.atH (toHp h) x).n=n:=(congrArg P.Hd.n hH).symm
 have em:(P.atH (toHp h) x).m=m:=(congrArg P.Hd.m hH).symm
 rw [ek,en,em]at a2;rw [em]at a3 a4;have eo:P.osz (toHp h) x=n+1:=by unfold P.osz;rw [en]
 have v:=P.zay a2;exact ⟨k,n,m,e,hF,by rw [zcg k n m ⟨a3,a4⟩,P.zcm a2,eo],p1.2,by omega,p1.1,by omega⟩
end Go.VI
namespace Go.VI
open Go Go.Proofs
abbrev Z3:Int×Int×Int×Unit:=(0,0,0,())
abbrev FX:=(Int×Unit)×Unit×(Int×Int×Int×Unit)×Unit
abbrev FY:=Unit×Unit×(Int×Int×Int×Unit)×Unit⊕Unit×Unit×(Int×Int×Int×Unit)×Unit
theorem zj5{n:Nat}{g:FX->Option (FX⊕FY)}(hn:n<=1000000000)(h:∀ k:Nat,k<n->Tot (fun r=>r = .inl (((k:Int)+1,()),(),Z3,())) (g (((k:Int),()),(),Z3,()))):
 Tot (fun (r:FY)=>r = .inr ((),(),Z3,())) (rl FX FY (fun x=>bif decide (x.1.1<(n:Int)) then g x else some (Sum.inr (Sum.inr ((),(),(x.2.2.1.1,x.2.2.1.2.1,x.2.2.1.2.2.1,()),())))) ((0,()),(),Z3,())):=by
 refine zao (fun x=>∃ k:Nat,x=(((k:Int),()),(),Z3,())/\k<=n) (fun x=>((n:Int)-x.1.1).toNat) ⟨0,rfl,by omega⟩ ?_
 rintro _ ⟨k,rfl,hk⟩;dsimp only;refine zac (fun h1=>?_) fun h1=>zab rfl
 simp only [qaa]at h1;refine (h k (by omega)).mono ?_
 rintro _ rfl;exact ⟨⟨k+1,by rw [show ((k+1:Nat):Int)=(k:Int)+1 by omega],by omega⟩,by dsimp only;omega⟩
theorem zhC:Tot (fun r=>r.1.1=Z3) (F_cmp_Or_audit_Finding ([Z3,Z3],())):=by
 rw [zbz];dsimp only
 refine zad (P:=fun r=>r = .inr ((),(),Z3,())) (zj5 (n:=2) (by omega) fun k hk=>?_) ?_
 · have hk2:k=0\/k=1:=by omega
   rcases hk2 with rfl | rfl
   · exact zae (by decide) (zac (fun c=>by simp at c) fun _=>zab (by rw [W_id (by dsimp only;omega)]))
   · exact zae (by decide) (zac (fun c=>by simp at c) fun _=>zab (by rw [W_id (by dsimp only;omega)]))
 · rintro _ rfl;exact zab rfl
abbrev PtD:=Int×(Int×Int×Int×Unit)×Unit
def ofHd(x:P.Hd):Int×Int×Int×Unit:=(x.k,x.n,x.m,())
def mkp(h:HpD)(x:Int):PtD:=(x,ofHd (P.atH (toHp h) x),())
theorem zhe{α:Type}{f:Int->α}{l:List Int}{k:Nat}{d:α}(hk:k<l.length):(l.map f).getD k d=f (l.getD k 0):=by
 rw [qay,qbo,getD_some hk];rfl
theorem zfo(h:HpD)(hw:HpW h)(i:Int)(he:P.zbc (toHp h) i=0):Tot (fun r=>r.1.1=(P.zaD (toHp h) i).map (mkp h)/\r.1.2.1=0) (F_audit_partsOf (h,i,())):=by
 rw [zeJ];dsimp only
 simp only [zar];rw [zlg h hw i,qab,he];dsimp only;have hax:∀ x∈P.zaD (toHp h) i,P.atE (toHp h) x=0:=fun x hx=>P.zdJ hx
 have hll:=zd7 (toHp h) i;generalize P.zaD (toHp h) i=l at *
 refine zac (fun c=>by simp at c) fun _=>?_
 refine zad (P:=fun r=>∃ y,r = .inr y/\y.2.1.1=l.map (mkp h)) (zao (fun x=>∃ k:Nat,x.1.2.2.2.1=(k:Int)/\k<=l.length/\x.2.1.1=(l.take k).map (mkp h)) (fun x=>((l.length:Int)-x.1.2.2.2.1).toNat) ⟨0,rfl,by omega,rfl⟩ ?_) ?_
 · rintro ⟨⟨q1,q2,q3,(k':Int),_⟩,⟨(acc:List PtD),_⟩,_⟩ ⟨k,e1,e2,e3⟩;dsimp only at e1 e3 ⊢
   subst e1;refine zac (fun h4=>?_) fun h4=>zab ?_
   · simp only [qaa]at h4;have hk:k<l.length:=by omega
     have w:W ((k:Int)+1)=((k+1:Nat):Int):=by rw [W_id (by omega)];omega
     rw [w,qad];have hxa:=hax _ (zaC (d:=0) hk)
     obtain ⟨-,-,-,-,-,-,b1,b2,-,-⟩:=zlc h hw hxa;refine zae (zaj.2 ⟨by omega,h4⟩) (zad (zgu h hw (l.getD k 0) (by omega)) ?_)
     rintro ⟨⟨(hd:Int×Int×Int×Unit),(e':Int),_⟩,_⟩ ⟨he',hH⟩;dsimp only at he' hH ⊢
     rw [hxa]at he'
     subst he'
     have hd2:hd=ofHd (P.atH (toHp h) (l.getD k 0)):=by rw [<-hH];rfl
     have hacc:acc.length<=64:=by rw [e3,qai,qau];omega
     refine zac (fun c=>by simp at c) fun _=>zae (zan.2 (by rw [qbD];omega)) (zab ?_)
     simp only [qaq];refine ⟨⟨k+1,rfl,by omega,?_⟩,by omega⟩
     rw [P.zbk (getD_some hk),qbM,<-e3,hd2];rfl
   · simp only [qaf]at h4;simp only [qan];rw [qa7 (by omega)]at e3
     exact ⟨_,rfl,e3⟩
 · rintro _ ⟨⟨_,⟨y,_⟩,_⟩,rfl,hy⟩;exact zab ⟨hy,rfl⟩
theorem zfp(pw np kind k n m:Int)(hm:0<=m/\m<4294967296):F_audit_belongs ((pw,np,()),kind,(k,n,m,()),())=some ((bif kind == 2 then k != 0 else decide (P.zaO k n m<=P.zdG pw np),()),()):=by
 rw [zjv];dsimp only
 rw [zeB k n m hm,zee];cases (kind == 2) <;> rfl
theorem zln(h:HpD)(i:Nat)(hi:i<h.2.2.1.length)(l:List Int)(hl:l.length<=100000)(hm:∀ x∈l,0<=(P.atH (toHp h) x).m/\(P.atH (toHp h) x).m<4294967296)
 (hb:∀ x∈l,(bif (h.2.2.1.getD i PG0).1 == 2 then (P.atH (toHp h) x).k != 0 else decide (P.zaO (P.atH (toHp h) x).k (P.atH (toHp h) x).n (P.atH (toHp h) x).m<=P.zdG h.1.1 h.1.2.1))=true) :
 Tot (fun r=>r.1.1=Z3) (F_audit_checkClasses (h,(i:Int),l.map (mkp h),())):=by
 rw [zc0];dsimp only
 have hll:(l.map (mkp h)).length=l.length:=qai ..
 refine zad (P:=fun r=>r = .inr ((),(),Z3,())) (zj5 (n:=(l.map (mkp h)).length) (by omega) fun k hk=>?_) ?_
 · have hk':k<l.length:=by omega
   rw [qad,qad,zhe hk',W_id (n:=(k:Int)+1) (by omega)]
   refine zae (zaj.2 ⟨by dsimp only;omega,by dsimp only;omega⟩) (zae (zaj.2 ⟨by omega,by omega⟩) ?_)
   unfold mkp ofHd;dsimp only;rw [zfp _ _ _ _ _ _ (hm _ (zaC hk')),qab,hb _ (zaC hk')];exact zac (fun c=>by simp at c) fun _=>zab rfl
 · rintro _ rfl;exact zab rfl
theorem zdR(h:HpD)(a:Int)(h0:4096<=a)(h1:a<4096+(h.2.1.length:Int))(hl:h.2.1.length<=100000000):F_audit_word (h,a,())=some ((P.zas (toHp h).words a,()),()):=by
 rw [znH];dsimp only
 rw [U_id (n:=a-4096) (by omega),zaj.2 (show 0<=a-4096/\a-4096<(h.2.1.length:Int) by omega),qah]
 have e:P.zas (toHp h).words a=h.2.1.getD (a-4096).toNat 0:=by
  unfold P.zas;rw [if_pos (P.zaE.2 (by show _/\_<=4096+((h.2.1.length:Nat):Int);omega))];rfl
 rw [e]
theorem zji(h:HpD)(hc:confB h.1.1 h.1.2.1=true)(hn:(h.2.2.1.length:Int)=h.1.2.1)(i:Nat)(hi:i<h.2.2.1.length)(n:Int)(h0:0<=n)(h1:n<=4)(hk:n=if (h.2.2.1.getD i PG0).1=2 then P.zau h.1.1 h.1.2.1 (h.2.2.1.getD i PG0).2.2.1 else if (h.2.2.1.getD i PG0).1=3 then 0 else 1):
 F_audit_span (h,(i:Int),())=some ((4096+(i:Int)*h.1.1,4096+(i:Int)*h.1.1+n*h.1.1,()),()):=by
 have c2:=zaV.1 hc;have k1:0<=n*h.1.1:=qa0 h0 (by omega)
 have k2:n*h.1.1<=4*64:=qbU h1 (by omega) (by omega) (by omega)
 have k3:0<=(i:Int)*h.1.1:=qa0 (by omega) (by omega)
 have k4:(i:Int)*h.1.1<=64*64:=qbU (by omega) (by omega) (by omega) (by omega)
 rw [znI];dsimp only
 rw [zaj.2 (show 0<=(i:Int)/\(i:Int)<(h.2.2.1.length:Int) by omega),qah,qad,zgt,zf0 _ _ _ _ hc (by omega),qb0]
 simp only [qab];generalize (h.2.2.1.getD i PG0)=g at *
 by_cases e2:g.1=2
 · rw [if_pos e2]at hk;rw [<-hk,show (g.1 == 2)=true by simpa using e2,qah,W_id (n:=n*h.1.1) (by omega),U_id (n:=n*h.1.1) (by omega),U_id (by omega)]
 · rw [if_neg e2]at hk;rw [show (g.1 == 2)=false by simpa using e2,qag]
   by_cases e3:g.1=3
   · rw [if_pos e3]at hk;rw [show (g.1 == 3)=true by simpa using e3,qah,<-hk,W_id (n:=n*h.1.1) (by omega),U_id (n:=n*h.1.1) (by omega),U_id (by omega)]
   · rw [if_neg e3]at hk;rw [show (g.1 == 3)=false by simpa using e3,qag,<-hk,W_id (n:=n*h.1.1) (by omega),U_id (n:=n*h.1.1) (by omega),U_id (by omega)]
theorem zp7(h:HpD)(x p:Int)(hx:P.atE (toHp h) x=0)(h0:0<=x/\x<=100004096)(hp:x<=p/\p<x+P.zc3 (toHp h) x):F_audit_part_uses (mkp h x,p,())=some ((true,()),()):=by
 obtain ⟨-,a2,a3,a4,a5,a6⟩:=P.zgn hx;have v:=P.zay a2;rw [zcr];unfold mkp ofHd;dsimp only;unfold P.zc3 at hp;rw [P.zcm a2]at hp;rw [qac (show p >= x by omega),qah]
 by_cases e:(P.atH (toHp h) x).k=0
 · rw [if_pos e]at hp;rw [show ((P.atH (toHp h) x).k != 0)=false by simpa using e,qag,U_id (by omega),U_id (by omega),qac (by omega)]
 · rw [if_neg e]at hp;rw [show ((P.atH (toHp h) x).k != 0)=true by simpa using e,qah,U_id (by omega),U_id (by omega),qac (by omega)]
end Go.VI
namespace Go.VI
open Go Go.Proofs
theorem zjH(k n m i:Int)(hm:0<=m/\m<4294967296):Tot (fun r=>r.1.1=P.ptrB k n m i) (F_header_Pointer ((k,n,m,()),i,())):=by
 rw [zih];dsimp only
 rw [zcX k n m hm,qab];dsimp only;simp only [cor];unfold P.ptrB;refine zac (fun h=>zab ?_) fun h=>?_
 · symm
   simp only [qaT,qao,qaa]at h;rcases h with h | h | h
   · rw [h];rfl
   · rw [qaj (show ¬0<=i by omega)];simp
   · rw [qaj (show ¬i<n by omega)];simp
 simp only [qaI,qav,qaf]at h;obtain ⟨hv,h0,h1⟩:=h;have c:=P.zay hv;rw [hv,qac (show 0<=i by omega),qac (show i<n by omega)]
 refine zae ?_ (zab ?_)
 · rw [qaj h0];cases (k == 2) <;> cases (k == 1) <;> rfl
 simp only [qaS];by_cases k2:k=2
 · subst k2;rfl
 by_cases k1:k=1
 · subst k1;obtain ⟨mm,rfl⟩:=qaQ hm.1;obtain ⟨j,rfl⟩:=qaQ (show 0<=i by omega)
   have hmin:min j IntKind.u32.bits=j:=by
    have:IntKind.u32.bits=32:=rfl
    have:=(c.2.2.2.2.1 rfl).1
    omega
   have hp:0<2 ^ j:=Nat.pow_pos (by omega)
   have e1:(2:Int) ^ j=((2 ^ j:Nat):Int):=by rw [qck];rfl
   have hle:mm / 2 ^ j<=mm:=Nat.div_le_self _ _
   have e:=zmT (mm / 2 ^ j) 1 (by omega) (by omega)
   rw [Nat.and_one_is_mod]at e;have key:zcx IntKind.u32 (fun (x1 x2:BitVec IntKind.u32.bits)=>x1 &&& x2) ((mm:Int).fdiv (2 ^ min (Int.toNat (j:Int)) IntKind.u32.bits)) 1=((mm / 2 ^ j % 2:Nat):Int):=by
    rw [qad,hmin,e1,zdw mm (2 ^ j) hp];exact e
   simp only [qad]at key;simp only [qad];rw [key,Nat.testBit_eq_decide_div_mod_eq];have:(((1:Int) == 2)=false):=rfl
   rw [this,Bool.false_or];have:(((1:Int) == 1)=true):=rfl
   rw [this,qah];generalize mm / 2 ^ j % 2=z
   rw [qbb];simp
   omega
 · have e1:(k == 2)=false:=by simp [k2]
   have e2:(k == 1)=false:=by simp [k1]
   rw [e1,e2,qaj k2,qaj k1];rfl
theorem zef(k n m:Int)(hm:0<=m/\m<4294967296)(hn:n<=1000000):Tot (fun r=>r.1.1=P.zeN k n m) (F_header_Pointers ((k,n,m,()),())):=by
 rw [zg0];dsimp only
 rw [zcX k n m hm,qab];dsimp only;cases hv:P.zaA k n m
 · rw [P.zuB hv];exact zac (fun _=>zab rfl) fun c=>by cases c
 · have c:=P.zay hv;rw [P.zqF hv];refine zac (fun c=>by cases c) fun _=>?_
   refine zad (P:=fun r=>r.2.1.1=P.zcB k n m n.toNat) (zao (fun x=>∃ j:Nat,x.1.2.1=(j:Int)/\j<=n.toNat/\x.2.1.1=P.zcB k n m j/\x.2.1.1.length<=j) (fun x=>(n-x.1.2.1).toNat) ⟨0,rfl,by omega,rfl,by simp⟩ ?_) fun r hr=>zab hr
   rintro ⟨⟨_,(i:Int),_⟩,⟨(l:List Int),_⟩,_⟩ ⟨j,e1,e2,e3,e4⟩;dsimp only at e1 e2 e3 e4 ⊢
   subst e1;refine zac (fun h=>?_) fun h=>zab ?_
   · simp only [qaa]at h;have w:W ((j:Int)+1)=j+1:=W_id (by omega)
     rw [w];refine zad (zjH k n m j hm) ?_;rintro ⟨⟨(b:Bool),_⟩,_⟩ hb;dsimp only at hb ⊢
     have hs:=P.zkk k n m j;rw [<-hb]at hs;refine zae (zaB fun _=>zan.2 (by simp;omega)) (zac (fun h2=>zab ?_) fun h2=>zab ?_)
     · rw [if_pos h2]at hs;simp only [qaq];exact ⟨⟨j+1,by omega,by omega,by rw [hs,e3],by simp;omega⟩,by omega⟩
     · rw [if_neg (by rw [h2];decide)]at hs
       simp only [qaq];exact ⟨⟨j+1,by omega,by omega,by rw [hs,e3],by omega⟩,by omega⟩
   · simp only [qaf]at h;simp only [qan];rw [e3,show j=n.toNat by omega]
theorem T_less(x y:Int):F_cmp_Less_uint64 (x,y,())=some ((decide (x<y),()),()):=by
 rw [zg1,zge];simp
theorem znP{l:List Int}(hp:l.Pairwise (fun a b=>a<b)){s t:Nat}(hst:s<=t)(ht:t<l.length):l.getD s 0<=l.getD t 0:=by
 by_cases e:s=t
 · subst e;exact qb9 _
 · have hs:s<l.length:=by omega
   have:=(List.pairwise_iff_getElem.1 hp) s t hs ht (by omega)
   rw [qay,qay,qap hs,qap ht];exact Int.le_of_lt this
theorem zwM(l:List Int)(hl:l.length<=1000000)(hp:l.Pairwise (fun a b=>a<b))(v:Int):Tot (fun r=>(r.1.2.1=true↔v∈l)) (F_slices_BinarySearch_uint64 (l,v,())):=by
 rw [zc4];dsimp only
 refine zad (P:=fun r=>∃ a:Nat,r.1.1=(a:Int)/\a<=l.length/\(∀ t,t<a->l.getD t 0<v)/\∀ t,a<=t->t<l.length->v<=l.getD t 0) (zao (fun x=>∃ a b:Nat,x.1.1=(a:Int)/\x.1.2.1=(b:Int)/\a<=b/\b<=l.length/\(∀ t,t<a->l.getD t 0<v)/\∀ t,b<=t->t<l.length->v<=l.getD t 0) (fun x=>(x.1.2.1-x.1.1).toNat) ⟨0,l.length,rfl,rfl,by omega,by omega,fun t h=>by omega,fun t h1 h2=>by omega⟩ ?_) ?_
 · rintro ⟨⟨(i:Int),(j:Int),_⟩,_⟩ ⟨a,b,e1,e2,e3,e4,e5,e6⟩;dsimp only at e1 e2 ⊢
   subst e1 e2;refine zac (fun h1=>?_) fun h1=>zab ?_
   · simp only [qaa]at h1;have d1:(2:Int) ^ min (Int.toNat 1) IntKind.u64.bits=2:=by decide
     have hmid:W ((U (W ((a:Int)+(b:Int)))).fdiv (2 ^ min (Int.toNat 1) IntKind.u64.bits))=(((a+b) / 2:Nat):Int):=by
      rw [d1,W_id (n:=(a:Int)+b) (by omega),U_id (by omega),Int.fdiv_eq_ediv_of_nonneg _ (by omega),W_id (by omega)];omega
     rw [hmid];have hm:(a+b) / 2<l.length:=by omega
     have hm2:(a+b) / 2<b:=by omega
     have hm3:a<=(a+b) / 2:=by omega
     generalize (a+b) / 2=c at *
     rw [qad,T_less,qab,W_id (n:=(c:Int)+1) (by omega)]
     dsimp only;refine zae (by decide) (zae (zaj.2 ⟨by omega,by omega⟩) (zab ?_))
     simp only [qaq];by_cases hlt:l.getD c 0<v
     · rw [qac hlt,qah,qah];exact ⟨⟨c+1,b,by omega,rfl,by omega,e4,fun t ht=>by have:=znP hp (show t<=c by omega) hm;omega,e6⟩,by omega⟩
     · rw [qaj hlt,qag,qag];exact ⟨⟨a,c,rfl,rfl,by omega,by omega,e5,fun t h1 h2=>by have:=znP hp h1 h2;omega⟩,by omega⟩
   · simp only [qaf]at h1;simp only [qan];exact ⟨a,rfl,by omega,e5,fun t h2 h3=>e6 t (by omega) h3⟩
 · rintro ⟨⟨(i:Int),_⟩,_⟩ ⟨a,e1,e2,e3,e4⟩;dsimp only at e1 ⊢
   subst e1;have nan:∀ y:Int,F_slices_isNaN_uint64 (y,())=some ((false,()),()):=fun y=>by rw [zeP];simp
   rw [qad];have hmem:v∈l->a<l.length/\l.getD a 0=v:=fun hv=>by
    obtain ⟨t,ht,e⟩:=qbS.1 hv;have et:l.getD t 0=v:=by rw [qay,qap ht];exact e
    have h1:¬t<a:=fun c=>by have:=e3 t c;omega
    have h2:=e4 a (qam _) (by omega)
    have h3:=znP hp (show a<=t by omega) ht
    exact ⟨by omega,by omega⟩
   by_cases h1:a<l.length
   · have hin:inB (a:Int) l.length=true:=zaj.2 ⟨by omega,by omega⟩
     have hd:decide ((a:Int)<(l.length:Int))=true:=qac (by omega)
     rw [hin,hd];cases hb:(l.getD a 0 == v) with
     | true=>
      simp only [qah];exact zab ⟨fun _=>by rw [qaC]at hb;rw [<-hb];exact zaC h1,fun _=>rfl⟩
     | false=>
      simp only [qah,qag,nan,qab];exact zab ⟨fun c=>(by cases c),fun hv=>(by have e:=(hmem hv).2;rw [e]at hb;simp at hb)⟩
   · have hd:decide ((a:Int)<(l.length:Int))=false:=qaj (by omega)
     rw [hd];simp only [qah,qag];exact zab ⟨fun c=>(by cases c),fun hv=>absurd (hmem hv).1 h1⟩
theorem zhv(l:List Int)(hl:l.length<=1000000)(hp:l.Pairwise (fun a b=>a<b))(v:Int):Tot (fun r=>(r.1.1=true↔(v=0\/v∈l))) (F_audit_isReference (l,v,())):=by
 rw [zfL];dsimp only
 refine zad (zwM l hl hp v) ?_;rintro ⟨⟨_,(b:Bool),_⟩,_⟩ hb;dsimp only at hb ⊢
 refine zab ?_;cases b with
 | true=>exact ⟨fun _=>.inr (hb.1 rfl),fun _=>rfl⟩
 | false=>
  simp only [qag,qaC];exact ⟨.inl,fun h=>h.resolve_right fun c=>by have:=hb.2 c;cases this⟩
theorem zhw(h:HpD)(hl:h.2.2.1.length<=100000000)(hc:confB h.1.1 h.1.2.1=true)(hn:(P.zaS (toHp h).pages:Int)<=h.1.2.1 / 4):Tot (fun r=>r.1.1=Z3) (F_audit_checkCrowd (h,())):=by
 have c2:=zaV.1 hc;rw [zds];dsimp only
 have hlm:(toHp h).pages.length=h.2.2.1.length:=qai ..
 refine zad (P:=fun r=>r.1.1=(P.zaS (toHp h).pages:Int)) (zao (fun x=>∃ k:Nat,x.1.2.1=(k:Int)/\k<=h.2.2.1.length/\x.1.1=(P.zaS ((toHp h).pages.take k):Int)/\x.1.1<=(k:Int)) (fun x=>((h.2.2.1.length:Int)-x.1.2.1).toNat) ⟨0,rfl,by omega,rfl,by show (0:Int)<=0;omega⟩ ?_) ?_
 · rintro ⟨⟨(s:Int),(k':Int),_⟩,_⟩ ⟨k,e1,e2,e3,e4⟩;dsimp only at e1 e3 e4 ⊢
   subst e1;refine zac (fun h1=>?_) fun h1=>zab ?_
   · simp only [qaa]at h1;have hk:k<h.2.2.1.length:=by omega
     have hs0:0<=s:=by omega
     rw [qad,W_id (n:=(k:Int)+1) (by omega),W_id (n:=s+1) (by omega)]
     have ht:=P.zgm (zbe hk);refine zae (zaj.2 ⟨by omega,h1⟩) (zab ?_)
     simp only [qaq];generalize hg:h.2.2.1.getD k PG0=g at *
     have ht:P.zaS ((toHp h).pages.take (k+1))=P.zaS ((toHp h).pages.take k)+if g.1=1/\0<g.2.2.2.1 then 1 else 0:=ht
     by_cases hq:g.1=1/\0<g.2.2.2.1
     · rw [if_pos hq]at ht;rw [show (g.1 == 1)=true by simpa using hq.1,qac (show g.2.2.2.1 > 0 from hq.2)]
       exact ⟨⟨k+1,by omega,by omega,by simp only [qah];omega,by simp only [qah];omega⟩,by omega⟩
     · rw [if_neg hq]at ht;have:(bif (g.1 == 1) then decide (g.2.2.2.1 > 0) else false)=false:=by
        cases hb:(g.1 == 1) with
        | false=>rfl
        | true=>rw [qah];exact qaj fun c=>hq ⟨by simpa using hb,c⟩
       rw [this];exact ⟨⟨k+1,by omega,by omega,by simp only [qag];omega,by simp only [qag];omega⟩,by omega⟩
   · simp only [qaf]at h1;simp only [qan];rw [qa7 (by omega)]at e3
     exact e3
 · rintro ⟨⟨(s:Int),_⟩,_⟩ e;dsimp only at e ⊢
   refine zae (show (!(4:Int) == 0)=true from by decide) (zac (fun c=>?_) fun _=>zab rfl)
   exfalso
   simp only [qaa]at c;rw [qbv (by omega),W_id (by omega)]at c
   omega
end Go.VI
namespace Go.VI
open Go Go.Proofs
theorem zmx(h:P.Hp):(P.zag h).Pairwise (fun a b=>a<b) :=
 (P.zdU h).imp_of_mem fun {x y} hx hy hxy=>by
  obtain ⟨i,j,g,b⟩:=P.zam hx;have:=b.pos
  omega
theorem zjE(h:HpD)(hw:HpW h)(G:P.Good (toHp h)):Tot (fun r=>r.1.1=Z3) (F_audit_checkPointers (h,())):=by
 rw [zcC];dsimp only
 simp only [zar];rw [zfY h hw,qab];dsimp only;have hol:=zkq (toHp h);have hup:=zmx (toHp h);have hwl:=hw.wl;have hob:∀ x∈P.zag (toHp h),P.atE (toHp h) x=0/\P.getH (toHp h) x=P.atH (toHp h) x/\∀ i:Int,P.ptrB (P.atH (toHp h) x).k (P.atH (toHp h) x).n (P.atH (toHp h) x).m i=true->P.zas (toHp h).words (x+1+i)=0\/P.zas (toHp h).words (x+1+i)∈P.zag (toHp h):=fun x hx=>⟨(P.zdr hx).1,(P.znu hx).2,G.ptr x hx⟩
 generalize P.zag (toHp h)=l at *
 refine zad (P:=fun r=>r = .inr ((),(),Z3,())) (zj5 (n:=l.length) (by omega) fun k hk=>?_) ?_
 · rw [qad,W_id (n:=(k:Int)+1) (by omega)]
   obtain ⟨hxa,hxg,hxp⟩:=hob _ (zaC (d:=0) hk)
   obtain ⟨-,-,-,-,-,-,b1,b2,-,-⟩:=zlc h hw hxa;obtain ⟨i0,j0,g0,bg⟩:=P.zfX hxa;have bwl:=bg.wl;have hwe:(toHp h).words.length=h.2.1.length:=rfl
   obtain ⟨-,a2,a3,a4,a5,a6⟩:=P.zgn hxa;unfold P.osz at bwl;generalize l.getD k 0=x at *
   refine zae (zaj.2 ⟨by dsimp only;omega,by dsimp only;omega⟩) (zad (zjj h hw x (by omega)) ?_)
   rintro ⟨⟨⟨(hk':Int),(n:Int),(m:Int),_⟩,(e':Int),_⟩,_⟩ ⟨-,hH⟩;dsimp only at hH ⊢
   rw [hxg]at hH;have ek:(P.atH (toHp h) x).k=hk':=(congrArg P.Hd.k hH).symm
   have en:(P.atH (toHp h) x).n=n:=(congrArg P.Hd.n hH).symm
   have em:(P.atH (toHp h) x).m=m:=(congrArg P.Hd.m hH).symm
   rw [ek,en,em]at hxp;rw [en]at bwl a5 a6;rw [em]at a3 a4;refine zad (zef hk' n m ⟨a3,a4⟩ (by omega)) ?_
   rintro ⟨⟨(ps:List Int),_⟩,_⟩ hps;have hps:ps=P.zeN hk' n m:=hps
   have hpm:∀ i∈ps,P.ptrB hk' n m i=true:=fun i hi=>P.zkj (by rw [<-hps];exact hi)
   have hpl:ps.length<=1000000:=by
    rw [hps];unfold P.zeN
    split
    · unfold P.zcB;have:=qbz (fun i=>P.ptrB hk' n m i) ((List.range n.toNat).map Int.ofNat)
      rw [qai,qb6]at this;omega
    · simp
   dsimp only;refine zad (P:=fun r=>r = .inr ((),(),Z3,())) (zj5 (n:=ps.length) (by omega) fun t ht=>?_) ?_
   · rw [qad,W_id (n:=(t:Int)+1) (by omega)]
     have hpi:=hpm _ (zaC (d:=0) ht)
     generalize ps.getD t 0=i at *
     obtain ⟨-,i1,i2⟩:=P.zoL hpi;dsimp only;rw [U_id (n:=x+1) (by omega),U_id (n:=i) (by omega),U_id (n:=x+1+i) (by omega),zdR h (x+1+i) (by omega) (by omega) hwl,qab]
     refine zae (zaj.2 ⟨by omega,by omega⟩) (zad (zhv l (by omega) hup _) ?_)
     rintro ⟨⟨(b:Bool),_⟩,_⟩ hb;dsimp only at hb ⊢
     have hb:=hb.2 (hxp i hpi);subst hb;exact zac (fun c=>by simp at c) fun _=>zab rfl
   · rintro _ rfl;exact zab rfl
 · rintro _ rfl;exact zab rfl
namespace P
def zaX(h:Hp)(g:Pg):Int:=if g.kind=2 then zau h.pw h.np g.used else if g.kind=3 then 0 else 1
theorem zvV{h:Hp}(G:Good h){k:Nat}{g:Pg}(hg:h.pages[k]?=some g):0<=zaX h g/\zaX h g<=4/\(k+zaX h g)*h.pw<=h.np*h.pw/\∀ p:Int,4096+(k:Int)*h.pw<=p->p<4096+(k:Int)*h.pw+zaX h g*h.pw ->
 (∃ x∈zaD h k,x<=p/\p<x+zc3 h x)\/zas h.words p=0:=by
 have hok:=G.ok;obtain ⟨p1,p2,p3,p4,p5,p6,p7⟩:=zaq hok;have c:=zai p1;have hk:=(qak.1 hg).1;have hm:=zbx _ _ _ _ p7 g (qaK hg);obtain ⟨m1,m2,m3,m4,m5,m6,m7,m8,m9⟩:=hm;have big:g.kind=2->1<=zau h.pw h.np g.used/\zau h.pw h.np g.used<=4/\((k:Int)+zau h.pw h.np g.used<=h.np)/\∀ t:Nat,k<t->(t:Int)<k+zau h.pw h.np g.used->∃ y,h.pages[t]?=some y/\y.kind=3:=fun e=>by
  obtain ⟨u1,u2,u3,u4⟩:=zpy hok hg e (G.pg k hk);obtain ⟨n1,n2,n3,n4⟩:=zg3 (m7 e);obtain ⟨j,g',b⟩:=zb6 hok hk (x:=4096+(k:Int)*h.pw) (by rw [u1];exact qaw.2 rfl)
  have hgg:g'=g:=by have:=b.pg;rw [hg]at this;injection this with this;exact this.symm
  subst hgg;obtain ⟨v1,v2,v3,v4⟩:=b.upto;have hps:zgI h g'=zau h.pw h.np g'.used:=by unfold zgI;rw [if_pos e]
  rw [hps]at v1 v3 v4;refine ⟨v1,n2,?_,v4⟩;by_cases e1:zau h.pw h.np g'.used=1
  · omega
  · obtain ⟨y,y1,y2⟩:=v4 (k+(zau h.pw h.np g'.used).toNat-1) (by omega) (by omega)
    have:=(qak.1 y1).1
    omega
 have hs:0<=zaX h g/\zaX h g<=4/\(k:Int)+zaX h g<=h.np:=by
  unfold zaX;by_cases e2:g.kind=2
  · rw [if_pos e2];have:=big e2;omega
  · rw [if_neg e2];split <;> omega
 refine ⟨hs.1,hs.2.1,qaR hs.2.2 (by omega),fun p q1 q2=>?_⟩
 rw [show 4096+(k:Int)*h.pw+zaX h g*h.pw=4096+((k:Int)+zaX h g)*h.pw by rw [qa9];omega]at q2
 have hle:((k:Int)+zaX h g)*h.pw<=h.np*h.pw:=qaR hs.2.2 (by omega)
 have hk0:0<=(k:Int)*h.pw:=qa0 (by omega) (by omega)
 rcases G.zero p (by omega) (by omega) with ⟨x,hx,x1,x2⟩ | h0
 · left
   obtain ⟨k2,hk2,hxk⟩:=(zcF hok G.pg).1 hx;obtain ⟨j,g2,b⟩:=zb6 hok hk2 hxk;obtain ⟨v1,v2,v3,v4⟩:=b.upto;have hu:zc3 h x<=osz h x:=by
    have hp:=b.pos.1;have hxe:=zfw hx;obtain ⟨-,a2,-⟩:=zgn hxe;unfold zc3;split
    · exact hp
    · rw [zcm a2];unfold osz;omega
   have key:k2=k:=by
    have l1:(k2:Int)*h.pw<((k:Int)+zaX h g)*h.pw:=by omega
    have l2:(k:Int)*h.pw<((k2:Int)+zgI h g2)*h.pw:=by omega
    have l1:=qcs l1 (by omega)
    have l2:=qcs l2 (by omega)
    refine qbL fun hne=>?_
    by_cases hlt:k2<k
    · obtain ⟨y,y1,y2⟩:=v4 k hlt l2;rw [hg]at y1;injection y1 with y1
      subst y1;unfold zaX at l1 q2;rw [if_neg (by omega),if_pos y2,qb0]at q2
      omega
    · have e2:g.kind=2:=qbL fun e2=>by
       unfold zaX at l1;rw [if_neg e2]at l1;split at l1 <;> omega
      have hsp:zaX h g=zau h.pw h.np g.used:=by unfold zaX;rw [if_pos e2]
      obtain ⟨-,-,-,t4⟩:=big e2;obtain ⟨y,y1,y2⟩:=t4 k2 (by omega) (by omega)
      have:=b.pg
      rw [y1]at this;injection this with this
      subst this;have:=b.kd
      omega
   subst key;exact ⟨x,hxk,x1,by omega⟩
 · exact .inr h0
end P
end Go.VI
namespace Go.VI
open Go Go.Proofs
namespace P
structure PgOk (h:Hp) (k:Nat):Prop where
 ok:okH h=true
 pg:zbc h k=0
 sp:∀ g:Pg,h.pages[k]?=some g->g.kind=0\/g.space=h.space
 cls:∀ g:Pg,h.pages[k]?=some g->∀ x∈zaD h k,(g.kind=1->zaO (atH h x).k (atH h x).n (atH h x).m<=zdG h.pw h.np)/\(g.kind=2->¬(atH h x).k=0)
 use:∀ g:Pg,h.pages[k]?=some g->0<=zaX h g/\zaX h g<=4/\(k+zaX h g)*h.pw<=h.np*h.pw/\∀ p:Int,4096+(k:Int)*h.pw<=p->p<4096+(k:Int)*h.pw+zaX h g*h.pw ->
  (∃ x∈zaD h k,x<=p/\p<x+zc3 h x)\/zas h.words p=0
theorem pgOk_of{h:Hp}(G:Good h){k:Nat}(hk:k<h.pages.length):PgOk h k :=
 ⟨G.ok,G.pg k hk,fun g hg=>G.sp k g hg,fun g hg=>G.cls k g hg,fun g hg=>zvV G hg⟩
end P
theorem zuf(d):∃ b,F_audit_part_uses d=some ((b,()),()):=by
 rw [zcr];exact ⟨_,rfl⟩
theorem zp9(h:HpD)(hw:HpW h)(k:Nat)(hk:k<h.2.2.1.length)(Q:P.PgOk (toHp h) k):Tot (fun r=>r.1.1=Z3) (F_audit_checkDirt (h,(k:Int),(P.zaD (toHp h) k).map (mkp h),())):=by
 have hok:=Q.ok;obtain ⟨p1,p2,p3,p4,p5,p6,p7⟩:=P.zaq hok;have c:=P.zai p1;have c1:16<=h.1.1/\h.1.1<=64:=⟨c.1,c.2.1⟩
 have hc:confB h.1.1 h.1.2.1=true:=by rw [<-zaH];exact p1
 have hlm:(toHp h).pages.length=h.2.2.1.length:=qai ..
 have hpn:(h.2.2.1.length:Int)=h.1.2.1:=by rw [<-hlm];exact p3
 have hwe:((h.2.1.length:Nat):Int)=h.1.2.1*h.1.1:=p2
 have hwl:=hw.wl;have hat:(toHp h).pages[k]?=some (toPg (h.2.2.1.getD k PG0)):=zbe hk
 obtain ⟨s1,s2,s3,s4⟩:=Q.use _ hat;have hmul:((k:Int)+P.zaX (toHp h) (toPg (h.2.2.1.getD k PG0)))*h.1.1=(k:Int)*h.1.1+P.zaX (toHp h) (toPg (h.2.2.1.getD k PG0))*h.1.1:=qa9 ..
 have s3:((k:Int)+P.zaX (toHp h) (toPg (h.2.2.1.getD k PG0)))*h.1.1<=h.1.2.1*h.1.1:=s3
 rw [hmul]at s3;have s4:∀ p:Int,4096+(k:Int)*h.1.1<=p->p<4096+(k:Int)*h.1.1+P.zaX (toHp h) (toPg (h.2.2.1.getD k PG0))*h.1.1->(∃ x∈P.zaD (toHp h) k,x<=p/\p<x+P.zc3 (toHp h) x)\/P.zas (toHp h).words p=0:=s4
 have hll:=zd7 (toHp h) (k:Int);have hax:∀ x∈P.zaD (toHp h) k,P.atE (toHp h) x=0:=fun x hx=>P.zdJ hx
 rw [zdO];dsimp only
 simp only [zar];rw [zji h hc hpn k hk (P.zaX (toHp h) (toPg (h.2.2.1.getD k PG0))) s1 s2 rfl,qab];dsimp only;generalize P.zaX (toHp h) (toPg (h.2.2.1.getD k PG0))=n at *
 generalize P.zaD (toHp h) k=l at *
 have k0:0<=(k:Int)*h.1.1:=qa0 (by omega) (by omega)
 have k1:0<=n*h.1.1:=qa0 s1 (by omega)
 generalize (k:Int)*h.1.1=s at *
 generalize n*h.1.1=z at *
 have hll2:(l.map (mkp h)).length=l.length:=qai ..
 refine zad (P:=fun r=>r = .inr ((),(),Z3,())) (zao (fun x=>∃ a:Int,x=((a,()),(),Z3,())/\4096+s<=a/\a<=4096+s+z) (fun x=>(4096+s+z-x.1.1).toNat) ⟨_,rfl,by omega,by omega⟩ ?_) ?_
 · rintro _ ⟨a,rfl,a1,a2⟩;dsimp only;refine zac (fun h4=>?_) fun h4=>zab rfl
   simp only [qaa]at h4;rw [zdR h a (by omega) (by omega) hwl,qab,U_id (n:=a+1) (by omega)]
   dsimp only;refine zac (fun h5=>zab ⟨⟨a+1,rfl,by omega,by omega⟩,by dsimp only;omega⟩) fun h5=>?_
   simp only [qaX,ne_eq]at h5;rcases s4 a (by omega) (by omega) with ⟨x,hx,x1,x2⟩ | h0
   · obtain ⟨t0,ht0,hxt⟩:=qbS.1 hx;have hxt:l.getD t0 0=x:=by rw [qay,qap ht0];exact hxt
     obtain ⟨-,-,-,-,-,-,b1,b2,-,-⟩:=zlc h hw (hax x hx);refine zad (P:=fun r=>∃ y,r = .inl y) (zao (fun x=>∃ t:Nat,x.1.1=(t:Int)/\t<=t0) (fun x=>((t0:Int)+1-x.1.1).toNat) ⟨0,rfl,by omega⟩ ?_) ?_
     · rintro ⟨⟨(t':Int),_⟩,_⟩ ⟨t,e1,e2⟩;dsimp only at e1 ⊢
       subst e1;rw [qad,zhe (show t<l.length by omega),W_id (n:=(t:Int)+1) (by omega),qac (show (t:Int)<((l.map (mkp h)).length:Int) by omega),qah]
       refine zae (zaj.2 ⟨by omega,by omega⟩) ?_
       by_cases e:t=t0
       · subst e;rw [hxt];refine zad (P:=fun r=>r.1.1=true) ⟨_,zp7 h x a (hax x hx) ⟨by omega,by omega⟩ ⟨x1,x2⟩,rfl⟩ ?_
         rintro ⟨⟨(b:Bool),_⟩,_⟩ hb;have hb:b=true:=hb
         subst hb;exact zac (fun _=>zab ⟨_,rfl⟩) fun c=>by cases c
       · obtain ⟨b,hb⟩:=zuf (mkp h (l.getD t 0),a,());refine zad (P:=fun _=>True) ⟨_,hb,trivial⟩ ?_
         rintro ⟨⟨(b:Bool),_⟩,_⟩ -;exact zac (fun _=>zab ⟨_,rfl⟩) fun _=>zab ⟨⟨t+1,by dsimp only;omega,by omega⟩,by dsimp only;omega⟩
     · rintro _ ⟨y,rfl⟩;exact zab ⟨⟨a+1,rfl,by omega,by omega⟩,by dsimp only;omega⟩
   · exact absurd h0 h5
 · rintro _ rfl;exact zab rfl
theorem zp8(h:HpD)(hw:HpW h)(k:Nat)(hk:k<h.2.2.1.length)(Q:P.PgOk (toHp h) k):Tot (fun r=>r.1.1=Z3) (F_audit_checkPage (h,(k:Int),())):=by
 have hok:=Q.ok;have hlm:(toHp h).pages.length=h.2.2.1.length:=qai ..
 have hat:(toHp h).pages[k]?=some (toPg (h.2.2.1.getD k PG0)):=zbe hk
 have hpe:=Q.pg;have hsp:=Q.sp _ hat;have hcls:=Q.cls _ hat;have hll:=zd7 (toHp h) (k:Int);have hax:∀ x∈P.zaD (toHp h) k,P.atE (toHp h) x=0:=fun x hx=>P.zdJ hx
 have hdirt:=zp9 h hw k hk Q;rw [zdN];dsimp only
 simp only [zar];rw [qad];refine zae (zaj.2 ⟨by omega,by omega⟩) (zac (fun c=>?_) fun _=>?_)
 · exfalso
   generalize h.2.2.1.getD k PG0=g at *
   have hsp:g.1=0\/g.2.1=h.2.2.2.1:=hsp
   cases h0:(g.1 != 0) with
   | false=>rw [h0]at c;cases c
   | true=>
    rw [h0]at c;simp only [qah,qaz,ne_eq]at c h0;exact hsp.elim h0 c
 refine zad (zfo h hw k hpe) ?_;rintro ⟨⟨(ps:List PtD),(e:Int),_⟩,_⟩ ⟨hps,he⟩;dsimp only at hps he ⊢
 subst he hps;refine zac (fun c=>by simp at c) fun _=>zad (zln h k hk _ (by omega) (fun x hx=>by obtain ⟨-,-,a3,a4,-⟩:=P.zgn (hax x hx);exact ⟨a3,a4⟩) fun x hx=>?_) ?_
 · have hq:=hcls x hx;obtain ⟨j,g',b⟩:=P.zb6 hok (by omega) hx
   have hkd:=b.kd;have hgg:g'=toPg (h.2.2.1.getD k PG0):=by have:=b.pg;rw [hat]at this;injection this with this;exact this.symm
   subst hgg;generalize h.2.2.1.getD k PG0=g at *
   have q1:g.1=1->P.zaO (P.atH (toHp h) x).k (P.atH (toHp h) x).n (P.atH (toHp h) x).m<=P.zdG h.1.1 h.1.2.1:=hq.1
   have q2:g.1=2->¬(P.atH (toHp h) x).k=0:=hq.2
   have kd:g.1=1\/g.1=2:=hkd.elim (fun a=>.inl a.1) fun a=>.inr a.1
   by_cases e2:g.1=2
   · rw [show (g.1 == 2)=true by simpa using e2,qah];simpa using q2 e2
   · rw [show (g.1 == 2)=false by simpa using e2,qag];exact qac (q1 (by omega))
 rintro ⟨⟨f1,_⟩,_⟩ hf;have hf:f1=Z3:=hf
 subst hf;refine zad hdirt ?_;rintro ⟨⟨f2,_⟩,_⟩ hf;have hf:f2=Z3:=hf
 subst hf;refine zad zhC ?_;rintro ⟨⟨f3,_⟩,_⟩ hf;have hf:f3=Z3:=hf
 subst hf;exact zab rfl
theorem zoi(h:HpD)(hw:HpW h)(G:P.Good (toHp h)):Tot (fun r=>r.1.1=Z3) (F_audit_Check (h,())):=by
 have hok:=G.ok;obtain ⟨p1,p2,p3,p4,p5,p6,p7⟩:=P.zaq hok;have hc:confB h.1.1 h.1.2.1=true:=by rw [<-zaH];exact p1
 have hpl:=hw.pl;have hptr:=zjE h hw G;have hcr:=zhw h hpl hc G.crowd;rw [zdV];dsimp only
 simp only [zar];refine zad (zbQ h hw) ?_;rintro ⟨⟨(b:Bool),_⟩,_⟩ hb;have hb:b=P.okH (toHp h):=hb
 rw [hok]at hb;subst hb;refine zac (fun c=>by cases c) fun _=>zad (P:=fun r=>r = .inr ((),(),Z3,())) (zj5 (n:=h.2.2.1.length) (by omega) fun k hk=>?_) ?_
 · refine zad (zp8 h hw k hk (P.pgOk_of G (by rw [show (toHp h).pages.length=h.2.2.1.length from qai ..];exact hk))) ?_
   rintro ⟨⟨f3,_⟩,_⟩ hf;have hf:f3=Z3:=hf
   subst hf;exact zac (fun c=>by simp at c) fun _=>zab (by rw [W_id (by dsimp only;omega)])
 · rintro _ rfl;simp only [qan];refine zad hptr ?_;rintro ⟨⟨f1,_⟩,_⟩ hf;have hf:f1=Z3:=hf
   subst hf;refine zad hcr ?_;rintro ⟨⟨f2,_⟩,_⟩ hf;have hf:f2=Z3:=hf
   subst hf;refine zad zhC ?_;rintro ⟨⟨f3,_⟩,_⟩ hf;have hf:f3=Z3:=hf
   subst hf;exact zab rfl
theorem zqa(h:HpD)(hw:HpW h)(G:P.Good (toHp h)):Tot (fun r=>r.1.1=true) (F_audit_Good (h,())):=by
 rw [zg2];dsimp only
 simp only [zar];refine zad (zoi h hw G) ?_;rintro ⟨⟨f1,_⟩,_⟩ hf;have hf:f1=Z3:=hf
 subst hf;exact zab rfl
end Go.VI
namespace Go.VI
open Go Go.Proofs
theorem zls:F_l09_awake ()=some ((true,()),()):=by
 refine zvb ?_;rw [zpn];dsimp only
 refine zad (zp6 16 8 (by decide)) ?_
 rintro ⟨⟨(v:HpD),(e:Int),_⟩,_⟩ ⟨h1,h2⟩;dsimp only at h1 h2 ⊢
 have hn:P.zl1 16 8=⟨16,8,List.replicate 128 0,List.replicate 8 P.Pg.zero,0,-1⟩:=(P.znM (pw:=16) (np:=8) (by decide)).1.trans rfl
 have G:P.Good (toHp v):=by rw [h1];exact (P.ztt (by decide)).1
 have hw:HpW v:=by
  have e1:v.2.1.length=(toHp v).words.length:=rfl
  have e2:v.2.2.1.length=(toHp v).pages.length:=(qai ..).symm
  rw [h1,hn]at e1 e2;simp only [qbc]at e1 e2;exact ⟨by omega,by omega,h2⟩
 simp only [zar];refine zad (zqa v hw G) ?_;rintro ⟨⟨(b:Bool),_⟩,_⟩ hb;have hb:b=true:=hb
 subst hb;refine zac (fun _=>?_) fun c=>by cases c
 refine zad (P:=fun r=>r.1.1=(1,0,0,())) ?_ ?_
 · rw [zdV];dsimp only
   have hw0:HpW H0:=⟨by decide,by decide,fun x hx=>by cases hx⟩
   refine zad (zbQ H0 hw0) ?_;rintro ⟨⟨(b:Bool),_⟩,_⟩ hb;have hb:b=P.okH (toHp H0):=hb
   have hf:P.okH (toHp H0)=false:=by decide
   rw [hf]at hb;subst hb;exact zac (fun _=>zab rfl) fun c=>by cases c
 · rintro ⟨⟨f,_⟩,_⟩ hf;have hf:f=(1,0,0,()):=hf
   subst hf;exact zab rfl
end Go.VI
namespace Go.VI
open Go Go.Proofs
namespace P
end P
theorem zsO(f:Int×Int×Int×Unit)(hf:¬f.1=0):Tot (fun r=>r.1.1=f) (F_cmp_Or_audit_Finding ([Z3,f],())):=by
 obtain ⟨f1,f2,f3,_⟩:=f;have hf:¬f1=0:=hf
 have hne:(f1 == 0)=false:=by simpa using hf
 rw [zbz];dsimp only
 refine zad (P:=fun r=>r = .inl ((),(),(f1,f2,f3,()),())) (zao (fun x=>x=((0,()),(),Z3,())\/x=((1,()),(),Z3,())) (fun x=>(1-x.1.1).toNat) (.inl rfl) ?_) ?_
 · rintro _ (rfl | rfl)
   · refine zac (fun _=>zae rfl (zac (fun c=>by simp at c) fun _=>zab ⟨.inr rfl,by decide⟩)) fun c=>by simp at c
   · refine zac (fun _=>zae rfl (zac (fun _=>zab rfl) fun c=>?_)) fun c=>by simp at c
     exfalso
     have c:(!(f1 == 0&&(f2 == 0&&(f3 == 0&&true))))=false:=c
     rw [hne]at c;cases c
 · rintro _ rfl;exact zab rfl
end Go.VI
namespace Go.VI
open Go Go.Proofs
theorem zjF(h:HpD)(hl:h.2.2.1.length<=100000000)(hc:confB h.1.1 h.1.2.1=true):Tot (fun r=>toFd r.1.1=if h.1.2.1 / 4<(P.zaS (toHp h).pages:Int) then ⟨7,0,0⟩ else P.Fd.none) (F_audit_checkCrowd (h,())):=by
 by_cases hn:(P.zaS (toHp h).pages:Int)<=h.1.2.1 / 4
 · refine (zhw h hl hc hn).mono ?_;rintro ⟨⟨f,_⟩,_⟩ hf;have hf:f=Z3:=hf
   subst hf;rw [if_neg (by omega)];rfl
 have c2:=zaV.1 hc;rw [zds];dsimp only
 have hlm:(toHp h).pages.length=h.2.2.1.length:=qai ..
 refine zad (P:=fun r=>r.1.1=(P.zaS (toHp h).pages:Int)) (zao (fun x=>∃ k:Nat,x.1.2.1=(k:Int)/\k<=h.2.2.1.length/\x.1.1=(P.zaS ((toHp h).pages.take k):Int)/\x.1.1<=(k:Int)) (fun x=>((h.2.2.1.length:Int)-x.1.2.1).toNat) ⟨0,rfl,by omega,rfl,by show (0:Int)<=0;omega⟩ ?_) ?_
 · rintro ⟨⟨(s:Int),(k':Int),_⟩,_⟩ ⟨k,e1,e2,e3,e4⟩;dsimp only at e1 e3 e4 ⊢
   subst e1;refine zac (fun h1=>?_) fun h1=>zab ?_
   · simp only [qaa]at h1;have hk:k<h.2.2.1.length:=by omega
     have hs0:0<=s:=by omega
     rw [qad,W_id (n:=(k:Int)+1) (by omega),W_id (n:=s+1) (by omega)]
     have ht:=P.zgm (zbe hk);refine zae (zaj.2 ⟨by omega,h1⟩) (zab ?_)
     simp only [qaq];generalize hg:h.2.2.1.getD k PG0=g at *
     have ht:P.zaS ((toHp h).pages.take (k+1))=P.zaS ((toHp h).pages.take k)+if g.1=1/\0<g.2.2.2.1 then 1 else 0:=ht
     by_cases hq:g.1=1/\0<g.2.2.2.1
     · rw [if_pos hq]at ht;rw [show (g.1 == 1)=true by simpa using hq.1,qac (show g.2.2.2.1 > 0 from hq.2)]
       exact ⟨⟨k+1,by omega,by omega,by simp only [qah];omega,by simp only [qah];omega⟩,by omega⟩
     · rw [if_neg hq]at ht;have:(bif (g.1 == 1) then decide (g.2.2.2.1 > 0) else false)=false:=by
        cases hb:(g.1 == 1) with
        | false=>rfl
        | true=>rw [qah];exact qaj fun c=>hq ⟨by simpa using hb,c⟩
       rw [this];exact ⟨⟨k+1,by omega,by omega,by simp only [qag];omega,by simp only [qag];omega⟩,by omega⟩
   · simp only [qaf]at h1;simp only [qan];rw [qa7 (by omega)]at e3
     exact e3
 · rintro ⟨⟨(s:Int),_⟩,_⟩ e;dsimp only at e ⊢
   refine zae (show (!(4:Int) == 0)=true from by decide) (zac (fun _=>zab ?_) fun c=>?_)
   · rw [if_pos (by omega)];rfl
   exfalso
   simp only [qaf]at c;rw [qbv (by omega),W_id (by omega)]at c
   omega
theorem zhx(h:HpD)(hok:P.okH (toHp h)=true)(i:Nat)(hi:i<h.2.2.1.length)(l:List Int)(hl:l.length<=100000)(hm:∀ x∈l,0<=(P.atH (toHp h) x).m/\(P.atH (toHp h) x).m<4294967296)(hx0:∀ x∈l,¬x=0)
 (hk12:∀ x∈l,(h.2.2.1.getD i PG0).1=1\/(h.2.2.1.getD i PG0).1=2) :
 Tot (fun r=>toFd r.1.1=if P.clsV (toHp h) i l=0 then P.Fd.none else ⟨5,i,P.clsV (toHp h) i l⟩) (F_audit_checkClasses (h,(i:Int),l.map (mkp h),())):=by
 rw [zc0];dsimp only
 have hll:(l.map (mkp h)).length=l.length:=qai ..
 refine zad (P:=fun r=>(∃ f,r = .inl ((),(),f,())/\¬P.clsV (toHp h) i l=0/\f=(5,(i:Int),P.clsV (toHp h) i l,()))\/(r = .inr ((),(),Z3,())/\P.clsV (toHp h) i l=0)) (zao (fun x=>∃ k:Nat,x=(((k:Int),()),(),Z3,())/\k<=l.length/\P.zpL (P.clsB (toHp h) i) (l.drop k)=P.clsV (toHp h) i l) (fun x=>((l.length:Int)-x.1.1).toNat) ⟨0,rfl,by omega,rfl⟩ ?_) ?_
 · rintro _ ⟨k,rfl,hk,e3⟩;dsimp only;refine zac (fun h4=>?_) fun h4=>zab ?_
   · simp only [qaa]at h4;have hk':k<l.length:=by omega
     rw [qad,qad,zhe hk',W_id (n:=(k:Int)+1) (by omega)]
     rw [P.zsD (getD_some hk')]at e3;have hmx:=hm _ (zaC (d:=0) hk')
     have h0x:=hx0 _ (zaC (d:=0) hk')
     have h12:=hk12 _ (zaC (d:=0) hk')
     generalize l.getD k 0=x at *
     refine zae (zaj.2 ⟨by omega,by omega⟩) (zae (zaj.2 ⟨by omega,by omega⟩) ?_)
     unfold mkp ofHd;dsimp only;rw [zfp _ _ _ _ _ _ hmx,qab];have hC:P.clsB (toHp h) i x = !(bif (h.2.2.1.getD i PG0).1 == 2 then (P.atH (toHp h) x).k != 0 else decide (P.zaO (P.atH (toHp h) x).k (P.atH (toHp h) x).n (P.atH (toHp h) x).m<=P.zdG h.1.1 h.1.2.1)):=by
      unfold P.clsB;rw [znp];show (decide ((h.2.2.1.getD i PG0).1=1) && !decide (_<=P.zdG h.1.1 h.1.2.1) || decide ((h.2.2.1.getD i PG0).1=2)&&_)=_
      rcases h12 with e | e
      · rw [e];simp
      · rw [e];by_cases q:(P.atH (toHp h) x).k=0 <;> simp [q]
     rw [hC]at e3;dsimp only;refine zac (fun c=>zab ?_) fun c=>zab ?_
     · rw [if_pos c]at e3;exact .inl ⟨_,rfl,by rw [<-e3];exact h0x,by rw [<-e3]⟩
     · rw [if_neg (by rw [c];decide)]at e3
       exact ⟨⟨k+1,rfl,by omega,e3⟩,by dsimp only;omega⟩
   · simp only [qaf]at h4;rw [P.zpK (by omega)]at e3
     exact .inr ⟨rfl,e3.symm⟩
 · rintro _ (⟨f,rfl,h1,rfl⟩ | ⟨rfl,h1⟩)
   · exact zab (by rw [if_neg h1];rfl)
   · exact zab (by rw [if_pos h1];rfl)
namespace P
theorem zjc(all:List Int)(x:Hd):∀ (l:List Int) (k t:Nat) (f:Int),l[t]?=some f->(ptrB x.k x.n x.m ((k+t:Nat):Int)=true/\¬f=0/\¬f∈all)->(∀ (s:Nat) (g:Int),s<t->l[s]?=some g->ptrB x.k x.n x.m ((k+s:Nat):Int)=true->g=0\/g∈all)->za1 all x k l=some (k+t)
 | [],k,t,f,h,_,_=>by simp at h
 | c::l,k,0,f,h,hb,_=>by
  simp only [qca,Option.some.injEq]at h;subst h;rw [qa4]at hb ⊢
  rw [za1,if_pos hb]
 | c::l,k,t+1,f,h,hb,hs=>by
  rw [qbg]at h;rw [za1,if_neg,zjc all x l (k+1) t f h (by rwa [show k+1+t=k+(t+1) from by omega]) fun s g hst hg hp=>hs (s+1) g (by omega) (by rw [qbg];exact hg) (by rwa [show k+(s+1)=k+1+s from by omega])]
  · rw [show k+1+t=k+(t+1) from by omega]
  · rintro ⟨a1,a2,a3⟩;rcases hs 0 c (by omega) rfl a1 with e | e
    · exact a2 e
    · exact a3 e
theorem zv4(k n m:Int):(zeN k n m).Pairwise (fun a b=>a<b):=by
 unfold zeN;split
 · unfold zcB;refine List.Pairwise.filter _ ?_;rw [List.pairwise_map];exact (List.pairwise_lt_range (n:=n.toNat)).imp fun h=>by simp only [Int.ofNat_eq_natCast];omega
 · exact List.Pairwise.nil
theorem zv5{k n m i:Int}(h:ptrB k n m i=true):i∈zeN k n m:=by
 obtain ⟨v,i0,i1⟩:=zoL h;rw [zqF v];unfold zcB;refine qbG.2 ⟨qax.2 ⟨i.toNat,qbJ.2 (by omega),by simp only [Int.ofNat_eq_natCast];omega⟩,h⟩
end P
end Go.VI
namespace Go.VI
open Go Go.Proofs
theorem zgq(h:HpD)(hw:HpW h):Tot (fun r=>toFd r.1.1=P.zbV (toHp h)) (F_audit_checkPointers (h,())):=by
 rw [zcC];dsimp only
 simp only [zar];rw [zfY h hw,qab];dsimp only;have hol:=zkq (toHp h);have hup:=zmx (toHp h);have hwl:=hw.wl;have hO:P.zbV (toHp h)=P.zcn (toHp h) (P.zag (toHp h)) (P.zag (toHp h)):=rfl
 rw [hO];have hob:∀ x∈P.zag (toHp h),P.atE (toHp h) x=0/\P.getH (toHp h) x=P.atH (toHp h) x/\((P.zbM (toHp h) x).length:Int)=(P.atH (toHp h) x).n/\∀ t:Nat,(t:Int)<(P.atH (toHp h) x).n->(P.zbM (toHp h) x)[t]?=some (P.zas (toHp h).words (x+1+t)):=fun x hx=>⟨(P.zdr hx).1,(P.znu hx).2,P.ztw hx,fun t ht=>P.zuU hx ht⟩
 generalize P.zag (toHp h)=l at *
 refine zad (P:=fun r=>(∃ f,r = .inl ((),(),f,())/\toFd f=P.zcn (toHp h) l l)\/(r = .inr ((),(),Z3,())/\P.zcn (toHp h) l l=P.Fd.none)) (zao (fun x=>∃ k:Nat,x=(((k:Int),()),(),Z3,())/\k<=l.length/\P.zcn (toHp h) l (l.drop k)=P.zcn (toHp h) l l) (fun x=>((l.length:Int)-x.1.1).toNat) ⟨0,rfl,by omega,rfl⟩ ?_) ?_
 · rintro _ ⟨k,rfl,hkl,e3⟩;dsimp only;refine zac (fun h4=>?_) fun h4=>zab ?_
   rotate_left
   · simp only [qaf]at h4;rw [P.zsg (by omega)]at e3
     exact .inr ⟨rfl,e3.symm⟩
   simp only [qaa]at h4;have hk:k<l.length:=by omega
   rw [qad,W_id (n:=(k:Int)+1) (by omega)]
   rw [P.zuC (getD_some hk)]at e3;obtain ⟨hxa,hxg,hfl,hff⟩:=hob _ (zaC (d:=0) hk)
   obtain ⟨-,-,-,-,-,-,b1,b2,-,-⟩:=zlc h hw hxa;obtain ⟨i0,j0,g0,bg⟩:=P.zfX hxa;have bwl:=bg.wl;have hwe:(toHp h).words.length=h.2.1.length:=rfl
   obtain ⟨-,a2,a3,a4,a5,a6⟩:=P.zgn hxa;unfold P.osz at bwl;rw [hxg]at e3;generalize l.getD k 0=x at *
   refine zae (zaj.2 ⟨by omega,by omega⟩) (zad (zjj h hw x (by omega)) ?_)
   rintro ⟨⟨⟨(hk':Int),(n:Int),(m:Int),_⟩,(e':Int),_⟩,_⟩ ⟨-,hH⟩;dsimp only at hH ⊢
   rw [hxg]at hH;have ek:(P.atH (toHp h) x).k=hk':=(congrArg P.Hd.k hH).symm
   have en:(P.atH (toHp h) x).n=n:=(congrArg P.Hd.n hH).symm
   have em:(P.atH (toHp h) x).m=m:=(congrArg P.Hd.m hH).symm
   have hnone:=P.zjd l (P.atH (toHp h) x) (P.zbM (toHp h) x) 0;have hsome:=P.zjc l (P.atH (toHp h) x) (P.zbM (toHp h) x) 0;rw [ek,en,em]at hnone hsome;rw [en]at bwl a5 a6 hfl hff;rw [em]at a3 a4;refine zad (zef hk' n m ⟨a3,a4⟩ (by omega)) ?_
   rintro ⟨⟨(ps:List Int),_⟩,_⟩ hps;have hps:ps=P.zeN hk' n m:=hps
   have hpm:∀ i∈ps,P.ptrB hk' n m i=true:=fun i hi=>P.zkj (by rw [<-hps];exact hi)
   have hin:∀ i,P.ptrB hk' n m i=true->i∈ps:=fun i hi=>by rw [hps];exact P.zv5 hi
   have hpu:ps.Pairwise (fun a b=>a<b):=by rw [hps];exact P.zv4 hk' n m
   have hpl:ps.length<=1000000:=by
    rw [hps];unfold P.zeN
    split
    · unfold P.zcB;have:=qbz (fun i=>P.ptrB hk' n m i) ((List.range n.toNat).map Int.ofNat)
      rw [qai,qb6]at this;omega
    · simp
   clear hps;dsimp only;refine zad (P:=fun r=>(∃ f,r = .inl ((),(),f,())/\∃ t:Nat,t<ps.length/\(¬P.zas (toHp h).words (x+1+ps.getD t 0)=0/\¬P.zas (toHp h).words (x+1+ps.getD t 0)∈l)/\(∀ s,s<t->P.zas (toHp h).words (x+1+ps.getD s 0)=0\/P.zas (toHp h).words (x+1+ps.getD s 0)∈l)/\f=(6,P.ofI h.1.1 h.1.2.1 (x+1+ps.getD t 0),x+1+ps.getD t 0,()))\/(r = .inr ((),(),Z3,())/\∀ s,s<ps.length->P.zas (toHp h).words (x+1+ps.getD s 0)=0\/P.zas (toHp h).words (x+1+ps.getD s 0)∈l))
    (zao (fun y=>∃ t:Nat,y=(((t:Int),()),(),Z3,())/\t<=ps.length/\∀ s,s<t->P.zas (toHp h).words (x+1+ps.getD s 0)=0\/P.zas (toHp h).words (x+1+ps.getD s 0)∈l) (fun y=>((ps.length:Int)-y.1.1).toNat) ⟨0,rfl,by omega,fun s hs=>by omega⟩ ?_) ?_
   · rintro _ ⟨t,rfl,htl,hgood⟩;dsimp only;refine zac (fun h5=>?_) fun h5=>zab ?_
     rotate_left
     · simp only [qaf]at h5;exact .inr ⟨rfl,fun s hs=>hgood s (by omega)⟩
     simp only [qaa]at h5;have ht:t<ps.length:=by omega
     rw [qad,W_id (n:=(t:Int)+1) (by omega)]
     have hpi:=hpm _ (zaC (d:=0) ht)
     obtain ⟨-,i1,i2⟩:=P.zoL hpi;rw [U_id (n:=x+1) (by omega),U_id (n:=ps.getD t 0) (by omega),U_id (n:=x+1+ps.getD t 0) (by omega),zdR h (x+1+ps.getD t 0) (by omega) (by omega) hwl,qab]
     refine zae (zaj.2 ⟨by omega,by omega⟩) (zad (zhv l (by omega) hup _) ?_)
     rintro ⟨⟨(b:Bool),_⟩,_⟩ hb;dsimp only at hb ⊢
     refine zac (fun c=>?_) fun c=>zab ?_
     · have hnb:¬(P.zas (toHp h).words (x+1+ps.getD t 0)=0\/P.zas (toHp h).words (x+1+ps.getD t 0)∈l):=fun q=>by rw [hb.2 q]at c;cases c
       rw [zdM];dsimp only;rw [zlq _ _ _ (by omega)]
       exact zab (.inl ⟨_,rfl,t,ht,⟨fun q=>hnb (.inl q),fun q=>hnb (.inr q)⟩,hgood,rfl⟩)
     · have hbt:b=true:=by simpa using c
       exact ⟨⟨t+1,rfl,by omega,fun s hs=>by
        by_cases e:s=t
        · subst e;exact hb.1 hbt
        · exact hgood s (by omega)⟩,by dsimp only;omega⟩
   · rintro _ (⟨f,rfl,t,ht,hbad,hgood,rfl⟩ | ⟨rfl,hgood⟩)
     · have hpi:=hpm _ (zaC (d:=0) ht)
       obtain ⟨-,i1,i2⟩:=P.zoL hpi;obtain ⟨q,hq⟩:=qaQ i1;have hbf:P.za1 l (P.atH (toHp h) x) 0 (P.zbM (toHp h) x)=some (0+q):=by
        refine hsome q (P.zas (toHp h).words (x+1+q)) (hff q (by omega)) ⟨by rw [qaL,<-hq];exact hpi,by rw [<-hq];exact hbad⟩ fun s g hs hg hp=>?_
        rw [hff s (by omega)]at hg
        injection hg with hg
        rw [<-hg];rw [qaL]at hp;obtain ⟨u,hu,eu⟩:=qbS.1 (hin _ hp);have eu:ps.getD u 0=(s:Int):=by rw [qay,qap hu];exact eu
        have hut:u<t:=qbL fun c=>by
         have:=znP hpu (show t<=u by omega) hu
         omega
        have:=hgood u hut
        rw [eu]at this;exact this
       rw [hbf]at e3;refine zab (.inl ⟨_,rfl,?_⟩);rw [<-e3];show _=P.zqG (toHp h) _
       unfold P.zqG toFd;rw [show x+1+((0+q:Nat):Int)=x+1+ps.getD t 0 by omega]
       rfl
     · have hbf:P.za1 l (P.atH (toHp h) x) 0 (P.zbM (toHp h) x)=none:=hnone.2 fun s g hg hp=>by
        have hs:(s:Int)<n:=by
         have:=(qak.1 hg).1
         omega
        rw [hff s hs]at hg;injection hg with hg
        rw [<-hg];rw [qaL]at hp;obtain ⟨u,hu,eu⟩:=qbS.1 (hin _ hp);have eu:ps.getD u 0=(s:Int):=by rw [qay,qap hu];exact eu
        have:=hgood u hu
        rw [eu]at this;exact this
       rw [hbf]at e3;exact zab ⟨⟨k+1,rfl,by omega,e3⟩,by dsimp only;omega⟩
 · rintro _ (⟨f,rfl,hf⟩ | ⟨rfl,hf⟩)
   · exact zab hf
   · exact zab (by rw [hf];rfl)
end Go.VI
namespace Go.VI.P
open Go
theorem zhm{h:Hp}(hok:okH h=true){k:Nat}{g:Pg}(hg:h.pages[k]?=some g)(e:g.kind=2):1<=zau h.pw h.np g.used/\zau h.pw h.np g.used<=4/\(k:Int)+zau h.pw h.np g.used<=h.pages.length /\
 ∀ t:Nat,k<t->(t:Int)<k+zau h.pw h.np g.used->∃ y,h.pages[t]?=some y/\y.kind=3/\y.space=g.space:=by
 obtain ⟨p1,p2,p3,p4,p5,p6⟩:=zaU (zfJ hok);have:=zbb.1 p6 k g hg
 unfold zbG at this;rw [if_neg (by omega),if_neg (by omega),if_pos e]at this
 unfold zcL at this;simp only [qae,qaa]at this;obtain ⟨⟨⟨⟨q1,q2⟩,q3⟩,q4⟩,q5⟩:=this;refine ⟨q2,zwo _ _ _,q4,fun t t1 t2=>?_⟩
 have hl:t<h.pages.length:=by omega
 have hy:h.pages[t]?=some h.pages[t]:=qap hl
 exact ⟨_,hy,zcf.1 q5 t (by omega) (by omega) _ hy⟩
theorem zsW{h:Hp}(hok:okH h=true){j:Nat}{y:Pg}(hy:h.pages[j]?=some y)(e:y.kind=3):∃ (k:Nat) (g:Pg),k<j/\h.pages[k]?=some g/\g.kind=2/\(j:Int)<k+zau h.pw h.np g.used:=by
 obtain ⟨p1,p2,p3,p4,p5,p6⟩:=zaU (zfJ hok);have:=zbb.1 p6 j y hy
 unfold zbG at this;rw [if_neg (by omega),if_neg (by omega),if_neg (by omega),if_pos e]at this
 unfold zd2 zfU at this;rw [qae]at this;obtain ⟨l,l1,l2,-,l4⟩:=(zcp h.pw h.np h.pages j 1).1 this.2;have hj:=(qak.1 hy).1;have hl:h.pages[l]?=some (h.pages.getD l Pg.zero):=by
  rw [qay,qap (show l<h.pages.length by omega)];rfl
 exact ⟨l,_,l1,hl,l2,by omega⟩
theorem zus{h:Hp}(hok:okH h=true){k:Nat}{g:Pg}(hg:h.pages[k]?=some g):0<=zaX h g/\zaX h g<=4/\(k:Int)+zaX h g<=h.pages.length:=by
 have hk:=(qak.1 hg).1;unfold zaX;by_cases e2:g.kind=2
 · rw [if_pos e2];have:=zhm hok hg e2;omega
 · rw [if_neg e2];split <;> omega
theorem znT{h:Hp}(hok:okH h=true){k j:Nat}{g:Pg}(hg:h.pages[k]?=some g)(h1:k<=j)(h2:(j:Int)<k+zaX h g):zbr h.pages j=k:=by
 have hgd:h.pages.getD k Pg.zero=g:=zav hg
 have h3:¬g.kind=3:=fun c=>by
  unfold zaX at h2;rw [if_neg (by omega),if_pos c]at h2;omega
 obtain ⟨d,rfl⟩:∃ d,j=k+d:=⟨j-k,by omega⟩
 refine zhc (by rw [hgd];exact h3) d fun t t1 t2=>?_
 have e2:g.kind=2:=qbL fun e2=>by
  unfold zaX at h2;rw [if_neg e2]at h2;split at h2 <;> omega
 have hsp:zaX h g=zau h.pw h.np g.used:=by unfold zaX;rw [if_pos e2]
 obtain ⟨y,y1,y2,-⟩:=(zhm hok hg e2).2.2.2 t t1 (by omega)
 rw [zav y1];exact y2
def SpOk(h:Hp)(k:Nat):Prop:=(pgAt h k).kind=0\/(pgAt h k).space=h.space
def UseP(h:Hp)(k:Nat)(p:Int):Prop:=(∃ x∈zaD h k,x<=p/\p<x+zc3 h x)\/zas h.words p=0
def InSp(h:Hp)(k:Nat)(p:Int):Prop:=4096+(k:Int)*h.pw<=p/\p<4096+(k:Int)*h.pw+zaX h (pgAt h k)*h.pw
def zwO(h:Hp)(k:Nat):Prop:=SpOk h k/\zbc h k=0/\clsV h k (zaD h k)=0/\∀ p,InSp h k p->UseP h k p
def zxc(h:Hp)(k:Nat)(F:Fd):Prop :=
 (¬SpOk h k/\F=⟨2,k,0⟩)\/(SpOk h k/\¬zbc h k=0/\F=⟨3,k,0⟩)\/(SpOk h k/\zbc h k=0/\¬clsV h k (zaD h k)=0/\F=⟨5,k,clsV h k (zaD h k)⟩) \/
 (SpOk h k/\zbc h k=0/\clsV h k (zaD h k)=0/\∃ p,InSp h k p/\¬UseP h k p/\(∀ q,InSp h k q->q<p->UseP h k q)/\F=⟨4,ofI h.pw h.np p,p⟩)
theorem zja(h:Hp)(i:Nat):∀ (l:List Bool) (k t:Nat),l[t]?=some false->¬zjq h i ((k+t:Nat):Int)=0->(∀ (s:Nat) (b:Bool),s<t->l[s]?=some b->b=true\/zjq h i ((k+s:Nat):Int)=0)->zc1 h i k l=4096+(i:Int)*h.pw+((k+t:Nat):Int)
 | [],k,t,ht,_,_=>by simp at ht
 | c::l,k,0,ht,hx,_=>by
  simp only [qca,Option.some.injEq]at ht;subst ht;rw [qa4]at hx ⊢
  rw [zc1,if_pos ⟨rfl,hx⟩]
 | c::l,k,t+1,ht,hx,hs=>by
  rw [qbg]at ht;rw [zc1,if_neg,zja h i l (k+1) t ht (by rwa [show k+1+t=k+(t+1) from by omega]) fun s b hst hb=>?_]
  · rw [show k+1+t=k+(t+1) from by omega]
  · have:=hs (s+1) b (by omega) (by rw [qbg];exact hb)
    rwa [show k+(s+1)=k+1+s from by omega]at this
  · rintro ⟨a1,a2⟩;rcases hs 0 c (by omega) rfl with e | e
    · rw [a1]at e;cases e
    · exact a2 e
theorem zk3{h:Hp}(hok:okH h=true){j i:Nat}(hj:j<h.pages.length)(hi:zbr h.pages j=i)(hu:∀ t:Nat,(t:Int)<h.pw->UseP h i (4096+(j:Int)*h.pw+t)):zk4 h j=0:=by
 obtain ⟨p1,p2,p3,-⟩:=zaq hok;have c:=zai p1;unfold zk4;rw [zk5 h j (by omega),hi]
 intro t b hb;have ht:(t:Int)<h.pw:=by
  have:=(qak.1 hb).1
  rw [zoB]at this;omega
 rw [zj4 h j _ ht]at hb;injection hb with hb
 subst hb;rcases hu t ht with e | e
 · exact .inl (zm5.2 e)
 · right
   rw [qaL,zik p1 (by omega) ht];exact e
theorem zty{h:Hp}(hok:okH h=true){j i:Nat}(hj:j<h.pages.length)(hi:zbr h.pages j=i){t:Nat}(ht:(t:Int)<h.pw)(hn:¬UseP h i (4096+(j:Int)*h.pw+t))(hu:∀ s:Nat,s<t->UseP h i (4096+(j:Int)*h.pw+s)):zk4 h j=4096+(j:Int)*h.pw+t:=by
 obtain ⟨p1,p2,p3,-⟩:=zaq hok;have c:=zai p1;unfold zk4;rw [hi];have hub:zm6 h j (zaD h i) t=false:=by
  cases hb:zm6 h j (zaD h i) t with
  | false=>rfl
  | true=>exact absurd (.inl (zm5.1 hb)) hn
 rw [zja h j _ 0 t (by rw [zj4 h j _ ht,hub]) (by rw [qaL,zik p1 (by omega) ht];exact fun e=>hn (.inr e)) fun s b hs hb=>?_,qaL]
 rw [zj4 h j _ (by omega)]at hb
 injection hb with hb
 subst hb;rcases hu s hs with e | e
 · exact .inl (zm5.2 e)
 · right
   rw [qaL,zik p1 (by omega) (by omega)];exact e
theorem zmv{h:Hp}{k:Nat}(h1:SpOk h k)(h2:zbc h k=0)(h3:clsV h k (zaD h k)=0)(h4:zk4 h k=0):(ze2 h k).fault=0:=by
 unfold ze2;rw [if_neg (by rintro ⟨a,b⟩;exact h1.elim a b),if_neg (by simpa using h2),if_neg (by simpa using h3),if_neg (by simpa using h4)];rfl
theorem zfT(h:Hp):∀ (n i:Nat),(∀ j,i<=j->j<i+n->(ze2 h j).fault=0)->zaQ h i n=Fd.none
 | 0,i,_=>rfl
 | n+1,i,hh=>by
  rw [zaQ,if_neg (by have:=hh i (qam _) (by omega);simpa using this)]
  exact zfT h n (i+1) fun j h1 h2=>hh j (by omega) (by omega)
theorem zeZ(h:Hp):∀ (n i j:Nat),i<=j->j<i+n->¬(ze2 h j).fault=0->(∀ t,i<=t->t<j->(ze2 h t).fault=0)->zaQ h i n=ze2 h j
 | 0,i,j,_,_,_,_=>by omega
 | n+1,i,j,h1,h2,hb,hg=>by
  rw [zaQ];by_cases e:i=j
  · subst e;rw [if_pos hb]
  · rw [if_neg (by have:=hg i (qam _) (by omega);simpa using this)]
    exact zeZ h n (i+1) j (by omega) (by omega) hb fun t t1 t2=>hg t (by omega) t2
theorem zrc{pw:Int}(hp:0<=pw){k j:Nat}{n:Int}(h1:k<=j)(h2:(j:Int)<k+n){t:Nat}(ht:(t:Int)<pw):4096+(k:Int)*pw<=4096+(j:Int)*pw+t/\4096+(j:Int)*pw+t<4096+(k:Int)*pw+n*pw:=by
 have a:=qaR (show (k:Int)<=j by omega) hp
 have b:=qaR (show (j:Int)+1<=k+n by omega) hp
 rw [qa9,qbj,qa9]at b;omega
theorem zkt{h:Hp}(hok:okH h=true){k:Nat}(hk:k<=h.pages.length)(hn:∀ j,j<k->zwO h j):∀ j,j<k->(ze2 h j).fault=0:=fun j hj=>by
 obtain ⟨p1,p2,p3,-⟩:=zaq hok;have c:=zai p1;obtain ⟨n1,n2,n3,n4⟩:=hn j hj;have hy:h.pages[j]?=some h.pages[j]:=qap (by omega)
 generalize h.pages[j]=y at hy
 refine zmv n1 n2 n3 ?_;by_cases e:y.kind=3
 · obtain ⟨i,g,i1,i2,i3,i4⟩:=zsW hok hy e;have hsp:zaX h g=zau h.pw h.np g.used:=by unfold zaX;rw [if_pos i3]
   obtain ⟨-,-,-,m4⟩:=hn i (by omega)
   refine zk3 hok (by omega) (znT hok i2 (by omega) (by rw [hsp];exact i4)) fun t ht=>m4 _ ?_
   have:=zrc (pw:=h.pw) (by omega) (show i<=j by omega) i4 ht
   unfold InSp;rw [zb5 i2,hsp];exact this
 · have hs1:1<=zaX h y:=by
    unfold zaX;by_cases e2:y.kind=2
    · rw [if_pos e2];exact (zhm hok hy e2).1
    · rw [if_neg e2,if_neg e];omega
   refine zk3 hok (by omega) (znT hok hy (qam _) (by omega)) fun t ht=>n4 _ ?_
   have:=zrc (pw:=h.pw) (by omega) (qam j) (show (j:Int)<j+zaX h y by omega) ht
   unfold InSp;rw [zb5 hy];exact this
theorem zrl{h:Hp}(hok:okH h=true){k:Nat}(hk:k<h.pages.length)(hn:∀ j,j<k->zwO h j){F:Fd}(hF:zxc h k F):zaQ h 0 h.pages.length=F/\¬F.fault=0:=by
 obtain ⟨p1,p2,p3,-⟩:=zaq hok;have c:=zai p1;have hb:=zkt hok (by omega) hn
 have key:∀ j,k<=j->j<h.pages.length->ze2 h j=F->¬F.fault=0->(∀ t,k<=t->t<j->(ze2 h t).fault=0)->zaQ h 0 h.pages.length=F/\¬F.fault=0:=fun j j1 j2 e q ht=>by
  refine ⟨?_,q⟩;rw [zeZ h _ 0 j (by omega) (by omega) (by rw [e];exact q) fun t t1 t2=>?_,e]
  by_cases hlt:t<k
  · exact hb t hlt
  · exact ht t (by omega) t2
 rcases hF with ⟨a,rfl⟩ | ⟨a,b,rfl⟩ | ⟨a,b,d,rfl⟩ | ⟨a,b,d,p,q1,q2,q3,rfl⟩
 · refine key k (qam _) hk ?_ (show ¬(2:Int)=0 by decide) fun t t1 t2=>by omega
   unfold ze2;rw [if_pos ⟨fun e=>a (.inl e),fun e=>a (.inr e)⟩]
 · refine key k (qam _) hk ?_ (show ¬(3:Int)=0 by decide) fun t t1 t2=>by omega
   unfold ze2;rw [if_neg (by rintro ⟨u,v⟩;exact a.elim u v),if_pos b]
 · refine key k (qam _) hk ?_ (show ¬(5:Int)=0 by decide) fun t t1 t2=>by omega
   unfold ze2;rw [if_neg (by rintro ⟨u,v⟩;exact a.elim u v),if_neg (by simpa using b),if_pos d]
 · have hg:h.pages[k]?=some h.pages[k]:=qap hk
   generalize h.pages[k]=g at hg
   have hpg:=zb5 hg;obtain ⟨s1,s2,s3⟩:=zus hok hg;have q1':=q1;unfold InSp at q1'
   rw [hpg]at q1'
   have hk0:0<=(k:Int)*h.pw:=qa0 (by omega) (by omega)
   have hle:((k:Int)+zaX h g)*h.pw<=h.np*h.pw:=qaR (by omega) (by omega)
   rw [qa9]at hle;obtain ⟨j,t,ep,j1,t1⟩:=zta p1 (p:=p) (by omega) (by omega)
   have l1:(k:Int)*h.pw<((j:Int)+1)*h.pw:=by rw [qa9 ((j:Int)),qbj];omega
   have l2:(j:Int)*h.pw<((k:Int)+zaX h g)*h.pw:=by rw [qa9 ((k:Int))];omega
   have l1:=qcs l1 (by omega)
   have l2:=qcs l2 (by omega)
   have inS:∀ (j' s:Nat),k<=j'->(j':Int)<k+zaX h g->(s:Int)<h.pw->InSp h k (4096+(j':Int)*h.pw+s):=fun j' s a1 a2 a3=>by
    unfold InSp;rw [hpg];exact zrc (by omega) a1 a2 a3
   have three:∀ j',k<=j'->(j':Int)<k+zaX h g->SpOk h j'/\zbc h j'=0/\clsV h j' (zaD h j')=0:=fun j' a1 a2=>by
    by_cases e:j'=k
    · subst e;exact ⟨a,b,d⟩
    · have e2:g.kind=2:=qbL fun e2=>by
       unfold zaX at a2;rw [if_neg e2]at a2;split at a2 <;> omega
      have hsp:zaX h g=zau h.pw h.np g.used:=by unfold zaX;rw [if_pos e2]
      obtain ⟨y,y1,y2,y3⟩:=(zhm hok hg e2).2.2.2 j' (by omega) (by omega)
      obtain ⟨z1,z2⟩:=zgP hok y1 (.inr y2);refine ⟨.inr ?_,z1,by rw [z2];rfl⟩
      rw [zb5 y1,y3];have a':=a;unfold SpOk at a'
      rw [hpg]at a'
      exact a'.resolve_left (by omega)
   have hlow:∀ (j' s:Nat),k<=j'->(j':Int)<k+zaX h g->(s:Int)<h.pw->(j'<j\/(j'=j/\s<t))->UseP h k (4096+(j':Int)*h.pw+s):=fun j' s a1 a2 a3 a4=>by
    refine q3 _ (inS j' s a1 a2 a3) ?_;rcases a4 with a4 | ⟨rfl,a4⟩
    · have:=qaR (show (j':Int)+1<=j by omega) (show 0<=h.pw by omega)
      rw [qa9,qbj]at this;omega
    · omega
   have hof:ofI h.pw h.np p=j:=by
    obtain ⟨o1,o2,o3⟩:=zh9 (p:=(j:Int)) (o:=(t:Int)) p1 (by unfold inPg;exact qac ⟨by omega,by omega,by omega,t1⟩)
    rw [ep,(zgO p1 o1).1];exact o2
   obtain ⟨w1,w2,w3⟩:=three j (by omega) l2
   have hd:zk4 h j=p:=by
    rw [ep];exact zty hok (by omega) (znT hok hg (by omega) l2) t1 (by rw [<-ep];exact q2) fun s hs=>hlow j s (by omega) l2 (by omega) (.inr ⟨rfl,hs⟩)
   refine key j (by omega) (by omega) ?_ (show ¬(4:Int)=0 by decide) fun j' a1 a2=>?_
   · unfold ze2;rw [if_neg (by rintro ⟨u,v⟩;exact w1.elim u v),if_neg (by simpa using w2),if_neg (by simpa using w3),hd,if_pos (by omega),hof]
   · obtain ⟨v1,v2,v3⟩:=three j' a1 (by omega)
     exact zmv v1 v2 v3 (zk3 hok (by omega) (znT hok hg a1 (by omega)) fun s hs=>hlow j' s a1 (by omega) hs (.inl a2))
end Go.VI.P
namespace Go.VI
open Go Go.Proofs
theorem zlk(h:HpD)(x p:Int)(hx:P.atE (toHp h) x=0)(h0:0<=x/\x<=100004096)(hp:0<=p/\p<=1000000000):F_audit_part_uses (mkp h x,p,())=some ((decide (x<=p/\p<x+P.zc3 (toHp h) x),()),()):=by
 obtain ⟨-,a2,a3,a4,a5,a6⟩:=P.zgn hx;have v:=P.zay a2;rw [zcr];unfold mkp ofHd;dsimp only;unfold P.zc3;rw [P.zcm a2];by_cases hxp:x<=p
 · rw [qac (show p >= x by omega),qah]
   by_cases e:(P.atH (toHp h) x).k=0
   · rw [if_pos e,show ((P.atH (toHp h) x).k != 0)=false by simpa using e,qag,U_id (by omega),U_id (by omega)]
     have:(p-x<=0)=(x<=p/\p<x+1):=propext ⟨fun _=>by omega,fun _=>by omega⟩
     simp only [this]
   · rw [if_neg e,show ((P.atH (toHp h) x).k != 0)=true by simpa using e,qah,U_id (by omega),U_id (by omega)]
     have:(p-x<=(P.atH (toHp h) x).n)=(x<=p/\p<x+((P.atH (toHp h) x).n+1)):=propext ⟨fun _=>by omega,fun _=>by omega⟩
     simp only [this]
 · rw [qaj (show ¬p >= x by omega),qag,qaj (fun c=>hxp c.1)]
theorem zlm(h:HpD)(hw:HpW h)(hok:P.okH (toHp h)=true)(k:Nat)(hk:k<h.2.2.1.length):Tot (fun r=>(r.1.1=Z3/\∀ p,P.InSp (toHp h) k p->P.UseP (toHp h) k p)\/∃ p,P.InSp (toHp h) k p/\¬P.UseP (toHp h) k p/\(∀ q,P.InSp (toHp h) k q->q<p->P.UseP (toHp h) k q)/\r.1.1=(4,P.ofI h.1.1 h.1.2.1 p,p,())) (F_audit_checkDirt (h,(k:Int),(P.zaD (toHp h) k).map (mkp h),())):=by
 obtain ⟨p1,p2,p3,p4,p5,p6,p7⟩:=P.zaq hok;have c:=P.zai p1;have c1:16<=h.1.1/\h.1.1<=64:=⟨c.1,c.2.1⟩
 have c3:8<=h.1.2.1/\h.1.2.1<=64:=⟨c.2.2.2.1,c.2.2.2.2⟩
 have hc:confB h.1.1 h.1.2.1=true:=by rw [<-zaH];exact p1
 have hlm:(toHp h).pages.length=h.2.2.1.length:=qai ..
 have hpn:(h.2.2.1.length:Int)=h.1.2.1:=by rw [<-hlm];exact p3
 have hwe:((h.2.1.length:Nat):Int)=h.1.2.1*h.1.1:=p2
 have hwl:=hw.wl;have hat:(toHp h).pages[k]?=some (toPg (h.2.2.1.getD k PG0)):=zbe hk
 obtain ⟨s1,s2,s3⟩:=P.zus hok hat;have s3:((k:Int)+P.zaX (toHp h) (toPg (h.2.2.1.getD k PG0)))*h.1.1<=h.1.2.1*h.1.1:=qaR (by omega) (by omega)
 rw [qa9]at s3;have hIn:∀ p,P.InSp (toHp h) k p↔(4096+(k:Int)*h.1.1<=p/\p<4096+(k:Int)*h.1.1+P.zaX (toHp h) (toPg (h.2.2.1.getD k PG0))*h.1.1):=fun p=>by unfold P.InSp;rw [P.zb5 hat];exact Iff.rfl
 have hUse:∀ p,P.UseP (toHp h) k p↔((∃ x∈P.zaD (toHp h) k,x<=p/\p<x+P.zc3 (toHp h) x)\/P.zas (toHp h).words p=0):=fun p=>Iff.rfl
 have hll:=zd7 (toHp h) (k:Int);have hax:∀ x∈P.zaD (toHp h) k,P.atE (toHp h) x=0:=fun x hx=>P.zdJ hx
 rw [zdO];dsimp only
 simp only [zar];rw [zji h hc hpn k hk (P.zaX (toHp h) (toPg (h.2.2.1.getD k PG0))) s1 s2 rfl,qab];dsimp only;generalize P.InSp (toHp h) k=IN at *
 generalize P.UseP (toHp h) k=US at *
 generalize P.zaX (toHp h) (toPg (h.2.2.1.getD k PG0))=n at *
 generalize P.zaD (toHp h) k=l at *
 have k0:0<=(k:Int)*h.1.1:=qa0 (by omega) (by omega)
 have k1:0<=n*h.1.1:=qa0 s1 (by omega)
 generalize (k:Int)*h.1.1=s at *
 generalize n*h.1.1=z at *
 have hll2:(l.map (mkp h)).length=l.length:=qai ..
 refine zad (P:=fun r=>(r = .inr ((),(),Z3,())/\∀ p,IN p->US p)\/∃ p,IN p/\¬US p/\(∀ q,IN q->q<p->US q)/\r = .inl ((),(),(4,P.ofI h.1.1 h.1.2.1 p,p,()),())) (zao (fun x=>∃ a:Int,x=((a,()),(),Z3,())/\4096+s<=a/\a<=4096+s+z/\∀ q,IN q->q<a->US q) (fun x=>(4096+s+z-x.1.1).toNat) ⟨_,rfl,by omega,by omega,fun q q1 q2=>by have:=(hIn q).1 q1;omega⟩ ?_) ?_
 · rintro _ ⟨a,rfl,a1,a2,a3⟩;dsimp only;refine zac (fun h4=>?_) fun h4=>zab ?_
   rotate_left
   · simp only [qaf]at h4;exact .inl ⟨rfl,fun p hp=>a3 p hp (by have:=(hIn p).1 hp;omega)⟩
   simp only [qaa]at h4;have next:US a->∃ a',(((a+1,()),(),Z3,()):FX)=((a',()),(),Z3,())/\4096+s<=a'/\a'<=4096+s+z/\∀ q,IN q->q<a'->US q:=fun hu=>⟨a+1,rfl,by omega,by omega,fun q q1 q2=>by
    by_cases e:q=a
    · subst e;exact hu
    · exact a3 q q1 (by omega)⟩
   rw [zdR h a (by omega) (by omega) hwl,qab,U_id (n:=a+1) (by omega)]
   dsimp only;refine zac (fun h5=>?_) fun h5=>?_
   · simp only [qaC]at h5;exact zab ⟨next ((hUse a).2 (.inr h5)),by dsimp only;omega⟩
   simp only [qaX,ne_eq]at h5;refine zad (P:=fun r=>(∃ y,r = .inl y/\US a)\/(∃ y,r = .inr y/\¬US a)) (zao (fun x=>∃ t:Nat,x.1.1=(t:Int)/\t<=l.length/\∀ u,u<t->¬(l.getD u 0<=a/\a<l.getD u 0+P.zc3 (toHp h) (l.getD u 0))) (fun x=>((l.length:Int)-x.1.1).toNat) ⟨0,rfl,by omega,fun u hu=>by omega⟩ ?_) ?_
   · rintro ⟨⟨(t':Int),_⟩,_⟩ ⟨t,e1,e2,e3⟩;dsimp only at e1 ⊢
     subst e1;refine zac (fun h6=>?_) fun h6=>zab ?_
     rotate_left
     · simp only [qaf]at h6;refine .inr ⟨_,rfl,fun hu=>?_⟩
       rcases (hUse a).1 hu with ⟨x,hx,x1⟩ | q
       · obtain ⟨u,hu2,eu⟩:=qbS.1 hx;have eu:l.getD u 0=x:=by rw [qay,qap hu2];exact eu
         exact e3 u (by omega) (by rw [eu];exact x1)
       · exact h5 q
     simp only [qaa]at h6;have ht:t<l.length:=by omega
     rw [qad,zhe ht,W_id (n:=(t:Int)+1) (by omega)]
     obtain ⟨-,-,-,-,-,-,b1,b2,-,-⟩:=zlc h hw (hax _ (zaC (d:=0) ht))
     refine zae (zaj.2 ⟨by omega,by omega⟩) (zad (P:=fun r=>r.1.1=decide (l.getD t 0<=a/\a<l.getD t 0+P.zc3 (toHp h) (l.getD t 0))) ⟨_,zlk h (l.getD t 0) a (hax _ (zaC (d:=0) ht)) ⟨by omega,by omega⟩ ⟨by omega,by omega⟩,rfl⟩ ?_)
     rintro ⟨⟨(b:Bool),_⟩,_⟩ hb;have hb:b=decide (l.getD t 0<=a/\a<l.getD t 0+P.zc3 (toHp h) (l.getD t 0)):=hb
     refine zac (fun c=>zab ?_) fun c=>zab ?_
     · have c:b=true:=c
       rw [hb]at c;exact .inl ⟨_,rfl,(hUse a).2 (.inl ⟨_,zaC (d:=0) ht,qar c⟩)⟩
     · have c:b=false:=c
       rw [hb]at c;exact ⟨⟨t+1,by dsimp only;omega,by omega,fun u hu=>by
        by_cases e:u=t
        · subst e;exact qa3 c
        · exact e3 u (by omega)⟩,by dsimp only;omega⟩
   · rintro _ (⟨y,rfl,hu⟩ | ⟨y,rfl,hu⟩)
     · exact zab ⟨next hu,by dsimp only;omega⟩
     · simp only [qan];rw [zdM];dsimp only;rw [zlq _ _ _ (by omega)]
       exact zab (.inr ⟨a,(hIn a).2 ⟨a1,h4⟩,hu,a3,rfl⟩)
 · rintro _ (⟨rfl,q⟩ | ⟨p,q1,q2,q3,rfl⟩)
   · exact zab (.inl ⟨rfl,q⟩)
   · exact zab (.inr ⟨p,q1,q2,q3,rfl⟩)
theorem zsP(f g:Int×Int×Int×Unit)(hf:¬f.1=0):Tot (fun r=>r.1.1=f) (F_cmp_Or_audit_Finding ([f,g],())):=by
 obtain ⟨f1,f2,f3,_⟩:=f;have hf:¬f1=0:=hf
 have hne:(f1 == 0)=false:=by simpa using hf
 rw [zbz];dsimp only
 refine zad (P:=fun r=>r = .inl ((),(),(f1,f2,f3,()),())) (zao (fun x=>x=((0,()),(),Z3,())) (fun _=>0) rfl ?_) ?_
 · rintro _ rfl;refine zac (fun _=>zae rfl (zac (fun _=>zab rfl) fun c=>?_)) fun c=>by simp at c
   exfalso
   have c:(!(f1 == 0&&(f2 == 0&&(f3 == 0&&true))))=false:=c
   rw [hne]at c;cases c
 · rintro _ rfl;exact zab rfl
theorem ziC(h:HpD)(hw:HpW h)(i:Int)(he:¬P.zbc (toHp h) i=0):Tot (fun r=>¬r.1.2.1=0) (F_audit_partsOf (h,i,())):=by
 rw [zeJ];dsimp only
 simp only [zar];rw [zlg h hw i,qab];dsimp only;exact zac (fun _=>zab he) fun c=>absurd (by simpa using c) he
theorem zll(h:HpD)(hw:HpW h)(hok:P.okH (toHp h)=true)(k:Nat)(hk:k<h.2.2.1.length):Tot (fun r=>(r.1.1=Z3/\P.zwO (toHp h) k)\/P.zxc (toHp h) k (toFd r.1.1)) (F_audit_checkPage (h,(k:Int),())):=by
 have hlm:(toHp h).pages.length=h.2.2.1.length:=qai ..
 have hat:(toHp h).pages[k]?=some (toPg (h.2.2.1.getD k PG0)):=zbe hk
 have hpl:=hw.pl;have hll:=zd7 (toHp h) (k:Int);have hax:∀ x∈P.zaD (toHp h) k,P.atE (toHp h) x=0:=fun x hx=>P.zdJ hx
 have hdirt:=zlm h hw hok k hk;have hSp:P.SpOk (toHp h) k↔((h.2.2.1.getD k PG0).1=0\/(h.2.2.1.getD k PG0).2.1=h.2.2.2.1):=by unfold P.SpOk;rw [P.zb5 hat];exact Iff.rfl
 rw [zdN];dsimp only
 simp only [zar];rw [qad];refine zae (zaj.2 ⟨by omega,by omega⟩) (zac (fun c=>zab (.inr (.inl ⟨?_,rfl⟩))) fun c=>?_)
 · rw [hSp];intro q;cases h0:((h.2.2.1.getD k PG0).1 != 0) with
   | false=>rw [h0]at c;cases c
   | true=>
    rw [h0]at c;simp only [qah,qaz,ne_eq]at c h0;exact q.elim h0 c
 have hsp:P.SpOk (toHp h) k:=by
  rw [hSp];cases h0:((h.2.2.1.getD k PG0).1 != 0) with
  | false=>exact .inl (by simpa using h0)
  | true=>
   rw [h0]at c;simp only [qah,qaA]at c;exact .inr c
 clear c;by_cases hpe:P.zbc (toHp h) k=0
 · refine zad (zfo h hw k hpe) ?_;rintro ⟨⟨(ps:List PtD),(e:Int),_⟩,_⟩ ⟨hps,he⟩;dsimp only at hps he ⊢
   subst he hps;refine zac (fun c=>by simp at c) fun _=>zad (zhx h hok k hk _ (by omega) (fun x hx=>by obtain ⟨-,-,a3,a4,-⟩:=P.zgn (hax x hx);exact ⟨a3,a4⟩) (fun x hx e=>by have:=P.zvw (hax x hx);omega) fun x hx=>?_) ?_
   · obtain ⟨j,g',b⟩:=P.zb6 hok (by omega) hx
     have hkd:=b.kd;have hgg:g'=toPg (h.2.2.1.getD k PG0):=by have:=b.pg;rw [hat]at this;injection this with this;exact this.symm
     subst hgg;exact hkd.elim (fun a=>.inl a.1) fun a=>.inr a.1
   rintro ⟨⟨f1,_⟩,_⟩ hf;have hf:toFd f1=if P.clsV (toHp h) k (P.zaD (toHp h) k)=0 then P.Fd.none else ⟨5,k,P.clsV (toHp h) k (P.zaD (toHp h) k)⟩:=hf
   refine zad hdirt ?_;rintro ⟨⟨f2,_⟩,_⟩ hf2;dsimp only at hf2 ⊢
   by_cases hcl:P.clsV (toHp h) k (P.zaD (toHp h) k)=0
   · rw [if_pos hcl]at hf;have hz:f1=Z3:=by
      have a:=congrArg P.Fd.fault hf;have b:=congrArg P.Fd.page hf;have c:=congrArg P.Fd.addr hf;obtain ⟨x1,x2,x3,_⟩:=f1;have a:x1=0:=a
      have b:x2=0:=b
      have c:x3=0:=c
      rw [a,b,c]
     subst hz;rcases hf2 with ⟨rfl,q⟩ | ⟨p,q1,q2,q3,rfl⟩
     · refine zad zhC ?_;rintro ⟨⟨f3,_⟩,_⟩ hf3;have hf3:f3=Z3:=hf3
       subst hf3;exact zab (.inl ⟨rfl,hsp,hpe,hcl,q⟩)
     · refine zad (zsO _ (show ¬(4:Int)=0 by decide)) ?_
       rintro ⟨⟨f3,_⟩,_⟩ hf3;have hf3:f3=(4,P.ofI h.1.1 h.1.2.1 p,p,()):=hf3
       subst hf3;exact zab (.inr (.inr (.inr (.inr ⟨hsp,hpe,hcl,p,q1,q2,q3,rfl⟩))))
   · rw [if_neg hcl]at hf;have hn:¬f1.1=0:=by
      have a:=congrArg P.Fd.fault hf;exact fun q=>absurd (a.symm.trans q) (show ¬(5:Int)=0 by decide)
     refine zad (zsP _ _ hn) ?_;rintro ⟨⟨f3,_⟩,_⟩ hf3;have hf3:f3=f1:=hf3
     subst hf3;exact zab (.inr (.inr (.inr (.inl ⟨hsp,hpe,hcl,hf⟩))))
 · refine zad (ziC h hw k hpe) ?_;rintro ⟨⟨(ps:List PtD),(e:Int),_⟩,_⟩ he;dsimp only at he ⊢
   exact zac (fun _=>zab (.inr (.inr (.inl ⟨hsp,hpe,rfl⟩)))) fun c=>absurd (by simpa using c) he
theorem zkl(h:P.Hp)(all:List Int):∀ l:List Int,P.zcn h all l=P.Fd.none\/¬(P.zcn h all l).fault=0
 | []=>.inl rfl
 | x::l=>by
  rw [P.zcn];cases P.za1 all (P.getH h x) 0 (P.zbM h x) with
  | some k=>exact .inr (show ¬(6:Int)=0 by decide)
  | none=>exact zkl h all l
theorem fd_z(f:Int×Int×Int×Unit)(hf:toFd f=P.Fd.none):f=Z3:=by
 have a:=congrArg P.Fd.fault hf;have b:=congrArg P.Fd.page hf;have c:=congrArg P.Fd.addr hf;obtain ⟨x1,x2,x3,_⟩:=f;have a:x1=0:=a
 have b:x2=0:=b
 have c:x3=0:=c
 rw [a,b,c]
theorem zeK(h:HpD)(hw:HpW h):Tot (fun r=>toFd r.1.1=P.zfj (toHp h)) (F_audit_Check (h,())):=by
 have hpl:=hw.pl;have hlm:(toHp h).pages.length=h.2.2.1.length:=qai ..
 rw [zdV];dsimp only
 simp only [zar];refine zad (zbQ h hw) ?_;rintro ⟨⟨(b:Bool),_⟩,_⟩ hb;have hb:b=P.okH (toHp h):=hb
 unfold P.zfj;cases hok:P.okH (toHp h) with
 | false=>
  rw [hok]at hb;subst hb;exact zac (fun _=>zab (by rw [if_neg (by decide)];rfl)) fun c=>by cases c
 | true=>
 rw [hok]at hb;subst hb;have hptr:=zgq h hw;have hcr:=zjF h hpl (by rw [<-zaH];exact (P.zaq hok).1)
 rw [if_pos rfl];refine zac (fun c=>by cases c) fun _=>zad (P:=fun r=>(∃ f,r = .inl ((),(),f,())/\toFd f=P.zaQ (toHp h) 0 (toHp h).pages.length/\¬(P.zaQ (toHp h) 0 (toHp h).pages.length).fault=0)\/(∃ f,r = .inr ((),(),f,())/\P.zaQ (toHp h) 0 (toHp h).pages.length=P.Fd.none)) (zao (fun x=>∃ k:Nat,x=(((k:Int),()),(),Z3,())/\k<=h.2.2.1.length/\∀ j,j<k->P.zwO (toHp h) j) (fun x=>((h.2.2.1.length:Int)-x.1.1).toNat) ⟨0,rfl,by omega,fun j hj=>by omega⟩ ?_) ?_
 · rintro _ ⟨k,rfl,hk,hn⟩;dsimp only;refine zac (fun h4=>?_) fun h4=>zab ?_
   rotate_left
   · simp only [qaf]at h4;refine .inr ⟨_,rfl,P.zfT _ _ _ fun j _ hj=>P.zkt hok (k:=k) (by omega) hn j (by omega)⟩
   simp only [qaa]at h4;rw [W_id (n:=(k:Int)+1) (by omega)]
   refine zad (zll h hw hok k (by omega)) ?_
   rintro ⟨⟨f,_⟩,_⟩ hf;dsimp only at hf ⊢
   rcases hf with ⟨rfl,hpn⟩ | hf
   · exact zac (fun c=>by simp at c) fun _=>zab ⟨⟨k+1,rfl,by omega,fun j hj=>by
      by_cases e:j=k
      · subst e;exact hpn
      · exact hn j (by omega)⟩,by dsimp only;omega⟩
   · obtain ⟨g1,g2⟩:=P.zrl hok (by omega) hn hf
     obtain ⟨x1,x2,x3,_⟩:=f;have g2':¬x1=0:=g2
     have hne:(x1 == 0)=false:=by simpa using g2'
     refine zac (fun _=>zab (.inl ⟨_,rfl,g1.symm,by rw [g1];exact g2⟩)) fun c=>?_
     exfalso
     have c:(!(x1 == 0&&(x2 == 0&&(x3 == 0&&true))))=false:=c
     rw [hne]at c;cases c
 · rintro _ (⟨f,rfl,g1,g2⟩ | ⟨f,rfl,g1⟩)
   · exact zab (by rw [if_pos g2];exact g1)
   · simp only [qan];rw [g1,if_neg (by decide +kernel)]
     refine zad hptr ?_;rintro ⟨⟨f1,_⟩,_⟩ hf1;have hf1:toFd f1=P.zbV (toHp h):=hf1
     refine zad hcr ?_;rintro ⟨⟨f2,_⟩,_⟩ hf2;have hf2:toFd f2=if h.1.2.1 / 4<(P.zaS (toHp h).pages:Int) then ⟨7,0,0⟩ else P.Fd.none:=hf2
     dsimp only;rcases zkl (toHp h) (P.zag (toHp h)) (P.zag (toHp h)) with hz | hz
     · have hz:P.zbV (toHp h)=P.Fd.none:=hz
       have e1:=fd_z f1 (hf1.trans hz);subst e1;rw [hz,if_neg (by decide +kernel)]
       have enp:(toHp h).np=h.1.2.1:=rfl
       rw [enp];by_cases hcw:h.1.2.1 / 4<(P.zaS (toHp h).pages:Int)
       · rw [if_pos hcw]at hf2 ⊢
         refine zad (zsO f2 (fun q=>absurd ((congrArg P.Fd.fault hf2).symm.trans q) (show ¬(7:Int)=0 by decide))) ?_
         rintro ⟨⟨f3,_⟩,_⟩ hf3;have hf3:f3=f2:=hf3
         subst hf3;exact zab hf2
       · rw [if_neg hcw]at hf2 ⊢
         have e2:=fd_z f2 hf2;subst e2;refine zad zhC ?_;rintro ⟨⟨f3,_⟩,_⟩ hf3;have hf3:f3=Z3:=hf3
         subst hf3;exact zab rfl
     · have hz:¬(P.zbV (toHp h)).fault=0:=hz
       rw [if_pos hz];refine zad (zsP f1 f2 (by rw [<-hf1]at hz;exact hz)) ?_
       rintro ⟨⟨f3,_⟩,_⟩ hf3;have hf3:f3=f1:=hf3
       subst hf3;exact zab hf1
end Go.VI
