import Derived.Test.YtipjdbhocjpmdaaGreatQ01
import Derived.Test.YtipjdbhocjpmdaaGreatQ10
import Derived.Test.YtipjdbhocjpmdaaGreatQ27
import Derived.Deep.DeepCutAuto
set_option linter.unusedSimpArgs false
set_option linter.unusedVariables false
set_option maxRecDepth 100000
set_option maxHeartbeats 12800000
namespace Go.Proofs.YtipjdbhocjpmdaaGreat
open Go.RowKit
def frB (x:Wk) (k:Nat):Bool:=!decide ((x.h.pages.getD k Pg.zero).kind=0) && decide ((x.h.pages.getD k Pg.zero).space=x.h.space)
def frPs (x:Wk):Nat->List Pg
 | 0=>x.h.pages
 | k+1=>if frB x k then (frPs x k).set k Pg.zero else frPs x k
def frWs (x:Wk):Nat->List Int
 | 0=>x.h.words
 | k+1=>if frB x k then splice (frWs x k) (k*x.h.pw.toNat) (List.replicate x.h.pw.toNat 0) else frWs x k
def frR (x:Wk):Nat->Int
 | 0=>x.r3
 | k+1=>if frB x k then wrap64 (frR x k+1) else frR x k
def WVF (w:World) (S:Nat->Prop) (B:Nat) (v:Value) (x:Wk):Prop:=∃ p q po pt pq n c m d no co nt ct nq cq,v=(.agg #[.int .i64 x.h.pw,.int .i64 x.h.np,.slice p n c,.slice q m d,.int .i64 x.h.space,.int .i64 x.h.bump,.slice po no co,.slice pt nt ct,.slice pq nq cq,.int .i64 x.sc,.int .i64 x.r0,.int .i64 x.r1,.int .i64 x.r2,.int .i64 x.r3,.int .i64 x.r4,.int .i64 x.r5])/\WR w S x p q po pt pq n c m d no co nt ct nq cq/\(∀ ad,q=some ad->B<=ad.block)
def freeW (x:Wk):Wk:={ x with h:={ x.h with pages:=frPs x x.h.pages.length,words:=frWs x x.h.pages.length },r3:=frR x x.h.pages.length }
theorem frPs_len (x:Wk):∀ k,(frPs x k).length=x.h.pages.length
 | 0=>rfl
 | k+1=>by rw [frPs];split <;> simp [frPs_len x k]
theorem frPs_at (x:Wk):∀ (k j:Nat),k<=j->(frPs x k)[j]?=x.h.pages[j]?
 | 0,_,_=>rfl
 | k+1,j,h=>by
  rw [frPs];split
  · rw [List.getElem?_set_ne (by omega),frPs_at x k j (by omega)]
  · exact frPs_at x k j (by omega)
theorem page_words {k m n:Nat} {pw:Int} (h0:0<=pw) (hk:k < m) (hn:(n:Int)=m*pw):k*pw.toNat+pw.toNat<=n:=by
 obtain ⟨q,rfl⟩:∃ q:Nat,pw=q:=⟨pw.toNat,by omega⟩
 rw [Int.toNat_natCast]
 have h1:(k+1)*q<=m*q:=Nat.mul_le_mul_right _ (by omega)
 rw [Nat.add_mul,Nat.one_mul] at h1
 have h2:((m*q:Nat):Int)=n:=by rw [Int.natCast_mul];exact hn.symm
 omega
theorem frWs_len (x:Wk) (h0:0<=x.h.pw) (hw:(x.h.words.length:Int)=x.h.pages.length*x.h.pw):∀ k,k<=x.h.pages.length->(frWs x k).length=x.h.words.length
 | 0,_=>rfl
 | k+1,hk=>by
  have ih:=frWs_len x h0 hw k (by omega)
  rw [frWs];split
  · rw [zo7 (by rw [List.length_replicate,ih];exact page_words h0 (by omega) hw)];exact ih
  · exact ih
theorem frWs_wb (x:Wk) (hw:WB x.h.words):∀ k,WB (frWs x k)
 | 0=>hw
 | k+1=>by
  have ih:=frWs_wb x hw k
  rw [frWs];split
  · intro v hv
    unfold splice at hv
    rcases List.mem_append.1 hv with h | h
    · exact ih v (List.mem_of_mem_take h)
    · rcases List.mem_append.1 h with h | h
      · have:=(List.mem_replicate.1 h).2;omega
      · exact ih v (List.mem_of_mem_drop h)
  · exact ih
theorem free_any (S:Nat->Prop) (x:Wk) (p q po pt pq:Option Addr) (n c m d no co nt ct nq cq:Nat) (w:World) (hr:WR w S x p q po pt pq n c m d no co nt ct nq cq) (hS:∀ b,S b->b < w.heap.size) (hp0:16<=x.h.pw) (hp1:x.h.pw<=64) (hm0:1<=x.h.pages.length) (hm1:x.h.pages.length<=64) (hwl:(x.h.words.length:Int)=x.h.pages.length*x.h.pw) :
 Calls Tryz.prog 128 #[(.agg #[.int .i64 x.h.pw,.int .i64 x.h.np,.slice p n c,.slice q m d,.int .i64 x.h.space,.int .i64 x.h.bump,.slice po no co,.slice pt nt ct,.slice pq nq cq,.int .i64 x.sc,.int .i64 x.r0,.int .i64 x.r1,.int .i64 x.r2,.int .i64 x.r3,.int .i64 x.r4,.int .i64 x.r5])] w fun e w'=>(∃ v,e = .returned v/\WVF w' S w.heap.size v (freeW x))/\Below w.heap.size w w':=by
 have Hr:=qq (fun w' (hb:Below w.heap.size w w')=>hr.keep hb)
 obtain ⟨S2,hs2,hsa,hsb,hsl,hr2⟩:=hr.box hS
 obtain ⟨w1,hw1,hbx⟩:=boxes2x w 146 [.int .i64 x.h.pw,.int .i64 x.h.np,.slice p n c,.slice q m d,.int .i64 x.h.space,.int .i64 x.h.bump,.slice po no co,.slice pt nt ct,.slice pq nq cq,.int .i64 x.sc,.int .i64 x.r0,.int .i64 x.r1,.int .i64 x.r2,.int .i64 x.r3,.int .i64 x.r4,.int .i64 x.r5] [.int .i64 0,.int .i64 0,.slice none 0 0,.slice none 0 0,.int .i64 0,.int .i64 0,.slice none 0 0,.slice none 0 0,.slice none 0 0,.int .i64 0,.int .i64 0,.int .i64 0,.int .i64 0,.int .i64 0,.int .i64 0,.int .i64 0]
 have Ha:=qq hbx.1
 have Hb:=qq hbx.2.1
 have HB:=qq hbx.2.2
 have HR:=qq (hr2.keep hbx.2.2)
 clear hbx hr2
 have hwa:w.heap.size < w1.heap.size:=Ha.out.lt rfl
 have hwb:w.heap.size+1 < w1.heap.size:=Hb.out.lt rfl
 have hpl:x.h.pages.length=m:=PRow.len hr.pages
 have hnl:x.h.words.length=n:=hr.words.len
 have hm9:=hr.pages.i63.2
 have hn9:n<=4096:=by
  have h1:(m:Int)*x.h.pw<=64*64:=Int.mul_le_mul (by omega) hp1 (by omega) (by decide)
  rw [hpl,hnl] at hwl;omega
 have hn0:1<=n:=by
  have h1:(1:Int)*1<=(m:Int)*x.h.pw:=Int.mul_le_mul (by omega) (by omega) (by decide) (by omega)
  rw [hpl,hnl] at hwl;omega
 clear hr
 obtain ⟨y0,b0,off0,-,hqq,-,-,-,-⟩:=HR.out.pages.at_ (k:=0) (by omega)
 subst hqq
 obtain ⟨v0,b2,off2,-,hpp,-⟩:=HR.out.words.at_ (k:=0) (by omega)
 subst hpp
 have c3:=Ha.out.cell 3 _ rfl
 go_enter Tryz.func128,Tryz.ntmps128
 go_upto_region 1 with fail
 rw [hw1.out]
 clear hw1
 obtain ⟨i0,hin,hz0,hz1,hz2⟩:=info_parts zr6
 have hown0:(w1.alloc (.cells #[] 77)).ownsRow w1.heap.size 77 4 (.slice (some ⟨w1.heap.size,0,none⟩) 0 0) 0 []:=by
  simpa using zf9 w1 77 4
 have Hq:=qq (show PRow (w1.alloc (.cells #[] 77)) (some ⟨b0,off0,none⟩) m d x.h.pages from HR.out.pages.keep za1)
 go_wp2_with (at_builtin;refine zg3 rfl _ _ 25 rfl w1.heap.size 77 i0 _ 4 32 Tryz.underlying25 hin hz0 hz1 hz2 rfl (by decide) (.slice (some ⟨w1.heap.size,0,none⟩) 0 0) 0 [] rfl hown0 (some ⟨b0,off0,none⟩) m d (zc4 x.h.pages) rfl ?src (zr1 x.h.pages) ?c3 ?c4 ?c5 ?_)
 case src=>exact Hq.out
 case c3=>unfold maxLen;omega
 case c4=>omega
 case c5=>simp
 intro v' w6 hown hgrow
 have hb6:Below w1.heap.size w1 w6:=((Below.refl _ _).alloc (Nat.le_refl _) _).grown hgrow (by simp) (fun k h=>by simp [Value.ownBlock] at h;omega)
 obtain ⟨g9,cc,rfl,hg9,-⟩:=World.ownsRow.form hown (by omega)
 have hg9b:w.heap.size+2<=g9:=by omega
 have HP:=qq (zg6 hown (show w.heap.size+2<=w1.heap.size by omega))
 clear hgrow hown0 hown Hq c3 hg9 hin hz0 hz1 hz2
 replace HR:=qq (HR.out.keep hb6)
 replace Ha:=qq (Ha.out.keep hb6 hwa)
 replace Hb:=qq (Hb.out.keep hb6 hwb)
 replace HB:=qq (za3 HB.out hb6)
 replace hwa:w.heap.size < w6.heap.size:=Ha.out.lt rfl
 replace hwb:w.heap.size+1 < w6.heap.size:=Hb.out.lt rfl
 clear hb6
 have HP2:=qq (show w6.ownsRow (w.heap.size+2) 77 4 (.slice (some ⟨g9,0,none⟩) m cc) m (zc4 x.h.pages) from by simpa using HP.out)
 clear HP
 have HP:=HP2
 clear HP2
 have c3:=Ha.out.cell 3 _ rfl
 have f3:=Ha.out.free 3
 go_upto_region 2 with fail
 clear c3 f3
 have hr6:=qq (show SRow (w6.setCell ⟨w.heap.size,3,none⟩ (.slice (some ⟨g9,0,none⟩) m cc)) .u64 (some ⟨b2,off2,none⟩) n c x.h.words from zc3 [.slice (some ⟨g9,0,none⟩) m cc] 3 _ _ HR.out.words Ha.out (fun j y _=>zd1 x (some ⟨b2,off2,none⟩) (some ⟨b0,off0,none⟩) po pt pq n c m d no co nt ct nq cq j y) (by simp))
 obtain ⟨w7,hset⟩:∃ W,Hid (w6.setCell ⟨w.heap.size,3,none⟩ (.slice (some ⟨g9,0,none⟩) m cc)=W):=⟨_,rfl⟩
 rw [hset.out]
 rw [hset.out] at hr6
 replace Ha:=qq (show OwnL w7 w.heap.size [.int .i64 x.h.pw,.int .i64 x.h.np,.slice (some ⟨b2,off2,none⟩) n c,.slice (some ⟨g9,0,none⟩) m cc,.int .i64 x.h.space,.int .i64 x.h.bump,.slice po no co,.slice pt nt ct,.slice pq nq cq,.int .i64 x.sc,.int .i64 x.r0,.int .i64 x.r1,.int .i64 x.r2,.int .i64 x.r3,.int .i64 x.r4,.int .i64 x.r5] from by rw [<-hset.out];exact Ha.out.set 3 (.slice (some ⟨g9,0,none⟩) m cc) (by simp))
 replace Hb:=qq (show OwnL w7 (w.heap.size+1) [.int .i64 0,.int .i64 0,.slice none 0 0,.slice none 0 0,.int .i64 0,.int .i64 0,.slice none 0 0,.slice none 0 0,.slice none 0 0,.int .i64 0,.int .i64 0,.int .i64 0,.int .i64 0,.int .i64 0,.int .i64 0,.int .i64 0] from by rw [<-hset.out];exact Hb.out.other ⟨w.heap.size,3,none⟩ (.slice (some ⟨g9,0,none⟩) m cc) (by simp only;omega))
 replace HB:=qq (show Below w.heap.size w w7 from by rw [<-hset.out];exact HB.out.setCell (p:=⟨w.heap.size,3,none⟩) (Nat.le_refl _) (.slice (some ⟨g9,0,none⟩) m cc))
 replace HP:=qq (show w7.ownsRow (w.heap.size+2) 77 4 (.slice (some ⟨g9,0,none⟩) m cc) m (zc4 x.h.pages) from by rw [<-hset.out];exact zd0 HP.out ⟨w.heap.size,3,none⟩ (.slice (some ⟨g9,0,none⟩) m cc) (by simp only;omega))
 clear hset
 replace hwa:w.heap.size < w7.heap.size:=Ha.out.lt rfl
 replace hwb:w.heap.size+1 < w7.heap.size:=Hb.out.lt rfl
 clear HR
 obtain ⟨i0,hin,hz0,hz1,hz2⟩:=info_parts zf2
 have hown0:(w7.alloc (.cells #[] 48)).ownsRow w7.heap.size 48 1 (.slice (some ⟨w7.heap.size,0,none⟩) 0 0) 0 []:=by
  simpa using zf9 w7 48 1
 have Hq:=qq (show SRow (w7.alloc (.cells #[] 48)) .u64 (some ⟨b2,off2,none⟩) n c x.h.words from hr6.out.keep za1)
 have c2:=Ha.out.cell 2 _ rfl
 go_wp2_with (at_builtin;refine zd7 rfl _ _ 24 rfl w7.heap.size 48 i0 (.int .u64 0) 8 Tryz.underlying24 hin hz0 hz1 hz2 rfl (.slice (some ⟨w7.heap.size,0,none⟩) 0 0) 0 [] rfl hown0 (some ⟨b2,off2,none⟩) n c .u64 x.h.words rfl ?src2 ?c32 ?c42 ?c52 ?_)
 case src2=>exact Hq.out
 case c32=>unfold maxLen;omega
 case c42=>omega
 case c52=>simp
 intro v' w8 hown hgrow
 have hb8:Below w7.heap.size w7 w8:=((Below.refl _ _).alloc (Nat.le_refl _) _).grown hgrow (by simp) (fun k h=>by simp [Value.ownBlock] at h;omega)
 obtain ⟨g8,c8,rfl,hg8,-⟩:=World.ownsRow.form hown (by omega)
 have hg98:g9 < g8:=by have:=(HP.out.lt g9 rfl).2;omega
 have hg8b:w.heap.size+2<=g8:=by omega
 have HW:=qq (zg6 hown (show w.heap.size+2<=w7.heap.size by omega))
 clear hgrow hown0 hown Hq c2 hg8 hin hz0 hz1 hz2 hr6
 replace Ha:=qq (Ha.out.keep hb8 hwa)
 replace Hb:=qq (Hb.out.keep hb8 hwb)
 replace HB:=qq (za3 HB.out hb8)
 replace HP:=qq (zb5 HP.out hb8)
 replace hwa:w.heap.size < w8.heap.size:=Ha.out.lt rfl
 replace hwb:w.heap.size+1 < w8.heap.size:=Hb.out.lt rfl
 clear hb8
 have HW2:=qq (show w8.ownsRow (w.heap.size+2) 48 1 (.slice (some ⟨g8,0,none⟩) n c8) n (zb2 .u64 x.h.words) from by simpa using HW.out)
 clear HW
 have HW:=HW2
 clear HW2
 have c2:=Ha.out.cell 2 _ rfl
 have f2:=Ha.out.free 2
 go_upto_region 3 with fail
 clear c2 f2
 obtain ⟨w9,hset⟩:∃ W,Hid (w8.setCell ⟨w.heap.size,2,none⟩ (.slice (some ⟨g8,0,none⟩) n c8)=W):=⟨_,rfl⟩
 rw [hset.out]
 replace Ha:=qq (show OwnL w9 w.heap.size [.int .i64 x.h.pw,.int .i64 x.h.np,.slice (some ⟨g8,0,none⟩) n c8,.slice (some ⟨g9,0,none⟩) m cc,.int .i64 x.h.space,.int .i64 x.h.bump,.slice po no co,.slice pt nt ct,.slice pq nq cq,.int .i64 x.sc,.int .i64 x.r0,.int .i64 x.r1,.int .i64 x.r2,.int .i64 x.r3,.int .i64 x.r4,.int .i64 x.r5] from by rw [<-hset.out];exact Ha.out.set 2 (.slice (some ⟨g8,0,none⟩) n c8) (by simp))
 replace Hb:=qq (show OwnL w9 (w.heap.size+1) [.int .i64 0,.int .i64 0,.slice none 0 0,.slice none 0 0,.int .i64 0,.int .i64 0,.slice none 0 0,.slice none 0 0,.slice none 0 0,.int .i64 0,.int .i64 0,.int .i64 0,.int .i64 0,.int .i64 0,.int .i64 0,.int .i64 0] from by rw [<-hset.out];exact Hb.out.other ⟨w.heap.size,2,none⟩ (.slice (some ⟨g8,0,none⟩) n c8) (by simp only;omega))
 replace HB:=qq (show Below w.heap.size w w9 from by rw [<-hset.out];exact HB.out.setCell (p:=⟨w.heap.size,2,none⟩) (Nat.le_refl _) (.slice (some ⟨g8,0,none⟩) n c8))
 replace HP:=qq (show w9.ownsRow (w.heap.size+2) 77 4 (.slice (some ⟨g9,0,none⟩) m cc) m (zc4 x.h.pages) from by rw [<-hset.out];exact zd0 HP.out ⟨w.heap.size,2,none⟩ (.slice (some ⟨g8,0,none⟩) n c8) (by simp only;omega))
 replace HW:=qq (show w9.ownsRow (w.heap.size+2) 48 1 (.slice (some ⟨g8,0,none⟩) n c8) n (zb2 .u64 x.h.words) from by rw [<-hset.out];exact zd0 HW.out ⟨w.heap.size,2,none⟩ (.slice (some ⟨g8,0,none⟩) n c8) (by simp only;omega))
 clear hset
 replace hwa:w.heap.size < w9.heap.size:=Ha.out.lt rfl
 replace hwb:w.heap.size+1 < w9.heap.size:=Hb.out.lt rfl
 go_wp2_with fail
 go_loopw [3] (fun u wr=>∃ k:Nat,u = .int .i64 k/\k<=m/\OwnL wr w.heap.size [.int .i64 x.h.pw,.int .i64 x.h.np,.slice (some ⟨g8,0,none⟩) n c8,.slice (some ⟨g9,0,none⟩) m cc,.int .i64 x.h.space,.int .i64 x.h.bump,.slice po no co,.slice pt nt ct,.slice pq nq cq,.int .i64 x.sc,.int .i64 x.r0,.int .i64 x.r1,.int .i64 x.r2,.int .i64 (frR x k),.int .i64 x.r4,.int .i64 x.r5]/\OwnL wr (w.heap.size+1) [.int .i64 0,.int .i64 0,.slice none 0 0,.slice none 0 0,.int .i64 0,.int .i64 0,.slice none 0 0,.slice none 0 0,.slice none 0 0,.int .i64 0,.int .i64 0,.int .i64 0,.int .i64 0,.int .i64 0,.int .i64 0,.int .i64 0]/\Below w.heap.size w wr/\wr.ownsRow (w.heap.size+2) 77 4 (.slice (some ⟨g9,0,none⟩) m cc) m (zc4 (frPs x k))/\wr.ownsRow (w.heap.size+2) 48 1 (.slice (some ⟨g8,0,none⟩) n c8) n (zb2 .u64 (frWs x k))) (fun u _=>m - (intOf u).toNat)
 case atStart=>exact ⟨0,rfl,Nat.zero_le _,Ha.out,Hb.out,HB.out,HP.out,HW.out⟩
 case round =>
  obtain ⟨k,rfl,hkm,ha,hb,hB,hP,hW⟩:=hrel
  clear Ha Hb HB HP HW hwa hwb
  have Ha:=qq ha
  have Hb:=qq hb
  have HB:=qq hB
  have HP:=qq hP
  have HW:=qq hW
  clear ha hb hB hP hW
  have hwa:w.heap.size < wr.heap.size:=Ha.out.lt rfl
  have hwb:w.heap.size+1 < wr.heap.size:=Hb.out.lt rfl
  by_cases hlt:k < m
  · obtain ⟨g,hg⟩:∃ g,x.h.pages[k]?=some g:=⟨_,List.getElem?_eq_getElem (by omega)⟩
    have hgk:(frPs x k)[k]?=some g:=by rw [frPs_at x k k (Nat.le_refl _)];exact hg
    have hgd:x.h.pages.getD k Pg.zero=g:=zc6 hg
    obtain ⟨⟨q0,q1,q2,q3⟩,z0,z1,z2,z3⟩:=zh9 HP.out hgk
    have hlt2:(k:Int) < m:=by omega
    have hFB:frB x k=(!decide (g.kind=0) && decide (g.space=x.h.space)):=by unfold frB;rw [hgd]
    have c3:=Ha.out.cell 3 _ rfl
    have c4:=Ha.out.cell 4 _ rfl
    have e3:IntKind.i64.wrap ((k:Int)+1)=((k+1:Nat):Int):=by rw [IntWalk.i64_in _ (by omega)];rfl
    clear hg hgk hgd
    by_cases hk0:g.kind=0
    · have hf:=qq (show frB x k=false from by rw [hFB];simp [hk0])
      have hk0b:(g.kind == 0)=true:=beq_iff_eq.2 hk0
      clear hFB hk0
      have HE1:=qq (show frR x (k+1)=frR x k from by rw [frR,hf.out];rfl)
      have HE2:=qq (show frPs x (k+1)=frPs x k from by rw [frPs,hf.out];rfl)
      have HE3:=qq (show frWs x (k+1)=frWs x k from by rw [frWs,hf.out];rfl)
      clear z0 z1 z2 z3
      go_wp2
      go_roundw
      case rel =>
       have hbx:Below wr.heap.size wr (wr.alloc (.cells #[.int .i64 g.kind,.int .i64 g.space,.int .i64 g.used,.int .i64 g.pins] 77)):=za1
       refine ⟨k+1,by go_num,by omega,?_,Hb.out.keep hbx hwb,za3 HB.out hbx,?_,?_⟩
       · rw [HE1.out];exact Ha.out.keep hbx hwa
       · rw [HE2.out];exact zb5 HP.out hbx
       · rw [HE3.out];exact zb5 HW.out hbx
      case measure=>simp [intOf];omega
    · by_cases hs0:g.space=x.h.space
      · have hf:=qq (show frB x k=true from by rw [hFB];simp [hk0,hs0])
        have hk0b:(g.kind == 0)=false:=beq_eq_false_iff_ne.2 hk0
        have hs0b:(g.space != x.h.space)=false:=bne_eq_false_iff_eq.2 hs0
        clear hFB hk0 hs0
        have HE1:=qq (show frR x (k+1)=wrap64 (frR x k+1) from by rw [frR,hf.out];rfl)
        have HE2:=qq (show frPs x (k+1)=(frPs x k).set k Pg.zero from by rw [frPs,hf.out];rfl)
        have HE3:=qq (show frWs x (k+1)=splice (frWs x k) (k*x.h.pw.toNat) (List.replicate x.h.pw.toNat 0) from by rw [frWs,hf.out];rfl)
        clear hf
        go_upto_region 8 with fail
        have hbx:Below wr.heap.size wr (wr.alloc (.cells #[.int .i64 g.kind,.int .i64 g.space,.int .i64 g.used,.int .i64 g.pins] 77)):=za1
        obtain ⟨wx,hwx⟩:∃ W,Hid (wr.alloc (.cells #[.int .i64 g.kind,.int .i64 g.space,.int .i64 g.used,.int .i64 g.pins] 77)=W):=⟨_,rfl⟩
        rw [hwx.out]
        rw [hwx.out] at hbx
        clear hwx
        replace z0:wx.frozen? ⟨g9,k*4,none⟩=false:=by rw [hbx.frozen (p:=⟨g9,k*4,none⟩) (zb4 q0)];exact z0
        replace z1:wx.frozen? ⟨g9,k*4+1,none⟩=false:=by rw [hbx.frozen (p:=⟨g9,k*4+1,none⟩) (zb4 q1)];exact z1
        replace z2:wx.frozen? ⟨g9,k*4+2,none⟩=false:=by rw [hbx.frozen (p:=⟨g9,k*4+2,none⟩) (zb4 q2)];exact z2
        replace z3:wx.frozen? ⟨g9,k*4+3,none⟩=false:=by rw [hbx.frozen (p:=⟨g9,k*4+3,none⟩) (zb4 q3)];exact z3
        replace q0:=za0 hbx q0
        replace q1:=za0 hbx q1
        replace q2:=za0 hbx q2
        replace q3:=za0 hbx q3
        replace c3:=za0 hbx c3
        clear c4
        replace Ha:=qq (Ha.out.keep hbx hwa)
        replace Hb:=qq (Hb.out.keep hbx hwb)
        replace HB:=qq (za3 HB.out hbx)
        replace HP:=qq (zb5 HP.out hbx)
        replace HW:=qq (zb5 HW.out hbx)
        replace hwa:w.heap.size < wx.heap.size:=Ha.out.lt rfl
        replace hwb:w.heap.size+1 < wx.heap.size:=Hb.out.lt rfl
        clear hbx
        go_upto_region 9 with fail
        clear c3 q0 q1 q2 q3 z0 z1 z2 z3
        have HP2:=yb5 HP.out k 0 0 0 0
        rw [show (⟨0,0,0,0⟩:Pg)=Pg.zero from rfl,<-HE2.out] at HP2
        have hbt:But g9 wx ((((wx.setCell ⟨g9,k*4,none⟩ (.int .i64 0)).setCell ⟨g9,k*4+1,none⟩ (.int .i64 0)).setCell ⟨g9,k*4+2,none⟩ (.int .i64 0)).setCell ⟨g9,k*4+3,none⟩ (.int .i64 0)):=((((But.refl g9 wx).set _ _).set _ _).set _ _).set _ _
        obtain ⟨wy,hwy⟩:∃ W,Hid (((((wx.setCell ⟨g9,k*4,none⟩ (.int .i64 0)).setCell ⟨g9,k*4+1,none⟩ (.int .i64 0)).setCell ⟨g9,k*4+2,none⟩ (.int .i64 0)).setCell ⟨g9,k*4+3,none⟩ (.int .i64 0))=W):=⟨_,rfl⟩
        rw [hwy.out]
        rw [hwy.out] at HP2 hbt
        clear hwy HP
        have HP:=qq HP2
        clear HP2
        replace Ha:=qq (Ha.out.but hbt hwa (by omega))
        replace Hb:=qq (Hb.out.but hbt hwb (by omega))
        replace HB:=qq (HB.out.trans (hbt.low (by omega) (by omega)))
        replace HW:=qq (zq7 HW.out hbt (by omega))
        replace hwa:w.heap.size < wy.heap.size:=Ha.out.lt rfl
        replace hwb:w.heap.size+1 < wy.heap.size:=Hb.out.lt rfl
        clear hbt
        have c13:=Ha.out.cell 13 _ rfl
        have f13:=Ha.out.free 13
        go_upto_region 10 with fail
        clear c13 f13
        obtain ⟨wz,hset⟩:∃ W,Hid (wy.setCell ⟨w.heap.size,13,none⟩ (.int .i64 (wrap64 (frR x k+1)))=W):=⟨_,rfl⟩
        rw [hset.out]
        replace Ha:=qq (show OwnL wz w.heap.size [.int .i64 x.h.pw,.int .i64 x.h.np,.slice (some ⟨g8,0,none⟩) n c8,.slice (some ⟨g9,0,none⟩) m cc,.int .i64 x.h.space,.int .i64 x.h.bump,.slice po no co,.slice pt nt ct,.slice pq nq cq,.int .i64 x.sc,.int .i64 x.r0,.int .i64 x.r1,.int .i64 x.r2,.int .i64 (wrap64 (frR x k+1)),.int .i64 x.r4,.int .i64 x.r5] from by rw [<-hset.out];exact Ha.out.set 13 (.int .i64 (wrap64 (frR x k+1))) (by simp))
        replace Hb:=qq (show OwnL wz (w.heap.size+1) [.int .i64 0,.int .i64 0,.slice none 0 0,.slice none 0 0,.int .i64 0,.int .i64 0,.slice none 0 0,.slice none 0 0,.slice none 0 0,.int .i64 0,.int .i64 0,.int .i64 0,.int .i64 0,.int .i64 0,.int .i64 0,.int .i64 0] from by rw [<-hset.out];exact Hb.out.other ⟨w.heap.size,13,none⟩ (.int .i64 (wrap64 (frR x k+1))) (by simp only;omega))
        replace HB:=qq (show Below w.heap.size w wz from by rw [<-hset.out];exact HB.out.setCell (p:=⟨w.heap.size,13,none⟩) (Nat.le_refl _) (.int .i64 (wrap64 (frR x k+1))))
        replace HP:=qq (show wz.ownsRow (w.heap.size+2) 77 4 (.slice (some ⟨g9,0,none⟩) m cc) m (zc4 (frPs x (k+1))) from by rw [<-hset.out];exact zd0 HP.out ⟨w.heap.size,13,none⟩ (.int .i64 (wrap64 (frR x k+1))) (by simp only;omega))
        replace HW:=qq (show wz.ownsRow (w.heap.size+2) 48 1 (.slice (some ⟨g8,0,none⟩) n c8) n (zb2 .u64 (frWs x k)) from by rw [<-hset.out];exact zd0 HW.out ⟨w.heap.size,13,none⟩ (.int .i64 (wrap64 (frR x k+1))) (by simp only;omega))
        clear hset
        replace hwa:w.heap.size < wz.heap.size:=Ha.out.lt rfl
        replace hwb:w.heap.size+1 < wz.heap.size:=Hb.out.lt rfl
        rw [<-HE1.out] at Ha
        clear HE1 HE2 e3
        obtain ⟨P,hPw⟩:∃ P:Nat,x.h.pw.toNat=P:=⟨_,rfl⟩
        have hP1:x.h.pw=(P:Int):=by omega
        obtain ⟨K,hK⟩:∃ K:Nat,k*P=K:=⟨_,rfl⟩
        have hKn:K+P<=n:=by
         have:=page_words (k:=k) (m:=m) (n:=n) (pw:=x.h.pw) (by omega) hlt (by rw [hpl,hnl] at hwl;exact hwl)
         rw [hPw,hK] at this;exact this
        have hKc:(k:Int)*x.h.pw=(K:Int):=by rw [hP1,<-hK,Int.natCast_mul]
        have eK:=qq (show IntKind.i64.wrap ((k:Int)*x.h.pw)=(K:Int) from by rw [hKc,IntWalk.i64_in _ (by omega)])
        rw [hPw,hK] at HE3
        have HWL:=qq (show (frWs x k).length=n from by rw [frWs_len x (by omega) hwl k (by omega)];exact hnl)
        have hP4:P<=64:=by omega
        have HPc:=qq hP1
        clear hPw hP1 hK hKc
        go_wp2_with fail
        go_loopw [5] (fun u wr=>∃ t:Nat,u = .int .i64 t/\t<=P/\OwnL wr w.heap.size [.int .i64 x.h.pw,.int .i64 x.h.np,.slice (some ⟨g8,0,none⟩) n c8,.slice (some ⟨g9,0,none⟩) m cc,.int .i64 x.h.space,.int .i64 x.h.bump,.slice po no co,.slice pt nt ct,.slice pq nq cq,.int .i64 x.sc,.int .i64 x.r0,.int .i64 x.r1,.int .i64 x.r2,.int .i64 (frR x (k+1)),.int .i64 x.r4,.int .i64 x.r5]/\OwnL wr (w.heap.size+1) [.int .i64 0,.int .i64 0,.slice none 0 0,.slice none 0 0,.int .i64 0,.int .i64 0,.slice none 0 0,.slice none 0 0,.slice none 0 0,.int .i64 0,.int .i64 0,.int .i64 0,.int .i64 0,.int .i64 0,.int .i64 0,.int .i64 0]/\Below w.heap.size w wr/\wr.ownsRow (w.heap.size+2) 77 4 (.slice (some ⟨g9,0,none⟩) m cc) m (zc4 (frPs x (k+1)))/\wr.ownsRow (w.heap.size+2) 48 1 (.slice (some ⟨g8,0,none⟩) n c8) n (zb2 .u64 (wrow (frWs x k) (List.replicate P 0) K t))) (fun u _=>P - (intOf u).toNat)
        case atStart=>exact ⟨0,rfl,Nat.zero_le _,Ha.out,Hb.out,HB.out,HP.out,by rw [wrow_zero];exact HW.out⟩
        case round =>
         obtain ⟨t,rfl,htP,ha,hb,hB,hP,hW⟩:=hrel
         clear Ha Hb HB HP HW hwa hwb
         have Ha:=qq ha
         have Hb:=qq hb
         have HB:=qq hB
         have HP:=qq hP
         have HW:=qq hW
         clear ha hb hB hP hW
         have hwa:w.heap.size < wr.heap.size:=Ha.out.lt rfl
         have hwb:w.heap.size+1 < wr.heap.size:=Hb.out.lt rfl
         have c0:=Ha.out.cell 0 _ rfl
         by_cases hlt3:t < P
         · have hlt4:(t:Int) < x.h.pw:=by rw [HPc.out];omega
           obtain ⟨J,hJ⟩:∃ J:Nat,K+t=J:=⟨_,rfl⟩
           have hJn:J < n:=by omega
           have eJ:IntKind.i64.wrap ((K:Int)+t)=(J:Int):=by rw [IntWalk.i64_in _ (by omega)];omega
           have e5:IntKind.i64.wrap ((t:Int)+1)=((t+1:Nat):Int):=by rw [IntWalk.i64_in _ (by omega)];rfl
           have eK2:=eK.out
           have hJn2:(J:Int) < n:=by omega
           have c2:=Ha.out.cell 2 _ rfl
           obtain ⟨uv,huv⟩:∃ uv,(wrow (frWs x k) (List.replicate P 0) K t)[J]?=some uv:=⟨_,List.getElem?_eq_getElem (by rw [wrow_len (by rw [List.length_replicate,HWL.out];omega),HWL.out];omega)⟩
           have q0:=HW.out.cellAt J (by omega)
           rw [yb1 huv] at q0
           have z0:wr.frozen? ⟨g8,J,none⟩=false:=HW.out.frozenAt J
           have hset:=own_set HW.out J 0
           rw [<-hJ,wrow_set (by rw [List.length_replicate,HWL.out];omega) (show (List.replicate P (0:Int))[t]?=some 0 from by rw [List.getElem?_replicate,if_pos hlt3]),hJ] at hset
           have HST:=qq hset
           clear hset huv hJ
           go_wp2
           go_roundw
           case rel=>exact ⟨t+1,by go_num,by omega,Ha.out.other ⟨g8,J,none⟩ (.int .u64 0) (by simp only;omega),Hb.out.other ⟨g8,J,none⟩ (.int .u64 0) (by simp only;omega),HB.out.setCell (p:=⟨g8,J,none⟩) (by simp only;omega) (.int .u64 0),zd0 HP.out ⟨g8,J,none⟩ (.int .u64 0) (by simp only;omega),HST.out⟩
           case measure=>simp [intOf];omega
         · have hge:¬(t:Int) < x.h.pw:=by rw [HPc.out];omega
           have e3:IntKind.i64.wrap ((k:Int)+1)=((k+1:Nat):Int):=by rw [IntWalk.i64_in _ (by omega)];rfl
           have hW9:=HW.out
           rw [wrow_end (by rw [List.length_replicate];omega),<-HE3.out] at hW9
           have HW9:=qq hW9
           clear hW9
           go_wp2
           go_roundw
           case rel=>exact ⟨k+1,by go_num,by omega,Ha.out,Hb.out,HB.out,HP.out,HW9.out⟩
           case measure=>simp [intOf];omega
      · have hf:=qq (show frB x k=false from by rw [hFB];simp [hs0])
        have hk0b:(g.kind == 0)=false:=beq_eq_false_iff_ne.2 hk0
        have hs0b:(g.space != x.h.space)=true:=bne_iff_ne.2 hs0
        clear hFB hk0 hs0
        have HE1:=qq (show frR x (k+1)=frR x k from by rw [frR,hf.out];rfl)
        have HE2:=qq (show frPs x (k+1)=frPs x k from by rw [frPs,hf.out];rfl)
        have HE3:=qq (show frWs x (k+1)=frWs x k from by rw [frWs,hf.out];rfl)
        clear z0 z1 z2 z3
        go_wp2
        go_roundw
        case rel =>
         have hbx:Below wr.heap.size wr (wr.alloc (.cells #[.int .i64 g.kind,.int .i64 g.space,.int .i64 g.used,.int .i64 g.pins] 77)):=za1
         refine ⟨k+1,by go_num,by omega,?_,Hb.out.keep hbx hwb,za3 HB.out hbx,?_,?_⟩
         · rw [HE1.out];exact Ha.out.keep hbx hwa
         · rw [HE2.out];exact zb5 HP.out hbx
         · rw [HE3.out];exact zb5 HW.out hbx
        case measure=>simp [intOf];omega
  · obtain rfl:k=m:=by omega
    have hge:¬(k:Int) < k:=by omega
    have c3:=Ha.out.cell 3 _ rfl
    go_upto_region 14 with fail
    clear c3
    go_wp2_with (first | ((with_reducible show wpList _ _ _ _ _ _);refine za7 (op:=⟨some 77,.load 146 _,_,_,_,_⟩) rfl _ _ rfl _ rfl _ Ha.out za8 ?_) | ((with_reducible show wpList _ _ _ _ _ _);refine za6 (op:=⟨none,.store 146 _ _,_,_,_,_⟩) rfl _ _ _ rfl _ ?hx1 [.int .i64 x.h.pw,.int .i64 x.h.np,.slice (some ⟨g8,0,none⟩) n c8,.slice (some ⟨g9,0,none⟩) k cc,.int .i64 x.h.space,.int .i64 x.h.bump,.slice po no co,.slice pt nt ct,.slice pq nq cq,.int .i64 x.sc,.int .i64 x.r0,.int .i64 x.r1,.int .i64 x.r2,.int .i64 (frR x k),.int .i64 x.r4,.int .i64 x.r5] _ ?hy1 Hb.out rfl rfl za8 ?_))
    (try (case hx1=>rfl))
    (try (case hy1=>rfl))
    intro w12 ho hbt hst
    have HZ:=qq ho
    have HXB:=qq (HB.out.trans (hbt.low (by omega) (by omega)))
    have HP9:=qq (zq7 HP.out hbt (by omega))
    have HW9:=qq (zq7 HW.out hbt (by omega))
    clear ho hbt hst
    go_wp2
    refine bodyPost_ret (zc9 rfl rfl HZ.out za8) rfl ?_
    obtain ⟨q9,cc9,e9,hrow⟩:=PRow.of_own HP9.out
    injection e9 with e91 e92 e93
    subst e91 e93
    obtain ⟨p9,cd9,f9,hrow2⟩:=SRow.of_own HW9.out
    injection f9 with f91 f92 f93
    subst f91 f93
    have hr0:=Hr.out _ HXB.out
    refine ⟨⟨_,rfl,some ⟨g8,0,none⟩,some ⟨g9,0,none⟩,po,pt,pq,n,c8,k,cc,no,co,nt,ct,nq,cq,?_,?_,fun ad e=>by cases e;simp only;omega⟩,HXB.out⟩
    · unfold freeW;rw [hpl]
    · have e1:(freeW x).h.words=frWs x k:=by unfold freeW;rw [hpl]
      have e2:(freeW x).h.pages=frPs x k:=by unfold freeW;rw [hpl]
      exact ⟨by rw [e1];exact hrow2,by rw [e2];exact hrow,by rw [e1];exact frWs_wb x hr0.wb k,hr0.old,hr0.taken,hr0.queue,fun _ ad e hs=>by cases e;have:=hS _ hs;simp only at this;omega,hr0.at_,fun _ ad e hs=>by cases e;have:=hS _ hs;simp only at this;omega,hr0.ao,hr0.aq⟩
end Go.Proofs.YtipjdbhocjpmdaaGreat
