/-
  Proved here, for each of the laws ObjectKeeps: called with any input that can be read as data, in whatever memory, the Go text of the law returns true, and each argument reads afterwards as it read before.
  Conditions: none beyond the given row's own.
-/
import Derived.Test.YtipjdbhocjpmdaaGreatQ53
import Derived.WalkKit
import Derived.ProofKit
import Derived.OpenShut
set_option linter.unusedSimpArgs false
set_option linter.unusedVariables false
set_option maxRecDepth 100000
set_option maxHeartbeats 12800000
namespace Go.Proofs.YtipjdbhocjpmdaaGreat
open Go.RowKit
section
variable {H:Type} {enc:TypeId × Value->H} {w:World} {spare:Nat->Bool} {held:Bool}
theorem open_tape {p:Option Addr} {n cap:Nat} {d:DataW H} {pl:List MemPlace} (h:DataW.Trod enc Tryz.prog w 0 spare held 28 (.slice p n cap) d pl):∃ xs:List Int,SRow w .i64 p n cap xs:=by
 obtain ⟨xs,h1,_⟩:=open_srow Tryz.underlying28 Tryz.underlying3 (by kernel_rfl) h
 exact ⟨xs,h1⟩
theorem u64_bnd {x:Int} (h:(Lit.int .u64 x).wf=true):0<=x/\x < 18446744073709551616:=by
 obtain ⟨n,rfl,hn⟩:=u64_of_wf h;omega
theorem lawKeepsD {a i v:Int} {p:Option Addr} {n cap:Nat} {d:DataW H} {pl:List MemPlace} (h:DataW.Trod enc Tryz.prog w 0 spare held 28 (.slice p n cap) d pl) (ha:(Lit.int .u64 a).wf=true) (hv:(Lit.int .u64 v).wf=true) :
 Calls Tryz.prog 9 #[.slice p n cap,.int .u64 a,.int .i64 i,.int .u64 v] w fun e w'=>e = .returned (.bool true)/\Below w.heap.size w w':=by
 obtain ⟨xs,hr⟩:=open_tape h
 exact lawKeeps p n cap xs a i v w hr (u64_bnd ha).1 (u64_bnd ha).2 (u64_bnd hv).1 (u64_bnd hv).2
end
section
open Go.ChangeShapes Go.WideShapes Go.ChangeAt Go.RowKit
theorem lawOwn:ownKnob Tryz.prog.godebug=none:=by kernel_rfl
theorem lawLaid:laidOutB Tryz.prog=true:=by kernel_rfl
namespace objectKeepsL
theorem lifted (os:Os) (started:os.Started) (H:Type) (enc:TypeId × Value->H) :
 ReturnsInHanded {} Tryz.checked os 9 .any (Rows.objectKeepsSpec.pre6 enc Tryz.prog Tryz.f9 Rows.objectKeepsRow.domain false) (Rows.objectKeepsSpec.post enc Tryz.prog Tryz.f9 false true false false):=by
 refine returnsInHanded_of_change (C:=Tryz.checked) lawOwn started (by kernel_rfl) Tryz.func9
  (ChangeSpec.witness6 (enc:=enc) (C:=Tryz.checked) false ⟨#[],#[.slice none 0 0,.int .u64 0,.int .i64 0,.int .u64 0],[]⟩ 8 (by kernel_rfl) (by kernel_rfl) (by kernel_rfl) (by kernel_rfl)) ?_
 intro W base args ds gs before hval0 hW _ _
 have hval:∀ (j:Nat) t v,Tryz.f9.params[j]?=some t->args[j]?=some v->Value.okWide Tryz.prog W .any base t v:=hval0
 have hW':=hW
 obtain ⟨p,q,hA0,hV,rfl,hfz,hnd⟩:=hW
 have hA:DataW.TrodAll enc Tryz.prog W 0 (fun _=>true) true Tryz.f9.params.toList args.toList ds p:=hA0
 rw [Tryz.params9] at hA hval
 obtain ⟨v0,vs0,d0,ds0,p0,q0,hargs,rfl,rfl,h0,r0⟩:=trodAll_cons hA
 obtain ⟨v1,vs1,d1,ds1,p1,q1,rfl,rfl,rfl,h1,r1⟩:=trodAll_cons r0
 obtain ⟨v2,vs2,d2,ds2,p2,q2,rfl,rfl,rfl,h2,r2⟩:=trodAll_cons r1
 obtain ⟨v3,vs3,d3,ds3,p3,q3,rfl,rfl,rfl,h3,r3⟩:=trodAll_cons r2
 obtain ⟨rfl,rfl,rfl⟩:=trodAll_nil r3
 obtain rfl:args=#[v0,v1,v2,v3]:=by cases args;simp_all
 obtain ⟨rfl,rfl⟩:=trodVars_none hV
 simp only [List.append_nil] at hW'
 have hlt0:∀ y∈p0,y.block < W.heap.size:=fun y hy=>hW'.lt y (by simp [hy])
 have back0:∀ W',Below W.heap.size W W'->DataW.Trod enc Tryz.prog W' 0 (fun b=>decide (b < W.heap.size)) true 28 v0 d0 p0:=fun W' hb=>Below.trod lawLaid (by kernel_rfl) (of_decide_eq_true (by kernel_rfl)) h0 hb hlt0
 have hlt1:∀ y∈p1,y.block < W.heap.size:=fun y hy=>hW'.lt y (by simp [hy])
 have back1:∀ W',Below W.heap.size W W'->DataW.Trod enc Tryz.prog W' 0 (fun b=>decide (b < W.heap.size)) true 48 v1 d1 p1:=fun W' hb=>Below.trod lawLaid (by kernel_rfl) (of_decide_eq_true (by kernel_rfl)) h1 hb hlt1
 have hlt2:∀ y∈p2,y.block < W.heap.size:=fun y hy=>hW'.lt y (by simp [hy])
 have back2:∀ W',Below W.heap.size W W'->DataW.Trod enc Tryz.prog W' 0 (fun b=>decide (b < W.heap.size)) true 3 v2 d2 p2:=fun W' hb=>Below.trod lawLaid (by kernel_rfl) (of_decide_eq_true (by kernel_rfl)) h2 hb hlt2
 have hlt3:∀ y∈p3,y.block < W.heap.size:=fun y hy=>hW'.lt y (by simp [hy])
 have back3:∀ W',Below W.heap.size W W'->DataW.Trod enc Tryz.prog W' 0 (fun b=>decide (b < W.heap.size)) true 48 v3 d3 p3:=fun W' hb=>Below.trod lawLaid (by kernel_rfl) (of_decide_eq_true (by kernel_rfl)) h3 hb hlt3
 clear hA0 hval0
 have fin:∀ (e:Ending) (W':World),e = .returned (.bool true)/\Below W.heap.size W W'->∃ v,e = .returned v/\Rows.objectKeepsSpec.post enc Tryz.prog Tryz.f9 false true false false W #[v0,v1,v2,v3] v W':=by
  rintro e W' ⟨rfl,hb⟩
  exact ⟨_,rfl,_,_,_,[],_,[],hW',trodAll_cons_mk (shut_bool Tryz.underlying4 _) trodAll_mk0,(trodAll_cons_mk (back0 W' hb) (trodAll_cons_mk (back1 W' hb) (trodAll_cons_mk (back2 W' hb) (trodAll_cons_mk (back3 W' hb) trodAll_mk0)))),rfl,hb.frame _,fun h=>by cases h⟩
 obtain ⟨a0,len0,cap0,rfl⟩:=okWide_slice Tryz.underlying28 (hval 0 28 v0 rfl rfl)
 obtain ⟨a1,rfl,rfl,rfl,w1⟩:=open_int Tryz.underlying48 (hval 1 48 v1 rfl rfl) h1
 obtain ⟨a2,rfl,rfl,rfl,w2⟩:=open_int Tryz.underlying3 (hval 2 3 v2 rfl rfl) h2
 obtain ⟨a3,rfl,rfl,rfl,w3⟩:=open_int Tryz.underlying48 (hval 3 48 v3 rfl rfl) h3
 exact (lawKeepsD h0 w1 w3).mono fin
theorem over:Rows.objectKeepsRow.holds Tryz.pinned (OpenSpec.ofChange Rows.objectKeepsSpec) :=
 OpenClaim.holds_of_wide 9 Tryz.f9 rfl rfl rfl rfl rfl rfl rfl ⟨rfl,rfl,rfl,rfl,rfl⟩ rfl rfl rfl rfl rfl (by kernel_rfl) Tryz.func9 (by kernel_rfl)
  (of_decide_eq_true (by kernel_rfl)) (by unfold Func.isWrapper;first | (rw [if_pos (by decide +kernel)];kernel_rfl) | (rw [if_neg (by decide +kernel)];exact ⟨rfl,rfl⟩))
  (fun os started H enc _=>lifted os started H enc)
theorem proved:Rows.ObjectKeepsSaid:=over
end objectKeepsL
end
end Go.Proofs.YtipjdbhocjpmdaaGreat
