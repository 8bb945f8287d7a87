/-
  Proved here, for the law EvacuateForwards: called with any input that can be read as data, in whatever memory, the Go text of the law returns true, and each argument reads afterwards as it read before.
  Conditions: none beyond the given row's own.
-/
import Derived.Test.YtfjkjbffdhoejaaGreatV14
import Derived.Test.YtfjkjbffdhoejaaGreatRows
import Derived.WalkKit
import Derived.ProofKit
import Derived.OpenShut
set_option linter.unusedSimpArgs false
set_option linter.unusedVariables false
set_option maxRecDepth 100000
set_option maxHeartbeats 4000000
namespace Go.Proofs.YtfjkjbffdhoejaaGreat
open Go Go.ChangeShapes Go.WideShapes Go.ChangeAt Go.RowKit
namespace evacuateForwardsL
theorem lawOwn:ownKnob Tryz.prog.godebug=none:=by kernel_rfl
theorem ztC:laidOutB Tryz.prog=true:=by kernel_rfl
theorem lifted (os:Os) (started:os.Started) (H:Type) (enc:TypeId×Value->H) :
 ReturnsInHanded {} Tryz.checked os 4 .any (Rows.evacuateForwardsSpec.pre6 enc Tryz.prog Tryz.f4 Rows.evacuateForwardsRow.domain false) (Rows.evacuateForwardsSpec.post enc Tryz.prog Tryz.f4 false true false false):=by
 refine returnsInHanded_of_change (C:=Tryz.checked) lawOwn started (by kernel_rfl) Tryz.func4
  (ChangeSpec.witness6 (enc:=enc) (C:=Tryz.checked) false ⟨#[],#[.slice none 0 0,.slice none 0 0,.slice none 0 0],[]⟩ 8 (by kernel_rfl) (by kernel_rfl) (by kernel_rfl) (by kernel_rfl)) ?_
 intro W base args ds gs before hval0 hW _ _;have hval:∀ (j:Nat) t v,Tryz.f4.params[j]?=some t->args[j]?=some v->Value.okWide Tryz.prog W .any base t v:=hval0
 have hW':=hW;obtain ⟨p,q,hA0,hV,rfl,hfz,hnd⟩:=hW;have hA:DataW.TrodAll enc Tryz.prog W 0 (fun _=>true) true Tryz.f4.params.toList args.toList ds p:=hA0
 rw [Tryz.params4]at hA hval;have hA9:=hA;obtain ⟨v0,vs0,d0,ds0,p0,q0,hargs,rfl,rfl,h0,r0⟩:=trodAll_cons hA;obtain ⟨v1,vs1,d1,ds1,p1,q1,rfl,rfl,rfl,h1,r1⟩:=trodAll_cons r0;obtain ⟨v2,vs2,d2,ds2,p2,q2,rfl,rfl,rfl,h2,r2⟩:=trodAll_cons r1;obtain ⟨rfl,rfl,rfl⟩:=trodAll_nil r2;obtain rfl:args=#[v0,v1,v2]:=by cases args;simp_all
 obtain ⟨rfl,rfl⟩:=trodVars_none hV;simp only [qaW]at hW'
 have hlt0:∀ y∈p0,y.block<W.heap.size:=fun y hy=>hW'.lt y (by simp [hy])
 have back0:∀ W',Below W.heap.size W W'->DataW.Trod enc Tryz.prog W' 0 (fun b=>decide (b<W.heap.size)) true 28 v0 d0 p0:=fun W' hb=>Below.trod ztC (by kernel_rfl) (qat (by kernel_rfl)) h0 hb hlt0
 have hlt1:∀ y∈p1,y.block<W.heap.size:=fun y hy=>hW'.lt y (by simp [hy])
 have back1:∀ W',Below W.heap.size W W'->DataW.Trod enc Tryz.prog W' 0 (fun b=>decide (b<W.heap.size)) true 24 v1 d1 p1:=fun W' hb=>Below.trod ztC (by kernel_rfl) (qat (by kernel_rfl)) h1 hb hlt1
 have hlt2:∀ y∈p2,y.block<W.heap.size:=fun y hy=>hW'.lt y (by simp [hy])
 have back2:∀ W',Below W.heap.size W W'->DataW.Trod enc Tryz.prog W' 0 (fun b=>decide (b<W.heap.size)) true 28 v2 d2 p2:=fun W' hb=>Below.trod ztC (by kernel_rfl) (qat (by kernel_rfl)) h2 hb hlt2
 clear hA0 hval0;have fin:∀ (e:Ending) (W':World),e = .returned (.bool true)/\Below W.heap.size W W'->∃ v,e = .returned v/\Rows.evacuateForwardsSpec.post enc Tryz.prog Tryz.f4 false true false false W #[v0,v1,v2] v W':=by
  rintro e W' ⟨rfl,hb⟩;exact ⟨_,rfl,_,_,_,[],_,[],hW',trodAll_cons_mk (shut_bool Tryz.underlying4 _) trodAll_mk0,(trodAll_cons_mk (back0 W' hb) (trodAll_cons_mk (back1 W' hb) (trodAll_cons_mk (back2 W' hb) trodAll_mk0))),rfl,hb.frame _,fun h=>by cases h⟩
 exact (Go.VI.law_ok (base:=base) (r:=.any) rfl Go.VI.S_l10_EvacuateForwards.2 (fun d h=>⟨_,Go.VI.L_EvacuateForwardsu d h⟩) (by kernel_rfl) hA9 (fun j t v a b=>hval j t v (by simpa using a) (by simpa using b))).mono fin
theorem over:Rows.evacuateForwardsRow.holds Tryz.pinned (OpenSpec.ofChange Rows.evacuateForwardsSpec) :=
 OpenClaim.holds_of_wide 4 Tryz.f4 rfl rfl rfl rfl rfl rfl rfl ⟨rfl,rfl,rfl,rfl,rfl⟩ rfl rfl rfl rfl rfl (by kernel_rfl) Tryz.func4 (by kernel_rfl)
  (qat (by kernel_rfl)) (by unfold Func.isWrapper;first | (rw [if_pos (by decide +kernel)];kernel_rfl) | (rw [if_neg (by decide +kernel)];exact ⟨rfl,rfl⟩))
  (fun os started H enc _=>lifted os started H enc)
theorem proved:Rows.EvacuateForwardsSaid:=over
end evacuateForwardsL
end Go.Proofs.YtfjkjbffdhoejaaGreat
