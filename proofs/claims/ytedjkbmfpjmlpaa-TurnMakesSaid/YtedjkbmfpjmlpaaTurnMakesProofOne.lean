/- What is proved: whatever the tree, the law TurnMakes returns true, and each argument reads behind the call as it read before. No condition. -/
import Derived.Test.YtedjkbmfpjmlpaaTm2
set_option maxRecDepth 100000
set_option maxHeartbeats 16000000
namespace Go.Proofs.Ytedjkbmfpjmlpaa.turnMakes
open Go.ChangeShapes Go.WideShapes Go.ChangeAt Go.RowKit
theorem lifted (os:Os) (started:os.Started) (H:Type) (enc:TypeId × Value→H) :
   ReturnsInHanded {} Try.checked os 3 .any (Rows.turnMakesSpec.pre6 enc Try.prog Try.f3 Rows.turnMakesRow.domain false) (Rows.turnMakesSpec.post enc Try.prog Try.f3 false true false false):=by
 have e:Rows.turnMakesSpec.pre6 enc Try.prog Try.f3 Rows.turnMakesRow.domain false=fun w args=>(Rows.turnMakesSpec.pre enc Try.prog Try.f3 Rows.turnMakesRow.domain false w args∧True)∧sizedMet enc Try.prog Try.f3 (OpenSpec.ofChange Rows.turnMakesSpec) false w args:=by
   funext w args
   unfold ChangeSpec.pre6
   rw [and_true]
 have hwit:=ChangeSpec.witness6 (enc:=enc) (os:=os) (C:=Try.checked) (f:=3) (fn:=Try.f3) (s:=Rows.turnMakesSpec) (conds:=Rows.turnMakesRow.domain) (apart:=false) false ⟨#[],#[.agg #[.int .i64 0,.int .u64 0,.int .u64 0,.int .u64 0,.int .u64 0,.slice none 0 0,.int .i64 0,.int .i64 0,.int .i64 0,.bool false]],[]⟩ 8 (by kernel_rfl) (by kernel_rfl) (by kernel_rfl) (by kernel_rfl)
 have e2:(Try.checked).prog=Try.prog:=rfl
 rw [e2,e] at hwit
 rw [e]
 refine returnsInHanded_of_change_and (C:=Try.checked) (X:=fun _ _=>True) (fun _ _ _ _ _=>trivial) Try.own started (by kernel_rfl) Try.func3 hwit ?_
 intro W base args ds gs before hval0 hW hcnd hsz _ _
 have hval:∀ (j:Nat) t v,Try.f3.params[j]? = some t→args[j]? = some v→Value.okWide Try.prog W .any base t v:=hval0
 have hW':=hW
 obtain ⟨p,q,hA0,hV,rfl,hfz,hnd⟩:=hW
 have hA:DataW.TrodAll enc Try.prog W 0 (fun _=>true) true Try.f3.params.toList args.toList ds p:=hA0
 rw [Try.params3] at hA hval
 obtain ⟨v0,vs0,d0,ds0,p0,q0,hargs,rfl,rfl,h0,r0⟩:=trodAll_cons hA
 obtain ⟨rfl,rfl,rfl⟩:=trodAll_nil r0
 obtain rfl:args=#[v0]:=by cases args;simp_all
 obtain ⟨rfl,rfl⟩:=trodVars_none hV
 have lt0:∀ x ∈ p0,x.block < W.heap.size:=by obtain ⟨m,hm⟩:=h0;exact DataW.trod_lt m _ _ _ hm
 have hsz0:∀ k,k ∈ d0.weights Try.prog 27→k ≤ 140737488351232:=fun k hk=>by
   have:=List.all_eq_true.1 hsz k (DataW.weights_mem_each (j:=0) (by rw [Try.params3];rfl) rfl k hk)
   exact of_decide_eq_true this
 obtain ⟨t0,hv0⟩:=open_tree (hval 0 27 v0 rfl rfl) h0 hsz0
 clear hA0 hval0
 refine (turnmakes_any t0 W _ _ hv0).mono fun e W' ⟨he,bel⟩=>?_
 subst he
 exact ⟨_,rfl,_,_,_,[],_,[],hW',trodAll_mk1 (shut_bool Try.underlying4 _),
   (trodAll_cons_mk (Below.trod Try.laidOut (by kernel_rfl) (of_decide_eq_true (by kernel_rfl)) h0 bel lt0) trodAll_mk0),rfl,bel.frame _,fun h=>by cases h⟩
theorem over:Rows.turnMakesRow.holds Try.pinned (OpenSpec.ofChange Rows.turnMakesSpec) :=
 OpenClaim.holds_of_wide 3 Try.f3 rfl rfl rfl rfl rfl rfl rfl ⟨rfl,rfl,rfl,rfl,rfl⟩ rfl rfl rfl rfl rfl (by kernel_rfl) Try.func3 (by kernel_rfl)
   (of_decide_eq_true (by kernel_rfl)) (by unfold Func.isWrapper;first | (rw [if_pos (by decide +kernel)];kernel_rfl) | (rw [if_neg (by decide +kernel)];exact ⟨rfl,rfl⟩))
   (fun os started H enc _=>lifted os started H enc)
theorem proved:Rows.TurnMakesSaid:=over
end Go.Proofs.Ytedjkbmfpjmlpaa.turnMakes
