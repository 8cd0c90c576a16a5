/- Part 2 of what these proofs need. -/
import Derived.Deep.CutBlock
import Derived.BigRegion
import Derived.ChangeOld
import Derived.Deep.Slices
import Derived.Laws.IdiomArrays
import Derived.Lib.SmallJoins
import Derived.SizedLaws
import Derived.DataReads
import Derived.LaidLaws
import Derived.Test.YtogdjbnejpennaaDoorEc1
set_option maxRecDepth 100000
set_option maxHeartbeats 16000000
namespace Go.Proofs.YtogdjbnejpennaaDoor
open Go.RowKit
theorem results_row_ex {P:Program} {fn:Func} {p q:Tmp} {ty:TypeId} (h:fn.results=#[.cell p ty,.tmp q]) (tmps:Array Value) (w:World) (g:Nat) (t:TypeId) (cs:Array Value) (fr:Nat × Nat) (d:TypeDesc) (y:Value)
   (hp:tmps.getD p undef=.pointer (some ⟨g,0,none⟩)) (hy:tmps.getD q undef=y) (hg:w.heap[g]? = some (.cells cs t fr))
   (hu:P.underlying ty=some d) (hd:(match d with | .struct _ | .array _ _=>true | _=>false)=true) (hi:(P.info? ty).map (·.size)=some cs.size) :
   (results fn tmps).run P w=.ok (.tuple #[.agg cs,y]) w:=by
 have hp':tmps[p]?.getD undef=.pointer (some ⟨g,0,none⟩):=by simpa using hp
 have hy':tmps[q]?.getD undef=y:=by simpa using hy
 simp [results,h,hp',hy',asAddr,run_loadVar_row w g t ty cs fr d hg hu hd hi]
namespace Tr
def Plains (t:Tr):Prop:=t.checkC=0∧t.exT=t
end Tr
theorem sentV_zero (A:Nat→Addr):sentV A 0=.nilIface:=if_pos rfl
theorem expand_yes (A:Nat→Addr) (t:Tr) (hc:t.checkC=0) (w:World) (hE:ErrsC w A) (B:Nat→Prop) (v:Value) (hv:NodeV w B v t) :
   Calls Tryd.prog 44 #[v] w (fun e w'=>∃ s F,e=.returned (.tuple #[.agg (t.exT.cells s),.nilIface])∧Owned w' s t.exT.subs F∧(∀ b,b ∈ F→w.heap.size ≤ b)∧Below w.heap.size w w'):=by
 have hd:t.dpT ≤ 1000000:=by have:=(Tr.checkC_zero.1 hc).2.1;omega
 obtain ⟨s,rfl,hs⟩:=hv
 obtain ⟨p,cap,rfl,hlen⟩:=hs.slice
 obtain ⟨z0,z1⟩:=two_new w (.cells (t.cells (.slice p t.subs.length cap)) 37) (.cells noNode 37)
 have hb0:Below w.heap.size w ((w.alloc (.cells (t.cells (.slice p t.subs.length cap)) 37)).alloc (.cells noNode 37)):=by go_grown
 have hs0:((w.alloc (.cells (t.cells (.slice p t.subs.length cap)) 37)).alloc (.cells noNode 37)).heap.size=w.heap.size+2:=by simp
 have HK:=Lib.hid (fun w9 (hb:Below w.heap.size w w9)=>treecheckC_any A t hd w9 (hE.below hb) B (.agg (t.cells (.slice p t.subs.length cap))) ⟨_,rfl,hs.later hb⟩)
 have HX:=Lib.hid (fun w9 (hb:Below w.heap.size w w9) (hf:t.InForm)=>expanded_any t hf w9 B (.agg (t.cells (.slice p t.subs.length cap))) ⟨_,rfl,hs.later hb⟩)
 have Z0:=Lib.hid z0;have Z1:=Lib.hid z1;have HB0:=Lib.hid hb0;have HS0:=Lib.hid hs0
 clear hs z0 z1 hb0 hs0 hlen hE
 unfold Tr.cells at *
 have hI:=(Tr.checkC_zero.1 hc).1
 have HXI:=Lib.hid (fun w9 hb=>HX.out w9 hb hI)
 rw [hc,sentV_zero] at HK
 clear hc HX hI
 generalize t.exT=R at *
 go_enter Tryd.func44,Tryd.ntmps44
 go_upto_region 1 with (fail)
 generalize (w.alloc _).alloc _=W0 at *
 go_wp2_with (first
   | (refine wpList_load_row rfl 37 (.tmp 1) rfl w.heap.size rfl 37 _ (0,0) _ Z0.out Tryd.underlying37 rfl (by kernel_rfl) ?_)
   | fail)
 refine (HK.out W0 HB0.out).mono ?_
 rintro e w1 ⟨rfl,hb1⟩
 have Y0:=Lib.hid (keep_blk hb1 Z0.out);have Y1:=Lib.hid (keep_blk hb1 Z1.out)
 have HB1:=Lib.hid (HB0.out.trans (hb1.mono HB0.out.size))
 have HS1:=Lib.hid (show w.heap.size+2 ≤ w1.heap.size from by have:=hb1.size;have:=HS0.out;omega)
 clear hb1 HK Z0 Z1 HB0 HS0
 have HX2:=Lib.hid (HXI.out w1 HB1.out)
 clear HXI
 go_wp2_with (first
   | (refine wpList_load_row rfl 37 (.tmp 1) rfl w.heap.size rfl 37 _ (0,0) _ Y0.out Tryd.underlying37 rfl (by kernel_rfl) ?_)
   | fail)
 refine HX2.out.mono ?_
 rintro e w2 ⟨s2,F,rfl,ho,hF,hb2⟩
 obtain ⟨p2,c2,rfl,hl2⟩:=ho.slice
 have V1:=Lib.hid (keep_blk hb2 Y1.out)
 have HO:=Lib.hid ho
 have HF:=Lib.hid (show ∀ b,b ∈ F→w.heap.size+2 ≤ b from fun b hb=>by have:=hF b hb;have:=HS1.out;omega)
 have HB2:=Lib.hid (HB1.out.trans (hb2.mono HB1.out.size))
 clear ho hF hb2 HX2 Y0 Y1 HB1
 unfold Tr.cells
 go_wp2_with (first
   | (refine wpList_store_row rfl 37 (.tmp 2) (.tmp 12) rfl (w.heap.size+1) #[.int .i64 R.kind,.int .u64 (Oc.U R.w0),.int .u64 (Oc.U R.w1),.int .u64 (Oc.U R.w2),.int .u64 (Oc.U R.w3),.slice p2 R.subs.length c2,.int .i64 R.num,.int .i64 R.least,.int .i64 R.most,.bool R.bare] rfl rfl 37 _ V1.out (by kernel_rfl) rfl (by simp [Value.oneCell']) ?_)
   | fail)
 refine bodyPost_ret (results_row_ex rfl _ _ (w.heap.size+1) 37 #[.int .i64 R.kind,.int .u64 (Oc.U R.w0),.int .u64 (Oc.U R.w1),.int .u64 (Oc.U R.w2),.int .u64 (Oc.U R.w3),.slice p2 R.subs.length c2,.int .i64 R.num,.int .i64 R.least,.int .i64 R.most,.bool R.bare] (0,0) _ _ rfl rfl (heap_setRow V1.out) Tryd.underlying37 rfl (by kernel_rfl)) rfl ⟨.slice p2 R.subs.length c2,F,rfl, ?_, ?_, ?_⟩
 · exact HO.out.keep fun b hb=>by have:=HF.out b hb;rw [heap_setRow_other _ _ _ (by omega)]
 · intro b hb;have:=HF.out b hb;omega
 · exact below_setRow HB2.out (Nat.le_succ _) _
theorem expand_no (A:Nat→Addr) (t:Tr) (hd:t.dpT ≤ 1000000) (hc:t.checkC ≠ 0) (w:World) (hE:ErrsC w A) (B:Nat→Prop) (v:Value) (hv:NodeV w B v t) :
   Calls Tryd.prog 44 #[v] w (fun e w'=>e=.returned (.tuple #[.agg noNode,sentV A t.checkC])∧Below w.heap.size w w'):=by
 obtain ⟨s,rfl,hs⟩:=hv
 obtain ⟨p,cap,rfl,hlen⟩:=hs.slice
 obtain ⟨z0,z1⟩:=two_new w (.cells (t.cells (.slice p t.subs.length cap)) 37) (.cells noNode 37)
 have hb0:Below w.heap.size w ((w.alloc (.cells (t.cells (.slice p t.subs.length cap)) 37)).alloc (.cells noNode 37)):=by go_grown
 have hs0:((w.alloc (.cells (t.cells (.slice p t.subs.length cap)) 37)).alloc (.cells noNode 37)).heap.size=w.heap.size+2:=by simp
 have HK:=Lib.hid (fun w9 (hb:Below w.heap.size w w9)=>treecheckC_any A t hd w9 (hE.below hb) B (.agg (t.cells (.slice p t.subs.length cap))) ⟨_,rfl,hs.later hb⟩)
 have HX:=Lib.hid (fun w9 (hb:Below w.heap.size w w9) (hf:t.InForm)=>expanded_any t hf w9 B (.agg (t.cells (.slice p t.subs.length cap))) ⟨_,rfl,hs.later hb⟩)
 have Z0:=Lib.hid z0;have Z1:=Lib.hid z1;have HB0:=Lib.hid hb0;have HS0:=Lib.hid hs0
 clear hs z0 z1 hb0 hs0 hlen hE
 unfold Tr.cells at *
 obtain ⟨ty,ad,hn⟩:=(show ∃ ty a,sentV A t.checkC=.iface ty (.pointer (some a)) from ⟨_,_,if_neg hc⟩)
 rw [hn] at HK ⊢
 clear hc HX hn
 go_enter Tryd.func44,Tryd.ntmps44
 go_upto_region 1 with (fail)
 generalize (w.alloc _).alloc _=W0 at *
 go_wp2_with (first
   | (refine wpList_load_row rfl 37 (.tmp 1) rfl w.heap.size rfl 37 _ (0,0) _ Z0.out Tryd.underlying37 rfl (by kernel_rfl) ?_)
   | fail)
 refine (HK.out W0 HB0.out).mono ?_
 rintro e w1 ⟨rfl,hb1⟩
 have Y0:=Lib.hid (keep_blk hb1 Z0.out);have Y1:=Lib.hid (keep_blk hb1 Z1.out)
 have HB1:=Lib.hid (HB0.out.trans (hb1.mono HB0.out.size))
 have HS1:=Lib.hid (show w.heap.size+2 ≤ w1.heap.size from by have:=hb1.size;have:=HS0.out;omega)
 clear hb1 HK Z0 Z1 HB0 HS0
 go_wp2_with (first
   | (refine wpList_store_row rfl 37 (.tmp 2) (.tmp 9) rfl (w.heap.size+1) noNode rfl rfl 37 _ Y1.out (by kernel_rfl) rfl (by simp [Value.oneCell']) ?_)
   | fail)
 refine bodyPost_ret (results_row_ex rfl _ _ (w.heap.size+1) 37 noNode (0,0) _ _ rfl rfl (heap_setRow Y1.out) Tryd.underlying37 rfl (by kernel_rfl)) rfl ⟨rfl,below_setRow HB1.out (Nat.le_succ _) _⟩
theorem explain_any (A:Nat→Addr) (t:Tr) (hd:t.dpT ≤ 1000000) (w:World) (hE:ErrsC w A) (B:Nat→Prop) (v:Value) (hv:NodeV w B v t) :
   Calls Tryd.prog 48 #[v] w (fun e w'=>∃ b:Bool,e=.returned (.bool b)∧(b=true ↔ t.Plains)∧Below w.heap.size w w'):=by
 obtain ⟨s,rfl,hs⟩:=hv
 obtain ⟨p,cap,rfl,hlen⟩:=hs.slice
 have z0:=heap_alloc_new w (.cells (t.cells (.slice p t.subs.length cap)) 37)
 have hb0:Below w.heap.size w (w.alloc (.cells (t.cells (.slice p t.subs.length cap)) 37)):=(Below.refl _ _).alloc (Nat.le_refl _) _
 have HV:=Lib.hid (fun w9 (hb:Below w.heap.size w w9)=>(show NodeV w9 B (.agg (t.cells (.slice p t.subs.length cap))) t from ⟨_,rfl,hs.later hb⟩))
 have HE:=Lib.hid (fun w9 (hb:Below w.heap.size w w9)=>hE.below hb)
 have Z0:=Lib.hid z0;have HB0:=Lib.hid hb0
 clear hs z0 hb0 hlen hE
 by_cases hc:t.checkC=0
 · have HX:=Lib.hid (fun w9 (hb:Below w.heap.size w w9)=>expand_yes A t hc w9 (HE.out w9 hb) B _ (HV.out w9 hb))
   have HP:=Lib.hid (show ∀ b:Bool,(b=true ↔ t.exT=t)→(b=true ↔ t.Plains) from fun b hb=>hb.trans ⟨fun h=>⟨hc,h⟩,fun h=>h.2⟩)
   clear hc
   generalize t.exT=R at *
   unfold Tr.cells at *
   go_enter Tryd.func48,Tryd.ntmps48
   go_upto_region 1 with (fail)
   generalize w.alloc _=W0 at *
   go_wp2_with (first
     | (refine wpList_load_row rfl 37 (.tmp 1) rfl w.heap.size rfl 37 _ (0,0) _ Z0.out Tryd.underlying37 rfl (by kernel_rfl) ?_)
     | fail)
   refine (HX.out W0 HB0.out).mono ?_
   rintro e w1 ⟨s1,F,rfl,ho,hF,hb1⟩
   obtain ⟨p2,c2,rfl,hl2⟩:=ho.slice
   have Y0:=Lib.hid (heap_alloc_lt (o:=.cells #[.int .i64 R.kind,.int .u64 (Oc.U R.w0),.int .u64 (Oc.U R.w1),.int .u64 (Oc.U R.w2),.int .u64 (Oc.U R.w3),.slice p2 R.subs.length c2,.int .i64 R.num,.int .i64 R.least,.int .i64 R.most,.bool R.bare] 37) (keep_blk hb1 Z0.out))
   have Y1:=Lib.hid (heap_alloc_new w1 (.cells #[.int .i64 R.kind,.int .u64 (Oc.U R.w0),.int .u64 (Oc.U R.w1),.int .u64 (Oc.U R.w2),.int .u64 (Oc.U R.w3),.slice p2 R.subs.length c2,.int .i64 R.num,.int .i64 R.least,.int .i64 R.most,.bool R.bare] 37))
   have hba:Below w1.heap.size w1 (w1.alloc (.cells #[.int .i64 R.kind,.int .u64 (Oc.U R.w0),.int .u64 (Oc.U R.w1),.int .u64 (Oc.U R.w2),.int .u64 (Oc.U R.w3),.slice p2 R.subs.length c2,.int .i64 R.num,.int .i64 R.least,.int .i64 R.most,.bool R.bare] 37)):=(Below.refl _ _).alloc (Nat.le_refl _) _
   have HB1:=Lib.hid ((HB0.out.trans (hb1.mono HB0.out.size)).alloc (HB0.out.trans (hb1.mono HB0.out.size)).size (.cells #[.int .i64 R.kind,.int .u64 (Oc.U R.w0),.int .u64 (Oc.U R.w1),.int .u64 (Oc.U R.w2),.int .u64 (Oc.U R.w3),.slice p2 R.subs.length c2,.int .i64 R.num,.int .i64 R.least,.int .i64 R.most,.bool R.bare] 37))
   have HSM:=Lib.hid (treesame_any R t (w1.alloc (.cells #[.int .i64 R.kind,.int .u64 (Oc.U R.w0),.int .u64 (Oc.U R.w1),.int .u64 (Oc.U R.w2),.int .u64 (Oc.U R.w3),.slice p2 R.subs.length c2,.int .i64 R.num,.int .i64 R.least,.int .i64 R.most,.bool R.bare] 37)) _ B (.agg #[.int .i64 R.kind,.int .u64 (Oc.U R.w0),.int .u64 (Oc.U R.w1),.int .u64 (Oc.U R.w2),.int .u64 (Oc.U R.w3),.slice p2 R.subs.length c2,.int .i64 R.num,.int .i64 R.least,.int .i64 R.most,.bool R.bare]) _ ⟨_,rfl,ho.trees.later hba⟩ (HV.out _ HB1.out))
   clear ho hF hb1 hba HX Z0 HB0
   unfold Tr.cells at HSM
   go_upto_region 2 with (fail)
   generalize w1.alloc _=w1a at *
   obtain ⟨q0,q1,q2,q3,q4,q5,q6,q7,q8,q9⟩:=allTen Y1.out
   obtain ⟨r0,r1,r2,r3,r4,r5,r6,r7,r8,r9⟩:=allTen Y0.out
   go_wp2_with fail
   clear q0 q1 q2 q3 q4 q5 q6 q7 q8 q9 r0 r1 r2 r3 r4 r5 r6 r7 r8 r9
   refine HSM.out.mono ?_
   rintro e w2 ⟨bb,rfl,hbb,hb2⟩
   have HBB:=Lib.hid hbb
   have HB2:=Lib.hid (HB1.out.trans (hb2.mono HB1.out.size))
   clear hbb hb2 HSM
   go_wp2
   go_ret
   exact ⟨bb,rfl,HP.out bb HBB.out,HB2.out⟩
 · have HX:=Lib.hid (fun w9 (hb:Below w.heap.size w w9)=>expand_no A t hd hc w9 (HE.out w9 hb) B _ (HV.out w9 hb))
   have HP:=Lib.hid (show ((false:Bool)=true ↔ t.Plains) from ⟨fun h=>(by cases h),fun h=>absurd h.1 hc⟩)
   obtain ⟨ty,ad,hn⟩:=(show ∃ ty a,sentV A t.checkC=.iface ty (.pointer (some a)) from ⟨_,_,if_neg hc⟩)
   rw [hn] at HX
   clear hc hn
   unfold Tr.cells at *
   go_enter Tryd.func48,Tryd.ntmps48
   go_upto_region 1 with (fail)
   generalize w.alloc _=W0 at *
   go_wp2_with (first
     | (refine wpList_load_row rfl 37 (.tmp 1) rfl w.heap.size rfl 37 _ (0,0) _ Z0.out Tryd.underlying37 rfl (by kernel_rfl) ?_)
     | fail)
   refine (HX.out W0 HB0.out).mono ?_
   rintro e w1 ⟨rfl,hb1⟩
   have HB1:=Lib.hid ((HB0.out.trans (hb1.mono HB0.out.size)).alloc (HB0.out.trans (hb1.mono HB0.out.size)).size (.cells noNode 37))
   clear hb1 HX Z0 HB0
   go_wp2
   go_ret
   exact ⟨false,rfl,HP.out,HB1.out⟩
end Go.Proofs.YtogdjbnejpennaaDoor
namespace Go.Proofs.YtogdjbnejpennaaDoor
open Go.RowKit
def exA:Tr:=.bytes fun x=>x == 97
def exT0:Tr:=.rep 2 (-1) exA
def exE:Tr:=.many 5 [exA,exA,.optT exA (-1) true]
theorem exT0_ex:exT0.exT=exE:=by
 have ha:exA.exT=exA:=by
   rw [Tr.exT_other exA (by decide)];rfl
 have h:exT0=Tr.node 8 0#64 0#64 0#64 0#64 [exA] 0 2 (-1) false:=rfl
 rw [h,exT_rep8,ha]
 rfl
theorem exT0_chk:exT0.checkC=0:=by decide +kernel
theorem exT0_form:exT0.InForm:=(Tr.checkC_zero.1 exT0_chk).1
theorem exT0_not:¬ exT0.Plains:=fun h=>by
 have:=h.2
 rw [exT0_ex] at this
 have:=congrArg Tr.kind this
 simp [exE,exT0,Tr.many,Tr.rep,Tr.kind] at this
theorem exE_chk:exE.checkC=0:=by rw [← exT0_ex];exact Tr.check_ex exT0_chk
theorem exE_plain:exE.Plains:=⟨exE_chk,by rw [← exT0_ex];exact Tr.ex_ex exT0_form⟩
theorem exlives_any (A:Nat→Addr) (w:World) (hE:ErrsC w A):Calls Tryd.prog 42 #[] w fun e w'=>e=.returned (.bool true)∧Below w.heap.size w w':=by
 have HE:=Lib.hid (fun w9 (hb:Below w.heap.size w w9)=>hE.below hb)
 have HT:=Lib.hid (show ∀ w,Calls Tryd.prog 62 #[.string ⟨#[97]⟩] w (OwnEnd exA w) from fun w=>treetext_any ⟨#[97]⟩ (by decide) w)
 clear hE
 go_enter Tryd.func42,Tryd.ntmps42
 go_wp2_with fail
 refine (HT.out w).mono ?_
 rintro e w1 ⟨s1,F1,rfl,ho,-,hb1⟩
 have HV1:=Lib.hid (show NodeV w1 (fun b=>b ∈ F1) (.agg (exA.cells s1)) exA from ⟨s1,rfl,ho.trees⟩)
 have HB1:=Lib.hid hb1
 clear ho hb1
 generalize exA.cells s1=C1 at *
 go_wp2_with fail
 refine (rep_any exA 2 (-1) w1 _ _ HV1.out).mono ?_
 rintro e w2 ⟨s2,F2,rfl,ho,-,hb2⟩
 have HV2:=Lib.hid (show NodeV w2 (fun b=>b ∈ F2) (.agg (exT0.cells s2)) exT0 from ⟨s2,rfl,ho.trees⟩)
 have HB2:=Lib.hid (HB1.out.trans (hb2.mono HB1.out.size))
 clear ho hb2 HB1 HV1
 have hcc:(Tr.rep 2 (-1) exA).cells s2=exT0.cells s2:=rfl
 rw [hcc]
 clear hcc
 generalize exT0.cells s2=C2 at *
 go_wp2_with fail
 refine (expand_yes A exT0 exT0_chk w2 (HE.out w2 HB2.out) _ _ HV2.out).mono ?_
 rintro e w3 ⟨s3,F3,rfl,ho,-,hb3⟩
 rw [exT0_ex] at ho ⊢
 obtain ⟨p3,c3,rfl,-⟩:=ho.slice
 have HB3:=Lib.hid ((HB2.out.trans (hb3.mono HB2.out.size)).alloc (HB2.out.trans (hb3.mono HB2.out.size)).size (.cells (exE.cells (.slice p3 exE.subs.length c3)) 37))
 have hba:Below w3.heap.size w3 (w3.alloc (.cells (exE.cells (.slice p3 exE.subs.length c3)) 37)):=(Below.refl _ _).alloc (Nat.le_refl _) _
 have HO3:=Lib.hid (ho.trees.later hba)
 have Y3:=Lib.hid (heap_alloc_new w3 (.cells (exE.cells (.slice p3 exE.subs.length c3)) 37))
 have hz3:(w3.alloc (.cells (exE.cells (.slice p3 exE.subs.length c3)) 37)).heap.size=w3.heap.size+1:=by simp
 clear ho hb3 hba HB2 HV2
 have hec:exE.cells (.slice p3 exE.subs.length c3)=#[.int .i64 5,.int .u64 0,.int .u64 0,.int .u64 0,.int .u64 0,.slice p3 3 c3,.int .i64 0,.int .i64 0,.int .i64 0,.bool false]:=by
   unfold exE Tr.many Tr.cells
   simp only [Tr.kind,Tr.w0,Tr.w1,Tr.w2,Tr.w3,Tr.num,Tr.least,Tr.most,Tr.bare,Tr.subs,u0,List.length_cons,List.length_nil]
 rw [hec] at HB3 HO3 Y3 hz3 ⊢
 clear hec
 go_upto_region 2 with (fail)
 generalize w3.alloc _=w4 at *
 obtain ⟨b2,o2,s5,rfl,-,t2,-⟩:=(show TreesAt w4 _ (.slice p3 3 c3) exE.subs from HO3.out).get (i:=2) (t:=.optT exA (-1) true) rfl
 obtain ⟨d0,d1,d2,d3,d4,d5,d6,d7,d8,d9⟩:=t2
 have d8:w4.cell? ⟨b2,o2+2 * 10+8,none⟩=some (.int .i64 (-1)):=d8
 have d9:w4.cell? ⟨b2,o2+2 * 10+9,none⟩=some (.bool true):=d9
 obtain ⟨q0,q1,q2,q3,q4,q5,q6,q7,q8,q9⟩:=allTen Y3.out
 clear d0 d1 d2 d3 d4 d5 d6 d7
 go_wp2_with fail
 clear q0 q1 q2 q3 q4 q5 q6 q7 q8 q9 d8 d9
 refine (HT.out w4).mono ?_
 rintro e w5 ⟨s5,F5,rfl,ho,-,hb5⟩
 have HV5:=Lib.hid (show NodeV w5 (fun b=>b ∈ F5) (.agg (exA.cells s5)) exA from ⟨s5,rfl,ho.trees⟩)
 have HB5:=Lib.hid (HB3.out.trans (hb5.mono HB3.out.size))
 have Y5:=Lib.hid (keep_blk hb5 Y3.out);have HO5:=Lib.hid (HO3.out.later hb5)
 clear ho hb5 HB3 Y3 HO3
 generalize exA.cells s5=C5 at *
 go_wp2_with fail
 refine (rep_any exA 2 (-1) w5 _ _ HV5.out).mono ?_
 rintro e w6 ⟨s6,F6,rfl,ho,-,hb6⟩
 have HV6:=Lib.hid (show NodeV w6 (fun b=>b ∈ F6) (.agg (exT0.cells s6)) exT0 from ⟨s6,rfl,ho.trees⟩)
 have HB6:=Lib.hid (HB5.out.trans (hb6.mono HB5.out.size))
 have Y6:=Lib.hid (keep_blk hb6 Y5.out);have HO6:=Lib.hid (HO5.out.later hb6)
 clear ho hb6 HB5 Y5 HO5 HV5
 have hcc:(Tr.rep 2 (-1) exA).cells s6=exT0.cells s6:=rfl
 rw [hcc]
 clear hcc
 generalize exT0.cells s6=C6 at *
 go_wp2_with fail
 refine (explain_any A exT0 (by have:=(Tr.checkC_zero.1 exT0_chk).2.1;omega) w6 (HE.out w6 HB6.out) _ _ HV6.out).mono ?_
 rintro e w7 ⟨b7,rfl,hb7,hbw7⟩
 obtain rfl:b7=false:=by
   cases b7 with
   | false=>rfl
   | true=>exact absurd (hb7.1 rfl) exT0_not
 have HB7:=Lib.hid (HB6.out.trans (hbw7.mono HB6.out.size))
 have Y7:=Lib.hid (keep_blk hbw7 Y6.out);have HO7:=Lib.hid (HO6.out.later hbw7)
 clear hb7 hbw7 HB6 Y6 HO6 HV6
 obtain ⟨q0,q1,q2,q3,q4,q5,q6,q7,q8,q9⟩:=allTen Y7.out
 go_wp2_with fail
 clear q0 q1 q2 q3 q4 q5 q6 q7 q8 q9
 have hv7:NodeV w7 (fun b=>b ∈ F3) (.agg #[.int .i64 5,.int .u64 0,.int .u64 0,.int .u64 0,.int .u64 0,.slice (some ⟨b2,o2,none⟩) 3 c3,.int .i64 0,.int .i64 0,.int .i64 0,.bool false]) exE:=⟨.slice (some ⟨b2,o2,none⟩) 3 c3,by
   unfold exE Tr.many Tr.cells
   simp only [Tr.kind,Tr.w0,Tr.w1,Tr.w2,Tr.w3,Tr.num,Tr.least,Tr.most,Tr.bare,u0],HO7.out⟩
 refine (explain_any A exE (by have:=(Tr.checkC_zero.1 exE_chk).2.1;omega) w7 (HE.out w7 HB7.out) _ _ hv7).mono ?_
 rintro e w8 ⟨b8,rfl,hb8,hbw8⟩
 obtain rfl:b8=true:=hb8.2 exE_plain
 have HB8:=Lib.hid (HB7.out.trans (hbw8.mono HB7.out.size))
 clear hb8 hbw8 HB7 Y7 HO7 hv7
 go_wp2
 go_ret
 exact ⟨rfl,HB8.out⟩
end Go.Proofs.YtogdjbnejpennaaDoor
namespace Go.Proofs.YtogdjbnejpennaaDoor
open Go.RowKit
theorem ndS_take (l:List Tr) (m:Nat) (x:Tr) (h:l[m]? = some x):Tr.ndS (l.take (m+1))=Tr.ndS (l.take m)+x.ndT:=by
 rw [List.take_add_one,h,Option.toList_some,Tr.ndS_append,Tr.ndS,Tr.ndS];rfl
theorem ndS_take_le (l:List Tr) (m:Nat):Tr.ndS (l.take m) ≤ Tr.ndS l:=by
 have h:=Tr.ndS_append (l.take m) (l.drop m)
 rw [List.take_append_drop] at h
 omega
theorem refnodes_any:∀ t:Tr,t.ndT ≤ 3000→∀ (w:World) (B:Nat→Prop) (v:Value),NodeV w B v t→Calls Tryd.prog 53 #[v,.int .i64 3000] w (SizeEnd t.ndT w):=by
 intro t
 induction t using Tr.rec_subs with
 | h t ih =>
   intro hnd w B v hv
   obtain ⟨s,rfl,hs⟩:=hv
   obtain ⟨p,cap,rfl,hlen⟩:=hs.slice
   have IH:=Lib.hid ih;have HS:=Lib.hid hs
   have HT:=Lib.hid (show 1+Tr.ndS t.subs=t.ndT from (Tr.ndT_eq t).symm)
   have HND:=Lib.hid hnd
   have Z0:=Lib.hid (heap_alloc_new w (.cells (t.cells (.slice p t.subs.length cap)) 37))
   have HB0:=Lib.hid (show Below w.heap.size w (w.alloc (.cells (t.cells (.slice p t.subs.length cap)) 37)) from (Below.refl _ _).alloc (Nat.le_refl _) _)
   clear ih hs hnd
   generalize hts:t.subs=ts at *
   unfold Tr.cells at *
   go_enter Tryd.func53,Tryd.ntmps53
   go_upto_region 1 with (fail)
   generalize w.alloc _=W0 at *
   go_wp2
   go_loopw [6,5] (fun iv nv wr=>∃ (m N:Nat),iv=.int .i64 m∧nv=.int .i64 N∧m ≤ ts.length∧Hid (N=1+Tr.ndS (ts.take m))∧Hid (Below w.heap.size w wr)∧Hid (wr.heap[w.heap.size]? = some (.cells #[.int .i64 t.kind,.int .u64 (Oc.U t.w0),.int .u64 (Oc.U t.w1),.int .u64 (Oc.U t.w2),.int .u64 (Oc.U t.w3),.slice p ts.length cap,.int .i64 t.num,.int .i64 t.least,.int .i64 t.most,.bool t.bare] 37))) (fun iv _ _=>ts.length - (intOf iv).toNat)
   case atStart=>exact ⟨0,1,rfl,rfl,Nat.zero_le _,Lib.hid (by simp [Tr.ndS]),HB0,Z0⟩
   case round =>
     obtain ⟨m,N,rfl,rfl,hm,HN,HB,X0⟩:=hrel
     have wm:IntKind.i64.wrap ((m:Int)+1)=(m:Int)+1:=IntWalk.i64_in _ (by omega)
     have hN:N ≤ 3000:=by have:=HN.out;have:=ndS_take_le ts m;have:=HT.out;have:=HND.out;omega
     have hdN:decide ((N:Int) ≤ 3000)=true:=decide_eq_true (by omega)
     obtain ⟨q0,q1,q2,q3,q4,q5,q6,q7,q8,q9⟩:=allTen X0.out
     clear q0 q1 q2 q3 q4 q6 q7 q8 q9
     by_cases hlt:m < ts.length
     · obtain ⟨x,hx⟩:∃ x,ts[m]? = some x:=⟨_,List.getElem?_eq_getElem hlt⟩
       obtain ⟨b1,o1,s1,rfl,-,t1,sub1⟩:=HS.out.get hx
       obtain ⟨d0,d1,d2,d3,d4,d5,d6,d7,d8,d9⟩:=t1.keep (HB.out.block _ t1.lt)
       obtain ⟨p1,c1,rfl,hl1⟩:=sub1.slice
       have hNx:=ndS_take ts m x hx
       have hNle:=ndS_take_le ts (m+1)
       have wN:IntKind.i64.wrap ((N:Int)+(x.ndT:Nat))=(N:Int)+(x.ndT:Nat):=IntWalk.i64_in _ (by have:=HN.out;have:=HT.out;have:=HND.out;omega)
       have hxn:x.ndT ≤ 3000:=by have:=HN.out;have:=HT.out;have:=HND.out;omega
       have HCALL:=Lib.hid (fun w9 hb=>IH.out x (List.mem_of_getElem? hx) hxn w9 B (.agg (x.cells (.slice p1 x.subs.length c1))) ⟨_,rfl,sub1.later hb⟩)
       have HNX:=Lib.hid hNx
       clear t1 sub1 hx hNx hNle hxn
       unfold Tr.cells at HCALL
       go_wp2_with fail
       clear d0 d1 d2 d3 d4 d5 d6 d7 d8 d9
       refine (HCALL.out wr HB.out).mono ?_
       rintro e w2 ⟨rfl,hb2⟩
       have HB2:=Lib.hid (HB.out.trans (hb2.mono HB.out.size));have X2:=Lib.hid (keep_blk hb2 X0.out)
       clear hb2
       go_wp2
       exact ⟨⟨m+1,N+x.ndT,by go_num,by go_num,by omega,Lib.hid (by have:=HNX.out;have:=HN.out;omega),HB2,X2⟩,by simp [intOf];omega⟩
     · obtain rfl:m=ts.length:=by omega
       have hNt:N=t.ndT:=by have:=HN.out;rw [List.take_length] at this;have:=HT.out;omega
       have HNT:=Lib.hid hNt
       clear hNt
       have hmin:((N:Int) ≤ 3001)=True:=eq_true (by omega)
       go_wp2
       go_ret
       exact ⟨by rw [← HNT.out];rfl,HB.out⟩
end Go.Proofs.YtogdjbnejpennaaDoor
namespace Go.Proofs.YtogdjbnejpennaaDoor
namespace Tr
theorem dpS_nd:∀ {l:List Tr},(∀ t,t ∈ l→t.dpT ≤ 2 * t.ndT)→dpS l ≤ 2 * ndS l
 | [],_=>by simp [dpS]
 | t :: l,h=>by
   have h1:=h t List.mem_cons_self
   have h2:=dpS_nd (l:=l) fun u hu=>h u (List.mem_cons_of_mem _ hu)
   rw [dpS,ndS];omega
theorem dp_nd (t:Tr):t.dpT ≤ 2 * t.ndT:=by
 induction t using Tr.rec_subs with
 | h t ih =>
   have h:=dpS_nd ih
   rw [dpT_eq,ndT_eq]
   split
   · omega
   · split <;> omega
end Tr
end Go.Proofs.YtogdjbnejpennaaDoor
namespace Go.Proofs.YtogdjbnejpennaaDoor
open Go.RowKit
theorem expandsizes_any (A:Nat→Addr) (t:Tr) (w:World) (hE:Errs w A) (B:Nat→Prop) (v:Value) (hv:NodeV w B v t) :
   Calls Tryd.prog 9 #[v] w fun e w'=>e=.returned (.bool true)∧Below w.heap.size w w':=by
 have HE:=Lib.hid (fun w9 (h:Below w.heap.size w w9)=>hE.below h)
 have HLV:=Lib.hid (fun w9 (h:Below w.heap.size w w9)=>exlives_any A w9 (hE.below h).few.c)
 obtain ⟨s,rfl,hs⟩:=hv
 obtain ⟨p,cap,rfl,-⟩:=hs.slice
 have HV:=Lib.hid (fun w9 (hb:Below w.heap.size w w9)=>(show NodeV w9 B (.agg (t.cells (.slice p t.subs.length cap))) t from ⟨_,rfl,hs.later hb⟩))
 clear hs hE
 have HF:=Lib.hid (fun w9 (hb:Below w.heap.size w w9)=>few_any t 3000 (by omega) w9 B _ (HV.out w9 hb))
 have HT:=Lib.hid (heap_alloc_new w (.cells (t.cells (.slice p t.subs.length cap)) 37))
 have HW:=Lib.hid (show Below w.heap.size w (w.alloc (.cells (t.cells (.slice p t.subs.length cap)) 37)) from (Below.refl _ _).alloc (Nat.le_refl _) _)
 unfold Tr.cells at *
 go_enter Tryd.func9,Tryd.ntmps9
 go_upto_region 1 with (fail)
 generalize w.alloc _=w0 at *
 go_wp2_with fail
 refine (HLV.out w0 HW.out).mono ?_
 rintro e w1 ⟨rfl,hb1⟩
 have HB1:=Lib.hid (HW.out.trans (hb1.mono HW.out.size));have T1:=Lib.hid (keep_blk hb1 HT.out)
 clear hb1 HLV HW HT
 go_wp2_with (first
   | (refine wpList_load_row rfl 37 (.tmp 1) rfl w.heap.size rfl 37 _ (0,0) _ T1.out Tryd.underlying37 rfl (by kernel_rfl) ?_)
   | fail)
 refine (HF.out w1 HB1.out).mono ?_
 rintro e w2 ⟨rfl,hb2⟩
 have HB2:=Lib.hid (HB1.out.trans (hb2.mono HB1.out.size));have T2:=Lib.hid (keep_blk hb2 T1.out)
 clear hb2 HF HB1 T1
 by_cases hf:t.ndT ≤ 3000
 case neg =>
   rw [decide_eq_false hf]
   go_wp2
   go_ret
   exact ⟨rfl,HB2.out⟩
 rw [decide_eq_true hf]
 have hd:t.dpT ≤ 1000000:=by have:=Tr.dp_nd t;omega
 by_cases hc:t.checkC=0
 case neg =>
   have HX:=Lib.hid (fun w9 (hb:Below w.heap.size w w9)=>expand_no A t hd hc w9 (HE.out w9 hb).few.c B _ (HV.out w9 hb))
   have HKK:=Lib.hid (fun w9 (hb:Below w.heap.size w w9)=>treecheckC_any A t hd w9 (HE.out w9 hb).few.c B _ (HV.out w9 hb))
   have HNN:=Lib.hid (fun w9 (hb:Below w.heap.size w w9)=>sentV_num A t.checkC (Tr.checkC_lt t) w9 (HE.out w9 hb))
   obtain ⟨ty,ad,hn⟩:=(show ∃ ty a,sentV A t.checkC=.iface ty (.pointer (some a)) from ⟨_,_,if_neg hc⟩)
   rw [hn] at HX HKK HNN
   generalize t.checkC=c at *
   clear hc hn hf hd
   go_wp2_with (first
     | (refine wpList_load_row rfl 37 (.tmp 1) rfl w.heap.size rfl 37 _ (0,0) _ T2.out Tryd.underlying37 rfl (by kernel_rfl) ?_)
     | fail)
   refine (HX.out w2 HB2.out).mono ?_
   rintro e w3 ⟨rfl,hb3⟩
   have HB:=Lib.hid ((HB2.out.trans (hb3.mono HB2.out.size)).alloc (HB2.out.trans (hb3.mono HB2.out.size)).size (.cells noNode 37))
   have X0:=Lib.hid (heap_alloc_lt (o:=.cells noNode 37) (keep_blk hb3 T2.out))
   clear hb3 HX HB2 T2
   go_upto_region 7 with (fail)
   generalize w3.alloc _=w4 at *
   have HK:=Lib.hid (fun w9 (hb:Below w4.heap.size w4 w9)=>HKK.out w9 (HB.out.trans (hb.mono HB.out.size)))
   have HN:=Lib.hid (fun w9 (hb:Below w4.heap.size w4 w9)=>HNN.out w9 (HB.out.trans (hb.mono HB.out.size)))
   clear HKK HNN HE HV
   refine Ri.wp_region_frame (by kernel_rfl) (by kernel_rfl) (by kernel_rfl) (by kernel_rfl)
     (fun L v w'=>Below w4.heap.size w4 w'∧(L 0=true→v 0=.agg #[.int .i64 t.kind,.int .u64 (Oc.U t.w0),.int .u64 (Oc.U t.w1),.int .u64 (Oc.U t.w2),.int .u64 (Oc.U t.w3),.slice p t.subs.length cap,.int .i64 t.num,.int .i64 t.least,.int .i64 t.most,.bool t.bare])∧(L 1=true→v 1=.iface ty (.pointer (some ad)))∧(L 2=true→v 2=.bool true)∧(L 3=true→v 3=.bool true)∧(L 4=true→v 4=.iface ty (.pointer (some ad)))∧(L 5=true→v 5=.int .i64 (c:Int))∧(L 6=true→v 6=.agg #[.int .i64 t.kind,.int .u64 (Oc.U t.w0),.int .u64 (Oc.U t.w1),.int .u64 (Oc.U t.w2),.int .u64 (Oc.U t.w3),.slice p t.subs.length cap,.int .i64 t.num,.int .i64 t.least,.int .i64 t.most,.bool t.bare])∧(L 7=true→v 7=.iface ty (.pointer (some ad)))∧(L 8=true→v 8=.int .i64 (c:Int))∧(L 9=true→v 9=.bool true)∧(L 10=true→v 10=.bool true)∧(L 11=true→v 11=.bool true))
     ?_ ?_ ?_
   · exact ⟨(Below.refl _ _).drew,by simp,by simp,by simp,by simp,by simp,by simp,by simp,by simp,by simp,by simp,by simp,by simp⟩
   · intro i hi9 L v w9 xa hI hL hd hv ho
     have hi':i=0 ∨ i=1 ∨ i=2 ∨ i=3 ∨ i=4 ∨ i=5 ∨ i=6 ∨ i=7 ∨ i=8 ∨ i=9 ∨ i=10 ∨ i=11:=by simp at hi9;omega
     obtain ⟨hb,q0,q1,q2,q3,q4,q5,q6,q7,q8,q9,q10,q11⟩:=hI
     rcases hi' with rfl | rfl | rfl | rfl | rfl | rfl | rfl | rfl | rfl | rfl | rfl | rfl
     · have e1:xa.tmps.getD 1 undef=.pointer (some ⟨w.heap.size,0,none⟩):=ho 1 (by kernel_rfl)
       refine Ri.step_plain rfl rfl (fun K' hK=>?_)
       obtain ⟨d0,d1,d2,d3,d4,d5,d6,d7,d8,d9⟩:=allTen (keep_blk hb X0.out)
       go_simp
       exact hK _ _ ⟨_,_,rfl,rfl,hb,fun _=>rfl,q1,q2,q3,q4,q5,q6,q7,q8,q9,q10,q11⟩
     · have l0:L 0=true:=by have:=hd _ rfl;simp [Region.binds] at this;simp [this]
       have f0:=(hv 0 19 rfl l0).trans (q0 l0)
       refine Ri.step_plain rfl rfl (fun K' hK=>?_)
       go_simp
       refine (HK.out _ hb).mono ?_
       rintro e w8 ⟨rfl,hb8⟩
       exact hK _ _ ⟨_,_,rfl,rfl,hb.trans (hb8.mono hb.size),q0,fun _=>rfl,q2,q3,q4,q5,q6,q7,q8,q9,q10,q11⟩
     · have l0:L 1=true:=by have:=hd _ rfl;simp [Region.binds] at this;simp [this]
       have f1:=(hv 1 20 rfl l0).trans (q1 l0)
       refine Ri.step_plain rfl rfl (fun K' hK=>?_)
       go_simp
       exact hK _ _ ⟨_,_,rfl,rfl,hb,q0,q1,fun _=>rfl,q3,q4,q5,q6,q7,q8,q9,q10,q11⟩
     · have l0:L 2=true:=by have:=hd _ rfl;simp [Region.binds] at this;simp [this]
       have f2:=(hv 2 21 rfl l0).trans (q2 l0)
       refine Ri.step_plain rfl rfl (fun K' hK=>?_)
       go_simp
       exact hK _ _ ⟨_,_,rfl,rfl,hb,q0,q1,q2,fun _=>rfl,q4,q5,q6,q7,q8,q9,q10,q11⟩
     · have l0:L 3=true:=by have:=hd _ rfl;simp [Region.binds] at this;simp [this]
       have f3:=(hv 3 22 rfl l0).trans (q3 l0)
       have e4:xa.tmps.getD 4 undef=.iface ty (.pointer (some ad)):=ho 4 (by kernel_rfl)
       refine Ri.step_wanted (b:=true) rfl rfl rfl f3 (fun K' hK=>?_)
       go_simp
       exact hK _ _ ⟨_,_,rfl,rfl,hb,q0,q1,q2,q3,fun _=>rfl,q5,q6,q7,q8,q9,q10,q11⟩
     · have l0:L 3=true∧L 4=true:=by have:=hd _ rfl;simp [Region.binds] at this;simp [this]
       have f3:=(hv 3 22 rfl l0.1).trans (q3 l0.1)
       have f4:=(hv 4 23 rfl l0.2).trans (q4 l0.2)
       refine Ri.step_wanted (b:=true) rfl rfl rfl f3 (fun K' hK=>?_)
       go_simp
       refine (HN.out _ hb).mono ?_
       rintro e w8 ⟨rfl,hb8⟩
       exact hK _ _ ⟨_,_,rfl,rfl,hb.trans (hb8.mono hb.size),q0,q1,q2,q3,q4,fun _=>rfl,q6,q7,q8,q9,q10,q11⟩
     · have l0:L 3=true:=by have:=hd _ rfl;simp [Region.binds] at this;simp [this]
       have f3:=(hv 3 22 rfl l0).trans (q3 l0)
       have e1:xa.tmps.getD 1 undef=.pointer (some ⟨w.heap.size,0,none⟩):=ho 1 (by kernel_rfl)
       refine Ri.step_wanted (b:=true) rfl rfl rfl f3 (fun K' hK=>?_)
       obtain ⟨d0,d1,d2,d3,d4,d5,d6,d7,d8,d9⟩:=allTen (keep_blk hb X0.out)
       go_simp
       exact hK _ _ ⟨_,_,rfl,rfl,hb,q0,q1,q2,q3,q4,q5,fun _=>rfl,q7,q8,q9,q10,q11⟩
     · have l0:L 3=true∧L 6=true:=by have:=hd _ rfl;simp [Region.binds] at this;simp [this]
       have f3:=(hv 3 22 rfl l0.1).trans (q3 l0.1)
       have f6:=(hv 6 25 rfl l0.2).trans (q6 l0.2)
       refine Ri.step_wanted (b:=true) rfl rfl rfl f3 (fun K' hK=>?_)
       go_simp
       refine (HK.out _ hb).mono ?_
       rintro e w8 ⟨rfl,hb8⟩
       exact hK _ _ ⟨_,_,rfl,rfl,hb.trans (hb8.mono hb.size),q0,q1,q2,q3,q4,q5,q6,fun _=>rfl,q8,q9,q10,q11⟩
     · have l0:L 3=true∧L 7=true:=by have:=hd _ rfl;simp [Region.binds] at this;simp [this]
       have f3:=(hv 3 22 rfl l0.1).trans (q3 l0.1)
       have f7:=(hv 7 26 rfl l0.2).trans (q7 l0.2)
       refine Ri.step_wanted (b:=true) rfl rfl rfl f3 (fun K' hK=>?_)
       go_simp
       refine (HN.out _ hb).mono ?_
       rintro e w8 ⟨rfl,hb8⟩
       exact hK _ _ ⟨_,_,rfl,rfl,hb.trans (hb8.mono hb.size),q0,q1,q2,q3,q4,q5,q6,q7,fun _=>rfl,q9,q10,q11⟩
     · have l0:L 3=true∧L 5=true∧L 8=true:=by have:=hd _ rfl;simp [Region.binds] at this;simp [this]
       have f3:=(hv 3 22 rfl l0.1).trans (q3 l0.1)
       have f5:=(hv 5 24 rfl l0.2.1).trans (q5 l0.2.1)
       have f8:=(hv 8 27 rfl l0.2.2).trans (q8 l0.2.2)
       refine Ri.step_wanted (b:=true) rfl rfl rfl f3 (fun K' hK=>?_)
       go_simp
       exact hK _ _ ⟨_,_,rfl,rfl,hb,q0,q1,q2,q3,q4,q5,q6,q7,q8,fun _=>rfl,q10,q11⟩
     · have l0:L 3=true∧L 9=true:=by have:=hd _ rfl;simp [Region.binds] at this;simp [this]
       have f3:=(hv 3 22 rfl l0.1).trans (q3 l0.1)
       have f9:=(hv 9 28 rfl l0.2).trans (q9 l0.2)
       refine Ri.step_plain rfl rfl (fun K' hK=>?_)
       go_simp
       exact hK _ _ ⟨_,_,rfl,rfl,hb,q0,q1,q2,q3,q4,q5,q6,q7,q8,q9,fun _=>rfl,q11⟩
     · have l0:L 10=true:=by have:=hd _ rfl;simp [Region.binds] at this;simp [this]
       have f10:=(hv 10 29 rfl l0).trans (q10 l0)
       refine Ri.step_plain rfl rfl (fun K' hK=>?_)
       go_simp
       exact hK _ _ ⟨_,_,rfl,rfl,hb,q0,q1,q2,q3,q4,q5,q6,q7,q8,q9,q10,fun _=>rfl⟩
   · rintro v w9 ⟨hb,-,-,-,-,-,-,-,-,-,-,-,q11⟩
     have q11':v 11=.bool true:=q11 rfl
     simp only [Ri.frame,List.zipIdx,List.foldl_cons,List.foldl_nil,if_true,List.setIfInBounds_toArray,List.set_cons_zero,List.set_cons_succ,Nat.reduceAdd,q11']
     clear q11 q11'
     generalize v 0=y0;generalize v 1=y1;generalize v 2=y2;generalize v 3=y3;generalize v 4=y4;generalize v 5=y5;generalize v 6=y6;generalize v 7=y7;generalize v 8=y8;generalize v 9=y9;generalize v 10=y10
     have HB5:=Lib.hid (HB.out.trans (hb.mono HB.out.size))
     clear hb
     go_wp2
     go_ret
     exact ⟨rfl,HB5.out⟩
 case pos =>
   obtain ⟨hif,hd2,hz2⟩:=Tr.checkC_zero.1 hc
   have hcx:=Tr.check_ex hc
   have hxx:=Tr.ex_ex hif
   have hnx:=Tr.nd_ex t hif hz2
   have hdx:=Tr.dp_ex t hif
   have HX:=Lib.hid (fun w9 (hb:Below w.heap.size w w9)=>expand_yes A t hc w9 (HE.out w9 hb).few.c B _ (HV.out w9 hb))
   have HSZ0:=Lib.hid (fun w9 (hb:Below w.heap.size w w9)=>treeSize_any t hif w9 B _ (HV.out w9 hb))
   have HDT0:=Lib.hid (fun w9 (hb:Below w.heap.size w w9)=>treedepth_any t hd w9 B _ (HV.out w9 hb))
   obtain ⟨hif3,hd3,hz3⟩:=Tr.checkC_zero.1 hcx
   generalize t.exT=R at *
   generalize t.dpT=dt at *
   generalize hn9:t.szT=n at *
   clear hn9 hc hif
   unfold Tr.cells at HX
   go_wp2_with (first
     | (refine wpList_load_row rfl 37 (.tmp 1) rfl w.heap.size rfl 37 _ (0,0) _ T2.out Tryd.underlying37 rfl (by kernel_rfl) ?_)
     | fail)
   refine (HX.out w2 HB2.out).mono ?_
   rintro e w3 ⟨s3,F3,rfl,ho3,-,hb3⟩
   obtain ⟨p3,c3,rfl,-⟩:=ho3.slice
   have hba:Below w3.heap.size w3 (w3.alloc (.cells #[.int .i64 R.kind,.int .u64 (Oc.U R.w0),.int .u64 (Oc.U R.w1),.int .u64 (Oc.U R.w2),.int .u64 (Oc.U R.w3),.slice p3 R.subs.length c3,.int .i64 R.num,.int .i64 R.least,.int .i64 R.most,.bool R.bare] 37)):=(Below.refl _ _).alloc (Nat.le_refl _) _
   have HB:=Lib.hid ((HB2.out.trans (hb3.mono HB2.out.size)).alloc (HB2.out.trans (hb3.mono HB2.out.size)).size (.cells #[.int .i64 R.kind,.int .u64 (Oc.U R.w0),.int .u64 (Oc.U R.w1),.int .u64 (Oc.U R.w2),.int .u64 (Oc.U R.w3),.slice p3 R.subs.length c3,.int .i64 R.num,.int .i64 R.least,.int .i64 R.most,.bool R.bare] 37))
   have X0:=Lib.hid (heap_alloc_lt (o:=.cells #[.int .i64 R.kind,.int .u64 (Oc.U R.w0),.int .u64 (Oc.U R.w1),.int .u64 (Oc.U R.w2),.int .u64 (Oc.U R.w3),.slice p3 R.subs.length c3,.int .i64 R.num,.int .i64 R.least,.int .i64 R.most,.bool R.bare] 37) (keep_blk hb3 T2.out))
   have YX:=Lib.hid (heap_alloc_new w3 (.cells #[.int .i64 R.kind,.int .u64 (Oc.U R.w0),.int .u64 (Oc.U R.w1),.int .u64 (Oc.U R.w2),.int .u64 (Oc.U R.w3),.slice p3 R.subs.length c3,.int .i64 R.num,.int .i64 R.least,.int .i64 R.most,.bool R.bare] 37))
   have HO3:=Lib.hid (ho3.trees.later hba)
   clear ho3 hb3 hba HX HB2 T2
   go_upto_region 8 with (fail)
   generalize w3.alloc _=w4 at *
   have HVX:=Lib.hid (fun w9 (hb:Below w4.heap.size w4 w9)=>(show NodeV w9 (fun b=>b ∈ F3) (.agg (R.cells (.slice p3 R.subs.length c3))) R from ⟨_,rfl,HO3.out.later hb⟩))
   have HX:=Lib.hid (expand_yes A R hcx w4 (HE.out w4 HB.out).few.c _ _ (HVX.out w4 (Below.refl _ _)))
   rw [hxx] at HX
   unfold Tr.cells at HX
   go_wp2_with (first
     | (refine wpList_load_row rfl 37 (.tmp 3) rfl w3.heap.size rfl 37 _ (0,0) _ YX.out Tryd.underlying37 rfl (by kernel_rfl) ?_)
     | fail)
   refine HX.out.mono ?_
   rintro e w5 ⟨s5,F5,rfl,ho5,-,hb5⟩
   obtain ⟨p5,c5,rfl,-⟩:=ho5.slice
   have hba:Below w5.heap.size w5 (w5.alloc (.cells #[.int .i64 R.kind,.int .u64 (Oc.U R.w0),.int .u64 (Oc.U R.w1),.int .u64 (Oc.U R.w2),.int .u64 (Oc.U R.w3),.slice p5 R.subs.length c5,.int .i64 R.num,.int .i64 R.least,.int .i64 R.most,.bool R.bare] 37)):=(Below.refl _ _).alloc (Nat.le_refl _) _
   have hb6:Below w4.heap.size w4 (w5.alloc (.cells #[.int .i64 R.kind,.int .u64 (Oc.U R.w0),.int .u64 (Oc.U R.w1),.int .u64 (Oc.U R.w2),.int .u64 (Oc.U R.w3),.slice p5 R.subs.length c5,.int .i64 R.num,.int .i64 R.least,.int .i64 R.most,.bool R.bare] 37)):=hb5.alloc hb5.size _
   have HB6:=Lib.hid (HB.out.trans (hb6.mono HB.out.size))
   have X06:=Lib.hid (keep_blk hb6 X0.out);have YX6:=Lib.hid (keep_blk hb6 YX.out)
   have YY:=Lib.hid (heap_alloc_new w5 (.cells #[.int .i64 R.kind,.int .u64 (Oc.U R.w0),.int .u64 (Oc.U R.w1),.int .u64 (Oc.U R.w2),.int .u64 (Oc.U R.w3),.slice p5 R.subs.length c5,.int .i64 R.num,.int .i64 R.least,.int .i64 R.most,.bool R.bare] 37))
   have HO5:=Lib.hid (ho5.trees.later hba)
   have HH6:=Lib.hid hb6
   clear ho5 hb5 hba hb6 HX X0 YX HB
   go_upto_region 9 with (fail)
   generalize w5.alloc _=w6 at *
   have HB:=HB6;have X0:=X06;have YX:=YX6
   clear HB6 X06 YX6
   have HVX6:=Lib.hid (fun w9 (hb:Below w6.heap.size w6 w9)=>HVX.out w9 (HH6.out.trans (hb.mono HH6.out.size)))
   have HE6:=Lib.hid (fun w9 (hb:Below w6.heap.size w6 w9)=>(HE.out w9 (HB.out.trans (hb.mono HB.out.size))).few.c)
   have HK:=Lib.hid (fun w9 (hb:Below w6.heap.size w6 w9)=>treecheckC_any A R (by omega) w9 (HE6.out w9 hb) _ _ (HVX6.out w9 hb))
   rw [hcx,sentV_zero] at HK
   have HP:=Lib.hid (fun w9 (hb:Below w6.heap.size w6 w9)=>(explain_any A R (by omega) w9 (HE6.out w9 hb) _ _ (HVX6.out w9 hb)).mono (R':=fun e w'=>e=.returned (.bool true)∧Below w9.heap.size w9 w') (by
     rintro e w' ⟨b,rfl,hb9,h⟩
     rw [hb9.2 ⟨hcx,hxx⟩];exact ⟨rfl,h⟩))
   have HNO:=Lib.hid (fun w9 (hb:Below w6.heap.size w6 w9)=>refnodes_any R (by omega) w9 _ _ (HVX6.out w9 hb))
   rw [hnx] at HNO
   have HSZ:=Lib.hid (fun w9 (hb:Below w6.heap.size w6 w9)=>HSZ0.out w9 (HB.out.trans (hb.mono HB.out.size)))
   have HDT:=Lib.hid (fun w9 (hb:Below w6.heap.size w6 w9)=>HDT0.out w9 (HB.out.trans (hb.mono HB.out.size)))
   have HDX:=Lib.hid (fun w9 (hb:Below w6.heap.size w6 w9)=>treedepth_any R (by omega) w9 _ _ (HVX6.out w9 hb))
   generalize R.dpT=dx at *
   have hle:decide (dx ≤ dt)=true:=decide_eq_true (by omega)
   have HSM:=Lib.hid (fun w9 (hb:Below w6.heap.size w6 w9)=>(treesame_any R R w9 _ _ _ (.agg (R.cells (.slice p5 R.subs.length c5))) (HVX6.out w9 hb) ⟨_,rfl,HO5.out.later hb⟩).mono (fun e w' h=>h.yes rfl))
   unfold Tr.cells SizeEnd at *
   clear HVX HVX6 HE HE6 HV HSZ0 HDT0 HO3 HO5 hcx hxx hnx hif3 hd3 hz3 hd hd2 hz2 hf hdx
   refine Ri.wp_region_frame (by kernel_rfl) (by kernel_rfl) (by kernel_rfl) (by kernel_rfl)
     (fun L v w'=>Below w6.heap.size w6 w'∧(L 0=true→v 0=.agg #[.int .i64 R.kind,.int .u64 (Oc.U R.w0),.int .u64 (Oc.U R.w1),.int .u64 (Oc.U R.w2),.int .u64 (Oc.U R.w3),.slice p3 R.subs.length c3,.int .i64 R.num,.int .i64 R.least,.int .i64 R.most,.bool R.bare])∧(L 1=true→v 1=.nilIface)∧(L 2=true→v 2=.bool true)∧(L 3=true→v 3=.bool true)∧(L 4=true→v 4=.agg #[.int .i64 R.kind,.int .u64 (Oc.U R.w0),.int .u64 (Oc.U R.w1),.int .u64 (Oc.U R.w2),.int .u64 (Oc.U R.w3),.slice p3 R.subs.length c3,.int .i64 R.num,.int .i64 R.least,.int .i64 R.most,.bool R.bare])∧(L 5=true→v 5=.bool true)∧(L 6=true→v 6=.bool true)∧(L 7=true→v 7=.bool true)∧(L 8=true→v 8=.agg #[.int .i64 R.kind,.int .u64 (Oc.U R.w0),.int .u64 (Oc.U R.w1),.int .u64 (Oc.U R.w2),.int .u64 (Oc.U R.w3),.slice p3 R.subs.length c3,.int .i64 R.num,.int .i64 R.least,.int .i64 R.most,.bool R.bare])∧(L 9=true→v 9=.int .i64 (n:Int))∧(L 10=true→v 10=.agg #[.int .i64 t.kind,.int .u64 (Oc.U t.w0),.int .u64 (Oc.U t.w1),.int .u64 (Oc.U t.w2),.int .u64 (Oc.U t.w3),.slice p t.subs.length cap,.int .i64 t.num,.int .i64 t.least,.int .i64 t.most,.bool t.bare])∧(L 11=true→v 11=.int .i64 (n:Int))∧(L 12=true→v 12=.bool true)∧(L 13=true→v 13=.bool true)∧(L 14=true→v 14=.bool true)∧(L 15=true→v 15=.agg #[.int .i64 R.kind,.int .u64 (Oc.U R.w0),.int .u64 (Oc.U R.w1),.int .u64 (Oc.U R.w2),.int .u64 (Oc.U R.w3),.slice p3 R.subs.length c3,.int .i64 R.num,.int .i64 R.least,.int .i64 R.most,.bool R.bare])∧(L 16=true→v 16=.int .i64 (dx:Int))∧(L 17=true→v 17=.agg #[.int .i64 t.kind,.int .u64 (Oc.U t.w0),.int .u64 (Oc.U t.w1),.int .u64 (Oc.U t.w2),.int .u64 (Oc.U t.w3),.slice p t.subs.length cap,.int .i64 t.num,.int .i64 t.least,.int .i64 t.most,.bool t.bare])∧(L 18=true→v 18=.int .i64 (dt:Int))∧(L 19=true→v 19=.bool true)∧(L 20=true→v 20=.bool true)∧(L 21=true→v 21=.bool true)∧(L 22=true→v 22=.nilIface)∧(L 23=true→v 23=.bool true)∧(L 24=true→v 24=.bool true)∧(L 25=true→v 25=.bool true)∧(L 26=true→v 26=.agg #[.int .i64 R.kind,.int .u64 (Oc.U R.w0),.int .u64 (Oc.U R.w1),.int .u64 (Oc.U R.w2),.int .u64 (Oc.U R.w3),.slice p3 R.subs.length c3,.int .i64 R.num,.int .i64 R.least,.int .i64 R.most,.bool R.bare])∧(L 27=true→v 27=.agg #[.int .i64 R.kind,.int .u64 (Oc.U R.w0),.int .u64 (Oc.U R.w1),.int .u64 (Oc.U R.w2),.int .u64 (Oc.U R.w3),.slice p5 R.subs.length c5,.int .i64 R.num,.int .i64 R.least,.int .i64 R.most,.bool R.bare])∧(L 28=true→v 28=.bool true)∧(L 29=true→v 29=.bool true)∧(L 30=true→v 30=.bool true))
     ?_ ?_ ?_
   · exact ⟨(Below.refl _ _).drew,by simp,by simp,by simp,by simp,by simp,by simp,by simp,by simp,by simp,by simp,by simp,by simp,by simp,by simp,by simp,by simp,by simp,by simp,by simp,by simp,by simp,by simp,by simp,by simp,by simp,by simp,by simp,by simp,by simp,by simp,by simp⟩
   · intro i hi9 L v w9 xa hI hL hd hv ho
     have hi':i=0 ∨ i=1 ∨ i=2 ∨ i=3 ∨ i=4 ∨ i=5 ∨ i=6 ∨ i=7 ∨ i=8 ∨ i=9 ∨ i=10 ∨ i=11 ∨ i=12 ∨ i=13 ∨ i=14 ∨ i=15 ∨ i=16 ∨ i=17 ∨ i=18 ∨ i=19 ∨ i=20 ∨ i=21 ∨ i=22 ∨ i=23 ∨ i=24 ∨ i=25 ∨ i=26 ∨ i=27 ∨ i=28 ∨ i=29 ∨ i=30:=by simp at hi9;omega
     obtain ⟨hb,q0,q1,q2,q3,q4,q5,q6,q7,q8,q9,q10,q11,q12,q13,q14,q15,q16,q17,q18,q19,q20,q21,q22,q23,q24,q25,q26,q27,q28,q29,q30⟩:=hI
     rcases hi' with rfl | rfl | rfl | rfl | rfl | rfl | rfl | rfl | rfl | rfl | rfl | rfl | rfl | rfl | rfl | rfl | rfl | rfl | rfl | rfl | rfl | rfl | rfl | rfl | rfl | rfl | rfl | rfl | rfl | rfl | rfl
     · have e3:xa.tmps.getD 3 undef=.pointer (some ⟨w3.heap.size,0,none⟩):=ho 3 (by kernel_rfl)
       refine Ri.step_plain rfl rfl (fun K' hK=>?_)
       obtain ⟨d0,d1,d2,d3,d4,d5,d6,d7,d8,d9⟩:=allTen (keep_blk hb YX.out)
       go_simp
       exact hK _ _ ⟨_,_,rfl,rfl,hb,fun _=>rfl,q1,q2,q3,q4,q5,q6,q7,q8,q9,q10,q11,q12,q13,q14,q15,q16,q17,q18,q19,q20,q21,q22,q23,q24,q25,q26,q27,q28,q29,q30⟩
     · have l0:L 0=true:=by have:=hd _ rfl;simp [Region.binds] at this;simp [this]
       have f0:=(hv 0 35 rfl l0).trans (q0 l0)
       refine Ri.step_plain rfl rfl (fun K' hK=>?_)
       go_simp
       refine (HK.out _ hb).mono ?_
       rintro e w8 ⟨rfl,hb8⟩
       exact hK _ _ ⟨_,_,rfl,rfl,hb.trans (hb8.mono hb.size),q0,fun _=>rfl,q2,q3,q4,q5,q6,q7,q8,q9,q10,q11,q12,q13,q14,q15,q16,q17,q18,q19,q20,q21,q22,q23,q24,q25,q26,q27,q28,q29,q30⟩
     · have l0:L 1=true:=by have:=hd _ rfl;simp [Region.binds] at this;simp [this]
       have f1:=(hv 1 36 rfl l0).trans (q1 l0)
       refine Ri.step_plain rfl rfl (fun K' hK=>?_)
       go_simp
       exact hK _ _ ⟨_,_,rfl,rfl,hb,q0,q1,fun _=>rfl,q3,q4,q5,q6,q7,q8,q9,q10,q11,q12,q13,q14,q15,q16,q17,q18,q19,q20,q21,q22,q23,q24,q25,q26,q27,q28,q29,q30⟩
     · have l0:L 2=true:=by have:=hd _ rfl;simp [Region.binds] at this;simp [this]
       have f2:=(hv 2 37 rfl l0).trans (q2 l0)
       refine Ri.step_plain rfl rfl (fun K' hK=>?_)
       go_simp
       exact hK _ _ ⟨_,_,rfl,rfl,hb,q0,q1,q2,fun _=>rfl,q4,q5,q6,q7,q8,q9,q10,q11,q12,q13,q14,q15,q16,q17,q18,q19,q20,q21,q22,q23,q24,q25,q26,q27,q28,q29,q30⟩
     · have l0:L 3=true:=by have:=hd _ rfl;simp [Region.binds] at this;simp [this]
       have f3:=(hv 3 38 rfl l0).trans (q3 l0)
       have e3:xa.tmps.getD 3 undef=.pointer (some ⟨w3.heap.size,0,none⟩):=ho 3 (by kernel_rfl)
       refine Ri.step_wanted (b:=true) rfl rfl rfl f3 (fun K' hK=>?_)
       obtain ⟨d0,d1,d2,d3,d4,d5,d6,d7,d8,d9⟩:=allTen (keep_blk hb YX.out)
       go_simp
       exact hK _ _ ⟨_,_,rfl,rfl,hb,q0,q1,q2,q3,fun _=>rfl,q5,q6,q7,q8,q9,q10,q11,q12,q13,q14,q15,q16,q17,q18,q19,q20,q21,q22,q23,q24,q25,q26,q27,q28,q29,q30⟩
     · have l0:L 3=true∧L 4=true:=by have:=hd _ rfl;simp [Region.binds] at this;simp [this]
       have f3:=(hv 3 38 rfl l0.1).trans (q3 l0.1)
       have f4:=(hv 4 39 rfl l0.2).trans (q4 l0.2)
       refine Ri.step_wanted (b:=true) rfl rfl rfl f3 (fun K' hK=>?_)
       go_simp
       refine (HP.out _ hb).mono ?_
       rintro e w8 ⟨rfl,hb8⟩
       exact hK _ _ ⟨_,_,rfl,rfl,hb.trans (hb8.mono hb.size),q0,q1,q2,q3,q4,fun _=>rfl,q6,q7,q8,q9,q10,q11,q12,q13,q14,q15,q16,q17,q18,q19,q20,q21,q22,q23,q24,q25,q26,q27,q28,q29,q30⟩
     · have l0:L 3=true∧L 5=true:=by have:=hd _ rfl;simp [Region.binds] at this;simp [this]
       have f3:=(hv 3 38 rfl l0.1).trans (q3 l0.1)
       have f5:=(hv 5 40 rfl l0.2).trans (q5 l0.2)
       refine Ri.step_plain rfl rfl (fun K' hK=>?_)
       go_simp
       exact hK _ _ ⟨_,_,rfl,rfl,hb,q0,q1,q2,q3,q4,q5,fun _=>rfl,q7,q8,q9,q10,q11,q12,q13,q14,q15,q16,q17,q18,q19,q20,q21,q22,q23,q24,q25,q26,q27,q28,q29,q30⟩
     · have l0:L 6=true:=by have:=hd _ rfl;simp [Region.binds] at this;simp [this]
       have f6:=(hv 6 41 rfl l0).trans (q6 l0)
       refine Ri.step_plain rfl rfl (fun K' hK=>?_)
       go_simp
       exact hK _ _ ⟨_,_,rfl,rfl,hb,q0,q1,q2,q3,q4,q5,q6,fun _=>rfl,q8,q9,q10,q11,q12,q13,q14,q15,q16,q17,q18,q19,q20,q21,q22,q23,q24,q25,q26,q27,q28,q29,q30⟩
     · have l0:L 7=true:=by have:=hd _ rfl;simp [Region.binds] at this;simp [this]
       have f7:=(hv 7 42 rfl l0).trans (q7 l0)
       have e3:xa.tmps.getD 3 undef=.pointer (some ⟨w3.heap.size,0,none⟩):=ho 3 (by kernel_rfl)
       refine Ri.step_wanted (b:=true) rfl rfl rfl f7 (fun K' hK=>?_)
       obtain ⟨d0,d1,d2,d3,d4,d5,d6,d7,d8,d9⟩:=allTen (keep_blk hb YX.out)
       go_simp
       exact hK _ _ ⟨_,_,rfl,rfl,hb,q0,q1,q2,q3,q4,q5,q6,q7,fun _=>rfl,q9,q10,q11,q12,q13,q14,q15,q16,q17,q18,q19,q20,q21,q22,q23,q24,q25,q26,q27,q28,q29,q30⟩
     · have l0:L 7=true∧L 8=true:=by have:=hd _ rfl;simp [Region.binds] at this;simp [this]
       have f7:=(hv 7 42 rfl l0.1).trans (q7 l0.1)
       have f8:=(hv 8 43 rfl l0.2).trans (q8 l0.2)
       refine Ri.step_wanted (b:=true) rfl rfl rfl f7 (fun K' hK=>?_)
       go_simp
       refine (HNO.out _ hb).mono ?_
       rintro e w8 ⟨rfl,hb8⟩
       exact hK _ _ ⟨_,_,rfl,rfl,hb.trans (hb8.mono hb.size),q0,q1,q2,q3,q4,q5,q6,q7,q8,fun _=>rfl,q10,q11,q12,q13,q14,q15,q16,q17,q18,q19,q20,q21,q22,q23,q24,q25,q26,q27,q28,q29,q30⟩
     · have l0:L 7=true:=by have:=hd _ rfl;simp [Region.binds] at this;simp [this]
       have f7:=(hv 7 42 rfl l0).trans (q7 l0)
       have e1:xa.tmps.getD 1 undef=.pointer (some ⟨w.heap.size,0,none⟩):=ho 1 (by kernel_rfl)
       refine Ri.step_wanted (b:=true) rfl rfl rfl f7 (fun K' hK=>?_)
       obtain ⟨d0,d1,d2,d3,d4,d5,d6,d7,d8,d9⟩:=allTen (keep_blk hb X0.out)
       go_simp
       exact hK _ _ ⟨_,_,rfl,rfl,hb,q0,q1,q2,q3,q4,q5,q6,q7,q8,q9,fun _=>rfl,q11,q12,q13,q14,q15,q16,q17,q18,q19,q20,q21,q22,q23,q24,q25,q26,q27,q28,q29,q30⟩
     · have l0:L 7=true∧L 10=true:=by have:=hd _ rfl;simp [Region.binds] at this;simp [this]
       have f7:=(hv 7 42 rfl l0.1).trans (q7 l0.1)
       have f10:=(hv 10 45 rfl l0.2).trans (q10 l0.2)
       refine Ri.step_wanted (b:=true) rfl rfl rfl f7 (fun K' hK=>?_)
       go_simp
       refine (HSZ.out _ hb).mono ?_
       rintro e w8 ⟨rfl,hb8⟩
       exact hK _ _ ⟨_,_,rfl,rfl,hb.trans (hb8.mono hb.size),q0,q1,q2,q3,q4,q5,q6,q7,q8,q9,q10,fun _=>rfl,q12,q13,q14,q15,q16,q17,q18,q19,q20,q21,q22,q23,q24,q25,q26,q27,q28,q29,q30⟩
     · have l0:L 7=true∧L 9=true∧L 11=true:=by have:=hd _ rfl;simp [Region.binds] at this;simp [this]
       have f7:=(hv 7 42 rfl l0.1).trans (q7 l0.1)
       have f9:=(hv 9 44 rfl l0.2.1).trans (q9 l0.2.1)
       have f11:=(hv 11 46 rfl l0.2.2).trans (q11 l0.2.2)
       refine Ri.step_wanted (b:=true) rfl rfl rfl f7 (fun K' hK=>?_)
       go_simp
       exact hK _ _ ⟨_,_,rfl,rfl,hb,q0,q1,q2,q3,q4,q5,q6,q7,q8,q9,q10,q11,fun _=>rfl,q13,q14,q15,q16,q17,q18,q19,q20,q21,q22,q23,q24,q25,q26,q27,q28,q29,q30⟩
     · have l0:L 7=true∧L 12=true:=by have:=hd _ rfl;simp [Region.binds] at this;simp [this]
       have f7:=(hv 7 42 rfl l0.1).trans (q7 l0.1)
       have f12:=(hv 12 47 rfl l0.2).trans (q12 l0.2)
       refine Ri.step_plain rfl rfl (fun K' hK=>?_)
       go_simp
       exact hK _ _ ⟨_,_,rfl,rfl,hb,q0,q1,q2,q3,q4,q5,q6,q7,q8,q9,q10,q11,q12,fun _=>rfl,q14,q15,q16,q17,q18,q19,q20,q21,q22,q23,q24,q25,q26,q27,q28,q29,q30⟩
     · have l0:L 13=true:=by have:=hd _ rfl;simp [Region.binds] at this;simp [this]
       have f13:=(hv 13 48 rfl l0).trans (q13 l0)
       refine Ri.step_plain rfl rfl (fun K' hK=>?_)
       go_simp
       exact hK _ _ ⟨_,_,rfl,rfl,hb,q0,q1,q2,q3,q4,q5,q6,q7,q8,q9,q10,q11,q12,q13,fun _=>rfl,q15,q16,q17,q18,q19,q20,q21,q22,q23,q24,q25,q26,q27,q28,q29,q30⟩
     · have l0:L 14=true:=by have:=hd _ rfl;simp [Region.binds] at this;simp [this]
       have f14:=(hv 14 49 rfl l0).trans (q14 l0)
       have e3:xa.tmps.getD 3 undef=.pointer (some ⟨w3.heap.size,0,none⟩):=ho 3 (by kernel_rfl)
       refine Ri.step_wanted (b:=true) rfl rfl rfl f14 (fun K' hK=>?_)
       obtain ⟨d0,d1,d2,d3,d4,d5,d6,d7,d8,d9⟩:=allTen (keep_blk hb YX.out)
       go_simp
       exact hK _ _ ⟨_,_,rfl,rfl,hb,q0,q1,q2,q3,q4,q5,q6,q7,q8,q9,q10,q11,q12,q13,q14,fun _=>rfl,q16,q17,q18,q19,q20,q21,q22,q23,q24,q25,q26,q27,q28,q29,q30⟩
     · have l0:L 14=true∧L 15=true:=by have:=hd _ rfl;simp [Region.binds] at this;simp [this]
       have f14:=(hv 14 49 rfl l0.1).trans (q14 l0.1)
       have f15:=(hv 15 50 rfl l0.2).trans (q15 l0.2)
       refine Ri.step_wanted (b:=true) rfl rfl rfl f14 (fun K' hK=>?_)
       go_simp
       refine (HDX.out _ hb).mono ?_
       rintro e w8 ⟨rfl,hb8⟩
       exact hK _ _ ⟨_,_,rfl,rfl,hb.trans (hb8.mono hb.size),q0,q1,q2,q3,q4,q5,q6,q7,q8,q9,q10,q11,q12,q13,q14,q15,fun _=>rfl,q17,q18,q19,q20,q21,q22,q23,q24,q25,q26,q27,q28,q29,q30⟩
     · have l0:L 14=true:=by have:=hd _ rfl;simp [Region.binds] at this;simp [this]
       have f14:=(hv 14 49 rfl l0).trans (q14 l0)
       have e1:xa.tmps.getD 1 undef=.pointer (some ⟨w.heap.size,0,none⟩):=ho 1 (by kernel_rfl)
       refine Ri.step_wanted (b:=true) rfl rfl rfl f14 (fun K' hK=>?_)
       obtain ⟨d0,d1,d2,d3,d4,d5,d6,d7,d8,d9⟩:=allTen (keep_blk hb X0.out)
       go_simp
       exact hK _ _ ⟨_,_,rfl,rfl,hb,q0,q1,q2,q3,q4,q5,q6,q7,q8,q9,q10,q11,q12,q13,q14,q15,q16,fun _=>rfl,q18,q19,q20,q21,q22,q23,q24,q25,q26,q27,q28,q29,q30⟩
     · have l0:L 14=true∧L 17=true:=by have:=hd _ rfl;simp [Region.binds] at this;simp [this]
       have f14:=(hv 14 49 rfl l0.1).trans (q14 l0.1)
       have f17:=(hv 17 52 rfl l0.2).trans (q17 l0.2)
       refine Ri.step_wanted (b:=true) rfl rfl rfl f14 (fun K' hK=>?_)
       go_simp
       refine (HDT.out _ hb).mono ?_
       rintro e w8 ⟨rfl,hb8⟩
       exact hK _ _ ⟨_,_,rfl,rfl,hb.trans (hb8.mono hb.size),q0,q1,q2,q3,q4,q5,q6,q7,q8,q9,q10,q11,q12,q13,q14,q15,q16,q17,fun _=>rfl,q19,q20,q21,q22,q23,q24,q25,q26,q27,q28,q29,q30⟩
     · have l0:L 14=true∧L 16=true∧L 18=true:=by have:=hd _ rfl;simp [Region.binds] at this;simp [this]
       have f14:=(hv 14 49 rfl l0.1).trans (q14 l0.1)
       have f16:=(hv 16 51 rfl l0.2.1).trans (q16 l0.2.1)
       have f18:=(hv 18 53 rfl l0.2.2).trans (q18 l0.2.2)
       refine Ri.step_wanted (b:=true) rfl rfl rfl f14 (fun K' hK=>?_)
       go_simp
       exact hK _ _ ⟨_,_,rfl,rfl,hb,q0,q1,q2,q3,q4,q5,q6,q7,q8,q9,q10,q11,q12,q13,q14,q15,q16,q17,q18,fun _=>rfl,q20,q21,q22,q23,q24,q25,q26,q27,q28,q29,q30⟩
     · have l0:L 14=true∧L 19=true:=by have:=hd _ rfl;simp [Region.binds] at this;simp [this]
       have f14:=(hv 14 49 rfl l0.1).trans (q14 l0.1)
       have f19:=(hv 19 54 rfl l0.2).trans (q19 l0.2)
       refine Ri.step_plain rfl rfl (fun K' hK=>?_)
       go_simp
       exact hK _ _ ⟨_,_,rfl,rfl,hb,q0,q1,q2,q3,q4,q5,q6,q7,q8,q9,q10,q11,q12,q13,q14,q15,q16,q17,q18,q19,fun _=>rfl,q21,q22,q23,q24,q25,q26,q27,q28,q29,q30⟩
     · have l0:L 20=true:=by have:=hd _ rfl;simp [Region.binds] at this;simp [this]
       have f20:=(hv 20 55 rfl l0).trans (q20 l0)
       refine Ri.step_plain rfl rfl (fun K' hK=>?_)
       go_simp
       exact hK _ _ ⟨_,_,rfl,rfl,hb,q0,q1,q2,q3,q4,q5,q6,q7,q8,q9,q10,q11,q12,q13,q14,q15,q16,q17,q18,q19,q20,fun _=>rfl,q22,q23,q24,q25,q26,q27,q28,q29,q30⟩
     · have l0:L 21=true:=by have:=hd _ rfl;simp [Region.binds] at this;simp [this]
       have f21:=(hv 21 56 rfl l0).trans (q21 l0)
       have e6:xa.tmps.getD 6 undef=.nilIface:=ho 6 (by kernel_rfl)
       refine Ri.step_wanted (b:=true) rfl rfl rfl f21 (fun K' hK=>?_)
       go_simp
       exact hK _ _ ⟨_,_,rfl,rfl,hb,q0,q1,q2,q3,q4,q5,q6,q7,q8,q9,q10,q11,q12,q13,q14,q15,q16,q17,q18,q19,q20,q21,fun _=>rfl,q23,q24,q25,q26,q27,q28,q29,q30⟩
     · have l0:L 21=true∧L 22=true:=by have:=hd _ rfl;simp [Region.binds] at this;simp [this]
       have f21:=(hv 21 56 rfl l0.1).trans (q21 l0.1)
       have f22:=(hv 22 57 rfl l0.2).trans (q22 l0.2)
       refine Ri.step_wanted (b:=true) rfl rfl rfl f21 (fun K' hK=>?_)
       go_simp
       exact hK _ _ ⟨_,_,rfl,rfl,hb,q0,q1,q2,q3,q4,q5,q6,q7,q8,q9,q10,q11,q12,q13,q14,q15,q16,q17,q18,q19,q20,q21,q22,fun _=>rfl,q24,q25,q26,q27,q28,q29,q30⟩
     · have l0:L 21=true∧L 23=true:=by have:=hd _ rfl;simp [Region.binds] at this;simp [this]
       have f21:=(hv 21 56 rfl l0.1).trans (q21 l0.1)
       have f23:=(hv 23 58 rfl l0.2).trans (q23 l0.2)
       refine Ri.step_plain rfl rfl (fun K' hK=>?_)
       go_simp
       exact hK _ _ ⟨_,_,rfl,rfl,hb,q0,q1,q2,q3,q4,q5,q6,q7,q8,q9,q10,q11,q12,q13,q14,q15,q16,q17,q18,q19,q20,q21,q22,q23,fun _=>rfl,q25,q26,q27,q28,q29,q30⟩
     · have l0:L 24=true:=by have:=hd _ rfl;simp [Region.binds] at this;simp [this]
       have f24:=(hv 24 59 rfl l0).trans (q24 l0)
       refine Ri.step_plain rfl rfl (fun K' hK=>?_)
       go_simp
       exact hK _ _ ⟨_,_,rfl,rfl,hb,q0,q1,q2,q3,q4,q5,q6,q7,q8,q9,q10,q11,q12,q13,q14,q15,q16,q17,q18,q19,q20,q21,q22,q23,q24,fun _=>rfl,q26,q27,q28,q29,q30⟩
     · have l0:L 25=true:=by have:=hd _ rfl;simp [Region.binds] at this;simp [this]
       have f25:=(hv 25 60 rfl l0).trans (q25 l0)
       have e3:xa.tmps.getD 3 undef=.pointer (some ⟨w3.heap.size,0,none⟩):=ho 3 (by kernel_rfl)
       refine Ri.step_wanted (b:=true) rfl rfl rfl f25 (fun K' hK=>?_)
       obtain ⟨d0,d1,d2,d3,d4,d5,d6,d7,d8,d9⟩:=allTen (keep_blk hb YX.out)
       go_simp
       exact hK _ _ ⟨_,_,rfl,rfl,hb,q0,q1,q2,q3,q4,q5,q6,q7,q8,q9,q10,q11,q12,q13,q14,q15,q16,q17,q18,q19,q20,q21,q22,q23,q24,q25,fun _=>rfl,q27,q28,q29,q30⟩
     · have l0:L 25=true:=by have:=hd _ rfl;simp [Region.binds] at this;simp [this]
       have f25:=(hv 25 60 rfl l0).trans (q25 l0)
       have e5:xa.tmps.getD 5 undef=.pointer (some ⟨w5.heap.size,0,none⟩):=ho 5 (by kernel_rfl)
       refine Ri.step_wanted (b:=true) rfl rfl rfl f25 (fun K' hK=>?_)
       obtain ⟨d0,d1,d2,d3,d4,d5,d6,d7,d8,d9⟩:=allTen (keep_blk hb YY.out)
       go_simp
       exact hK _ _ ⟨_,_,rfl,rfl,hb,q0,q1,q2,q3,q4,q5,q6,q7,q8,q9,q10,q11,q12,q13,q14,q15,q16,q17,q18,q19,q20,q21,q22,q23,q24,q25,q26,fun _=>rfl,q28,q29,q30⟩
     · have l0:L 25=true∧L 26=true∧L 27=true:=by have:=hd _ rfl;simp [Region.binds] at this;simp [this]
       have f25:=(hv 25 60 rfl l0.1).trans (q25 l0.1)
       have f26:=(hv 26 61 rfl l0.2.1).trans (q26 l0.2.1)
       have f27:=(hv 27 62 rfl l0.2.2).trans (q27 l0.2.2)
       refine Ri.step_wanted (b:=true) rfl rfl rfl f25 (fun K' hK=>?_)
       go_simp
       refine (HSM.out _ hb).mono ?_
       rintro e w8 ⟨rfl,hb8⟩
       exact hK _ _ ⟨_,_,rfl,rfl,hb.trans (hb8.mono hb.size),q0,q1,q2,q3,q4,q5,q6,q7,q8,q9,q10,q11,q12,q13,q14,q15,q16,q17,q18,q19,q20,q21,q22,q23,q24,q25,q26,q27,fun _=>rfl,q29,q30⟩
     · have l0:L 25=true∧L 28=true:=by have:=hd _ rfl;simp [Region.binds] at this;simp [this]
       have f25:=(hv 25 60 rfl l0.1).trans (q25 l0.1)
       have f28:=(hv 28 63 rfl l0.2).trans (q28 l0.2)
       refine Ri.step_plain rfl rfl (fun K' hK=>?_)
       go_simp
       exact hK _ _ ⟨_,_,rfl,rfl,hb,q0,q1,q2,q3,q4,q5,q6,q7,q8,q9,q10,q11,q12,q13,q14,q15,q16,q17,q18,q19,q20,q21,q22,q23,q24,q25,q26,q27,q28,fun _=>rfl,q30⟩
     · have l0:L 29=true:=by have:=hd _ rfl;simp [Region.binds] at this;simp [this]
       have f29:=(hv 29 64 rfl l0).trans (q29 l0)
       refine Ri.step_plain rfl rfl (fun K' hK=>?_)
       go_simp
       exact hK _ _ ⟨_,_,rfl,rfl,hb,q0,q1,q2,q3,q4,q5,q6,q7,q8,q9,q10,q11,q12,q13,q14,q15,q16,q17,q18,q19,q20,q21,q22,q23,q24,q25,q26,q27,q28,q29,fun _=>rfl⟩
   · rintro v w9 ⟨hb,-,-,-,-,-,-,-,-,-,-,-,-,-,-,-,-,-,-,-,-,-,-,-,-,-,-,-,-,-,-,q30⟩
     have q30':v 30=.bool true:=q30 rfl
     simp only [Ri.frame,List.zipIdx,List.foldl_cons,List.foldl_nil,if_true,List.setIfInBounds_toArray,List.set_cons_zero,List.set_cons_succ,Nat.reduceAdd,q30']
     clear q30 q30'
     generalize v 0=y0;generalize v 1=y1;generalize v 2=y2;generalize v 3=y3;generalize v 4=y4;generalize v 5=y5;generalize v 6=y6;generalize v 7=y7;generalize v 8=y8;generalize v 9=y9;generalize v 10=y10;generalize v 11=y11;generalize v 12=y12;generalize v 13=y13;generalize v 14=y14;generalize v 15=y15;generalize v 16=y16;generalize v 17=y17;generalize v 18=y18;generalize v 19=y19;generalize v 20=y20;generalize v 21=y21;generalize v 22=y22;generalize v 23=y23;generalize v 24=y24;generalize v 25=y25;generalize v 26=y26;generalize v 27=y27;generalize v 28=y28;generalize v 29=y29
     have HB7:=Lib.hid (HB.out.trans (hb.mono HB.out.size))
     clear hb
     go_wp2
     go_ret
     exact ⟨rfl,HB7.out⟩
end Go.Proofs.YtogdjbnejpennaaDoor
namespace Go.Proofs.YtogdjbnejpennaaDoor
open Go.ChangeShapes Go.WideShapes Go.ChangeAt Go.RowKit
theorem Tryd.cellsSet:Tryd.prog.cellsOf 24=4:=by kernel_rfl
theorem Tryd.cellsU64:Tryd.prog.cellsOf 22=1:=by kernel_rfl
theorem word_of {n:Int} (h:(Lit.int .u64 n).wf=true):∃ x:BitVec 64,n=Oc.U x:=by
 simp only [Lit.wf,IntKind.min,IntKind.max,IntKind.signed,IntKind.bits,Bool.and_eq_true] at h
 refine ⟨BitVec.ofInt 64 n, ?_⟩
 unfold Oc.U;rw [BitVec.toNat_ofInt]
 have h1:=h.1;have h2:=h.2
 simp at h1 h2
 omega
theorem open_words {H:Type} {enc:TypeId × Value→H} {w:World} {base:Nat} {spare:Nat→Bool} {held:Bool} {fuel:Nat} {c0 c1 c2 c3:Value} {x:DataW H × List MemPlace}
   (h:DataW.trod enc Tryd.prog w base spare held fuel 24 [c0,c1,c2,c3]=some x):∃ a b c d:BitVec 64,c0=.int .u64 (Oc.U a)∧c1=.int .u64 (Oc.U b)∧c2=.int .u64 (Oc.U c)∧c3=.int .u64 (Oc.U d):=by
 obtain ⟨y0,y1,y2,y3,n,_,h0,h1,h2,h3⟩:=trod_array4 Tryd.underlying24 Tryd.cellsU64 h
 obtain ⟨n0,e0,-,w0⟩:=DataW.trod_int Tryd.underlying22 h0
 obtain ⟨n1,e1,-,w1⟩:=DataW.trod_int Tryd.underlying22 h1
 obtain ⟨n2,e2,-,w2⟩:=DataW.trod_int Tryd.underlying22 h2
 obtain ⟨n3,e3,-,w3⟩:=DataW.trod_int Tryd.underlying22 h3
 obtain ⟨a,rfl⟩:=word_of w0
 obtain ⟨b,rfl⟩:=word_of w1
 obtain ⟨c,rfl⟩:=word_of w2
 obtain ⟨d,rfl⟩:=word_of w3
 simp only [List.cons.injEq,and_true] at e0 e1 e2 e3
 exact ⟨a,b,c,d,e0,e1,e2,e3⟩
theorem Tryd.own:ownKnob Tryd.prog.godebug=none:=by kernel_rfl
theorem Tryd.laidOut:laidOutB Tryd.prog=true:=by kernel_rfl
end Go.Proofs.YtogdjbnejpennaaDoor
namespace Go.Proofs.YtogdjbnejpennaaDoor
open Go.ChangeShapes Go.WideShapes Go.ChangeAt Go.RowKit
theorem Tryd.cellsNodeO:Tryd.prog.cellsOf 37=10:=by kernel_rfl
theorem Tryd.cellsIntO:Tryd.prog.cellsOf 3=1:=by kernel_rfl
theorem Tryd.cellsBoolO:Tryd.prog.cellsOf 4=1:=by kernel_rfl
theorem Tryd.cellsNodesO:Tryd.prog.cellsOf 35=1:=by kernel_rfl
theorem Tryd.bytesNodeO:Tryd.prog.bytesOf 37=96:=by kernel_rfl
theorem list10 {α:Type} {l:List α} (h:l.length=10):∃ a0 a1 a2 a3 a4 a5 a6 a7 a8 a9,l=[a0,a1,a2,a3,a4,a5,a6,a7,a8,a9]:=by
 match l,h with
 | [a0,a1,a2,a3,a4,a5,a6,a7,a8,a9],_=>exact ⟨a0,a1,a2,a3,a4,a5,a6,a7,a8,a9,rfl⟩
theorem list7 {α:Type} {l:List α} (h:l.length=7):∃ a0 a1 a2 a3 a4 a5 a6,l=[a0,a1,a2,a3,a4,a5,a6]:=by
 match l,h with
 | [a0,a1,a2,a3,a4,a5,a6],_=>exact ⟨a0,a1,a2,a3,a4,a5,a6,rfl⟩
theorem weightsAll_mem {H:Type} {P:Program} {e:TypeId} {k:Nat} {d:DataW H} : ∀ {l:List (DataW H)},d ∈ l→k ∈ d.weights P e→k ∈ DataW.weightsAll P e l
 | [],h,_=>by cases h
 | x :: l,h,hk=>by
   rw [DataW.weightsAll]
   rcases List.mem_cons.1 h with rfl | h
   · exact List.mem_append_left _ hk
   · exact List.mem_append_right _ (weightsAll_mem h hk)
theorem add_at {a:Addr} (h:a.spot=none) (m:Nat):a.add m=⟨a.block,a.off+m,none⟩:=by
 unfold Addr.add
 split
 · rename_i h0;subst h0;cases a;simp_all
 · rfl
theorem open_node {H:Type} {enc:TypeId × Value→H} {W:World} {base:Nat} {spare:Nat→Bool} {held:Bool} : ∀ (fuel:Nat) (cs:List Value) (x:DataW H × List MemPlace),
   DataW.trod enc Tryd.prog W base spare held fuel 37 cs=some x→(∀ k,k ∈ x.1.weights Tryd.prog 37→k ≤ 140737488351232) →
   ∃ (t:Tr) (s:Value),cs=(t.cells s).toList∧TreesAt W (fun _=>True) s t.subs:=by
 intro fuel
 induction fuel using Nat.strongRecOn with
 | _ fuel ih =>
   intro cs x h hw
   obtain ⟨xs,n,rfl,rfl,hlen,hxs,hf⟩:=DataW.trod_struct Tryd.underlying37 h
   rw [Tryd.cellsNodeO] at hlen
   obtain ⟨c0,c1,c2,c3,c4,c5,c6,c7,c8,c9,rfl⟩:=list10 hlen
   obtain ⟨y0,y1,y2,y3,y4,y5,y6,rfl⟩:=list7 (by simpa using hxs)
   have f0:=hf 0 _ rfl;have f1:=hf 1 _ rfl;have f2:=hf 2 _ rfl;have f3:=hf 3 _ rfl;have f4:=hf 4 _ rfl;have f5:=hf 5 _ rfl;have f6:=hf 6 _ rfl
   simp only [List.getElem_toArray,List.getElem_cons_zero,List.getElem_cons_succ,Tryd.cellsIntO,Tryd.cellsBoolO,Tryd.cellsNodesO,Tryd.cellsSet,List.drop_zero,List.drop_succ_cons,List.take_succ_cons,List.take_zero,List.getElem?_cons_zero,List.getElem?_cons_succ] at f0 f1 f2 f3 f4 f5 f6
   obtain ⟨k,e0,-,-⟩:=DataW.trod_int Tryd.underlying3 f0
   obtain ⟨a,b,c,d,rfl,rfl,rfl,rfl⟩:=open_words f1
   obtain ⟨nn,e3,-,-⟩:=DataW.trod_int Tryd.underlying3 f3
   obtain ⟨lo,e4,-,-⟩:=DataW.trod_int Tryd.underlying3 f4
   obtain ⟨hi,e5,-,-⟩:=DataW.trod_int Tryd.underlying3 f5
   obtain ⟨br,e6,-⟩:=DataW.trod_bool Tryd.underlying4 f6
   simp only [List.cons.injEq,and_true] at e0 e3 e4 e5 e6
   subst e0 e3 e4 e5 e6
   have fin:∀ (ts:List Tr),TreesAt W (fun _=>True) c5 ts→∃ (t:Tr) (s:Value),[.int .i64 k,.int .u64 (Oc.U a),.int .u64 (Oc.U b),.int .u64 (Oc.U c),.int .u64 (Oc.U d),c5,.int .i64 nn,.int .i64 lo,.int .i64 hi,.bool br]=(t.cells s).toList∧TreesAt W (fun _=>True) s t.subs :=
     fun ts hts=>⟨.node k a b c d ts nn lo hi br,c5,rfl,hts⟩
   rcases DataW.trod_slice Tryd.underlying35 f2 with ⟨hc5,-⟩ | ⟨ad,len,cap,elems,rest,n',rfl,hc5,hx,-,-,-,hel,hall,-,-⟩
   · simp only [List.cons.injEq,and_true] at hc5
     subst hc5
     exact fin [] TreesAt.nil
   · simp only [List.cons.injEq,and_true] at hc5
     subst hc5
     rw [Tryd.cellsNodeO] at hall
     have hwn:∀ k,k ∈ y2.1.weights Tryd.prog 35→k ≤ 140737488351232:=fun k hk=>hw k (by
       rw [DataW.weights,Tryd.underlying37]
       exact DataW.weights_mem_each (j:=2) rfl rfl k hk)
     have hlen96:len * 96 ≤ 140737488351232:=by
       have:=hwn ((elems.length+rest.length) * 96) (by
         rw [hx]
         simp only [DataW.weights,Tryd.underlying35,Tryd.bytesNodeO,List.length_map]
         exact List.mem_cons_self)
       rw [hel] at this
       have h2:len * 96 ≤ (len+rest.length) * 96:=Nat.mul_le_mul_right _ (by omega)
       omega
     have key:∀ i,∃ (t:Tr) (s:Value),i < len→(∃ b o,some ad=some ⟨b,o,none⟩∧TenAt W b (o+i * 10) t s)∧TreesAt W (fun _=>True) s t.subs:=by
       intro i
       by_cases hi:i < len
       · have h1:=hall i hi
         rw [List.getElem?_eq_getElem (by omega)] at h1
         obtain ⟨csi,hcs,htr⟩:=Option.bind_eq_some_iff.1 h1
         obtain ⟨t,s,hts,hsub⟩:=ih n' (by omega) csi _ htr (fun k hk=>hwn k (by
           rw [hx]
           simp only [DataW.weights,Tryd.underlying35]
           refine List.mem_cons_of_mem _ (List.mem_append_left _ (weightsAll_mem (d:=elems[i].1) ?_ hk))
           exact List.mem_map.2 ⟨elems[i],List.getElem_mem _,rfl⟩))
         obtain ⟨-,-,hcell⟩:=World.cells?_some hcs
         have hspot:ad.spot=none:=by
           have h0:=hall 0 (by omega)
           rw [List.getElem?_eq_getElem (by omega)] at h0
           obtain ⟨cs0,hcs0,htr0⟩:=Option.bind_eq_some_iff.1 h0
           obtain ⟨t0,s0,hts0,-⟩:=ih n' (by omega) cs0 _ htr0 (fun k hk=>hwn k (by
             rw [hx]
             simp only [DataW.weights,Tryd.underlying35]
             refine List.mem_cons_of_mem _ (List.mem_append_left _ (weightsAll_mem (d:=elems[0].1) ?_ hk))
             exact List.mem_map.2 ⟨elems[0],List.getElem_mem _,rfl⟩))
           have h2:=(World.cells?_some hcs0).2.2 0 (by omega)
           rw [hts0] at h2
           have e:(ad.add (0 * 10)).add 0=ad:=by simp [Addr.add]
           rw [e] at h2
           cases hsp:ad.spot with
           | none=>rfl
           | some z =>
             unfold World.cell? at h2
             rw [hsp] at h2
             split at h2 <;> simp [Tr.cells] at h2
         have hadd:∀ j,(ad.add (i * 10)).add j=⟨ad.block,ad.off+i * 10+j,none⟩:=fun j=>by
           rw [add_at hspot,add_at (a:=⟨ad.block,ad.off+i * 10,none⟩) rfl]
         refine ⟨t,s,fun _=>⟨⟨ad.block,ad.off,by cases ad;simp_all, ?_⟩,hsub⟩⟩
         rw [hts] at hcell
         have get:∀ j u,j < 10→(t.cells s).toList[j]? = some u→W.cell? ⟨ad.block,ad.off+i * 10+j,none⟩=some u:=fun j u hj hu=>by
           rw [← hadd j,hcell j hj,hu]
         exact ⟨get 0 _ (by omega) rfl,get 1 _ (by omega) rfl,get 2 _ (by omega) rfl,get 3 _ (by omega) rfl,get 4 _ (by omega) rfl,get 5 _ (by omega) rfl,get 6 _ (by omega) rfl,get 7 _ (by omega) rfl,get 8 _ (by omega) rfl,get 9 _ (by omega) rfl⟩
       · exact ⟨.node 0 0#64 0#64 0#64 0#64 [] 0 0 0 false,.nilIface,fun h=>absurd h hi⟩
     obtain ⟨T,hT⟩:=Classical.axiomOfChoice key
     obtain ⟨S,hS⟩:=Classical.axiomOfChoice hT
     have hl:((List.range len).map T).length=len:=by simp
     have hg:∀ i t,((List.range len).map T)[i]? = some t→i < len∧t=T i:=fun i t h=>by
       rw [List.getElem?_map] at h
       by_cases hi:i < len
       · rw [List.getElem?_range hi] at h
         exact ⟨hi,(Option.some.inj h).symm⟩
       · rw [List.getElem?_eq_none (by simp;omega)] at h;cases h
     have:=TreesAt.mk (w:=W) (B:=fun _=>True) (some ad) cap ((List.range len).map T) S (by rw [hl];exact hlen96) (fun i t h=>by
       obtain ⟨hi,rfl⟩:=hg i t h
       obtain ⟨⟨b,o,e,ht⟩,-⟩:=hS i hi
       exact ⟨b,o,e,trivial,ht⟩) (fun i t h=>by
       obtain ⟨hi,rfl⟩:=hg i t h
       exact (hS i hi).2)
     rw [hl] at this
     exact fin _ this
theorem open_tree {H:Type} {enc:TypeId × Value→H} {w:World} {base b0:Nat} {spare:Nat→Bool} {held:Bool} {v:Value} {y:DataW H} {ps:List MemPlace} {r:Reach}
   (hv:Value.okWide Tryd.prog w r b0 37 v) (h:DataW.Trod enc Tryd.prog w base spare held 37 v y ps) (hw:∀ k,k ∈ y.weights Tryd.prog 37→k ≤ 140737488351232):∃ t,NodeV w (fun _=>True) v t:=by
 unfold Value.okWide at hv
 rw [Tryd.underlying37] at hv
 obtain ⟨cs,rfl,hsz,-⟩:=hv
 obtain ⟨fuel,hf⟩:=h
 obtain ⟨t,s,e,hs⟩:=open_node fuel _ _ hf hw
 refine ⟨t,s, ?_,hs⟩
 simp only [Value.cells] at e
 exact congrArg Value.agg (Array.toList_inj.1 e)
end Go.Proofs.YtogdjbnejpennaaDoor
namespace Go.Proofs.YtogdjbnejpennaaDoor
open Go.ChangeShapes Go.WideShapes Go.ChangeAt Go.RowKit
theorem im_laid_split {P:Program} {l:List (String × DataW Unit)} {W:World} (h:laidMetH P l W):laidMet P (l.filter fun x=>x.2.handleName?.isNone) W:=by
 unfold laidMetH at h
 generalize hfl:(l.filter fun x=>x.2.handleName?.isSome)=fl at h
 cases fl with
 | nil =>
   have e:(l.filter fun x=>x.2.handleName?.isNone)=l:=by
     rw [List.filter_eq_self]
     intro x hx
     have:=List.filter_eq_nil_iff.1 hfl x hx
     cases hh:x.2.handleName? with
     | none=>rfl
     | some y=>rw [hh] at this;simp at this
   rw [e]
   exact h
 | cons x r=>exact h.1
theorem im_errList_plain:∀ x,x ∈ errList→x.2.handleName?.isNone=true:=by
 have h:(errList.all fun x=>x.2.handleName?.isNone)=true:=by kernel_rfl
 intro x hx
 exact List.all_eq_true.1 h x hx
theorem im_env_of {l:List (String × DataW Unit)} {W:World} (h:laidMetH Tryd.prog l W) (hl:∀ x,x ∈ errList→x ∈ l):∃ A,Errs W A :=
 errs_of (im_laid_split h) fun x hx=>List.mem_filter.2 ⟨hl x hx,im_errList_plain x hx⟩
end Go.Proofs.YtogdjbnejpennaaDoor
namespace Go.Proofs.YtogdjbnejpennaaDoor
open Go.RowKit
def Tr.setN (t:Tr) (n:Int):Tr:=.node t.kind t.w0 t.w1 t.w2 t.w3 t.subs n t.least t.most t.bare
theorem cell_out {w:World} {b j:Nat} {v:Value} {i:Nat} (h:i ≠ j):(w.setCell ⟨b,j,none⟩ v).cell? ⟨b,i,none⟩=w.cell? ⟨b,i,none⟩ :=
 World.cell?_setCells_out b [v] j w ⟨b,i,none⟩ (fun _ _=>by simp;omega)
theorem TenAt.setN {w:World} {b o:Nat} {t:Tr} {s:Value} (h:TenAt w b o t s) (hf:∃ cs ty,w.heap[b]? = some (.cells cs ty (0,0))) (n:Int):TenAt (w.setCell ⟨b,o+6,none⟩ (.int .i64 n)) b o (t.setN n) s:=by
 have hth:w.there b (o+6) 1:=fun j hj=>by
   obtain rfl:j=0:=by omega
   exact ⟨by simpa using congrArg Option.isSome h.c6,frozen_of hf⟩
 have hs:(w.setCell ⟨b,o+6,none⟩ (.int .i64 n)).cell? ⟨b,o+6,none⟩=some (.int .i64 n):=World.rangeAt_setCells_same w b (o+6) [.int .i64 n] (by simpa using hth) 0 _ rfl
 exact ⟨(cell_out (by omega)).trans h.c0,(cell_out (by omega)).trans h.c1,(cell_out (by omega)).trans h.c2,(cell_out (by omega)).trans h.c3,(cell_out (by omega)).trans h.c4,(cell_out (by omega)).trans h.c5,hs,(cell_out (by omega)).trans h.c7,(cell_out (by omega)).trans h.c8,(cell_out (by omega)).trans h.c9⟩
end Go.Proofs.YtogdjbnejpennaaDoor
namespace Go.Proofs.YtogdjbnejpennaaDoor
open Go.RowKit
namespace Tr
mutual
def nuT:Tr→Nat→Tr
 | .node kd a b c d s _ lo hi br,k=>.node kd a b c d (nuL s k) k lo hi br
def nuL:List Tr→Nat→List Tr
 | [],_=>[]
 | t :: l,k=>nuT t (k+1) :: nuL l (k+ndT t)
end
theorem nuT_eq (t:Tr) (k:Nat):t.nuT k=.node t.kind t.w0 t.w1 t.w2 t.w3 (nuL t.subs k) k t.least t.most t.bare:=by cases t;rw [nuT];rfl
theorem nuT_subs (t:Tr) (k:Nat):(t.nuT k).subs=nuL t.subs k:=by rw [nuT_eq];rfl
theorem nuT_num (t:Tr) (k:Nat):(t.nuT k).num=k:=by rw [nuT_eq];rfl
theorem nuL_length:∀ (l:List Tr) (k:Nat),(nuL l k).length=l.length
 | [],_=>by rw [nuL]
 | t :: l,k=>by rw [nuL,List.length_cons,nuL_length l,List.length_cons]
theorem nuL_get:∀ (l:List Tr) (k i:Nat) (t:Tr),l[i]? = some t→(nuL l k)[i]? = some (t.nuT (k+ndS (l.take i)+1))
 | [],_,i,t,h=>by simp at h
 | u :: l,k,0,t,h=>by
   simp only [List.getElem?_cons_zero,Option.some.injEq] at h
   subst h
   rw [nuL];simp [ndS]
 | u :: l,k,i+1,t,h=>by
   rw [nuL,List.getElem?_cons_succ,nuL_get l _ i t (by simpa using h),List.take_succ_cons,ndS]
   congr 2;omega
theorem nuL_of {l:List Tr} {k i:Nat} {v:Tr} (h:(nuL l k)[i]? = some v):∃ t,l[i]? = some t∧v=t.nuT (k+ndS (l.take i)+1):=by
 have hi:i < l.length:=by rw [← nuL_length l k];exact lt_of_some h
 refine ⟨l[i],List.getElem?_eq_getElem hi, ?_⟩
 rw [nuL_get l k i _ (List.getElem?_eq_getElem hi)] at h
 exact (Option.some.inj h).symm
end Tr
def CntAt (w:World) (b k:Nat):Prop:=w.heap[b]? = some (.cells #[.int .i64 (k:Int)] 3)
theorem CntAt.cell {w:World} {b k:Nat} (h:CntAt w b k):w.cell? ⟨b,0,none⟩=some (.int .i64 (k:Int))∧w.frozen? ⟨b,0,none⟩=false:=by
 unfold CntAt at h
 constructor
 · unfold World.cell?;rw [h];rfl
 · unfold World.frozen?;rw [h];simp
theorem CntAt.set {w:World} {b k:Nat} (h:CntAt w b k) (n:Nat):CntAt (w.setCell ⟨b,0,none⟩ (.int .i64 (n:Int))) b n:=by
 unfold CntAt at *
 simp [World.setCell,Array.getElem?_modify,h]
theorem CntAt.lt {w:World} {b k:Nat} (h:CntAt w b k):b < w.heap.size:=(Array.getElem?_eq_some_iff.1 h).1
def Half (k m:Nat) (ts:List Tr) (g o:Nat) (S:Nat→Value) (L:Nat→List Nat) (w:World):Prop :=
 ∀ j u,ts[j]? = some u→TenAt w g (o+j * 10) (if j < m then u.nuT (k+Tr.ndS (ts.take j)+1) else u) (S j)∧Owned w (S j) (if j < m then u.nuT (k+Tr.ndS (ts.take j)+1) else u).subs (L j)
theorem Half.start {k:Nat} {ts:List Tr} {g o:Nat} {S:Nat→Value} {L:Nat→List Nat} {w:World} (hc:∀ j u,ts[j]? = some u→TenAt w g (o+j * 10) u (S j)) (hs:∀ j u,ts[j]? = some u→Owned w (S j) u.subs (L j)):Half k 0 ts g o S L w :=
 fun j u hj=>by
   simp only [Nat.not_lt_zero,if_false]
   exact ⟨hc j u hj,hs j u hj⟩
theorem Half.keep {k m:Nat} {ts:List Tr} {g o:Nat} {S:Nat→Value} {L:Nat→List Nat} {w w':World} (h:Half k m ts g o S L w) (hg:w'.heap[g]? = w.heap[g]?) (hL:∀ j b,j < ts.length→b ∈ L j→w'.heap[b]? = w.heap[b]?):Half k m ts g o S L w' :=
 fun j u hj=>⟨(h j u hj).1.keep hg,(h j u hj).2.keep fun b hb=>hL j b (lt_of_some hj) hb⟩
theorem TenAt.nu {w:World} {b o:Nat} {t:Tr} {s:Value} {k:Nat} (h:TenAt w b o (t.setN k) s):TenAt w b o (t.nuT k) s:=by
 rw [Tr.nuT_eq]
 exact ⟨h.c0,h.c1,h.c2,h.c3,h.c4,h.c5,h.c6,h.c7,h.c8,h.c9⟩
theorem TenAt.later_cell {w w':World} {b o:Nat} {t:Tr} {s:Value} (h:TenAt w b o t s) (hc:∀ i,i < 10→w'.cell? ⟨b,o+i,none⟩=w.cell? ⟨b,o+i,none⟩):TenAt w' b o t s :=
 ⟨(hc 0 (by omega)).trans h.c0,(hc 1 (by omega)).trans h.c1,(hc 2 (by omega)).trans h.c2,(hc 3 (by omega)).trans h.c3,(hc 4 (by omega)).trans h.c4,(hc 5 (by omega)).trans h.c5,(hc 6 (by omega)).trans h.c6,(hc 7 (by omega)).trans h.c7,(hc 8 (by omega)).trans h.c8,(hc 9 (by omega)).trans h.c9⟩
theorem Half.step {k m:Nat} {ts:List Tr} {g o:Nat} {S:Nat→Value} {L:Nat→List Nat} {w w2:World} {x:Tr} (h:Half k m ts g o S L w) (hx:ts[m]? = some x) (hrow:∃ cs ty,w.heap[g]? = some (.cells cs ty (0,0)))
   (ho:Owned w2 (S m) (Tr.nuL x.subs (k+Tr.ndS (ts.take m)+1)) (L m)) (hg2:w2.heap[g]? = (w.setCell ⟨g,o+m * 10+6,none⟩ (.int .i64 ((k+Tr.ndS (ts.take m)+1:Nat):Int))).heap[g]?)
   (hL:∀ j b,j < ts.length→j ≠ m→b ∈ L j→w2.heap[b]? = w.heap[b]?):Half k (m+1) ts g o S L w2:=fun j u hj=>by
 by_cases e:j=m
 · subst e
   rw [hx] at hj
   obtain rfl:=Option.some.inj hj
   rw [if_pos (by omega)]
   have h0:=(h j x hx).1
   rw [if_neg (by omega)] at h0
   exact ⟨((h0.setN hrow _).keep hg2).nu,by rw [Tr.nuT_subs];exact ho⟩
 · obtain ⟨q1,q2⟩:=h j u hj
   have hif:(if j < m+1 then u.nuT (k+Tr.ndS (ts.take j)+1) else u)=(if j < m then u.nuT (k+Tr.ndS (ts.take j)+1) else u):=by
     by_cases h:j < m
     · rw [if_pos h,if_pos (by omega)]
     · rw [if_neg h,if_neg (by omega)]
   rw [hif]
   refine ⟨q1.later_cell fun i hi=>?_,q2.keep fun b hb=>hL j b (lt_of_some hj) e hb⟩
   have:w2.cell? ⟨g,o+j * 10+i,none⟩=(w.setCell ⟨g,o+m * 10+6,none⟩ (.int .i64 ((k+Tr.ndS (ts.take m)+1:Nat):Int))).cell? ⟨g,o+j * 10+i,none⟩:=by unfold World.cell?;rw [hg2]
   rw [this,cell_out (by omega)]
theorem Half.done {k:Nat} {ts:List Tr} {g o cap:Nat} {S:Nat→Value} {L:Nat→List Nat} {w:World} (h:Half k ts.length ts g o S L w) (hlen:ts.length * 96 ≤ 140737488351232) (hf:∃ cs ty,w.heap[g]? = some (.cells cs ty (0,0)))
   (hg:∀ i,i < ts.length→g ∉ L i) (hd:∀ i j b,i < ts.length→j < ts.length→i ≠ j→b ∈ L i→b ∉ L j):Owned w (.slice (some ⟨g,o,none⟩) ts.length cap) (Tr.nuL ts k) (g :: (List.range ts.length).flatMap L):=by
 have:Owned w (.slice (some ⟨g,o,none⟩) (Tr.nuL ts k).length cap) (Tr.nuL ts k) (g :: (List.range (Tr.nuL ts k).length).flatMap L) :=
   .row g o cap (Tr.nuL ts k) S L (by rw [Tr.nuL_length];exact hlen) hf (fun i t hi=>by
     obtain ⟨u,hu,rfl⟩:=Tr.nuL_of hi
     have:=(h i u hu).1
     rw [if_pos (lt_of_some hu)] at this;exact this) (fun i t hi=>by
     obtain ⟨u,hu,rfl⟩:=Tr.nuL_of hi
     have:=(h i u hu).2
     rw [if_pos (lt_of_some hu)] at this;exact this) (fun i hi=>hg i (by rwa [Tr.nuL_length] at hi)) (fun i j b hi hj=>hd i j b (by rwa [Tr.nuL_length] at hi) (by rwa [Tr.nuL_length] at hj))
 rw [Tr.nuL_length] at this
 exact this
end Go.Proofs.YtogdjbnejpennaaDoor
namespace Go.Proofs.YtogdjbnejpennaaDoor
open Go.RowKit
namespace Ri
variable {P:Program} {ops:Array Oper} {Q:Exit→Act→World→Prop}
def Fa (K:Nat→World→Value→Prop) (W:World) (L:Nat→Bool) (v:Nat→Value) (w:World):Prop:=Below W.heap.size W w∧∀ k,L k=true→K k w (v k)
theorem Fa.step {K:Nat→World→Value→Prop} (hK:∀ k w v w',K k w v→Below w.heap.size w w'→K k w' v) {W:World} {L:Nat→Bool} {v:Nat→Value} {w w':World} {i:Nat} {u:Value} (h:Fa K W L v w) (hb:Below w.heap.size w w') (hu:K i w' u):Fa K W (up L i true) (up v i u) w':=by
 refine ⟨h.1.trans (hb.mono h.1.size),fun k hk=>?_⟩
 by_cases e:k=i
 · subst e;rw [up_same];exact hu
 · rw [up_other _ _ _ _ e] at hk ⊢
   exact hK k w _ w' (h.2 k hk) hb
end Ri
end Go.Proofs.YtogdjbnejpennaaDoor
namespace Go.Proofs.YtogdjbnejpennaaDoor
open Go.RowKit
namespace Ri
variable {P:Program} {ops:Array Oper} {Q:Exit→Act→World→Prop}
def deps (ops:Array Oper) (i:Nat):List Nat:=match ops[i]? with
 | some o=>o.after.toList.filterMap fun e=>if Region.binds .any e then some e.on else none
 | none=>[]
def reach (ops:Array Oper):Nat→List Nat→List Nat
 | 0,l=>l
 | n+1,l=>l ++ reach ops n (l.flatMap (deps ops))
def waitsT (ops:Array Oper) (last:Nat):Bool:=(List.range last).all fun k=>(reach ops last (deps ops last)).contains k
def Closed (ops:Array Oper) (L:Nat→Bool):Prop:=∀ k,L k=true→∀ j,j ∈ deps ops k→L j=true
theorem Closed.deps {L:Nat→Bool} {i:Nat} (hd:∀ o,ops[i]? = some o→∀ e ∈ o.after,Region.binds .any e=true→L e.on=true) {j:Nat} (hj:j ∈ Ri.deps ops i):L j=true:=by
 unfold Ri.deps at hj
 cases ho:ops[i]? with
 | none=>rw [ho] at hj;cases hj
 | some o =>
   rw [ho] at hj
   obtain ⟨e,he,h2⟩:=List.mem_filterMap.1 hj
   split at h2
   · rename_i hb
     injection h2 with h2
     rw [← h2]
     exact hd o ho e (Array.mem_toList_iff.1 he) hb
   · cases h2
theorem Closed.step {L:Nat→Bool} (h:Closed ops L) {i:Nat} (hd:∀ o,ops[i]? = some o→∀ e ∈ o.after,Region.binds .any e=true→L e.on=true):Closed ops (up L i true):=by
 intro k hk j hj
 have hj2:L j=true:=by
   by_cases e:k=i
   · subst e;exact Closed.deps hd hj
   · rw [up_other _ _ _ _ e] at hk;exact h k hk j hj
 by_cases e:j=i
 · subst e;rw [up_same]
 · rw [up_other _ _ _ _ e];exact hj2
theorem Closed.reach {L:Nat→Bool} (h:Closed ops L) {n:Nat} {l:List Nat} (hl:∀ j,j ∈ l→L j=true) {k:Nat} (hk:k ∈ Ri.reach ops n l):L k=true:=by
 induction n generalizing l with
 | zero=>rw [Ri.reach] at hk;exact hl k hk
 | succ n ih =>
   rw [Ri.reach,List.mem_append] at hk
   rcases hk with hk | hk
   · exact hl k hk
   · refine ih (fun j hj=>?_) hk
     obtain ⟨a,ha,hja⟩:=List.mem_flatMap.1 hj
     exact h a (hl a ha) j hja
theorem wp_region_late {id:Nat} {a:Act} {w:World} (hm:P.follows .mixedOrders=true) (hb:backward ops=true) (hap:apart ops=true) (hsz0:(ops.toList.all fun o=>o.dst.all fun d=>decide (d < a.tmps.size))=true)
   (last:Nat) (hn:ops.size=last+1) (hw:waitsT ops last=true) (K:Nat→World→Value→Prop) (Fin:(Nat→Value)→World→Prop)
   (hK:∀ k w v w',K k w v→Below w.heap.size w w'→K k w' v)
   (step:∀ i,i < last→∀ L v w' (a':Act),Fa K w L v w'→L i=false→(∀ o,ops[i]? = some o→∀ e ∈ o.after,Region.binds .any e=true→L e.on=true) →
     (∀ j d:Nat,(ops[j]?).bind (·.dst)=some d→L j=true→a'.tmps.getD d undef=v j)→(∀ d,ops.toList.all (fun o=>o.dst != some d)=true→a'.tmps.getD d undef=a.tmps.getD d undef) →
     wpOp P ops Q i (fun b w''=>∃ (o:Oper) (u:Value),ops[i]? = some o∧b=a'.put o.dst u∧Below w'.heap.size w' w''∧K i w'' u) a' w')
   (put:∀ L v w' (a':Act),Fa K w L v w'→(∀ k,k < last→L k=true) →
     (∀ j d:Nat,(ops[j]?).bind (·.dst)=some d→L j=true→a'.tmps.getD d undef=v j)→(∀ d,ops.toList.all (fun o=>o.dst != some d)=true→a'.tmps.getD d undef=a.tmps.getD d undef) →
     wpOp P ops Q last (fun b w''=>∃ (o:Oper) (u:Value),ops[last]? = some o∧b=a'.put o.dst u∧Fin (up v last u) w'') a' w')
   (fin:∀ v w',Fin v w'→Q .normal (frame ops a (fun _=>true) v) w'):(Code.region id ops true).wp P Q a w:=by
 refine wp_region_frame hm hb hap hsz0 (fun L v w'=>(L last=false→Fa K w L v w')∧(L last=true→Fin v w'∧∀ k,k < last→L k=true)∧Closed ops L) ⟨fun _=>⟨(Below.refl _ _).drew,fun k h=>by cases h⟩,(fun h=>by cases h),fun k h=>by cases h⟩ ?_ ?_
 · intro i hi L v w' a' hI hL hd hv ho
   rw [hn] at hi
   by_cases e:i=last
   · subst e
     have hall:∀ k,k < i→L k=true:=fun k hk=>by
       unfold waitsT at hw
       have h1:=List.all_eq_true.1 hw k (List.mem_range.2 hk)
       rw [List.contains_eq_mem,decide_eq_true_eq] at h1
       exact hI.2.2.reach (fun j hj=>Closed.deps hd hj) h1
     refine wpOp_mono ?_ (put L v w' a' (hI.1 hL) hall hv ho)
     rintro b w'' ⟨o,u,h1,h2,h3⟩
     refine ⟨o,u,h1,h2,fun h=>(by rw [up_same] at h;cases h),(fun _=>⟨h3,fun k hk=>?_⟩),hI.2.2.step hd⟩
     rw [up_other _ _ _ _ (by omega)];exact hall k hk
   · have hl:L last=false:=by
       cases h:L last with
       | false=>rfl
       | true=>have:=(hI.2.1 h).2 i (by omega);rw [hL] at this;cases this
     refine wpOp_mono ?_ (step i (by omega) L v w' a' (hI.1 hl) hL hd hv ho)
     rintro b w'' ⟨o,u,h1,h2,h3,h4⟩
     refine ⟨o,u,h1,h2,(fun _=>(hI.1 hl).step hK h3 h4),(fun h=>?_),hI.2.2.step hd⟩
     rw [up_other _ _ _ _ (Ne.symm e),hl] at h
     cases h
 · intro v w' hI
   exact fin v w' (hI.2.1 (by rw [hn];simp)).1
end Ri
end Go.Proofs.YtogdjbnejpennaaDoor
namespace Go.Proofs.YtogdjbnejpennaaDoor
open Go.RowKit
def MarkEnd (bn k:Nat) (ts:List Tr) (s:Value) (F:List Nat) (w:World) (e:Ending) (w':World):Prop :=
 e=.returned (.tuple #[])∧Touch (bn :: F) w w'∧Owned w' s (Tr.nuL ts k) F∧CntAt w' bn (k+Tr.ndS ts)
theorem mark_any:∀ t t0:Tr,t0.subs=t.subs→∀ (w:World) (s:Value) (F:List Nat) (bn k:Nat),Owned w s t.subs F→bn ∉ F→CntAt w bn k→k+Tr.ndS t.subs ≤ 4000000 →
   Calls Tryd.prog 92 #[.agg (t0.cells s),.pointer (some ⟨bn,0,none⟩)] w (MarkEnd bn k t.subs s F w):=by
 intro t
 induction t using Tr.rec_subs with
 | h t ih =>
   intro t0 ht0 w s F bn k ho hbF hcn hk
   have hbn:=hcn.lt
   generalize hts:t.subs=ts at *
   clear hts ht0
   cases ho with
   | nil p cap =>
     have HC:=Lib.hid (show CntAt (w.alloc (.cells (t0.cells (.slice p 0 cap)) 37)) bn k from keep_blk ((Below.refl _ _).alloc (Nat.le_refl _) _) hcn)
     have Z0:=Lib.hid (heap_alloc_new w (.cells (t0.cells (.slice p 0 cap)) 37))
     have HB:=Lib.hid (show Below w.heap.size w (w.alloc (.cells (t0.cells (.slice p 0 cap)) 37)) from (Below.refl _ _).alloc (Nat.le_refl _) _)
     clear ih hcn hk
     unfold Tr.cells at *
     go_enter Tryd.func92,Tryd.ntmps92
     go_upto_region 1 with (fail)
     generalize w.alloc _=W0 at *
     obtain ⟨q5,-⟩:=at5 Z0.out
     go_wp2
     go_loopw [8] (fun iv wr=>iv=.int .i64 0∧wr=W0) (fun _ _=>0)
     case atStart=>exact ⟨rfl,rfl⟩
     case round =>
       obtain ⟨rfl,rfl⟩:=hrel
       go_wp2
       go_end0
       refine ⟨rfl,Touch.of_below _ HB.out, ?_, ?_⟩
       · rw [Tr.nuL];exact .nil p cap
       · rw [Tr.ndS];exact HC.out
   | row g o cap _ S L hlen hf hc hs2 hgL hd =>
     have hgb:bn ≠ g:=fun e=>hbF (e ▸ List.mem_cons_self)
     have hbL:∀ i,i < ts.length→bn ∉ L i:=fun i hi hm=>hbF (List.mem_cons_of_mem _ (mem_range_flatMap.2 ⟨i,hi,hm⟩))
     have hb0:Below w.heap.size w (w.alloc (.cells (t0.cells (.slice (some ⟨g,o,none⟩) ts.length cap)) 37)):=(Below.refl _ _).alloc (Nat.le_refl _) _
     have hfl:∃ cs ty,(w.alloc (.cells (t0.cells (.slice (some ⟨g,o,none⟩) ts.length cap)) 37)).heap[g]? = some (.cells cs ty (0,0)):=by
       obtain ⟨cs,ty,h⟩:=hf;exact ⟨cs,ty,keep_blk hb0 h⟩
     have hgs:g < w.heap.size:=by obtain ⟨cs,ty,h⟩:=hf;exact (Array.getElem?_eq_some_iff.1 h).1
     have hLs:∀ i b,i < ts.length→b ∈ L i→b < w.heap.size:=fun i b hi hb=>(hs2 i ts[i] (List.getElem?_eq_getElem hi)).lt b hb
     have HC0:=Lib.hid (show CntAt (w.alloc (.cells (t0.cells (.slice (some ⟨g,o,none⟩) ts.length cap)) 37)) bn k from keep_blk hb0 hcn)
     have HH0:=Lib.hid ((Half.start (k:=k) hc hs2).keep (w':=w.alloc (.cells (t0.cells (.slice (some ⟨g,o,none⟩) ts.length cap)) 37)) (hb0.block g hgs) (fun j b hj hb=>hb0.block b (hLs j b hj hb)))
     have Z0:=Lib.hid (heap_alloc_new w (.cells (t0.cells (.slice (some ⟨g,o,none⟩) ts.length cap)) 37))
     have HT0:=Lib.hid (Touch.of_below (bn :: (g :: (List.range ts.length).flatMap L)) hb0)
     have hsz0:(w.alloc (.cells (t0.cells (.slice (some ⟨g,o,none⟩) ts.length cap)) 37)).heap.size=w.heap.size+1:=by simp
     have IH:=Lib.hid ih;have HG0:=Lib.hid hfl;have HGL:=Lib.hid hgL;have HD:=Lib.hid hd;have HBL:=Lib.hid hbL;have HLS:=Lib.hid hLs
     have HMF:=Lib.hid (show ∀ i b,i < ts.length→b ∈ L i→b ∈ bn :: (g :: (List.range ts.length).flatMap L) from fun i b hi hb=>List.mem_cons_of_mem _ (List.mem_cons_of_mem _ (mem_range_flatMap.2 ⟨i,hi,hb⟩)))
     have HSL:=Lib.hid (show ∀ i u,ts[i]? = some u→∃ p c,S i=.slice p u.subs.length c from fun i u hi=>by obtain ⟨p,c,e,-⟩:=(hs2 i u hi).slice;exact ⟨p,c,e⟩)
     have HMM:=Lib.hid (show bn ∈ bn :: (g :: (List.range ts.length).flatMap L)∧g ∈ bn :: (g :: (List.range ts.length).flatMap L) from ⟨List.mem_cons_self,List.mem_cons_of_mem _ List.mem_cons_self⟩)
     generalize hFF:bn :: (g :: (List.range ts.length).flatMap L)=FF at *
     have HFF:=Lib.hid hFF
     clear ih hcn hf hc hs2 hgL hd hbF hb0 hfl hbL hLs hFF
     unfold Tr.cells at Z0 HC0 HH0 HT0 hsz0 HG0 ⊢
     go_enter Tryd.func92,Tryd.ntmps92
     go_upto_region 1 with (fail)
     generalize w.alloc _=W0 at *
     obtain ⟨q5,-⟩:=at5 Z0.out
     go_wp2
     clear q5
     go_loopw [8] (fun iv wr=>∃ m:Nat,iv=.int .i64 m∧m ≤ ts.length∧Hid (Half k m ts g o S L wr)∧Hid (Touch FF w wr)∧Hid (CntAt wr bn (k+Tr.ndS (ts.take m)))∧Hid (wr.heap[w.heap.size]? = some (.cells #[.int .i64 t0.kind,.int .u64 (Oc.U t0.w0),.int .u64 (Oc.U t0.w1),.int .u64 (Oc.U t0.w2),.int .u64 (Oc.U t0.w3),.slice (some ⟨g,o,none⟩) ts.length cap,.int .i64 t0.num,.int .i64 t0.least,.int .i64 t0.most,.bool t0.bare] 37))∧Hid (∃ cs ty,wr.heap[g]? = some (.cells cs ty (0,0)))∧w.heap.size < wr.heap.size) (fun iv _=>ts.length - (intOf iv).toNat)
     case atStart=>exact ⟨0,rfl,Nat.zero_le _,HH0,HT0,Lib.hid (by simpa [Tr.ndS] using HC0.out),Z0,HG0,by omega⟩
     case round =>
       clear HH0 HT0 HC0 Z0 HG0 hsz0
       obtain ⟨m,rfl,hm,HH,HT,HC,X0,HG,hsz⟩:=hrel
       have wm:IntKind.i64.wrap ((m:Int)+1)=(m:Int)+1:=IntWalk.i64_in _ (by omega)
       by_cases hlt:m < ts.length
       case neg =>
         obtain rfl:m=ts.length:=by omega
         have hdl:decide ((ts.length:Int) < (ts.length:Int))=false:=decide_eq_false (by omega)
         go_wp2
         go_end0
         refine ⟨rfl,by rw [HFF.out];exact HT.out,HH.out.done hlen HG.out HGL.out HD.out, ?_⟩
         have:=HC.out
         rw [List.take_length] at this
         exact this
       obtain ⟨x,hx⟩:∃ x,ts[m]? = some x:=⟨_,List.getElem?_eq_getElem hlt⟩
       have hdl:decide ((m:Int) < (ts.length:Int))=true:=decide_eq_true (by omega)
       obtain ⟨K,hK⟩:∃ K,k+Tr.ndS (ts.take m)=K:=⟨_,rfl⟩
       obtain ⟨N,hN⟩:∃ N,K+1=N:=⟨_,rfl⟩
       have hNle:N+Tr.ndS x.subs ≤ 4000000:=by
         have h1:=ndS_take ts m x hx;have h2:=ndS_take_le ts (m+1)
         rw [Tr.ndT_eq] at h1
         omega
       have hnext:N+Tr.ndS x.subs=k+Tr.ndS (ts.take (m+1)):=by rw [ndS_take ts m x hx,Tr.ndT_eq];omega
       rw [hK] at HC
       have wk:IntKind.i64.wrap ((K:Int)+1)=(N:Int):=(IntWalk.i64_in _ (by omega)).trans (by omega)
       obtain ⟨cn,fn⟩:=HC.out.cell
       have HX:=Lib.hid (show TenAt wr g (o+m * 10) x (S m) by have:=(HH.out m x hx).1;rwa [if_neg (by omega)] at this)
       have HO:=Lib.hid (show Owned wr (S m) x.subs (L m) by have:=(HH.out m x hx).2;rwa [if_neg (by omega)] at this)
       have HC1:=Lib.hid (HC.out.set N)
       have X1:=Lib.hid (show (wr.setCell ⟨bn,0,none⟩ (.int .i64 (N:Int))).heap[w.heap.size]? = some (.cells #[.int .i64 t0.kind,.int .u64 (Oc.U t0.w0),.int .u64 (Oc.U t0.w1),.int .u64 (Oc.U t0.w2),.int .u64 (Oc.U t0.w3),.slice (some ⟨g,o,none⟩) ts.length cap,.int .i64 t0.num,.int .i64 t0.least,.int .i64 t0.most,.bool t0.bare] 37) by rw [Below.heap_setCell _ _ _ _ (by show w.heap.size ≠ bn;omega)];exact X0.out)
       have HX1:=Lib.hid (HX.out.keep (w':=wr.setCell ⟨bn,0,none⟩ (.int .i64 (N:Int))) (Below.heap_setCell _ _ _ _ (Ne.symm hgb)))
       have HG1:=Lib.hid (show ∃ cs ty,(wr.setCell ⟨bn,0,none⟩ (.int .i64 (N:Int))).heap[g]? = some (.cells cs ty (0,0)) by rw [Below.heap_setCell _ _ _ _ (Ne.symm hgb)];exact HG.out)
       have HH1:=Lib.hid (HH.out.keep (w':=wr.setCell ⟨bn,0,none⟩ (.int .i64 (N:Int))) (Below.heap_setCell _ _ _ _ (Ne.symm hgb)) (fun j b hj hb=>Below.heap_setCell _ _ _ _ (by show b ≠ bn;exact fun e=>HBL.out j hj (e ▸ hb))))
       have HO1:=Lib.hid (HO.out.keep (w':=wr.setCell ⟨bn,0,none⟩ (.int .i64 (N:Int))) (fun b hb=>Below.heap_setCell _ _ _ _ (by show b ≠ bn;exact fun e=>HBL.out m hlt (e ▸ hb))))
       have HT1:=Lib.hid (show Touch FF w (wr.setCell ⟨bn,0,none⟩ (.int .i64 (N:Int))) from HT.out.setCells HMM.out.1 0 [.int .i64 (N:Int)])
       have hs1:(wr.setCell ⟨bn,0,none⟩ (.int .i64 (N:Int))).heap.size=wr.heap.size:=by simp [World.setCell]
       have HKN:=Lib.hid hK;have HNN:=Lib.hid hN;have HNE:=Lib.hid hnext;have HNL:=Lib.hid hNle;have HXX:=Lib.hid hx
       obtain ⟨q5,-⟩:=at5 X0.out
       clear HX HO HC HG HH HT X0 hK hN hNle hnext hx
       go_upto_region 5 with (fail)
       generalize wr.setCell _ _=w1 at *
       clear q5 cn fn
       refine Ri.wp_region_late (by kernel_rfl) (by kernel_rfl) (by kernel_rfl) (by kernel_rfl) 8 (by kernel_rfl) (by kernel_rfl) (fun kk ww vv=>match kk with | 0=>vv=.pointer (some ⟨w.heap.size,5,none⟩) | 1=>vv=.slice (some ⟨g,o,none⟩) ts.length cap | 2=>vv=.int .i64 (m:Int) | 3=>vv=.pointer (some ⟨bn,0,none⟩) | 4=>vv=.pointer (some ⟨bn,0,none⟩) | 5=>vv=.int .i64 (N:Int) | 6=>vv=.pointer (some ⟨g,o+m * 10,none⟩) | 7=>vv=.pointer (some ⟨g,o+m * 10+6,none⟩) | _=>True) (fun vv ww=>∃ w8,Below w1.heap.size w1 w8∧ww=w8.setCell ⟨g,o+m * 10+6,none⟩ (.int .i64 (N:Int))) (fun kk ww vv w8 h hb=>by
                   match kk,h with
                   | 0,h=>exact h
                   | 1,h=>exact h
                   | 2,h=>exact h
                   | 3,h=>exact h
                   | 4,h=>exact h
                   | 5,h=>exact h
                   | 6,h=>exact h
                   | 7,h=>exact h
                   | _+8,_=>trivial) ?_ ?_ ?_
       · intro i hi9 L v w9 xa hF9 hL hd hv ho
         obtain ⟨hb,hk⟩:=hF9
         have hi':i=0 ∨ i=1 ∨ i=2 ∨ i=3 ∨ i=4 ∨ i=5 ∨ i=6 ∨ i=7:=by omega
         rcases hi' with rfl | rfl | rfl | rfl | rfl | rfl | rfl | rfl
         · have e2:xa.tmps.getD 2 undef=.pointer (some ⟨w.heap.size,0,none⟩):=ho 2 (by kernel_rfl)
           refine Ri.step_plain rfl rfl (fun K' hK'=>?_)
           go_simp
           exact hK' _ _ ⟨_,_,rfl,rfl,(Below.refl _ _),rfl⟩
         · have j0:L 0=true:=by have:=hd _ rfl;simp [Region.binds] at this;simp [this]
           have f0:=(hv 0 16 rfl j0).trans (hk 0 j0)
           refine Ri.step_plain rfl rfl (fun K' hK'=>?_)
           obtain ⟨h5,-⟩:=at5 (keep_blk hb X1.out)
           go_simp
           exact hK' _ _ ⟨_,_,rfl,rfl,(Below.refl _ _),rfl⟩
         · have e4:xa.tmps.getD 4 undef=.int .i64 (m:Int):=ho 4 (by kernel_rfl)
           refine Ri.step_plain rfl rfl (fun K' hK'=>?_)
           go_simp
           exact hK' _ _ ⟨_,_,rfl,rfl,(Below.refl _ _),rfl⟩
         · have e1:xa.tmps.getD 1 undef=.pointer (some ⟨bn,0,none⟩):=ho 1 (by kernel_rfl)
           refine Ri.step_plain rfl rfl (fun K' hK'=>?_)
           go_simp
           exact hK' _ _ ⟨_,_,rfl,rfl,(Below.refl _ _),rfl⟩
         · have j3:L 3=true:=by have:=hd _ rfl;simp [Region.binds] at this;simp [this]
           have f3:=(hv 3 19 rfl j3).trans (hk 3 j3)
           refine Ri.step_plain rfl rfl (fun K' hK'=>?_)
           go_simp
           exact hK' _ _ ⟨_,_,rfl,rfl,(Below.refl _ _),rfl⟩
         · have j4:L 4=true:=by have:=hd _ rfl;simp [Region.binds] at this;simp [this]
           have f4:=(hv 4 20 rfl j4).trans (hk 4 j4)
           refine Ri.step_plain rfl rfl (fun K' hK'=>?_)
           obtain ⟨cn,-⟩:=CntAt.cell (show CntAt w9 bn N from keep_blk hb HC1.out)
           go_simp
           exact hK' _ _ ⟨_,_,rfl,rfl,(Below.refl _ _),rfl⟩
         · obtain ⟨j1,j2⟩:L 1=true∧L 2=true:=by have:=hd _ rfl;simp [Region.binds] at this;simp [this]
           have f1:=(hv 1 17 rfl j1).trans (hk 1 j1)
           have f2:=(hv 2 18 rfl j2).trans (hk 2 j2)
           refine Ri.step_plain rfl rfl (fun K' hK'=>?_)
           go_simp
           exact hK' _ _ ⟨_,_,rfl,rfl,(Below.refl _ _),rfl⟩
         · have j6:L 6=true:=by have:=hd _ rfl;simp [Region.binds] at this;simp [this]
           have f6:=(hv 6 22 rfl j6).trans (hk 6 j6)
           refine Ri.step_plain rfl rfl (fun K' hK'=>?_)
           go_simp
           exact hK' _ _ ⟨_,_,rfl,rfl,(Below.refl _ _),rfl⟩
       · intro L v w9 xa hF9 hall hv ho
         obtain ⟨hb,hk⟩:=hF9
         have f0:=(hv 0 16 rfl (hall 0 (by omega))).trans (hk 0 (hall 0 (by omega)))
         have f1:=(hv 1 17 rfl (hall 1 (by omega))).trans (hk 1 (hall 1 (by omega)))
         have f2:=(hv 2 18 rfl (hall 2 (by omega))).trans (hk 2 (hall 2 (by omega)))
         have f3:=(hv 3 19 rfl (hall 3 (by omega))).trans (hk 3 (hall 3 (by omega)))
         have f4:=(hv 4 20 rfl (hall 4 (by omega))).trans (hk 4 (hall 4 (by omega)))
         have f5:=(hv 5 21 rfl (hall 5 (by omega))).trans (hk 5 (hall 5 (by omega)))
         have f6:=(hv 6 22 rfl (hall 6 (by omega))).trans (hk 6 (hall 6 (by omega)))
         have f7:=(hv 7 23 rfl (hall 7 (by omega))).trans (hk 7 (hall 7 (by omega)))
         refine Ri.step_plain rfl rfl (fun K' hK'=>?_)
         have ht6:=(HX1.out.keep (hb.block _ HX1.out.lt)).c6
         obtain ⟨cs9,ty9,hg9⟩:=HG1.out
         have hf6:=frozen_of (o:=o+m * 10+6) ⟨cs9,ty9,keep_blk hb hg9⟩
         go_simp
         exact hK' _ _ ⟨_,undef,rfl,rfl,⟨w9,hb,rfl⟩⟩
       · intro v w9 hfin
         obtain ⟨w8,hb8,rfl⟩:=hfin
         simp only [Ri.frame,List.zipIdx,List.foldl_cons,List.foldl_nil,if_true,List.setIfInBounds_toArray,List.set_cons_zero,List.set_cons_succ,Nat.reduceAdd]
         generalize v 0=z0;generalize v 1=z1;generalize v 2=z2;generalize v 3=z3;generalize v 4=z4;generalize v 5=z5;generalize v 6=z6;generalize v 7=z7
         have hgl:=HG1.out.elim fun cs h=>h.elim fun ty h=>(Array.getElem?_eq_some_iff.1 h).1
         have HG8:=Lib.hid (show ∃ cs ty,w8.heap[g]? = some (.cells cs ty (0,0)) by rw [hb8.block g hgl];exact HG1.out)
         have HX8:=HX1.out.keep (w':=w8) (hb8.block g hgl)
         have HH8:=Lib.hid (HH1.out.keep (w':=w8) (hb8.block g hgl) (fun j b hj hb=>hb8.block b (by have:=HLS.out j b hj hb;omega)))
         have h9:=HX8.setN HG8.out (N:Int)
         have X9:=Lib.hid (show (w8.setCell ⟨g,o+m * 10+6,none⟩ (.int .i64 (N:Int))).heap[w.heap.size]? = some (.cells #[.int .i64 t0.kind,.int .u64 (Oc.U t0.w0),.int .u64 (Oc.U t0.w1),.int .u64 (Oc.U t0.w2),.int .u64 (Oc.U t0.w3),.slice (some ⟨g,o,none⟩) ts.length cap,.int .i64 t0.num,.int .i64 t0.least,.int .i64 t0.most,.bool t0.bare] 37) by rw [Below.heap_setCell _ _ _ _ (by show w.heap.size ≠ g;omega)];exact keep_blk hb8 X1.out)
         have HC9:=Lib.hid (show CntAt (w8.setCell ⟨g,o+m * 10+6,none⟩ (.int .i64 (N:Int))) bn N by unfold CntAt;rw [Below.heap_setCell _ _ _ _ hgb];exact keep_blk hb8 HC1.out)
         have HO9:=Lib.hid ((HO1.out.keep (w':=w8) (fun b hb=>hb8.block b (by have:=HLS.out m b hlt hb;omega))).keep (w':=w8.setCell ⟨g,o+m * 10+6,none⟩ (.int .i64 (N:Int))) (fun b hb=>Below.heap_setCell _ _ _ _ (by show b ≠ g;exact fun e=>HGL.out m hlt (e ▸ hb))))
         have HT9:=Lib.hid (show Touch FF w (w8.setCell ⟨g,o+m * 10+6,none⟩ (.int .i64 (N:Int))) from (HT1.out.trans (Touch.of_below FF hb8)).setCells HMM.out.2 (o+m * 10+6) [.int .i64 (N:Int)])
         have HGR:=Lib.hid (show ∃ cs ty,(w8.setCell ⟨g,o+m * 10+6,none⟩ (.int .i64 (N:Int))).heap[g]? = some (.cells cs ty (0,0)) from cells_setCells [.int .i64 (N:Int)] (o+m * 10+6) w8 HG8.out)
         have hs9:(w8.setCell ⟨g,o+m * 10+6,none⟩ (.int .i64 (N:Int))).heap.size=w8.heap.size:=by simp [World.setCell]
         have hs8:=hb8.size
         obtain ⟨p1,c1,eS⟩:=HSL.out m x HXX.out
         rw [eS] at h9 HO9
         have HES:=Lib.hid eS
         obtain ⟨d0,d1,d2,d3,d4,d5,d6,d7,d8,d9⟩:=h9
         have d0:(w8.setCell ⟨g,o+m * 10+6,none⟩ (.int .i64 (N:Int))).cell? ⟨g,o+m * 10,none⟩=some (.int .i64 x.kind):=d0
         have d1:(w8.setCell ⟨g,o+m * 10+6,none⟩ (.int .i64 (N:Int))).cell? ⟨g,o+m * 10+1,none⟩=some (.int .u64 (Oc.U x.w0)):=d1
         have d2:(w8.setCell ⟨g,o+m * 10+6,none⟩ (.int .i64 (N:Int))).cell? ⟨g,o+m * 10+2,none⟩=some (.int .u64 (Oc.U x.w1)):=d2
         have d3:(w8.setCell ⟨g,o+m * 10+6,none⟩ (.int .i64 (N:Int))).cell? ⟨g,o+m * 10+3,none⟩=some (.int .u64 (Oc.U x.w2)):=d3
         have d4:(w8.setCell ⟨g,o+m * 10+6,none⟩ (.int .i64 (N:Int))).cell? ⟨g,o+m * 10+4,none⟩=some (.int .u64 (Oc.U x.w3)):=d4
         have d6:(w8.setCell ⟨g,o+m * 10+6,none⟩ (.int .i64 (N:Int))).cell? ⟨g,o+m * 10+6,none⟩=some (.int .i64 (N:Int)):=d6
         have d7:(w8.setCell ⟨g,o+m * 10+6,none⟩ (.int .i64 (N:Int))).cell? ⟨g,o+m * 10+7,none⟩=some (.int .i64 x.least):=d7
         have d8:(w8.setCell ⟨g,o+m * 10+6,none⟩ (.int .i64 (N:Int))).cell? ⟨g,o+m * 10+8,none⟩=some (.int .i64 x.most):=d8
         have d9:(w8.setCell ⟨g,o+m * 10+6,none⟩ (.int .i64 (N:Int))).cell? ⟨g,o+m * 10+9,none⟩=some (.bool x.bare):=d9
         have HCALL:=Lib.hid (IH.out x (List.mem_of_getElem? HXX.out) (x.setN (N:Int)) rfl _ (.slice p1 x.subs.length c1) (L m) bn N HO9.out (HBL.out m hlt) HC9.out HNL.out)
         unfold Tr.cells at HCALL
         obtain ⟨q5,-⟩:=at5 X9.out
         have HSC:=Lib.hid (show ∀ b,b ≠ g→(w8.setCell ⟨g,o+m * 10+6,none⟩ (.int .i64 (N:Int))).heap[b]? = w8.heap[b]? from fun b hb=>Below.heap_setCell _ _ _ _ hb)
         have HW9:=Lib.hid (show (w8.setCell ⟨g,o+m * 10+6,none⟩ (.int .i64 (N:Int))).heap[g]? = (w8.setCell ⟨g,o+m * 10+6,none⟩ (.int .i64 (N:Int))).heap[g]? from rfl)
         obtain ⟨w9,hw9⟩:∃ w9,w8.setCell ⟨g,o+m * 10+6,none⟩ (.int .i64 (N:Int))=w9:=⟨_,rfl⟩
         have HW8:=Lib.hid hw9
         rw [hw9] at d0 d1 d2 d3 d4 d5 d6 d7 d8 d9 q5 HCALL HSC X9 HC9 HO9 HT9 HGR hs9 ⊢
         clear hw9 HW9 hb8 HX8 hgl HX1 HG1 HH1 HO1 HT1 HC1 X1 HC9
         go_wp2_with fail
         clear d0 d1 d2 d3 d4 d5 d6 d7 d8 d9 q5
         refine HCALL.out.mono ?_
         rintro e w4 ⟨rfl,ht4,ho4,hc4⟩
         have HTA:=Lib.hid (HT9.out.trans (ht4.mono fun b hb=>by
           rcases List.mem_cons.1 hb with rfl | hb
           · exact HMM.out.1
           · exact HMF.out m b hlt hb))
         have hg4:w4.heap[g]? = w9.heap[g]?:=ht4.block g (HGR.out.elim fun cs h=>h.elim fun ty h=>(Array.getElem?_eq_some_iff.1 h).1) (fun hm=>by
           rcases List.mem_cons.1 hm with e | hm
           · exact hgb e.symm
           · exact HGL.out m hlt hm)
         have HHN:=Lib.hid (HH8.out.step HXX.out HG8.out (by rw [HES.out,HKN.out,HNN.out];exact ho4) (by rw [HKN.out,HNN.out,HW8.out];exact hg4) (fun j b hj hjm hb=>by
           rw [ht4.block b (by have:=HLS.out j b hj hb;omega) (fun hm=>by
             rcases List.mem_cons.1 hm with e | hm
             · exact HBL.out j hj (e ▸ hb)
             · exact HD.out j m b hj hlt hjm hb hm)]
           exact HSC.out b (fun e=>HGL.out j hj (e ▸ hb))))
         have XN:=Lib.hid ((ht4.block w.heap.size (by omega) (fun hm=>by
           rcases List.mem_cons.1 hm with e | hm
           · omega
           · have:=HLS.out m _ hlt hm;omega)).trans X9.out)
         have HCN:=Lib.hid (show CntAt w4 bn (k+Tr.ndS (ts.take (m+1))) by rw [← HNE.out];exact hc4)
         have HGN:=Lib.hid (show ∃ cs ty,w4.heap[g]? = some (.cells cs ty (0,0)) by rw [hg4];exact HGR.out)
         have hsn:w.heap.size < w4.heap.size:=by have:=ht4.size;omega
         clear ht4 ho4 hc4 hg4 HCALL
         go_wp2
         exact ⟨⟨m+1,by go_num,by omega,HHN,HTA,HCN,XN,HGN,hsn⟩,by simp [intOf];omega⟩
end Go.Proofs.YtogdjbnejpennaaDoor
namespace Go.Proofs.YtogdjbnejpennaaDoor
open Go.RowKit
namespace Ri
variable {P:Program} {ops:Array Oper} {Q:Exit→Act→World→Prop}
def midst (ops:Array Oper) (p last:Nat) (free:Nat→Bool):Bool:=(List.range last).all fun k=>k == p || free k || (reach ops last (deps ops p)).contains k
theorem wp_region_app {id:Nat} {a:Act} {w:World} (hm:P.follows .mixedOrders=true) (hb:backward ops=true) (hap:apart ops=true) (hsz0:(ops.toList.all fun o=>o.dst.all fun d=>decide (d < a.tmps.size))=true)
   (last p:Nat) (hn:ops.size=last+1) (hp:p < last) (free:Nat→Bool) (hw:waitsT ops last=true) (hwp:midst ops p last free=true)
   (K:Nat→World→Value→Prop) (KF:Value→Nat→Value→Prop) (Mid:Value→World→Prop) (Fin:(Nat→Value)→World→Prop)
   (hK:∀ k w v w',K k w v→Below w.heap.size w w'→K k w' v) (hKF:∀ k w v x,K k w v→KF x k v)
   (step:∀ i,i < last→i ≠ p→∀ (L:Nat→Bool) (v:Nat→Value) (w':World) (a':Act),Fa K w L v w'→L i=false→L p=false→(∀ o,ops[i]? = some o→∀ e ∈ o.after,Region.binds .any e=true→L e.on=true) →
     (∀ j d:Nat,(ops[j]?).bind (·.dst)=some d→L j=true→a'.tmps.getD d undef=v j)→(∀ d,ops.toList.all (fun o=>o.dst != some d)=true→a'.tmps.getD d undef=a.tmps.getD d undef) →
     wpOp P ops Q i (fun b w''=>∃ (o:Oper) (u:Value),ops[i]? = some o∧b=a'.put o.dst u∧Below w'.heap.size w' w''∧K i w'' u) a' w')
   (stepF:∀ i,i < last→free i=true→∀ (L:Nat→Bool) (v:Nat→Value) (w':World) (a':Act),Mid (v p) w'→(∀ k,k < last→k ≠ p→L k=true→KF (v p) k (v k))→L i=false→L p=true→(∀ o,ops[i]? = some o→∀ e ∈ o.after,Region.binds .any e=true→L e.on=true) →
     (∀ j d:Nat,(ops[j]?).bind (·.dst)=some d→L j=true→a'.tmps.getD d undef=v j)→(∀ d,ops.toList.all (fun o=>o.dst != some d)=true→a'.tmps.getD d undef=a.tmps.getD d undef) →
     wpOp P ops Q i (fun b w''=>∃ (o:Oper) (u:Value),ops[i]? = some o∧b=a'.put o.dst u∧w''=w'∧KF (v p) i u) a' w')
   (app:∀ (L:Nat→Bool) (v:Nat→Value) (w':World) (a':Act),Fa K w L v w'→(∀ k,k < last→k ≠ p→free k=false→L k=true) →
     (∀ j d:Nat,(ops[j]?).bind (·.dst)=some d→L j=true→a'.tmps.getD d undef=v j)→(∀ d,ops.toList.all (fun o=>o.dst != some d)=true→a'.tmps.getD d undef=a.tmps.getD d undef) →
     wpOp P ops Q p (fun b w''=>∃ (o:Oper) (u:Value),ops[p]? = some o∧b=a'.put o.dst u∧Mid u w'') a' w')
   (put:∀ (L:Nat→Bool) (v:Nat→Value) (w':World) (a':Act),Mid (v p) w'→(∀ k,k < last→L k=true)→(∀ k,k < last→k ≠ p→KF (v p) k (v k)) →
     (∀ j d:Nat,(ops[j]?).bind (·.dst)=some d→L j=true→a'.tmps.getD d undef=v j)→(∀ d,ops.toList.all (fun o=>o.dst != some d)=true→a'.tmps.getD d undef=a.tmps.getD d undef) →
     wpOp P ops Q last (fun b w''=>∃ (o:Oper) (u:Value),ops[last]? = some o∧b=a'.put o.dst u∧Fin (up v last u) w'') a' w')
   (fin:∀ v w',Fin v w'→Q .normal (frame ops a (fun _=>true) v) w'):(Code.region id ops true).wp P Q a w:=by
 refine wp_region_frame hm hb hap hsz0 (fun L v w'=>(L p=false→Fa K w L v w'∧L last=false)∧(L p=true→L last=false→Mid (v p) w'∧∀ k,k < last→k ≠ p→L k=true→KF (v p) k (v k)) ∧
   (L p=true→∀ k,k < last→k ≠ p→free k=false→L k=true)∧(L last=true→Fin v w'∧∀ k,k < last→L k=true)∧Closed ops L) ⟨fun _=>⟨⟨(Below.refl _ _).drew,fun k h=>by cases h⟩,rfl⟩,(fun h=>by cases h),(fun h=>by cases h),(fun h=>by cases h),fun k h=>by cases h⟩ ?_ ?_
 · intro i hi L v w' a' hI hL hd hv ho
   rw [hn] at hi
   obtain ⟨h1,h2,h3,h4,h5⟩:=hI
   by_cases e:i=last
   · subst e
     have hall:∀ k,k < i→L k=true:=fun k hk=>by
       unfold waitsT at hw
       have h1:=List.all_eq_true.1 hw k (List.mem_range.2 hk)
       rw [List.contains_eq_mem,decide_eq_true_eq] at h1
       exact h5.reach (fun j hj=>Closed.deps hd hj) h1
     have hLp:=hall p hp
     obtain ⟨m1,m2⟩:=h2 hLp hL
     refine wpOp_mono ?_ (put L v w' a' m1 hall (fun k hk hf=>m2 k hk hf (hall k hk)) hv ho)
     rintro b w'' ⟨o,u,g1,g2,g3⟩
     refine ⟨o,u,g1,g2,(fun h=>?_),(fun _ h=>(by rw [up_same] at h;cases h)),(fun _ k hk hkp hf=>?_),(fun _=>⟨g3,fun k hk=>?_⟩),h5.step hd⟩
     · rw [up_other _ _ _ _ (by omega),hLp] at h;cases h
     · rw [up_other _ _ _ _ (by omega)];exact hall k hk
     · rw [up_other _ _ _ _ (by omega)];exact hall k hk
   · have hl:L last=false:=by
       cases h:L last with
       | false=>rfl
       | true=>have:=(h4 h).2 i (by omega);rw [hL] at this;cases this
     by_cases ep:i=p
     · subst ep
       have hall:∀ k,k < last→k ≠ i→free k=false→L k=true:=fun k hk hki hf=>by
         unfold midst at hwp
         have h1:=List.all_eq_true.1 hwp k (List.mem_range.2 hk)
         rw [hf,List.contains_eq_mem] at h1
         simp only [Bool.or_false,Bool.or_eq_true,beq_iff_eq,decide_eq_true_eq] at h1
         rcases h1 with h1 | h1
         · exact absurd h1 hki
         · exact h5.reach (fun j hj=>Closed.deps hd hj) h1
       have hF:=(h1 hL).1
       refine wpOp_mono ?_ (app L v w' a' hF hall hv ho)
       rintro b w'' ⟨o,u,g1,g2,g3⟩
       refine ⟨o,u,g1,g2,(fun h=>(by rw [up_same] at h;cases h)),(fun _ _=>⟨by rw [up_same];exact g3,fun k hk hki hk2=>?_⟩),(fun _ k hk hki hf=>?_),(fun h=>?_),h5.step hd⟩
       · rw [up_same,up_other _ _ _ _ hki]
         rw [up_other _ _ _ _ hki] at hk2
         exact hKF k _ _ _ (hF.2 k hk2)
       · rw [up_other _ _ _ _ hki];exact hall k hk hki hf
       · rw [up_other _ _ _ _ (by omega),hl] at h;cases h
     · cases hLp:L p with
       | false =>
         refine wpOp_mono ?_ (step i (by omega) ep L v w' a' (h1 hLp).1 hL hLp hd hv ho)
         rintro b w'' ⟨o,u,g1,g2,g3,g4⟩
         refine ⟨o,u,g1,g2,(fun _=>⟨(h1 hLp).1.step hK g3 g4,by rw [up_other _ _ _ _ (Ne.symm e)];exact hl⟩),(fun h=>?_),(fun h=>?_),(fun h=>?_),h5.step hd⟩
         · rw [up_other _ _ _ _ (Ne.symm ep),hLp] at h;cases h
         · rw [up_other _ _ _ _ (Ne.symm ep),hLp] at h;cases h
         · rw [up_other _ _ _ _ (Ne.symm e),hl] at h;cases h
       | true =>
         have hf:free i=true:=by
           cases h:free i with
           | true=>rfl
           | false=>have:=h3 hLp i (by omega) ep h;rw [hL] at this;cases this
         obtain ⟨m1,m2⟩:=h2 hLp hl
         refine wpOp_mono ?_ (stepF i (by omega) hf L v w' a' m1 m2 hL hLp hd hv ho)
         rintro b w'' ⟨o,u,g1,g2,rfl,g4⟩
         refine ⟨o,u,g1,g2,(fun h=>?_),(fun _ _=>⟨by rw [up_other _ _ _ _ (Ne.symm ep)];exact m1,fun k hk hkp hk2=>?_⟩),(fun _ k hk hkp hfk=>?_),(fun h=>?_),h5.step hd⟩
         · rw [up_other _ _ _ _ (Ne.symm ep),hLp] at h;cases h
         · rw [up_other _ _ _ _ (Ne.symm ep)]
           by_cases ek:k=i
           · subst ek;rw [up_same];exact g4
           · rw [up_other _ _ _ _ ek] at hk2 ⊢;exact m2 k hk hkp hk2
         · by_cases ek:k=i
           · subst ek;rw [up_same]
           · rw [up_other _ _ _ _ ek];exact h3 hLp k hk hkp hfk
         · rw [up_other _ _ _ _ (Ne.symm e),hl] at h;cases h
 · intro v w' hI
   exact fin v w' (hI.2.2.2.1 (by rw [hn];simp)).1
end Ri
end Go.Proofs.YtogdjbnejpennaaDoor
namespace Go.Proofs.YtogdjbnejpennaaDoor
open Go.RowKit
def MarkedEnd (bn k:Nat) (w:World) (e:Ending) (w':World):Prop:=e=.returned (.bool true)∧Touch [bn] w w'∧CntAt w' bn k
theorem TreesAt.touch {w w':World} {bn:Nat} {s:Value} {ts:List Tr} (h:TreesAt w (fun b=>b ≠ bn) s ts) (ht:Touch [bn] w w'):TreesAt w' (fun b=>b ≠ bn) s ts :=
 h.keep fun b hb hne=>ht.block b hb (by simpa using hne)
theorem marked_any:∀ t t0:Tr,∀ (k:Nat),t0.subs=Tr.nuL t.subs k→∀ (w:World) (s:Value) (bn:Nat),TreesAt w (fun b=>b ≠ bn) s (Tr.nuL t.subs k)→CntAt w bn k→k+Tr.ndS t.subs ≤ 4000000 →
   Calls Tryd.prog 93 #[.agg (t0.cells s),.pointer (some ⟨bn,0,none⟩)] w (MarkedEnd bn (k+Tr.ndS t.subs) w):=by
 intro t
 induction t using Tr.rec_subs with
 | h t ih =>
   intro t0 k ht0 w s bn hs hcn hk
   have hbn:=hcn.lt
   obtain ⟨p,cap,rfl,hlen⟩:=hs.slice
   rw [Tr.nuL_length] at hs hlen ⊢
   generalize hts:t.subs=ts at *
   clear hts ht0
   have hb0:Below w.heap.size w (w.alloc (.cells (t0.cells (.slice p ts.length cap)) 37)):=(Below.refl _ _).alloc (Nat.le_refl _) _
   have HC0:=Lib.hid (show CntAt (w.alloc (.cells (t0.cells (.slice p ts.length cap)) 37)) bn k from keep_blk hb0 hcn)
   have Z0:=Lib.hid (heap_alloc_new w (.cells (t0.cells (.slice p ts.length cap)) 37))
   have HT0:=Lib.hid (Touch.of_below [bn] hb0)
   have hsz0:(w.alloc (.cells (t0.cells (.slice p ts.length cap)) 37)).heap.size=w.heap.size+1:=by simp
   have IH:=Lib.hid ih;have HS:=Lib.hid hs
   clear ih hcn hs hb0
   unfold Tr.cells at Z0 HC0 HT0 hsz0 ⊢
   go_enter Tryd.func93,Tryd.ntmps93
   go_upto_region 1 with (fail)
   generalize w.alloc _=W0 at *
   obtain ⟨q5,-⟩:=at5 Z0.out
   go_wp2
   clear q5
   go_loopw [9] (fun iv wr=>∃ m:Nat,iv=.int .i64 m∧m ≤ ts.length∧Hid (Touch [bn] w wr)∧Hid (CntAt wr bn (k+Tr.ndS (ts.take m)))∧Hid (wr.heap[w.heap.size]? = some (.cells #[.int .i64 t0.kind,.int .u64 (Oc.U t0.w0),.int .u64 (Oc.U t0.w1),.int .u64 (Oc.U t0.w2),.int .u64 (Oc.U t0.w3),.slice p ts.length cap,.int .i64 t0.num,.int .i64 t0.least,.int .i64 t0.most,.bool t0.bare] 37))∧w.heap.size < wr.heap.size) (fun iv _=>ts.length - (intOf iv).toNat)
   case atStart=>exact ⟨0,rfl,Nat.zero_le _,HT0,Lib.hid (by simpa [Tr.ndS] using HC0.out),Z0,by omega⟩
   case round =>
     clear HT0 HC0 Z0 hsz0
     obtain ⟨m,rfl,hm,HT,HC,X0,hsz⟩:=hrel
     have wm:IntKind.i64.wrap ((m:Int)+1)=(m:Int)+1:=IntWalk.i64_in _ (by omega)
     by_cases hlt:m < ts.length
     case neg =>
       obtain rfl:m=ts.length:=by omega
       have hdl:decide ((ts.length:Int) < (ts.length:Int))=false:=decide_eq_false (by omega)
       go_wp2
       go_ret
       refine ⟨rfl,HT.out, ?_⟩
       have:=HC.out
       rw [List.take_length] at this
       exact this
     obtain ⟨x,hx⟩:∃ x,ts[m]? = some x:=⟨_,List.getElem?_eq_getElem hlt⟩
     have hdl:decide ((m:Int) < (ts.length:Int))=true:=decide_eq_true (by omega)
     obtain ⟨K,hK⟩:∃ K,k+Tr.ndS (ts.take m)=K:=⟨_,rfl⟩
     obtain ⟨N,hN⟩:∃ N,K+1=N:=⟨_,rfl⟩
     have hNle:N+Tr.ndS x.subs ≤ 4000000:=by
       have h1:=ndS_take ts m x hx;have h2:=ndS_take_le ts (m+1)
       rw [Tr.ndT_eq] at h1
       omega
     have hnext:N+Tr.ndS x.subs=k+Tr.ndS (ts.take (m+1)):=by rw [ndS_take ts m x hx,Tr.ndT_eq];omega
     have hgy:=Tr.nuL_get ts k m x hx
     rw [hK,hN] at hgy
     have hys:=Tr.nuT_subs x N;have hyn:=Tr.nuT_num x N
     generalize x.nuT N=y at *
     rw [hK] at HC
     have wk:IntKind.i64.wrap ((K:Int)+1)=(N:Int):=(IntWalk.i64_in _ (by omega)).trans (by omega)
     obtain ⟨cn,fn⟩:=HC.out.cell
     obtain ⟨b1,o1,s1,rfl,hb1n,t1,sub1⟩:=HS.out.get hgy
     obtain ⟨p1,c1,rfl,-⟩:=sub1.slice
     have hset:Touch [bn] wr (wr.setCell ⟨bn,0,none⟩ (.int .i64 (N:Int))):=(Touch.of_below [bn] (Below.refl _ _)).setCells (by simp) 0 [.int .i64 (N:Int)]
     have hT1:=HT.out.trans hset
     have HY1:=Lib.hid (t1.keep (w':=wr.setCell ⟨bn,0,none⟩ (.int .i64 (N:Int))) (hT1.block _ t1.lt (by simpa using hb1n)))
     have HSUB:=Lib.hid (sub1.touch hT1)
     have HC1:=Lib.hid (HC.out.set N)
     have X1:=Lib.hid (show (wr.setCell ⟨bn,0,none⟩ (.int .i64 (N:Int))).heap[w.heap.size]? = some (.cells #[.int .i64 t0.kind,.int .u64 (Oc.U t0.w0),.int .u64 (Oc.U t0.w1),.int .u64 (Oc.U t0.w2),.int .u64 (Oc.U t0.w3),.slice (some ⟨b1,o1,none⟩) ts.length cap,.int .i64 t0.num,.int .i64 t0.least,.int .i64 t0.most,.bool t0.bare] 37) by rw [Below.heap_setCell _ _ _ _ (by show w.heap.size ≠ bn;omega)];exact X0.out)
     have HT1:=Lib.hid hT1
     have hs1:(wr.setCell ⟨bn,0,none⟩ (.int .i64 (N:Int))).heap.size=wr.heap.size:=by simp [World.setCell]
     have HNE:=Lib.hid hnext;have HNL:=Lib.hid hNle;have HXX:=Lib.hid hx;have HYS:=Lib.hid hys;have HYN:=Lib.hid hyn
     obtain ⟨q5,-⟩:=at5 X0.out
     clear t1 sub1 hset hT1 HC HT X0 hK hN hNle hnext hx hgy hys hyn hb1n
     go_upto_region 5 with (fail)
     generalize wr.setCell _ _=w1 at *
     clear q5 cn fn
     have HCALL:=Lib.hid (fun w9 (hb:Below w1.heap.size w1 w9)=>IH.out x (List.mem_of_getElem? HXX.out) y N HYS.out w9 (.slice p1 y.subs.length c1) bn (by have:=HSUB.out.later hb;rw [HYS.out] at this ⊢;exact this) (keep_blk hb HC1.out) HNL.out)
     unfold Tr.cells at HCALL
     refine Ri.wp_region_app (by kernel_rfl) (by kernel_rfl) (by kernel_rfl) (by kernel_rfl) 19 17 (by kernel_rfl) (by omega) (fun kk=>kk == 18) (by kernel_rfl) (by kernel_rfl) (fun kk ww vv=>match kk with | 0=>vv=.pointer (some ⟨w.heap.size,5,none⟩) | 1=>vv=.slice (some ⟨b1,o1,none⟩) ts.length cap | 2=>vv=.int .i64 (m:Int) | 3=>vv=.pointer (some ⟨b1,o1+m * 10,none⟩) | 4=>vv=.pointer (some ⟨b1,o1+m * 10+6,none⟩) | 5=>vv=.int .i64 (N:Int) | 6=>vv=.pointer (some ⟨bn,0,none⟩) | 7=>vv=.pointer (some ⟨bn,0,none⟩) | 8=>vv=.int .i64 (N:Int) | 9=>vv=.bool false | 10=>vv=.bool false | 11=>vv=.pointer (some ⟨w.heap.size,5,none⟩) | 12=>vv=.slice (some ⟨b1,o1,none⟩) ts.length cap | 13=>vv=.int .i64 (m:Int) | 14=>vv=.pointer (some ⟨b1,o1+m * 10,none⟩) | 15=>vv=.agg #[.int .i64 y.kind,.int .u64 (Oc.U y.w0),.int .u64 (Oc.U y.w1),.int .u64 (Oc.U y.w2),.int .u64 (Oc.U y.w3),.slice p1 y.subs.length c1,.int .i64 y.num,.int .i64 y.least,.int .i64 y.most,.bool y.bare] | 16=>vv=.pointer (some ⟨bn,0,none⟩) | 18=>vv=.bool false | _=>True) (fun _ kk vv=>match kk with | 0=>vv=.pointer (some ⟨w.heap.size,5,none⟩) | 1=>vv=.slice (some ⟨b1,o1,none⟩) ts.length cap | 2=>vv=.int .i64 (m:Int) | 3=>vv=.pointer (some ⟨b1,o1+m * 10,none⟩) | 4=>vv=.pointer (some ⟨b1,o1+m * 10+6,none⟩) | 5=>vv=.int .i64 (N:Int) | 6=>vv=.pointer (some ⟨bn,0,none⟩) | 7=>vv=.pointer (some ⟨bn,0,none⟩) | 8=>vv=.int .i64 (N:Int) | 9=>vv=.bool false | 10=>vv=.bool false | 11=>vv=.pointer (some ⟨w.heap.size,5,none⟩) | 12=>vv=.slice (some ⟨b1,o1,none⟩) ts.length cap | 13=>vv=.int .i64 (m:Int) | 14=>vv=.pointer (some ⟨b1,o1+m * 10,none⟩) | 15=>vv=.agg #[.int .i64 y.kind,.int .u64 (Oc.U y.w0),.int .u64 (Oc.U y.w1),.int .u64 (Oc.U y.w2),.int .u64 (Oc.U y.w3),.slice p1 y.subs.length c1,.int .i64 y.num,.int .i64 y.least,.int .i64 y.most,.bool y.bare] | 16=>vv=.pointer (some ⟨bn,0,none⟩) | 18=>vv=.bool false | _=>True) (fun uu ww=>uu=.bool true∧Touch [bn] w1 ww∧CntAt ww bn (N+Tr.ndS x.subs)) (fun vv ww=>(vv 19)=.bool false∧Touch [bn] w1 ww∧CntAt ww bn (N+Tr.ndS x.subs)) (fun kk ww vv w8 h hb=>by
               match kk,h with
               | 0,h=>exact h
               | 1,h=>exact h
               | 2,h=>exact h
               | 3,h=>exact h
               | 4,h=>exact h
               | 5,h=>exact h
               | 6,h=>exact h
               | 7,h=>exact h
               | 8,h=>exact h
               | 9,h=>exact h
               | 10,h=>exact h
               | 11,h=>exact h
               | 12,h=>exact h
               | 13,h=>exact h
               | 14,h=>exact h
               | 15,h=>exact h
               | 16,h=>exact h
               | 17,h=>exact trivial
               | 18,h=>exact h
               | _+19,_=>trivial) (fun kk ww vv xx h=>by
               match kk,h with
               | 0,h=>exact h
               | 1,h=>exact h
               | 2,h=>exact h
               | 3,h=>exact h
               | 4,h=>exact h
               | 5,h=>exact h
               | 6,h=>exact h
               | 7,h=>exact h
               | 8,h=>exact h
               | 9,h=>exact h
               | 10,h=>exact h
               | 11,h=>exact h
               | 12,h=>exact h
               | 13,h=>exact h
               | 14,h=>exact h
               | 15,h=>exact h
               | 16,h=>exact h
               | 17,h=>exact trivial
               | 18,h=>exact h
               | _+19,_=>trivial) ?_ ?_ ?_ ?_ ?_
     · intro i hi9 hip L v w9 xa hF9 hL hLp hd hv ho
       obtain ⟨hb,hk⟩:=hF9
       have hi':i=0 ∨ i=1 ∨ i=2 ∨ i=3 ∨ i=4 ∨ i=5 ∨ i=6 ∨ i=7 ∨ i=8 ∨ i=9 ∨ i=10 ∨ i=11 ∨ i=12 ∨ i=13 ∨ i=14 ∨ i=15 ∨ i=16 ∨ i=18:=by omega
       rcases hi' with rfl | rfl | rfl | rfl | rfl | rfl | rfl | rfl | rfl | rfl | rfl | rfl | rfl | rfl | rfl | rfl | rfl | rfl
       · have e2:xa.tmps.getD 2 undef=.pointer (some ⟨w.heap.size,0,none⟩):=ho 2 (by kernel_rfl)
         refine Ri.step_plain rfl rfl (fun K' hK'=>?_)
         go_simp
         exact hK' _ _ ⟨_,_,rfl,rfl,(Below.refl _ _),rfl⟩
       · have j0:L 0=true:=by have:=hd _ rfl;simp [Region.binds] at this;simp [this]
         have f0:=(hv 0 17 rfl j0).trans (hk 0 j0)
         refine Ri.step_plain rfl rfl (fun K' hK'=>?_)
         obtain ⟨h5,-⟩:=at5 (keep_blk hb X1.out)
         go_simp
         exact hK' _ _ ⟨_,_,rfl,rfl,(Below.refl _ _),rfl⟩
       · have e5:xa.tmps.getD 5 undef=.int .i64 (m:Int):=ho 5 (by kernel_rfl)
         refine Ri.step_plain rfl rfl (fun K' hK'=>?_)
         go_simp
         exact hK' _ _ ⟨_,_,rfl,rfl,(Below.refl _ _),rfl⟩
       · obtain ⟨j1,j2⟩:L 1=true∧L 2=true:=by have:=hd _ rfl;simp [Region.binds] at this;simp [this]
         have f1:=(hv 1 18 rfl j1).trans (hk 1 j1)
         have f2:=(hv 2 19 rfl j2).trans (hk 2 j2)
         refine Ri.step_plain rfl rfl (fun K' hK'=>?_)
         go_simp
         exact hK' _ _ ⟨_,_,rfl,rfl,(Below.refl _ _),rfl⟩
       · have j3:L 3=true:=by have:=hd _ rfl;simp [Region.binds] at this;simp [this]
         have f3:=(hv 3 20 rfl j3).trans (hk 3 j3)
         refine Ri.step_plain rfl rfl (fun K' hK'=>?_)
         go_simp
         exact hK' _ _ ⟨_,_,rfl,rfl,(Below.refl _ _),rfl⟩
       · have j4:L 4=true:=by have:=hd _ rfl;simp [Region.binds] at this;simp [this]
         have f4:=(hv 4 21 rfl j4).trans (hk 4 j4)
         refine Ri.step_plain rfl rfl (fun K' hK'=>?_)
         have h6:=(HY1.out.keep (hb.block _ HY1.out.lt)).c6
         rw [HYN.out] at h6
         go_simp
         exact hK' _ _ ⟨_,_,rfl,rfl,(Below.refl _ _),rfl⟩
       · have e1:xa.tmps.getD 1 undef=.pointer (some ⟨bn,0,none⟩):=ho 1 (by kernel_rfl)
         refine Ri.step_plain rfl rfl (fun K' hK'=>?_)
         go_simp
         exact hK' _ _ ⟨_,_,rfl,rfl,(Below.refl _ _),rfl⟩
       · have j6:L 6=true:=by have:=hd _ rfl;simp [Region.binds] at this;simp [this]
         have f6:=(hv 6 23 rfl j6).trans (hk 6 j6)
         refine Ri.step_plain rfl rfl (fun K' hK'=>?_)
         go_simp
         exact hK' _ _ ⟨_,_,rfl,rfl,(Below.refl _ _),rfl⟩
       · have j7:L 7=true:=by have:=hd _ rfl;simp [Region.binds] at this;simp [this]
         have f7:=(hv 7 24 rfl j7).trans (hk 7 j7)
         refine Ri.step_plain rfl rfl (fun K' hK'=>?_)
         obtain ⟨cn,-⟩:=CntAt.cell (show CntAt w9 bn N from keep_blk hb HC1.out)
         go_simp
         exact hK' _ _ ⟨_,_,rfl,rfl,(Below.refl _ _),rfl⟩
       · obtain ⟨j5,j8⟩:L 5=true∧L 8=true:=by have:=hd _ rfl;simp [Region.binds] at this;simp [this]
         have f5:=(hv 5 22 rfl j5).trans (hk 5 j5)
         have f8:=(hv 8 25 rfl j8).trans (hk 8 j8)
         refine Ri.step_plain rfl rfl (fun K' hK'=>?_)
         go_simp
         exact hK' _ _ ⟨_,_,rfl,rfl,(Below.refl _ _),rfl⟩
       · have j9:L 9=true:=by have:=hd _ rfl;simp [Region.binds] at this;simp [this]
         have f9:=(hv 9 26 rfl j9).trans (hk 9 j9)
         refine Ri.step_plain rfl rfl (fun K' hK'=>?_)
         go_simp
         exact hK' _ _ ⟨_,_,rfl,rfl,(Below.refl _ _),rfl⟩
       · have j10:L 10=true:=by have:=hd _ rfl;simp [Region.binds] at this;simp [this]
         have f10:=(hv 10 27 rfl j10).trans (hk 10 j10)
         have e2:xa.tmps.getD 2 undef=.pointer (some ⟨w.heap.size,0,none⟩):=ho 2 (by kernel_rfl)
         refine Ri.step_wanted (b:=false) rfl rfl rfl f10 (fun K' hK'=>?_)
         go_simp
         exact hK' _ _ ⟨_,_,rfl,rfl,(Below.refl _ _),rfl⟩
       · obtain ⟨j10,j11⟩:L 10=true∧L 11=true:=by have:=hd _ rfl;simp [Region.binds] at this;simp [this]
         have f10:=(hv 10 27 rfl j10).trans (hk 10 j10)
         have f11:=(hv 11 28 rfl j11).trans (hk 11 j11)
         refine Ri.step_wanted (b:=false) rfl rfl rfl f10 (fun K' hK'=>?_)
         obtain ⟨h5,-⟩:=at5 (keep_blk hb X1.out)
         go_simp
         exact hK' _ _ ⟨_,_,rfl,rfl,(Below.refl _ _),rfl⟩
       · have j10:L 10=true:=by have:=hd _ rfl;simp [Region.binds] at this;simp [this]
         have f10:=(hv 10 27 rfl j10).trans (hk 10 j10)
         have e5:xa.tmps.getD 5 undef=.int .i64 (m:Int):=ho 5 (by kernel_rfl)
         refine Ri.step_wanted (b:=false) rfl rfl rfl f10 (fun K' hK'=>?_)
         go_simp
         exact hK' _ _ ⟨_,_,rfl,rfl,(Below.refl _ _),rfl⟩
       · obtain ⟨j10,j12,j13⟩:L 10=true∧L 12=true∧L 13=true:=by have:=hd _ rfl;simp [Region.binds] at this;simp [this]
         have f10:=(hv 10 27 rfl j10).trans (hk 10 j10)
         have f12:=(hv 12 29 rfl j12).trans (hk 12 j12)
         have f13:=(hv 13 30 rfl j13).trans (hk 13 j13)
         refine Ri.step_wanted (b:=false) rfl rfl rfl f10 (fun K' hK'=>?_)
         go_simp
         exact hK' _ _ ⟨_,_,rfl,rfl,(Below.refl _ _),rfl⟩
       · obtain ⟨j10,j14⟩:L 10=true∧L 14=true:=by have:=hd _ rfl;simp [Region.binds] at this;simp [this]
         have f10:=(hv 10 27 rfl j10).trans (hk 10 j10)
         have f14:=(hv 14 31 rfl j14).trans (hk 14 j14)
         refine Ri.step_wanted (b:=false) rfl rfl rfl f10 (fun K' hK'=>?_)
         obtain ⟨d0,d1,d2,d3,d4,d5,d6,d7,d8,d9⟩:=HY1.out.keep (hb.block _ HY1.out.lt)
         go_simp
         exact hK' _ _ ⟨_,_,rfl,rfl,(Below.refl _ _),rfl⟩
       · have j10:L 10=true:=by have:=hd _ rfl;simp [Region.binds] at this;simp [this]
         have f10:=(hv 10 27 rfl j10).trans (hk 10 j10)
         have e1:xa.tmps.getD 1 undef=.pointer (some ⟨bn,0,none⟩):=ho 1 (by kernel_rfl)
         refine Ri.step_wanted (b:=false) rfl rfl rfl f10 (fun K' hK'=>?_)
         go_simp
         exact hK' _ _ ⟨_,_,rfl,rfl,(Below.refl _ _),rfl⟩
       · obtain ⟨j10,j17⟩:L 10=true∧L 17=true:=by have:=hd _ rfl;simp [Region.binds] at this;simp [this]
         exact absurd j17 (by rw [hLp];decide)
     · intro i hi9 hfr L v w9 xa hM hk hL hLp hd hv ho
       have hi':i=18:=by simpa using hfr
       rcases hi' with rfl
       · obtain ⟨j10,j17⟩:L 10=true∧L 17=true:=by have:=hd _ rfl;simp [Region.binds] at this;simp [this]
         have f10:=(hv 10 27 rfl j10).trans (hk 10 (by omega) (by omega) j10)
         have f17:=hv 17 34 rfl j17
         refine Ri.step_wanted (b:=false) rfl rfl rfl f10 (fun K' hK'=>?_)
         obtain ⟨e8,-⟩:=hM
         replace f17:=f17.trans e8
         go_simp
         exact hK' _ _ ⟨_,_,rfl,rfl,rfl,rfl⟩
     · intro L v w9 xa hF9 hall hv ho
       obtain ⟨hb,hk⟩:=hF9
       have j0:=hall 0 (by omega) (by omega) rfl
       have f0:=(hv 0 17 rfl j0).trans (hk 0 j0)
       have j1:=hall 1 (by omega) (by omega) rfl
       have f1:=(hv 1 18 rfl j1).trans (hk 1 j1)
       have j2:=hall 2 (by omega) (by omega) rfl
       have f2:=(hv 2 19 rfl j2).trans (hk 2 j2)
       have j3:=hall 3 (by omega) (by omega) rfl
       have f3:=(hv 3 20 rfl j3).trans (hk 3 j3)
       have j4:=hall 4 (by omega) (by omega) rfl
       have f4:=(hv 4 21 rfl j4).trans (hk 4 j4)
       have j5:=hall 5 (by omega) (by omega) rfl
       have f5:=(hv 5 22 rfl j5).trans (hk 5 j5)
       have j6:=hall 6 (by omega) (by omega) rfl
       have f6:=(hv 6 23 rfl j6).trans (hk 6 j6)
       have j7:=hall 7 (by omega) (by omega) rfl
       have f7:=(hv 7 24 rfl j7).trans (hk 7 j7)
       have j8:=hall 8 (by omega) (by omega) rfl
       have f8:=(hv 8 25 rfl j8).trans (hk 8 j8)
       have j9:=hall 9 (by omega) (by omega) rfl
       have f9:=(hv 9 26 rfl j9).trans (hk 9 j9)
       have j10:=hall 10 (by omega) (by omega) rfl
       have f10:=(hv 10 27 rfl j10).trans (hk 10 j10)
       have j11:=hall 11 (by omega) (by omega) rfl
       have f11:=(hv 11 28 rfl j11).trans (hk 11 j11)
       have j12:=hall 12 (by omega) (by omega) rfl
       have f12:=(hv 12 29 rfl j12).trans (hk 12 j12)
       have j13:=hall 13 (by omega) (by omega) rfl
       have f13:=(hv 13 30 rfl j13).trans (hk 13 j13)
       have j14:=hall 14 (by omega) (by omega) rfl
       have f14:=(hv 14 31 rfl j14).trans (hk 14 j14)
       have j15:=hall 15 (by omega) (by omega) rfl
       have f15:=(hv 15 32 rfl j15).trans (hk 15 j15)
       have j16:=hall 16 (by omega) (by omega) rfl
       have f16:=(hv 16 33 rfl j16).trans (hk 16 j16)
       refine Ri.step_wanted (b:=false) rfl rfl rfl f10 (fun K' hK'=>?_)
       have hcall:=HCALL.out w9 hb
       go_simp
       refine hcall.mono ?_
       rintro e w8 ⟨rfl,ht8,hc8⟩
       exact hK' _ _ ⟨_,_,rfl,rfl,⟨rfl,(Touch.of_below [bn] hb).trans ht8,hc8⟩⟩
     · intro L v w9 xa hM hall hk hv ho
       have f0:=(hv 0 17 rfl (hall 0 (by omega))).trans (hk 0 (by omega) (by omega))
       have f1:=(hv 1 18 rfl (hall 1 (by omega))).trans (hk 1 (by omega) (by omega))
       have f2:=(hv 2 19 rfl (hall 2 (by omega))).trans (hk 2 (by omega) (by omega))
       have f3:=(hv 3 20 rfl (hall 3 (by omega))).trans (hk 3 (by omega) (by omega))
       have f4:=(hv 4 21 rfl (hall 4 (by omega))).trans (hk 4 (by omega) (by omega))
       have f5:=(hv 5 22 rfl (hall 5 (by omega))).trans (hk 5 (by omega) (by omega))
       have f6:=(hv 6 23 rfl (hall 6 (by omega))).trans (hk 6 (by omega) (by omega))
       have f7:=(hv 7 24 rfl (hall 7 (by omega))).trans (hk 7 (by omega) (by omega))
       have f8:=(hv 8 25 rfl (hall 8 (by omega))).trans (hk 8 (by omega) (by omega))
       have f9:=(hv 9 26 rfl (hall 9 (by omega))).trans (hk 9 (by omega) (by omega))
       have f10:=(hv 10 27 rfl (hall 10 (by omega))).trans (hk 10 (by omega) (by omega))
       have f11:=(hv 11 28 rfl (hall 11 (by omega))).trans (hk 11 (by omega) (by omega))
       have f12:=(hv 12 29 rfl (hall 12 (by omega))).trans (hk 12 (by omega) (by omega))
       have f13:=(hv 13 30 rfl (hall 13 (by omega))).trans (hk 13 (by omega) (by omega))
       have f14:=(hv 14 31 rfl (hall 14 (by omega))).trans (hk 14 (by omega) (by omega))
       have f15:=(hv 15 32 rfl (hall 15 (by omega))).trans (hk 15 (by omega) (by omega))
       have f16:=(hv 16 33 rfl (hall 16 (by omega))).trans (hk 16 (by omega) (by omega))
       have f17:=hv 17 34 rfl (hall 17 (by omega))
       have f18:=(hv 18 35 rfl (hall 18 (by omega))).trans (hk 18 (by omega) (by omega))
       refine Ri.step_plain rfl rfl (fun K' hK'=>?_)
       go_simp
       exact hK' _ _ ⟨_,_,rfl,rfl,⟨by rw [Ri.up_same],hM.2.1,hM.2.2⟩⟩
     · intro v w9 hfin
       obtain ⟨e36,ht8,hc8⟩:=hfin
       simp only [Ri.frame,List.zipIdx,List.foldl_cons,List.foldl_nil,if_true,List.setIfInBounds_toArray,List.set_cons_zero,List.set_cons_succ,Nat.reduceAdd,e36]
       generalize v 0=z0;generalize v 1=z1;generalize v 2=z2;generalize v 3=z3;generalize v 4=z4;generalize v 5=z5;generalize v 6=z6;generalize v 7=z7;generalize v 8=z8;generalize v 9=z9;generalize v 10=z10;generalize v 11=z11;generalize v 12=z12;generalize v 13=z13;generalize v 14=z14;generalize v 15=z15;generalize v 16=z16;generalize v 17=z17;generalize v 18=z18
       have HTN:=Lib.hid (HT1.out.trans ht8)
       have HCN:=Lib.hid (show CntAt w9 bn (k+Tr.ndS (ts.take (m+1))) by rw [← HNE.out];exact hc8)
       have XN:=Lib.hid ((ht8.block w.heap.size (by omega) (by simp;omega)).trans X1.out)
       have hsn:w.heap.size < w9.heap.size:=by have:=ht8.size;omega
       clear ht8 hc8 HCALL
       go_wp2
       exact ⟨⟨m+1,by go_num,by omega,HTN,HCN,XN,hsn⟩,by simp [intOf];omega⟩
end Go.Proofs.YtogdjbnejpennaaDoor
namespace Go.Proofs.YtogdjbnejpennaaDoor
open Go.RowKit
theorem apart_any (x:Tr) (w:World) (s:Value) (F:List Nat) (ho:Owned w s x.subs F) (hn:Tr.ndS x.subs ≤ 4000000) :
   Calls Tryd.prog 52 #[.agg (x.cells s)] w fun e w'=>e=.returned (.bool true)∧Touch F w w':=by
 obtain ⟨p,cap,rfl,-⟩:=ho.slice
 obtain ⟨z0,z1⟩:=two_new w (.cells (x.cells (.slice p x.subs.length cap)) 37) (.cells #[.int .i64 0] 3)
 have hb0:Below w.heap.size w ((w.alloc (.cells (x.cells (.slice p x.subs.length cap)) 37)).alloc (.cells #[.int .i64 0] 3)):=by go_grown
 have hs0:((w.alloc (.cells (x.cells (.slice p x.subs.length cap)) 37)).alloc (.cells #[.int .i64 0] 3)).heap.size=w.heap.size+2:=by simp
 have HO:=Lib.hid (ho.later hb0)
 have HFL:=Lib.hid ho.lt
 have Z0:=Lib.hid z0;have HB0:=Lib.hid hb0;have HS0:=Lib.hid hs0;have HN:=Lib.hid hn
 have HC:=Lib.hid (show CntAt ((w.alloc (.cells (x.cells (.slice p x.subs.length cap)) 37)).alloc (.cells #[.int .i64 0] 3)) (w.heap.size+1) 0 from z1)
 clear ho z0 z1 hb0 hs0 hn
 unfold Tr.cells at *
 go_enter Tryd.func52,Tryd.ntmps52
 go_upto_region 2 with (fail)
 generalize (w.alloc _).alloc _=W0 at *
 have HM:=Lib.hid (mark_any x x rfl W0 (.slice p x.subs.length cap) F (w.heap.size+1) 0 HO.out (fun hm=>by have:=HFL.out _ hm;omega) HC.out (by have:=HN.out;omega))
 unfold Tr.cells at HM
 go_wp2_with (first
   | (refine wpList_load_row rfl 37 (.tmp 1) rfl w.heap.size rfl 37 _ (0,0) _ Z0.out Tryd.underlying37 rfl (by kernel_rfl) ?_)
   | fail)
 refine HM.out.mono ?_
 rintro e w1 ⟨rfl,ht1,ho1,hc1⟩
 have hs1:=ht1.size
 have hx1:w1.heap[w.heap.size]? = some (.cells #[.int .i64 x.kind,.int .u64 (Oc.U x.w0),.int .u64 (Oc.U x.w1),.int .u64 (Oc.U x.w2),.int .u64 (Oc.U x.w3),.slice p x.subs.length cap,.int .i64 x.num,.int .i64 x.least,.int .i64 x.most,.bool x.bare] 37) :=
   (ht1.block w.heap.size (by have:=HS0.out;omega) (fun hm=>by
     rcases List.mem_cons.1 hm with e | hm
     · omega
     · have:=HFL.out _ hm;omega)).trans Z0.out
 have hba:Below w1.heap.size w1 (w1.alloc (.cells #[.int .i64 0] 3)):=(Below.refl _ _).alloc (Nat.le_refl _) _
 have hs2:(w1.alloc (.cells #[.int .i64 0] 3)).heap.size=w1.heap.size+1:=by simp
 have X2:=Lib.hid (keep_blk hba hx1)
 have HN2:=Lib.hid (show CntAt (w1.alloc (.cells #[.int .i64 0] 3)) (w.heap.size+1) (0+Tr.ndS x.subs) from keep_blk hba hc1)
 have HM2:=Lib.hid (show CntAt (w1.alloc (.cells #[.int .i64 0] 3)) w1.heap.size 0 from heap_alloc_new w1 _)
 have hlt1:=ho1.lt
 have HTR:=Lib.hid ((ho1.trees.mono (B':=fun b=>b ≠ w1.heap.size) fun b hb _=>by omega).later hba)
 have HTT:=Lib.hid ((Touch.of_below ((w.heap.size+1) :: F) HB0.out).trans (ht1.trans (Touch.of_below ((w.heap.size+1) :: F) hba)))
 have HS2:=Lib.hid (show w.heap.size+2 ≤ w1.heap.size from by have:=HS0.out;omega)
 have HS3:=Lib.hid hs2
 clear ht1 ho1 hc1 hs1 hx1 hba hs2 hlt1 HM HC HO Z0 HB0 HS0
 go_upto_region 4 with (fail)
 generalize w1.alloc _=w2 at *
 have HMK:=Lib.hid (marked_any x (.node x.kind x.w0 x.w1 x.w2 x.w3 (Tr.nuL x.subs 0) x.num x.least x.most x.bare) 0 rfl w2 (.slice p x.subs.length cap) w1.heap.size HTR.out HM2.out (by have:=HN.out;omega))
 unfold Tr.cells at HMK
 go_wp2_with (first
   | (refine wpList_load_row rfl 37 (.tmp 1) rfl w.heap.size rfl 37 _ (0,0) _ X2.out Tryd.underlying37 rfl (by kernel_rfl) ?_)
   | fail)
 refine HMK.out.mono ?_
 rintro e w3 ⟨rfl,ht3,hc3⟩
 have hn3:CntAt w3 (w.heap.size+1) (0+Tr.ndS x.subs):=(ht3.block (w.heap.size+1) (by have:=HS2.out;have:=HS3.out;omega) (by simp;have:=HS2.out;omega)).trans HN2.out
 obtain ⟨cm,-⟩:=hc3.cell
 obtain ⟨cn,-⟩:=hn3.cell
 have HT3:=Lib.hid (show Touch F w w3 from ⟨ht3.os.trans HTT.out.os,ht3.tape.trans HTT.out.tape,ht3.output.trans HTT.out.output,Nat.le_trans HTT.out.size ht3.size,fun k hk hkF=>(ht3.block k (Nat.lt_of_lt_of_le hk HTT.out.size) (by simp;have:=HS2.out;omega)).trans (HTT.out.block k hk (fun hm=>by
   rcases List.mem_cons.1 hm with e | hm
   · omega
   · exact hkF hm))⟩)
 clear ht3 hc3 hn3 HMK HTT HTR HN2 HM2 X2
 go_wp2
 go_ret
 exact ⟨rfl,HT3.out⟩
theorem expandowns_any (A:Nat→Addr) (t:Tr) (w:World) (hE:ErrsC w A) (B:Nat→Prop) (v:Value) (hv:NodeV w B v t) :
   Calls Tryd.prog 8 #[v] w fun e w'=>e=.returned (.bool true)∧Below w.heap.size w w':=by
 have HE:=Lib.hid (fun w9 (h:Below w.heap.size w w9)=>hE.below h)
 have HLV:=Lib.hid (fun w9 (h:Below w.heap.size w w9)=>exlives_any A w9 (hE.below h))
 obtain ⟨s,rfl,hs⟩:=hv
 obtain ⟨p,cap,rfl,-⟩:=hs.slice
 have HV:=Lib.hid (fun w9 (hb:Below w.heap.size w w9)=>(show NodeV w9 B (.agg (t.cells (.slice p t.subs.length cap))) t from ⟨_,rfl,hs.later hb⟩))
 clear hs hE
 have HF:=Lib.hid (fun w9 (hb:Below w.heap.size w w9)=>few_any t 3000 (by omega) w9 B _ (HV.out w9 hb))
 have HT:=Lib.hid (heap_alloc_new w (.cells (t.cells (.slice p t.subs.length cap)) 37))
 have HW:=Lib.hid (show Below w.heap.size w (w.alloc (.cells (t.cells (.slice p t.subs.length cap)) 37)) from (Below.refl _ _).alloc (Nat.le_refl _) _)
 unfold Tr.cells at *
 go_enter Tryd.func8,Tryd.ntmps8
 go_upto_region 1 with (fail)
 generalize w.alloc _=w0 at *
 go_wp2_with fail
 refine (HLV.out w0 HW.out).mono ?_
 rintro e w1 ⟨rfl,hb1⟩
 have HB1:=Lib.hid (HW.out.trans (hb1.mono HW.out.size));have T1:=Lib.hid (keep_blk hb1 HT.out)
 clear hb1 HLV HW HT
 go_wp2_with (first
   | (refine wpList_load_row rfl 37 (.tmp 1) rfl w.heap.size rfl 37 _ (0,0) _ T1.out Tryd.underlying37 rfl (by kernel_rfl) ?_)
   | fail)
 refine (HF.out w1 HB1.out).mono ?_
 rintro e w2 ⟨rfl,hb2⟩
 have HB2:=Lib.hid (HB1.out.trans (hb2.mono HB1.out.size));have T2:=Lib.hid (keep_blk hb2 T1.out)
 clear hb2 HF HB1 T1
 by_cases hf:t.ndT ≤ 3000
 case neg =>
   rw [decide_eq_false hf]
   go_wp2
   go_ret
   exact ⟨rfl,HB2.out⟩
 rw [decide_eq_true hf]
 have hd:t.dpT ≤ 1000000:=by have:=Tr.dp_nd t;omega
 by_cases hc:t.checkC=0
 case neg =>
   have HX:=Lib.hid (fun w9 (hb:Below w.heap.size w w9)=>expand_no A t hd hc w9 (HE.out w9 hb) B _ (HV.out w9 hb))
   obtain ⟨ty,ad,hn⟩:=(show ∃ ty a,sentV A t.checkC=.iface ty (.pointer (some a)) from ⟨_,_,if_neg hc⟩)
   rw [hn] at HX
   clear hc hn hf hd
   go_wp2_with (first
     | (refine wpList_load_row rfl 37 (.tmp 1) rfl w.heap.size rfl 37 _ (0,0) _ T2.out Tryd.underlying37 rfl (by kernel_rfl) ?_)
     | fail)
   refine (HX.out w2 HB2.out).mono ?_
   rintro e w3 ⟨rfl,hb3⟩
   have HB:=Lib.hid ((HB2.out.trans (hb3.mono HB2.out.size)).alloc (HB2.out.trans (hb3.mono HB2.out.size)).size (.cells noNode 37))
   clear hb3 HX HB2 T2
   go_wp2
   go_ret
   exact ⟨rfl,HB.out⟩
 case pos =>
   obtain ⟨hif,hd2,hz2⟩:=Tr.checkC_zero.1 hc
   have hnx:=Tr.nd_ex t hif hz2
   have HX:=Lib.hid (fun w9 (hb:Below w.heap.size w w9)=>expand_yes A t hc w9 (HE.out w9 hb) B _ (HV.out w9 hb))
   have HNX:=Lib.hid (show Tr.ndS t.exT.subs ≤ 4000000 from by rw [Tr.ndT_eq] at hnx;omega)
   generalize t.exT=R at *
   clear hc hif hf hd hd2 hz2 hnx
   unfold Tr.cells at HX
   go_wp2_with (first
     | (refine wpList_load_row rfl 37 (.tmp 1) rfl w.heap.size rfl 37 _ (0,0) _ T2.out Tryd.underlying37 rfl (by kernel_rfl) ?_)
     | fail)
   refine (HX.out w2 HB2.out).mono ?_
   rintro e w3 ⟨s3,F3,rfl,ho3,hF3,hb3⟩
   obtain ⟨p3,c3,rfl,-⟩:=ho3.slice
   have hba:Below w3.heap.size w3 (w3.alloc (.cells #[.int .i64 R.kind,.int .u64 (Oc.U R.w0),.int .u64 (Oc.U R.w1),.int .u64 (Oc.U R.w2),.int .u64 (Oc.U R.w3),.slice p3 R.subs.length c3,.int .i64 R.num,.int .i64 R.least,.int .i64 R.most,.bool R.bare] 37)):=(Below.refl _ _).alloc (Nat.le_refl _) _
   have HB:=Lib.hid ((HB2.out.trans (hb3.mono HB2.out.size)).trans (hba.mono (Nat.le_trans HB2.out.size hb3.size)))
   have YX:=Lib.hid (heap_alloc_new w3 (.cells #[.int .i64 R.kind,.int .u64 (Oc.U R.w0),.int .u64 (Oc.U R.w1),.int .u64 (Oc.U R.w2),.int .u64 (Oc.U R.w3),.slice p3 R.subs.length c3,.int .i64 R.num,.int .i64 R.least,.int .i64 R.most,.bool R.bare] 37))
   have HO3:=Lib.hid (ho3.later hba)
   have HF3:=Lib.hid (show ∀ b,b ∈ F3→w.heap.size ≤ b from fun b hb=>Nat.le_trans HB2.out.size (hF3 b hb))
   clear ho3 hF3 hb3 hba HX HB2 T2
   go_upto_region 6 with (fail)
   generalize w3.alloc _=w4 at *
   have HAP:=Lib.hid (apart_any R w4 (.slice p3 R.subs.length c3) F3 HO3.out HNX.out)
   unfold Tr.cells at HAP
   obtain ⟨q0,q1,q2,q3,q4,q5,q6,q7,q8,q9⟩:=allTen YX.out
   go_wp2_with fail
   clear q0 q1 q2 q3 q4 q5 q6 q7 q8 q9
   refine HAP.out.mono ?_
   rintro e w5 ⟨rfl,ht5⟩
   have HB5:=Lib.hid (HB.out.trans (ht5.below HF3.out HB.out.size))
   clear ht5 HAP
   go_wp2
   go_ret
   exact ⟨rfl,HB5.out⟩
end Go.Proofs.YtogdjbnejpennaaDoor
namespace Go.Proofs.YtogdjbnejpennaaDoor
open Go.ChangeShapes Go.WideShapes Go.ChangeAt Go.RowKit
def errThree : List (String × DataW Unit) := [("trawl/api.ErrTooBig", Rows.laid_trawl_api_ErrTooBig), ("trawl/api.ErrTree", Rows.laid_trawl_api_ErrTree), ("trawl/api.ErrDeep", Rows.laid_trawl_api_ErrDeep)]
theorem errsC_of {W:World} {l:List (String × DataW Unit)} (h:laidMet Tryd.prog l W) (hl:∀ x,x ∈ errThree→x ∈ l):∃ A,ErrsC W A:=by
 obtain ⟨a9, h9⟩ := sent_of (t := errPre ++ errWords.getD 9 []) (g := errVars.getD 9 0) h (hl _ (show ("trawl/api.ErrTooBig", sentDatum (errPre ++ errWords.getD 9 [])) ∈ errThree from List.mem_cons_self)) (by kernel_rfl) (by kernel_rfl)
 obtain ⟨a12, h12⟩ := sent_of (t := errPre ++ errWords.getD 12 []) (g := errVars.getD 12 0) h (hl _ (show ("trawl/api.ErrTree", sentDatum (errPre ++ errWords.getD 12 [])) ∈ errThree from List.mem_cons_of_mem _ List.mem_cons_self)) (by kernel_rfl) (by kernel_rfl)
 obtain ⟨a13, h13⟩ := sent_of (t := errPre ++ errWords.getD 13 []) (g := errVars.getD 13 0) h (hl _ (show ("trawl/api.ErrDeep", sentDatum (errPre ++ errWords.getD 13 [])) ∈ errThree from List.mem_cons_of_mem _ (List.mem_cons_of_mem _ List.mem_cons_self))) (by kernel_rfl) (by kernel_rfl)
 refine ⟨fun k=>if k=9 then a9 else if k=12 then a12 else a13,fun k hk=>?_⟩
 simp only [List.mem_cons,List.not_mem_nil,or_false] at hk
 rcases hk with rfl | rfl | rfl
 · exact h9
 · exact h12
 · exact h13
theorem rk_env_of {l:List (String × DataW Unit)} {W:World} (h:laidMetH Tryd.prog l W) (hl:∀ x,x ∈ errThree→x ∈ l):∃ A,ErrsC W A :=
 errsC_of (im_laid_split h) (fun x hx=>List.mem_filter.2 ⟨hl x hx,by simp only [errThree,List.mem_cons,List.not_mem_nil,or_false] at hx;rcases hx with rfl | rfl | rfl <;> rfl⟩)
end Go.Proofs.YtogdjbnejpennaaDoor
