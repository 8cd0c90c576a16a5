/- Part 5 of what these proofs need. -/
import Derived.LaidLaws
import Derived.ChangeSame
import Derived.ChangeMaps5
import Derived.Deep.Strs
import Derived.ChangeArms
import Derived.Test.YtnaoiglbjkjogaaDoorOe4
set_option maxRecDepth 100000
set_option maxHeartbeats 16000000
namespace Go.Proofs.YtnaoiglbjkjogaaDoor
namespace Tr
theorem dpS_nd:∀ {l:List Tr},(∀ t,t ∈ l→t.dpT ≤ 2 * t.ndT)→dpS l ≤ 2 * ndS l
 | [],_=>by simp [dpS]
 | t :: l,h=>by
   have h1:=h t List.mem_cons_self
   have h2:=dpS_nd (l:=l) fun u hu=>h u (List.mem_cons_of_mem _ hu)
   rw [dpS,ndS];omega
theorem dp_nd (t:Tr):t.dpT ≤ 2 * t.ndT:=by
 induction t using Tr.rec_subs with
 | h t ih =>
   have h:=dpS_nd ih
   rw [dpT_eq,ndT_eq]
   split
   · omega
   · split <;> omega
end Tr
end Go.Proofs.YtnaoiglbjkjogaaDoor
namespace Go.Proofs.YtnaoiglbjkjogaaDoor
open Go.RowKit
theorem Rk.numsS_nd:∀ (l:List Tr),(∀ t,t ∈ l→(Rk.nums t).length ≤ t.ndT)→(Rk.numsS l).length ≤ Tr.ndS l
 | [],_=>by rw [Rk.numsS];exact Nat.zero_le _
 | t :: l,h=>by
   have a:=h t List.mem_cons_self
   have b:=Rk.numsS_nd l (fun u hu=>h u (List.mem_cons_of_mem _ hu))
   rw [Rk.numsS,List.length_append,Tr.ndS]
   omega
theorem Rk.nums_nd (t:Tr):(Rk.nums t).length ≤ t.ndT:=by
 induction t using Tr.rec_subs with
 | h t ih =>
   have a:=Rk.numsS_nd t.subs ih
   rw [Rk.nums_eq,Tr.ndT_eq]
   split
   · rw [List.length_cons];omega
   · omega
theorem three_cellsC {w:World} {b:Nat} {x0 x1 x2:Value} {t:TypeId} (h:w.heap[b]? = some (.cells #[x0,x1,x2] t)):w.cell? ⟨b,0,none⟩=some x0∧w.cell? ⟨b,1,none⟩=some x1∧w.cell? ⟨b,2,none⟩=some x2:=by
 refine ⟨?_, ?_, ?_⟩ <;> (unfold World.cell?;rw [h];rfl)
theorem SpRow.ofsp {w:World} {g n:Nat} {G:Nat→Int × Int} (h:w.heap[g]? = some (.cells (sp n G) 70)):SpRow w g n G :=
 ⟨_,h,Nat.le_of_eq (sp_size n G).symm,fun _ hk=>sp_get G hk⟩
theorem SpRow.touch {w w':World} {g g1 n:Nat} {G:Nat→Int × Int} (h:SpRow w g n G) (ht:Touch [g1] w w') (hne:g ≠ g1):SpRow w' g n G:=by
 have hl:=h.lt
 obtain ⟨arr,ha,h1,h2⟩:=h
 exact ⟨arr,(ht.block g hl (by simpa using hne)).trans ha,h1,h2⟩
theorem rankchecks_any (A:Nat→Addr) (t:Tr) (s:ByteArray) (c e0:Int) (q:Pa) (g:Int) (w:World) (hE:ErrsC w A) (v0 v2:Value) (hv:NodeC w (fun _=>True) v0 t) (hq:PaV w (fun _=>True) v2 q) :
   Calls Tryd.prog 5 #[v0,.agg #[.string s,.int .i64 c,.int .i64 e0],v2,.int .i64 g] w fun e w'=>e=.returned (.bool true)∧Below w.heap.size w w':=by
 have HLV:=Lib.hid (fun w9 (h:Below w.heap.size w w9)=>rklives_any A w9 (hE.below h))
 have HFT:=Lib.hid (fun w9 (h:Below w.heap.size w w9)=>few_any t 2500 (by omega) w9 _ v0 (hv.plain.later h))
 have HFQ:=Lib.hid (fun w9 (h:Below w.heap.size w w9)=>pafew_any q 3000 (by omega) w9 _ v2 (hq.later h))
 have HVV:=Lib.hid (fun w9 (h:Below w.heap.size w w9)=>hv.later h)
 have HQQ:=Lib.hid (fun w9 (h:Below w.heap.size w w9)=>hq.later h)
 have HE:=Lib.hid hE
 obtain ⟨s0,rfl,k0⟩:=hv;obtain ⟨p,cap,rfl,-,-⟩:=k0.slice
 obtain ⟨s2,rfl,k2⟩:=hq;obtain ⟨p2,c2,rfl,-⟩:=k2.slice
 clear k0 k2 hE
 unfold Tr.cells Pa.cells at *
 have HT:=Lib.hid (three_newR w (.cells #[.int .i64 t.kind,.int .u64 (Oc.U t.w0),.int .u64 (Oc.U t.w1),.int .u64 (Oc.U t.w2),.int .u64 (Oc.U t.w3),.slice p t.subs.length cap,.int .i64 t.num,.int .i64 t.least,.int .i64 t.most,.bool t.bare] 37) (.cells #[.string s,.int .i64 c,.int .i64 e0] 39) (.cells #[.int .i64 q.lo,.int .i64 q.hi,.int .i64 q.pick,.slice p2 q.subs.length c2] 57))
 have HW:=Lib.hid (show Below w.heap.size w (((w.alloc (.cells #[.int .i64 t.kind,.int .u64 (Oc.U t.w0),.int .u64 (Oc.U t.w1),.int .u64 (Oc.U t.w2),.int .u64 (Oc.U t.w3),.slice p t.subs.length cap,.int .i64 t.num,.int .i64 t.least,.int .i64 t.most,.bool t.bare] 37)).alloc (.cells #[.string s,.int .i64 c,.int .i64 e0] 39)).alloc (.cells #[.int .i64 q.lo,.int .i64 q.hi,.int .i64 q.pick,.slice p2 q.subs.length c2] 57)) from by go_grown)
 go_enter Tryd.func5,Tryd.ntmps5
 go_upto_region 1 with (fail)
 generalize ((w.alloc (.cells #[.int .i64 t.kind,.int .u64 (Oc.U t.w0),.int .u64 (Oc.U t.w1),.int .u64 (Oc.U t.w2),.int .u64 (Oc.U t.w3),.slice p t.subs.length cap,.int .i64 t.num,.int .i64 t.least,.int .i64 t.most,.bool t.bare] 37)).alloc (.cells #[.string s,.int .i64 c,.int .i64 e0] 39)).alloc (.cells #[.int .i64 q.lo,.int .i64 q.hi,.int .i64 q.pick,.slice p2 q.subs.length c2] 57)=w0 at *
 go_wp2_with fail
 refine (HLV.out w0 HW.out).mono ?_
 rintro e w1 ⟨rfl,hb1⟩
 have HB:=Lib.hid (HW.out.trans (hb1.mono HW.out.size))
 have X0:=Lib.hid (keep_blk hb1 HT.out.1);have X1:=Lib.hid (keep_blk hb1 HT.out.2.1);have X2:=Lib.hid (keep_blk hb1 HT.out.2.2)
 clear hb1 HT HW HLV
 obtain ⟨d0,d1,d2,d3,d4,d5,d6,d7,d8,d9⟩:=allTen X0.out
 go_wp2_with fail
 refine (HFT.out w1 HB.out).mono ?_
 rintro e w2 ⟨rfl,hb2⟩
 have HBn:=Lib.hid (HB.out.trans (hb2.mono HB.out.size))
 have YX0:=Lib.hid (keep_blk hb2 X0.out)
 have YX1:=Lib.hid (keep_blk hb2 X1.out)
 have YX2:=Lib.hid (keep_blk hb2 X2.out)
 clear hb2 HB X0 X1 X2 d0 d1 d2 d3 d4 d5 d6 d7 d8 d9
 have HB:=HBn;have X0:=YX0;have X1:=YX1;have X2:=YX2
 clear HBn YX0 YX1 YX2
 by_cases hf:t.ndT ≤ 2500
 case neg =>
   rw [decide_eq_false hf]
   clear hf HFQ
   go_wp2
   go_ret
   exact ⟨rfl,HB.out⟩
 rw [decide_eq_true hf]
 have HND:=Lib.hid hf
 clear hf HFT
 obtain ⟨x0,x1,x2,x3,-,-,-,-⟩:=four X2.out
 go_wp2_with fail
 refine (HFQ.out w2 HB.out).mono ?_
 rintro e w3 ⟨rfl,hb3⟩
 have HBn:=Lib.hid (HB.out.trans (hb3.mono HB.out.size))
 have YX0:=Lib.hid (keep_blk hb3 X0.out)
 have YX1:=Lib.hid (keep_blk hb3 X1.out)
 have YX2:=Lib.hid (keep_blk hb3 X2.out)
 clear hb3 HB X0 X1 X2 x0 x1 x2 x3
 have HB:=HBn;have X0:=YX0;have X1:=YX1;have X2:=YX2
 clear HBn YX0 YX1 YX2
 by_cases hg:q.ndT ≤ 3000
 case neg =>
   rw [decide_eq_false hg]
   clear hg HFQ
   go_wp2
   go_ret
   exact ⟨rfl,HB.out⟩
 rw [decide_eq_true hg]
 have HQD:=Lib.hid hg
 clear hg HFQ
 obtain ⟨u0,u1,u2⟩:=three_cellsC X1.out
 by_cases hs5:s.size ≤ 500
 case neg =>
   have g5:decide ((s.size:Int) > 500)=true:=decide_eq_true (by omega)
   have g5':decide (500 < (s.size:Int))=true:=decide_eq_true (by omega)
   clear hs5
   go_wp2
   go_ret
   exact ⟨rfl,HB.out⟩
 have g5:decide ((s.size:Int) > 500)=false:=decide_eq_false (by omega)
 have g5':decide (500 < (s.size:Int))=false:=decide_eq_false (by omega)
 have HS5:=Lib.hid hs5
 clear hs5
 have HTS:=Lib.hid (show (Sc.new s c e0).t.size ≤ 4611686018427387904 by have:=HS5.out;show s.size ≤ _;omega)
 have HDP:=Lib.hid (show t.dpT ≤ 1000000 by have:=Tr.dp_nd t;have:=HND.out;omega)
 have HNL:=Lib.hid (show (Rk.nums t).length ≤ 500000 by have:=Rk.nums_nd t;have:=HND.out;omega)
 have HRS:=Lib.hid (fun w9 (hb:Below w.heap.size w w9)=>rrkspans_any s c e0 (by have:=HS5.out;omega) t HDP.out HNL.out q (by have:=HQD.out;omega) g w9 (.agg #[.int .i64 t.kind,.int .u64 (Oc.U t.w0),.int .u64 (Oc.U t.w1),.int .u64 (Oc.U t.w2),.int .u64 (Oc.U t.w3),.slice p t.subs.length cap,.int .i64 t.num,.int .i64 t.least,.int .i64 t.most,.bool t.bare]) (.agg #[.int .i64 q.lo,.int .i64 q.hi,.int .i64 q.pick,.slice p2 q.subs.length c2]) (HVV.out w9 hb) (HQQ.out w9 hb))
 unfold RspEnd at HRS
 go_wp2_with fail
 refine (scnew_any s c e0 w3).mono ?_
 rintro e w4 ⟨rfl,hx,hb4,-⟩
 have HX4:=Lib.hid hx
 clear hx u0 u1 u2 g5 g5'
 have HBn:=Lib.hid (HB.out.trans (hb4.mono HB.out.size))
 have YX0:=Lib.hid (keep_blk hb4 X0.out)
 have YX1:=Lib.hid (keep_blk hb4 X1.out)
 have YX2:=Lib.hid (keep_blk hb4 X2.out)
 clear hb4 HB X0 X1 X2
 have HB:=HBn;have X0:=YX0;have X1:=YX1;have X2:=YX2
 clear HBn YX0 YX1 YX2
 generalize w3.heap.size=gx at *
 obtain ⟨u0,u1,u2⟩:=three_cellsC X1.out
 go_upto_region 7 with (first
   | (refine wpList_store_row rfl 61 (.tmp 10) (.tmp 47) rfl w4.heap.size #[.string s,.int .i64 c,.int .i64 e0,.bool false] rfl rfl 61 _ (heap_alloc_new _ _) (by kernel_rfl) rfl (by simp [Value.oneCell']) ?_)
   | fail)
 have hb5:Below w4.heap.size w4 (World.setRow (w4.alloc (.cells #[.string ⟨#[]⟩,.int .i64 0,.int .i64 0,.bool false] 61)) w4.heap.size #[.string s,.int .i64 c,.int .i64 e0,.bool false]):=below_setRow ((Below.refl _ _).alloc (Nat.le_refl _) _) (Nat.le_refl _) _
 have YS:=Lib.hid (show (World.setRow (w4.alloc (.cells #[.string ⟨#[]⟩,.int .i64 0,.int .i64 0,.bool false] 61)) w4.heap.size #[.string s,.int .i64 c,.int .i64 e0,.bool false]).heap[w4.heap.size]? = some (.cells #[.string s,.int .i64 c,.int .i64 e0,.bool false] 61) from heap_setRow (heap_alloc_new _ _))
 have HX5:=Lib.hid (HX4.out.below hb5)
 clear u0 u1 u2 HX4
 have HBn:=Lib.hid (HB.out.trans (hb5.mono HB.out.size))
 have YX0:=Lib.hid (keep_blk hb5 X0.out)
 have YX1:=Lib.hid (keep_blk hb5 X1.out)
 have YX2:=Lib.hid (keep_blk hb5 X2.out)
 clear hb5 HB X0 X1 X2
 have HB:=HBn;have X0:=YX0;have X1:=YX1;have X2:=YX2
 clear HBn YX0 YX1 YX2
 generalize (World.setRow (w4.alloc (.cells #[.string ⟨#[]⟩,.int .i64 0,.int .i64 0,.bool false] 61)) w4.heap.size #[.string s,.int .i64 c,.int .i64 e0,.bool false])=w5 at *
 generalize w4.heap.size=gs at *
 try simp only [Act.put]
 have HCP:=Lib.hid (fun w9 (hb:Below w5.heap.size w5 w9)=>show Calls Tryd.prog 30 #[.agg #[.int .i64 t.kind,.int .u64 (Oc.U t.w0),.int .u64 (Oc.U t.w1),.int .u64 (Oc.U t.w2),.int .u64 (Oc.U t.w3),.slice p t.subs.length cap,.int .i64 t.num,.int .i64 t.least,.int .i64 t.most,.bool t.bare],.pointer (some ⟨gx,0,none⟩),.agg #[.int .i64 q.lo,.int .i64 q.hi,.int .i64 q.pick,.slice p2 q.subs.length c2]] w9 (fun e w'=>e=.returned (.bool (Rk.chk (Sc.new s c e0) t q))∧Below w9.heap.size w9 w') from
   have hb9:=HB.out.trans (hb.mono HB.out.size)
   rkcheck_any A (Sc.new s c e0) gx HTS.out t HDP.out q w9 (HE.out.below hb9) (HX5.out.below hb) _ _ _ _ (HVV.out w9 hb9).plain (HQQ.out w9 hb9))
 have HCR:=Lib.hid (fun w9 (hb:Below w5.heap.size w5 w9)=>show Calls Tryd.prog 31 #[.agg #[.int .i64 t.kind,.int .u64 (Oc.U t.w0),.int .u64 (Oc.U t.w1),.int .u64 (Oc.U t.w2),.int .u64 (Oc.U t.w3),.slice p t.subs.length cap,.int .i64 t.num,.int .i64 t.least,.int .i64 t.most,.bool t.bare],.agg #[.string s,.int .i64 c,.int .i64 e0,.bool false],.agg #[.int .i64 q.lo,.int .i64 q.hi,.int .i64 q.pick,.slice p2 q.subs.length c2]] w9 (fun e w'=>e=.returned (.bool (Rk.chk (Sc.new s c e0) t q))∧Below w9.heap.size w9 w') from
   have hb9:=HB.out.trans (hb.mono HB.out.size)
   rrkcheck_any s c e0 (by have:=HS5.out;omega) t HDP.out q (by have:=HQD.out;omega) w9 _ _ _ (HVV.out w9 hb9) (HQQ.out w9 hb9))
 obtain ⟨rc,hrc⟩:∃ rc,Rk.chk (Sc.new s c e0) t q=rc:=⟨_,rfl⟩
 rw [hrc] at HCP HCR
 clear hrc
 cases hyes:Rk.asks (Sc.new s c e0) t q g with
 | false =>
   go_wp2_with fail
   refine Ri.wp_region_frame (by kernel_rfl) (by kernel_rfl) (by kernel_rfl) (by kernel_rfl)
     (fun L v w'=>Below w5.heap.size w5 w'∧(L 0=true→v 0=.agg #[.int .i64 t.kind,.int .u64 (Oc.U t.w0),.int .u64 (Oc.U t.w1),.int .u64 (Oc.U t.w2),.int .u64 (Oc.U t.w3),.slice p t.subs.length cap,.int .i64 t.num,.int .i64 t.least,.int .i64 t.most,.bool t.bare])∧(L 1=true→v 1=.pointer (some ⟨gx,0,none⟩))∧(L 2=true→v 2=.agg #[.int .i64 q.lo,.int .i64 q.hi,.int .i64 q.pick,.slice p2 q.subs.length c2])∧(L 3=true→v 3=.bool rc)∧(L 4=true→v 4=.agg #[.int .i64 t.kind,.int .u64 (Oc.U t.w0),.int .u64 (Oc.U t.w1),.int .u64 (Oc.U t.w2),.int .u64 (Oc.U t.w3),.slice p t.subs.length cap,.int .i64 t.num,.int .i64 t.least,.int .i64 t.most,.bool t.bare])∧(L 5=true→v 5=.agg #[.string s,.int .i64 c,.int .i64 e0,.bool false])∧(L 6=true→v 6=.agg #[.int .i64 q.lo,.int .i64 q.hi,.int .i64 q.pick,.slice p2 q.subs.length c2])∧(L 7=true→v 7=.bool rc)∧(L 8=true→v 8=.bool false))
     ?_ ?_ ?_
   · exact ⟨(Below.refl _ _).drew,by simp,by simp,by simp,by simp,by simp,by simp,by simp,by simp,by simp⟩
   · intro i hi9 L v w9 xa hI hL hd hv ho
     have hi':i=0 ∨ i=1 ∨ i=2 ∨ i=3 ∨ i=4 ∨ i=5 ∨ i=6 ∨ i=7 ∨ i=8:=by simp at hi9;omega
     obtain ⟨hb,q0,q1,q2,q3,q4,q5,q6,q7,q8⟩:=hI
     rcases hi' with rfl | rfl | rfl | rfl | rfl | rfl | rfl | rfl | rfl
     · have e4:xa.tmps.getD 4 undef=.pointer (some ⟨w.heap.size,0,none⟩):=ho 4 (by kernel_rfl)
       refine Ri.step_plain rfl rfl (fun K' hK=>?_)
       obtain ⟨d0,d1,d2,d3,d4,d5,d6,d7,d8,d9⟩:=allTen (keep_blk hb X0.out)
       go_simp
       exact hK _ _ ⟨_,_,rfl,rfl,hb,fun _=>rfl,q1,q2,q3,q4,q5,q6,q7,q8⟩
     · have e9:xa.tmps.getD 9 undef=.pointer (some ⟨gx,0,none⟩):=ho 9 (by kernel_rfl)
       refine Ri.step_plain rfl rfl (fun K' hK=>?_)
       go_simp
       exact hK _ _ ⟨_,_,rfl,rfl,hb,q0,fun _=>rfl,q2,q3,q4,q5,q6,q7,q8⟩
     · have e6:xa.tmps.getD 6 undef=.pointer (some ⟨w.heap.size+1+1,0,none⟩):=ho 6 (by kernel_rfl)
       refine Ri.step_plain rfl rfl (fun K' hK=>?_)
       obtain ⟨x0,x1,x2,x3,-,-,-,-⟩:=four (keep_blk hb X2.out)
       go_simp
       exact hK _ _ ⟨_,_,rfl,rfl,hb,q0,q1,fun _=>rfl,q3,q4,q5,q6,q7,q8⟩
     · have l0:L 0=true∧L 1=true∧L 2=true:=by have:=hd _ rfl;simp [Region.binds] at this;simp [this]
       have f0:=(hv 0 48 rfl l0.1).trans (q0 l0.1)
       have f1:=(hv 1 49 rfl l0.2.1).trans (q1 l0.2.1)
       have f2:=(hv 2 50 rfl l0.2.2).trans (q2 l0.2.2)
       refine Ri.step_plain rfl rfl (fun K' hK=>?_)
       go_simp
       refine (HCP.out _ hb).mono ?_
       rintro e w8 ⟨rfl,hb8⟩
       exact hK _ _ ⟨_,_,rfl,rfl,hb.trans (hb8.mono hb.size),q0,q1,q2,fun _=>rfl,q4,q5,q6,q7,q8⟩
     · have e4:xa.tmps.getD 4 undef=.pointer (some ⟨w.heap.size,0,none⟩):=ho 4 (by kernel_rfl)
       refine Ri.step_plain rfl rfl (fun K' hK=>?_)
       obtain ⟨d0,d1,d2,d3,d4,d5,d6,d7,d8,d9⟩:=allTen (keep_blk hb X0.out)
       go_simp
       exact hK _ _ ⟨_,_,rfl,rfl,hb,q0,q1,q2,q3,fun _=>rfl,q5,q6,q7,q8⟩
     · have e10:xa.tmps.getD 10 undef=.pointer (some ⟨gs,0,none⟩):=ho 10 (by kernel_rfl)
       refine Ri.step_plain rfl rfl (fun K' hK=>?_)
       obtain ⟨x0,x1,x2,x3,-,-,-,-⟩:=four (keep_blk hb YS.out)
       go_simp
       exact hK _ _ ⟨_,_,rfl,rfl,hb,q0,q1,q2,q3,q4,fun _=>rfl,q6,q7,q8⟩
     · have e6:xa.tmps.getD 6 undef=.pointer (some ⟨w.heap.size+1+1,0,none⟩):=ho 6 (by kernel_rfl)
       refine Ri.step_plain rfl rfl (fun K' hK=>?_)
       obtain ⟨x0,x1,x2,x3,-,-,-,-⟩:=four (keep_blk hb X2.out)
       go_simp
       exact hK _ _ ⟨_,_,rfl,rfl,hb,q0,q1,q2,q3,q4,q5,fun _=>rfl,q7,q8⟩
     · have l0:L 4=true∧L 5=true∧L 6=true:=by have:=hd _ rfl;simp [Region.binds] at this;simp [this]
       have f4:=(hv 4 52 rfl l0.1).trans (q4 l0.1)
       have f5:=(hv 5 53 rfl l0.2.1).trans (q5 l0.2.1)
       have f6:=(hv 6 54 rfl l0.2.2).trans (q6 l0.2.2)
       refine Ri.step_plain rfl rfl (fun K' hK=>?_)
       go_simp
       refine (HCR.out _ hb).mono ?_
       rintro e w8 ⟨rfl,hb8⟩
       exact hK _ _ ⟨_,_,rfl,rfl,hb.trans (hb8.mono hb.size),q0,q1,q2,q3,q4,q5,q6,fun _=>rfl,q8⟩
     · have l0:L 3=true∧L 7=true:=by have:=hd _ rfl;simp [Region.binds] at this;simp [this]
       have f3:=(hv 3 51 rfl l0.1).trans (q3 l0.1)
       have f7:=(hv 7 55 rfl l0.2).trans (q7 l0.2)
       refine Ri.step_plain rfl rfl (fun K' hK=>?_)
       go_simp
       exact hK _ _ ⟨_,_,rfl,rfl,hb,q0,q1,q2,q3,q4,q5,q6,q7,fun _=>rfl⟩
   · rintro v w9 ⟨hb,-,-,-,-,-,-,-,-,q8⟩
     have q8':v 8=.bool false:=q8 rfl
     simp only [Ri.frame,List.zipIdx,List.foldl_cons,List.foldl_nil,if_true,List.setIfInBounds_toArray,List.set_cons_zero,List.set_cons_succ,Nat.reduceAdd,q8']
     clear q8 q8'
     generalize v 0=y0;generalize v 1=y1;generalize v 2=y2;generalize v 3=y3;generalize v 4=y4;generalize v 5=y5;generalize v 6=y6;generalize v 7=y7
     have HX:=Lib.hid (HX5.out.below hb)
     have hb6:=hb
     clear hb HX5 HCP HCR
     have HBn:=Lib.hid (HB.out.trans (hb6.mono HB.out.size))
     have YX0:=Lib.hid (keep_blk hb6 X0.out)
     have YX2:=Lib.hid (keep_blk hb6 X2.out)
     have YYS:=Lib.hid (keep_blk hb6 YS.out)
     clear hb6 HB X0 X2 YS
     have HB:=HBn;have X0:=YX0;have X2:=YX2;have YS:=YYS
     clear HBn YX0 YX2 YYS
     have HSP:=Lib.hid (fun w9 (hb:Below w.heap.size w w9) (hx8:ScAt w9 gx (Sc.new s c e0))=>show Calls Tryd.prog 32 #[.agg #[.int .i64 t.kind,.int .u64 (Oc.U t.w0),.int .u64 (Oc.U t.w1),.int .u64 (Oc.U t.w2),.int .u64 (Oc.U t.w3),.slice p t.subs.length cap,.int .i64 t.num,.int .i64 t.least,.int .i64 t.most,.bool t.bare],.pointer (some ⟨gx,0,none⟩),.agg #[.int .i64 q.lo,.int .i64 q.hi,.int .i64 q.pick,.slice p2 q.subs.length c2],.int .i64 g] w9 (SpNo w9) from rkspans_no A (Sc.new s c e0) gx HTS.out t HDP.out q g hyes w9 (HE.out.below hb) hx8 _ _ _ _ (HVV.out w9 hb).plain (HQQ.out w9 hb))
     unfold SpNo at HSP
     rw [hyes] at HRS
     clear hyes
     obtain ⟨d0,d1,d2,d3,d4,d5,d6,d7,d8,d9⟩:=allTen X0.out
     obtain ⟨x0,x1,x2,x3,-,-,-,-⟩:=four X2.out
     obtain ⟨z0,z1,z2,z3,-,-,-,-⟩:=four YS.out
     go_wp2_with fail
     refine (HSP.out _ HB.out (HX.out)).mono ?_
     rintro e w7 ⟨rfl,hb7⟩
     clear d0 d1 d2 d3 d4 d5 d6 d7 d8 d9 x0 x1 x2 x3 z0 z1 z2 z3
     have HX7:=Lib.hid (HX.out.below hb7)
     have HBn:=Lib.hid (HB.out.trans (hb7.mono HB.out.size))
     have YX0:=Lib.hid (keep_blk hb7 X0.out)
     have YX2:=Lib.hid (keep_blk hb7 X2.out)
     have YYS:=Lib.hid (keep_blk hb7 YS.out)
     clear hb7 HB X0 X2 YS
     have HB:=HBn;have X0:=YX0;have X2:=YX2;have YS:=YYS
     clear HBn YX0 YX2 YYS
     obtain ⟨d0,d1,d2,d3,d4,d5,d6,d7,d8,d9⟩:=allTen X0.out
     obtain ⟨x0,x1,x2,x3,-,-,-,-⟩:=four X2.out
     obtain ⟨z0,z1,z2,z3,-,-,-,-⟩:=four YS.out
     go_wp2_with fail
     refine (HSP.out _ HB.out (HX7.out)).mono ?_
     rintro e w8 ⟨rfl,hb8⟩
     clear d0 d1 d2 d3 d4 d5 d6 d7 d8 d9 x0 x1 x2 x3 z0 z1 z2 z3
     have HBn:=Lib.hid (HB.out.trans (hb8.mono HB.out.size))
     have YX0:=Lib.hid (keep_blk hb8 X0.out)
     have YX2:=Lib.hid (keep_blk hb8 X2.out)
     have YYS:=Lib.hid (keep_blk hb8 YS.out)
     clear hb8 HB X0 X2 YS
     have HB:=HBn;have X0:=YX0;have X2:=YX2;have YS:=YYS
     clear HBn YX0 YX2 YYS
     obtain ⟨d0,d1,d2,d3,d4,d5,d6,d7,d8,d9⟩:=allTen X0.out
     obtain ⟨x0,x1,x2,x3,-,-,-,-⟩:=four X2.out
     obtain ⟨z0,z1,z2,z3,-,-,-,-⟩:=four YS.out
     go_wp2_with fail
     refine (HRS.out _ HB.out).mono ?_
     intro e w9 he9
     obtain ⟨v9,rfl,hv9,hb9⟩:=he9
     unfold RspV at hv9
     rw [if_neg (by decide)] at hv9
     subst hv9
     have hnil:∀ w9,SpsAt w9 (.slice none 0 0) []:=fun w9=>⟨none,0,rfl,fun i s h=>by simp at h⟩
     have HSS:=Lib.hid (fun w9=>samespans_any [] [] (by decide) (by decide) (.slice none 0 0) (.slice none 0 0) w9 (hnil w9) (hnil w9))
     rw [show decide (([]:List (Int × Int))=[])=true from rfl] at HSS
     clear d0 d1 d2 d3 d4 d5 d6 d7 d8 d9 x0 x1 x2 x3 z0 z1 z2 z3
     clear HSP HRS hnil
     have HBn:=Lib.hid (HB.out.trans (hb9.mono HB.out.size))
     have YX0:=Lib.hid (keep_blk hb9 X0.out)
     clear hb9 HB X0
     have HB:=HBn;have X0:=YX0
     clear HBn YX0
     go_wp2_with fail
     refine (HSS.out _).mono ?_
     rintro e w10 ⟨rfl,hb10⟩
     have HBn:=Lib.hid (HB.out.trans (hb10.mono HB.out.size))
     have YX0:=Lib.hid (keep_blk hb10 X0.out)
     clear hb10 HB X0
     have HB:=HBn;have X0:=YX0
     clear HBn YX0
     go_wp2
     go_loopw [92] (fun iv wr=>iv=.int .i64 0∧Hid (wr=w10)) (fun _ _=>0)
     case atStart=>exact ⟨rfl,Lib.hid rfl⟩
     case round =>
       obtain ⟨rfl,HEW⟩:=hrel
       obtain rfl:=HEW.out
       go_wp2_with fail
       refine (HSS.out _).mono ?_
       rintro e w11 ⟨rfl,hb11⟩
       have HBn:=Lib.hid (HB.out.trans (hb11.mono HB.out.size))
       clear hb11
       go_wp2
       go_ret
       exact ⟨rfl,HBn.out⟩
 | true =>
   go_wp2_with fail
   refine Ri.wp_region_frame (by kernel_rfl) (by kernel_rfl) (by kernel_rfl) (by kernel_rfl)
     (fun L v w'=>Below w5.heap.size w5 w'∧(L 0=true→v 0=.agg #[.int .i64 t.kind,.int .u64 (Oc.U t.w0),.int .u64 (Oc.U t.w1),.int .u64 (Oc.U t.w2),.int .u64 (Oc.U t.w3),.slice p t.subs.length cap,.int .i64 t.num,.int .i64 t.least,.int .i64 t.most,.bool t.bare])∧(L 1=true→v 1=.pointer (some ⟨gx,0,none⟩))∧(L 2=true→v 2=.agg #[.int .i64 q.lo,.int .i64 q.hi,.int .i64 q.pick,.slice p2 q.subs.length c2])∧(L 3=true→v 3=.bool rc)∧(L 4=true→v 4=.agg #[.int .i64 t.kind,.int .u64 (Oc.U t.w0),.int .u64 (Oc.U t.w1),.int .u64 (Oc.U t.w2),.int .u64 (Oc.U t.w3),.slice p t.subs.length cap,.int .i64 t.num,.int .i64 t.least,.int .i64 t.most,.bool t.bare])∧(L 5=true→v 5=.agg #[.string s,.int .i64 c,.int .i64 e0,.bool false])∧(L 6=true→v 6=.agg #[.int .i64 q.lo,.int .i64 q.hi,.int .i64 q.pick,.slice p2 q.subs.length c2])∧(L 7=true→v 7=.bool rc)∧(L 8=true→v 8=.bool false))
     ?_ ?_ ?_
   · exact ⟨(Below.refl _ _).drew,by simp,by simp,by simp,by simp,by simp,by simp,by simp,by simp,by simp⟩
   · intro i hi9 L v w9 xa hI hL hd hv ho
     have hi':i=0 ∨ i=1 ∨ i=2 ∨ i=3 ∨ i=4 ∨ i=5 ∨ i=6 ∨ i=7 ∨ i=8:=by simp at hi9;omega
     obtain ⟨hb,q0,q1,q2,q3,q4,q5,q6,q7,q8⟩:=hI
     rcases hi' with rfl | rfl | rfl | rfl | rfl | rfl | rfl | rfl | rfl
     · have e4:xa.tmps.getD 4 undef=.pointer (some ⟨w.heap.size,0,none⟩):=ho 4 (by kernel_rfl)
       refine Ri.step_plain rfl rfl (fun K' hK=>?_)
       obtain ⟨d0,d1,d2,d3,d4,d5,d6,d7,d8,d9⟩:=allTen (keep_blk hb X0.out)
       go_simp
       exact hK _ _ ⟨_,_,rfl,rfl,hb,fun _=>rfl,q1,q2,q3,q4,q5,q6,q7,q8⟩
     · have e9:xa.tmps.getD 9 undef=.pointer (some ⟨gx,0,none⟩):=ho 9 (by kernel_rfl)
       refine Ri.step_plain rfl rfl (fun K' hK=>?_)
       go_simp
       exact hK _ _ ⟨_,_,rfl,rfl,hb,q0,fun _=>rfl,q2,q3,q4,q5,q6,q7,q8⟩
     · have e6:xa.tmps.getD 6 undef=.pointer (some ⟨w.heap.size+1+1,0,none⟩):=ho 6 (by kernel_rfl)
       refine Ri.step_plain rfl rfl (fun K' hK=>?_)
       obtain ⟨x0,x1,x2,x3,-,-,-,-⟩:=four (keep_blk hb X2.out)
       go_simp
       exact hK _ _ ⟨_,_,rfl,rfl,hb,q0,q1,fun _=>rfl,q3,q4,q5,q6,q7,q8⟩
     · have l0:L 0=true∧L 1=true∧L 2=true:=by have:=hd _ rfl;simp [Region.binds] at this;simp [this]
       have f0:=(hv 0 48 rfl l0.1).trans (q0 l0.1)
       have f1:=(hv 1 49 rfl l0.2.1).trans (q1 l0.2.1)
       have f2:=(hv 2 50 rfl l0.2.2).trans (q2 l0.2.2)
       refine Ri.step_plain rfl rfl (fun K' hK=>?_)
       go_simp
       refine (HCP.out _ hb).mono ?_
       rintro e w8 ⟨rfl,hb8⟩
       exact hK _ _ ⟨_,_,rfl,rfl,hb.trans (hb8.mono hb.size),q0,q1,q2,fun _=>rfl,q4,q5,q6,q7,q8⟩
     · have e4:xa.tmps.getD 4 undef=.pointer (some ⟨w.heap.size,0,none⟩):=ho 4 (by kernel_rfl)
       refine Ri.step_plain rfl rfl (fun K' hK=>?_)
       obtain ⟨d0,d1,d2,d3,d4,d5,d6,d7,d8,d9⟩:=allTen (keep_blk hb X0.out)
       go_simp
       exact hK _ _ ⟨_,_,rfl,rfl,hb,q0,q1,q2,q3,fun _=>rfl,q5,q6,q7,q8⟩
     · have e10:xa.tmps.getD 10 undef=.pointer (some ⟨gs,0,none⟩):=ho 10 (by kernel_rfl)
       refine Ri.step_plain rfl rfl (fun K' hK=>?_)
       obtain ⟨x0,x1,x2,x3,-,-,-,-⟩:=four (keep_blk hb YS.out)
       go_simp
       exact hK _ _ ⟨_,_,rfl,rfl,hb,q0,q1,q2,q3,q4,fun _=>rfl,q6,q7,q8⟩
     · have e6:xa.tmps.getD 6 undef=.pointer (some ⟨w.heap.size+1+1,0,none⟩):=ho 6 (by kernel_rfl)
       refine Ri.step_plain rfl rfl (fun K' hK=>?_)
       obtain ⟨x0,x1,x2,x3,-,-,-,-⟩:=four (keep_blk hb X2.out)
       go_simp
       exact hK _ _ ⟨_,_,rfl,rfl,hb,q0,q1,q2,q3,q4,q5,fun _=>rfl,q7,q8⟩
     · have l0:L 4=true∧L 5=true∧L 6=true:=by have:=hd _ rfl;simp [Region.binds] at this;simp [this]
       have f4:=(hv 4 52 rfl l0.1).trans (q4 l0.1)
       have f5:=(hv 5 53 rfl l0.2.1).trans (q5 l0.2.1)
       have f6:=(hv 6 54 rfl l0.2.2).trans (q6 l0.2.2)
       refine Ri.step_plain rfl rfl (fun K' hK=>?_)
       go_simp
       refine (HCR.out _ hb).mono ?_
       rintro e w8 ⟨rfl,hb8⟩
       exact hK _ _ ⟨_,_,rfl,rfl,hb.trans (hb8.mono hb.size),q0,q1,q2,q3,q4,q5,q6,fun _=>rfl,q8⟩
     · have l0:L 3=true∧L 7=true:=by have:=hd _ rfl;simp [Region.binds] at this;simp [this]
       have f3:=(hv 3 51 rfl l0.1).trans (q3 l0.1)
       have f7:=(hv 7 55 rfl l0.2).trans (q7 l0.2)
       refine Ri.step_plain rfl rfl (fun K' hK=>?_)
       go_simp
       exact hK _ _ ⟨_,_,rfl,rfl,hb,q0,q1,q2,q3,q4,q5,q6,q7,fun _=>rfl⟩
   · rintro v w9 ⟨hb,-,-,-,-,-,-,-,-,q8⟩
     have q8':v 8=.bool false:=q8 rfl
     simp only [Ri.frame,List.zipIdx,List.foldl_cons,List.foldl_nil,if_true,List.setIfInBounds_toArray,List.set_cons_zero,List.set_cons_succ,Nat.reduceAdd,q8']
     clear q8 q8'
     generalize v 0=y0;generalize v 1=y1;generalize v 2=y2;generalize v 3=y3;generalize v 4=y4;generalize v 5=y5;generalize v 6=y6;generalize v 7=y7
     have HX:=Lib.hid (HX5.out.below hb)
     have hb6:=hb
     clear hb HX5 HCP HCR
     have HBn:=Lib.hid (HB.out.trans (hb6.mono HB.out.size))
     have YX0:=Lib.hid (keep_blk hb6 X0.out)
     have YX2:=Lib.hid (keep_blk hb6 X2.out)
     have YYS:=Lib.hid (keep_blk hb6 YS.out)
     clear hb6 HB X0 X2 YS
     have HB:=HBn;have X0:=YX0;have X2:=YX2;have YS:=YYS
     clear HBn YX0 YX2 YYS
     have hy2:=hyes
     unfold Rk.asks at hy2
     rw [Bool.and_eq_true,Bool.and_eq_true,decide_eq_true_eq,decide_eq_true_eq] at hy2
     obtain ⟨n,hn⟩:∃ n:Nat,g=n:=⟨g.toNat,by omega⟩
     have HSP:=Lib.hid (fun w9 (hb:Below w.heap.size w w9) (hx8:ScAt w9 gx (Sc.new s c e0))=>show Calls Tryd.prog 32 #[.agg #[.int .i64 t.kind,.int .u64 (Oc.U t.w0),.int .u64 (Oc.U t.w1),.int .u64 (Oc.U t.w2),.int .u64 (Oc.U t.w3),.slice p t.subs.length cap,.int .i64 t.num,.int .i64 t.least,.int .i64 t.most,.bool t.bare],.pointer (some ⟨gx,0,none⟩),.agg #[.int .i64 q.lo,.int .i64 q.hi,.int .i64 q.pick,.slice p2 q.subs.length c2],.int .i64 g] w9 (SpYes (n+1) (Rk.shown (Rk.of q t)) w9) from hn ▸ rkspans_yes A (Sc.new s c e0) gx HTS.out t HDP.out q n (by omega) hy2.2.2 w9 (HE.out.below hb) hx8 _ _ _ _ (HVV.out w9 hb).plain (HQQ.out w9 hb))
     rw [hyes] at HRS
     rw [show g.toNat+1=n+1 by omega] at HRS
     have HN:=Lib.hid (show n+1 ≤ 1000 by omega)
     clear hyes hy2 hn
     generalize n+1=n1 at *
     generalize Rk.shown (Rk.of q t)=G at *
     unfold SpYes at HSP
     obtain ⟨d0,d1,d2,d3,d4,d5,d6,d7,d8,d9⟩:=allTen X0.out
     obtain ⟨x0,x1,x2,x3,-,-,-,-⟩:=four X2.out
     obtain ⟨z0,z1,z2,z3,-,-,-,-⟩:=four YS.out
     go_wp2_with fail
     refine (HSP.out _ HB.out (HX.out)).mono ?_
     rintro e w7 ⟨g1,rfl,hg1,hs1,hb7⟩
     clear d0 d1 d2 d3 d4 d5 d6 d7 d8 d9 x0 x1 x2 x3 z0 z1 z2 z3
     have HX7:=Lib.hid (HX.out.below hb7)
     have HS1:=Lib.hid hs1
     have HG1:=Lib.hid (show w.heap.size ≤ g1 from Nat.le_trans HB.out.size hg1)
     clear hs1 hg1
     have HBn:=Lib.hid (HB.out.trans (hb7.mono HB.out.size))
     have YX0:=Lib.hid (keep_blk hb7 X0.out)
     have YX2:=Lib.hid (keep_blk hb7 X2.out)
     have YYS:=Lib.hid (keep_blk hb7 YS.out)
     clear hb7 HB X0 X2 YS
     have HB:=HBn;have X0:=YX0;have X2:=YX2;have YS:=YYS
     clear HBn YX0 YX2 YYS
     obtain ⟨d0,d1,d2,d3,d4,d5,d6,d7,d8,d9⟩:=allTen X0.out
     obtain ⟨x0,x1,x2,x3,-,-,-,-⟩:=four X2.out
     obtain ⟨z0,z1,z2,z3,-,-,-,-⟩:=four YS.out
     go_wp2_with fail
     refine (HSP.out _ HB.out (HX7.out)).mono ?_
     rintro e w8 ⟨g2,rfl,hg2,hs2,hb8⟩
     have HS18:=Lib.hid (keep_blk hb8 HS1.out);have HS2:=Lib.hid hs2
     have HZ78:=Lib.hid hb8.size
     have HL1:=Lib.hid (show g1 < w7.heap.size from (Array.getElem?_eq_some_iff.1 HS1.out).1)
     clear hs2 HS1
     clear d0 d1 d2 d3 d4 d5 d6 d7 d8 d9 x0 x1 x2 x3 z0 z1 z2 z3
     have HBn:=Lib.hid (HB.out.trans (hb8.mono HB.out.size))
     have YX0:=Lib.hid (keep_blk hb8 X0.out)
     have YX2:=Lib.hid (keep_blk hb8 X2.out)
     have YYS:=Lib.hid (keep_blk hb8 YS.out)
     clear hb8 HB X0 X2 YS
     have HB:=HBn;have X0:=YX0;have X2:=YX2;have YS:=YYS
     clear HBn YX0 YX2 YYS
     obtain ⟨d0,d1,d2,d3,d4,d5,d6,d7,d8,d9⟩:=allTen X0.out
     obtain ⟨x0,x1,x2,x3,-,-,-,-⟩:=four X2.out
     obtain ⟨z0,z1,z2,z3,-,-,-,-⟩:=four YS.out
     go_wp2_with fail
     refine (HRS.out _ HB.out).mono ?_
     intro e w9 he9
     obtain ⟨v9,rfl,hv9,hb9⟩:=he9
     unfold RspV at hv9
     rw [if_pos rfl] at hv9
     obtain ⟨g3,c3,rfl,hg3,hs3⟩:=hv9
     have HS19:=Lib.hid (keep_blk hb9 HS18.out);have HS29:=Lib.hid (keep_blk hb9 HS2.out);have HS3:=Lib.hid hs3
     have HL2:=Lib.hid (show g2 < w8.heap.size from (Array.getElem?_eq_some_iff.1 HS2.out).1)
     have HNE:=Lib.hid (show g2 ≠ g1∧g3 ≠ g1 from ⟨by have:=HL1.out;omega,by have:=HL1.out;have:=HZ78.out;omega⟩)
     clear hs3 HS18 HS2 hg2 hg3
     clear d0 d1 d2 d3 d4 d5 d6 d7 d8 d9 x0 x1 x2 x3 z0 z1 z2 z3
     clear HSP HRS
     have HBn:=Lib.hid (HB.out.trans (hb9.mono HB.out.size))
     have YX0:=Lib.hid (keep_blk hb9 X0.out)
     clear hb9 HB X0
     have HB:=HBn;have X0:=YX0
     clear HBn YX0
     have HSS:=Lib.hid (fun w9 v u (hv:SpsAt w9 v (spL n1 G)) (hu:SpsAt w9 u (spL n1 G))=>samespans_any (spL n1 G) (spL n1 G) (by rw [spL_len];have:=HN.out;omega) (by rw [spL_len];have:=HN.out;omega) v u w9 hv hu)
     rw [show decide (spL n1 G=spL n1 G)=true from decide_eq_true rfl] at HSS
     go_wp2_with fail
     refine (HSS.out _ _ _ (SpsAt.of HS19.out) HS3.out.at).mono ?_
     rintro e w10 ⟨rfl,hb10⟩
     have HS1A:=Lib.hid (SpRow.ofsp (keep_blk hb10 HS19.out));have HS2A:=Lib.hid (keep_blk hb10 HS29.out);have HS3A:=Lib.hid (HS3.out.later hb10)
     clear HS19 HS29 HS3
     have HBn:=Lib.hid (HB.out.trans (hb10.mono HB.out.size))
     have YX0:=Lib.hid (keep_blk hb10 X0.out)
     clear hb10 HB X0
     have HB:=HBn;have X0:=YX0
     clear HBn YX0
     go_wp2
     go_loopw [92] (fun iv wr=>∃ (k:Nat) (H:Nat→Int × Int),iv=.int .i64 (k:Int)∧k ≤ n1∧Hid (SpRow wr g1 n1 H)∧Hid (Touch [g1] w10 wr)) (fun iv _=>n1 - (intOf iv).toNat)
     case atStart=>exact ⟨0,G,rfl,Nat.zero_le _,HS1A,Lib.hid (Touch.of_below _ (Below.refl _ _))⟩
     case round =>
       obtain ⟨k,H,rfl,hk,SP,HT⟩:=hrel
       have wk:IntKind.i64.wrap ((k:Int)+1)=(k:Int)+1:=IntWalk.i64_in _ (by have:=HN.out;omega)
       by_cases hlt:k < n1
       · have hltd:decide ((k:Int) < (n1:Int))=true:=decide_eq_true (by omega)
         obtain ⟨s0,s1,f0,f1⟩:=SP.out.cell hlt
         have SPN:=Lib.hid (SP.out.put (H:=fun j=>if j=k then (77,0) else H j) hlt (if_pos rfl) (fun j _ hj=>if_neg hj))
         have HTN:=Lib.hid (touch_put HT.out k (.int .i64 77) (.int .i64 0))
         go_wp2
         exact ⟨⟨k+1,_,by go_num,by omega,SPN,HTN⟩,by simp [intOf];omega⟩
       · obtain rfl:k=n1:=by omega
         have hltd:decide ((k:Int) < (k:Int))=false:=decide_eq_false (by omega)
         have HBW:=Lib.hid (HB.out.trans (HT.out.below (B:=w.heap.size) (by intro j hj;have:=HG1.out;simp at hj;omega) HB.out.size))
         have HM:=Lib.hid (show SpsAt wr (.slice (some ⟨g2,0,none⟩) k k) (spL k G) from SpsAt.of ((HT.out.block g2 (Array.getElem?_eq_some_iff.1 HS2A.out).1 (by have:=HNE.out.1;simpa using this)).trans HS2A.out))
         have HW:=Lib.hid (show SpsAt wr (.slice (some ⟨g3,0,none⟩) k c3) (spL k G) from (HS3A.out.touch HT.out HNE.out.2).at)
         clear SP HT hlt
         go_wp2_with fail
         refine (HSS.out _ _ _ HM.out HW.out).mono ?_
         rintro e w11 ⟨rfl,hb11⟩
         have HBn:=Lib.hid (HBW.out.trans (hb11.mono HBW.out.size))
         clear hb11
         go_wp2
         go_ret
         exact ⟨rfl,HBn.out⟩
end Go.Proofs.YtnaoiglbjkjogaaDoor
namespace Go.Proofs.YtnaoiglbjkjogaaDoor
open Go.ChangeShapes Go.WideShapes Go.ChangeAt Go.RowKit
theorem Tryd.cellsParseO:Tryd.prog.cellsOf 57=4:=by kernel_rfl
theorem Tryd.cellsParsesO:Tryd.prog.cellsOf 55=1:=by kernel_rfl
theorem Tryd.bytesParseO:Tryd.prog.bytesOf 57=48:=by kernel_rfl
theorem list4 {α:Type} {l:List α} (h:l.length=4):∃ a0 a1 a2 a3,l=[a0,a1,a2,a3]:=by
 match l,h with
 | [a0,a1,a2,a3],_=>exact ⟨a0,a1,a2,a3,rfl⟩
theorem open_pa {H:Type} {enc:TypeId × Value→H} {W:World} {base:Nat} {spare:Nat→Bool} {held:Bool} : ∀ (fuel:Nat) (cs:List Value) (x:DataW H × List MemPlace),
   DataW.trod enc Tryd.prog W base spare held fuel 57 cs=some x→(∀ k,k ∈ x.1.weights Tryd.prog 57→k ≤ 140737488351232) →
   ∃ (t:Pa) (s:Value),cs=(t.cells s).toList∧PasAt W (fun _=>True) s t.subs:=by
 intro fuel
 induction fuel using Nat.strongRecOn with
 | _ fuel ih =>
   intro cs x h hw
   obtain ⟨xs,n,rfl,rfl,hlen,hxs,hf⟩:=DataW.trod_struct Tryd.underlying57 h
   rw [Tryd.cellsParseO] at hlen
   obtain ⟨c0,c1,c2,c3,rfl⟩:=list4 hlen
   obtain ⟨y0,y1,y2,y3,rfl⟩:=list4 (by simpa using hxs)
   have f0:=hf 0 _ rfl;have f1:=hf 1 _ rfl;have f2:=hf 2 _ rfl;have f3:=hf 3 _ rfl
   simp only [List.getElem_toArray,List.getElem_cons_zero,List.getElem_cons_succ,Tryd.cellsIntO,Tryd.cellsParsesO,List.drop_zero,List.drop_succ_cons,List.take_succ_cons,List.take_zero,List.getElem?_cons_zero,List.getElem?_cons_succ] at f0 f1 f2 f3
   obtain ⟨k,e0,-,-⟩:=DataW.trod_int Tryd.underlying3 f0
   obtain ⟨nn,e1,-,-⟩:=DataW.trod_int Tryd.underlying3 f1
   obtain ⟨lo,e2,-,-⟩:=DataW.trod_int Tryd.underlying3 f2
   simp only [List.cons.injEq,and_true] at e0 e1 e2
   subst e0 e1 e2
   have fin:∀ (ts:List Pa),PasAt W (fun _=>True) c3 ts→∃ (t:Pa) (s:Value),[.int .i64 k,.int .i64 nn,.int .i64 lo,c3]=(t.cells s).toList∧PasAt W (fun _=>True) s t.subs :=
     fun ts hts=>⟨.node k nn lo ts,c3,rfl,hts⟩
   rcases DataW.trod_slice Tryd.underlying55 f3 with ⟨hc5,-⟩ | ⟨ad,len,cap,elems,rest,n',rfl,hc5,hx,-,hcp,-,hel,hall,-,-⟩
   · simp only [List.cons.injEq,and_true] at hc5
     subst hc5
     exact fin [] PasAt.nil
   · simp only [List.cons.injEq,and_true] at hc5
     subst hc5
     rw [Tryd.cellsParseO] at hall
     have hwn:∀ k,k ∈ y3.1.weights Tryd.prog 55→k ≤ 140737488351232:=fun k hk=>hw k (by
       rw [DataW.weights,Tryd.underlying57]
       exact DataW.weights_mem_each (j:=3) rfl rfl k hk)
     have hlen48:len * 48 ≤ 140737488351232:=by
       have:=hwn ((elems.length+rest.length) * 48) (by
         rw [hx]
         simp only [DataW.weights,Tryd.underlying55,Tryd.bytesParseO,List.length_map]
         exact List.mem_cons_self)
       rw [hel] at this
       have h2:len * 48 ≤ (len+rest.length) * 48:=Nat.mul_le_mul_right _ (by omega)
       omega
     have key:∀ i,∃ (t:Pa) (s:Value),i < len→(∃ b o,some ad=some ⟨b,o,none⟩∧FourAt W b (o+i * 4) t s)∧PasAt W (fun _=>True) s t.subs:=by
       intro i
       by_cases hi:i < len
       · have h1:=hall i hi
         rw [List.getElem?_eq_getElem (by omega)] at h1
         obtain ⟨csi,hcs,htr⟩:=Option.bind_eq_some_iff.1 h1
         obtain ⟨t,s,hts,hsub⟩:=ih n' (by omega) csi _ htr (fun k hk=>hwn k (by
           rw [hx]
           simp only [DataW.weights,Tryd.underlying55]
           refine List.mem_cons_of_mem _ (List.mem_append_left _ (weightsAll_mem (d:=elems[i].1) ?_ hk))
           exact List.mem_map.2 ⟨elems[i],List.getElem_mem _,rfl⟩))
         obtain ⟨-,-,hcell⟩:=World.cells?_some hcs
         have hspot:ad.spot=none:=by
           have h0:=hall 0 (by omega)
           rw [List.getElem?_eq_getElem (by omega)] at h0
           obtain ⟨cs0,hcs0,htr0⟩:=Option.bind_eq_some_iff.1 h0
           obtain ⟨t0,s0,hts0,-⟩:=ih n' (by omega) cs0 _ htr0 (fun k hk=>hwn k (by
             rw [hx]
             simp only [DataW.weights,Tryd.underlying55]
             refine List.mem_cons_of_mem _ (List.mem_append_left _ (weightsAll_mem (d:=elems[0].1) ?_ hk))
             exact List.mem_map.2 ⟨elems[0],List.getElem_mem _,rfl⟩))
           have h2:=(World.cells?_some hcs0).2.2 0 (by omega)
           rw [hts0] at h2
           have e:(ad.add (0 * 4)).add 0=ad:=by simp [Addr.add]
           rw [e] at h2
           cases hsp:ad.spot with
           | none=>rfl
           | some z =>
             unfold World.cell? at h2
             rw [hsp] at h2
             split at h2 <;> simp [Pa.cells] at h2
         have hadd:∀ j,(ad.add (i * 4)).add j=⟨ad.block,ad.off+i * 4+j,none⟩:=fun j=>by
           rw [add_at hspot,add_at (a:=⟨ad.block,ad.off+i * 4,none⟩) rfl]
         refine ⟨t,s,fun _=>⟨⟨ad.block,ad.off,by cases ad;simp_all, ?_⟩,hsub⟩⟩
         rw [hts] at hcell
         have get:∀ j u,j < 4→(t.cells s).toList[j]? = some u→W.cell? ⟨ad.block,ad.off+i * 4+j,none⟩=some u:=fun j u hj hu=>by
           rw [← hadd j,hcell j hj,hu]
         exact ⟨get 0 _ (by omega) rfl,get 1 _ (by omega) rfl,get 2 _ (by omega) rfl,get 3 _ (by omega) rfl⟩
       · exact ⟨.node 0 0 0 [],.nilIface,fun h=>absurd h hi⟩
     obtain ⟨T,hT⟩:=Classical.axiomOfChoice key
     obtain ⟨S,hS⟩:=Classical.axiomOfChoice hT
     have hl:((List.range len).map T).length=len:=by simp
     have hg:∀ i t,((List.range len).map T)[i]? = some t→i < len∧t=T i:=fun i t h=>by
       rw [List.getElem?_map] at h
       by_cases hi:i < len
       · rw [List.getElem?_range hi] at h
         exact ⟨hi,(Option.some.inj h).symm⟩
       · rw [List.getElem?_eq_none (by simp;omega)] at h;cases h
     have:=PasAt.mk (w:=W) (B:=fun _=>True) (some ad) cap ((List.range len).map T) S (by rw [hl];exact hlen48) (by rw [hl];exact hcp) (fun i t h=>by
       obtain ⟨hi,rfl⟩:=hg i t h
       obtain ⟨⟨b,o,e,ht⟩,-⟩:=hS i hi
       exact ⟨b,o,e,trivial,ht⟩) (fun i t h=>by
       obtain ⟨hi,rfl⟩:=hg i t h
       exact (hS i hi).2)
     rw [hl] at this
     exact fin _ this
theorem open_parse {H:Type} {enc:TypeId × Value→H} {w:World} {base b0:Nat} {spare:Nat→Bool} {held:Bool} {v:Value} {y:DataW H} {ps:List MemPlace} {r:Reach}
   (hv:Value.okWide Tryd.prog w r b0 57 v) (h:DataW.Trod enc Tryd.prog w base spare held 57 v y ps) (hw:∀ k,k ∈ y.weights Tryd.prog 57→k ≤ 140737488351232):∃ t,PaV w (fun _=>True) v t:=by
 unfold Value.okWide at hv
 rw [Tryd.underlying57] at hv
 obtain ⟨cs,rfl,hsz,-⟩:=hv
 obtain ⟨fuel,hf⟩:=h
 obtain ⟨t,s,e,hs⟩:=open_pa fuel _ _ hf hw
 refine ⟨t,s, ?_,hs⟩
 simp only [Value.cells] at e
 exact congrArg Value.agg (Array.toList_inj.1 e)
end Go.Proofs.YtnaoiglbjkjogaaDoor
namespace Go.Proofs.YtnaoiglbjkjogaaDoor
open Go.ChangeShapes Go.WideShapes Go.ChangeAt Go.RowKit
theorem im_laid_split {P:Program} {l:List (String × DataW Unit)} {W:World} (h:laidMetH P l W):laidMet P (l.filter fun x=>x.2.handleName?.isNone) W:=by
 unfold laidMetH at h
 generalize hfl:(l.filter fun x=>x.2.handleName?.isSome)=fl at h
 cases fl with
 | nil =>
   have e:(l.filter fun x=>x.2.handleName?.isNone)=l:=by
     rw [List.filter_eq_self]
     intro x hx
     have:=List.filter_eq_nil_iff.1 hfl x hx
     cases hh:x.2.handleName? with
     | none=>rfl
     | some y=>rw [hh] at this;simp at this
   rw [e]
   exact h
 | cons x r=>exact h.1
end Go.Proofs.YtnaoiglbjkjogaaDoor
namespace Go.Proofs.YtnaoiglbjkjogaaDoor
open Go.ChangeShapes Go.WideShapes Go.ChangeAt Go.RowKit
theorem Tryd.cellsViewR:Tryd.prog.cellsOf 39=3:=by kernel_rfl
theorem Tryd.cellsStrR:Tryd.prog.cellsOf 9=1:=by kernel_rfl
theorem Tryd.cellsIntR:Tryd.prog.cellsOf 3=1:=by kernel_rfl
theorem open_view {H:Type} {enc:TypeId × Value→H} {w:World} {base b0:Nat} {spare:Nat→Bool} {held:Bool} {v:Value} {y:DataW H} {ps:List MemPlace} {r:Reach}
   (hv:Value.okWide Tryd.prog w r b0 39 v) (h:DataW.Trod enc Tryd.prog w base spare held 39 v y ps):∃ (s:ByteArray) (c e:Int),v=.agg #[.string s,.int .i64 c,.int .i64 e]:=by
 unfold Value.okWide at hv
 rw [Tryd.underlying39] at hv
 obtain ⟨cs,rfl,hsz,-⟩:=hv
 rw [Tryd.cellsViewR] at hsz
 obtain ⟨c0,c1,c2,rfl⟩:∃ c0 c1 c2,cs=#[c0,c1,c2]:=by
   obtain ⟨l⟩:=cs
   match l,hsz with
   | [c0,c1,c2],_=>exact ⟨c0,c1,c2,rfl⟩
 obtain ⟨fuel,hf⟩:=h
 obtain ⟨y0,y1,y2,m,_,_,h0,h1,h2⟩:=Deep.trod_struct3 Tryd.underlying39 hf
 simp only [Tryd.cellsStrR,Tryd.cellsIntR,List.drop_zero] at h0 h1 h2
 obtain ⟨s,e0,-⟩:=DataW.trod_string Tryd.underlying9 h0
 obtain ⟨c,e1,-,-⟩:=DataW.trod_int Tryd.underlying3 h1
 obtain ⟨e,e2,-,-⟩:=DataW.trod_int Tryd.underlying3 h2
 have x0:c0=.string s:=(List.cons.inj (show [c0]=[Value.string s] from e0)).1
 have x1:c1=.int .i64 c:=(List.cons.inj (show [c1]=[Value.int .i64 c] from e1)).1
 have x2:c2=.int .i64 e:=(List.cons.inj (show [c2]=[Value.int .i64 e] from e2)).1
 subst x0 x1 x2
 exact ⟨s,c,e,rfl⟩
end Go.Proofs.YtnaoiglbjkjogaaDoor
namespace Go.Proofs.YtnaoiglbjkjogaaDoor
open Go.ChangeShapes Go.WideShapes Go.ChangeAt Go.RowKit
def errThree : List (String × DataW Unit) := [("trawl/api.ErrTooBig", Rows.laid_trawl_api_ErrTooBig), ("trawl/api.ErrTree", Rows.laid_trawl_api_ErrTree), ("trawl/api.ErrDeep", Rows.laid_trawl_api_ErrDeep)]
theorem errsC_of {W:World} {l:List (String × DataW Unit)} (h:laidMet Tryd.prog l W) (hl:∀ x,x ∈ errThree→x ∈ l):∃ A,ErrsC W A:=by
 obtain ⟨a9, h9⟩ := sent_of (t := errPre ++ errWords.getD 9 []) (g := errVars.getD 9 0) h (hl _ (show ("trawl/api.ErrTooBig", sentDatum (errPre ++ errWords.getD 9 [])) ∈ errThree from List.mem_cons_self)) (by kernel_rfl) (by kernel_rfl)
 obtain ⟨a12, h12⟩ := sent_of (t := errPre ++ errWords.getD 12 []) (g := errVars.getD 12 0) h (hl _ (show ("trawl/api.ErrTree", sentDatum (errPre ++ errWords.getD 12 [])) ∈ errThree from List.mem_cons_of_mem _ List.mem_cons_self)) (by kernel_rfl) (by kernel_rfl)
 obtain ⟨a13, h13⟩ := sent_of (t := errPre ++ errWords.getD 13 []) (g := errVars.getD 13 0) h (hl _ (show ("trawl/api.ErrDeep", sentDatum (errPre ++ errWords.getD 13 [])) ∈ errThree from List.mem_cons_of_mem _ (List.mem_cons_of_mem _ List.mem_cons_self))) (by kernel_rfl) (by kernel_rfl)
 refine ⟨fun k=>if k=9 then a9 else if k=12 then a12 else a13,fun k hk=>?_⟩
 simp only [List.mem_cons,List.not_mem_nil,or_false] at hk
 rcases hk with rfl | rfl | rfl
 · exact h9
 · exact h12
 · exact h13
theorem rk_env_of {l:List (String × DataW Unit)} {W:World} (h:laidMetH Tryd.prog l W) (hl:∀ x,x ∈ errThree→x ∈ l):∃ A,ErrsC W A :=
 errsC_of (im_laid_split h) (fun x hx=>List.mem_filter.2 ⟨hl x hx,by simp only [errThree,List.mem_cons,List.not_mem_nil,or_false] at hx;rcases hx with rfl | rfl | rfl <;> rfl⟩)
end Go.Proofs.YtnaoiglbjkjogaaDoor
