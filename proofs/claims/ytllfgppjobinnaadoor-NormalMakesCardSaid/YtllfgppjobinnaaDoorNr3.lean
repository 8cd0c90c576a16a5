/- Part 3 of what these proofs need. -/
import Derived.Deep.CutBlock
import Derived.BigRegion
import Derived.ChangeOld
import Derived.Deep.Slices
import Derived.Laws.IdiomArrays
import Derived.Lib.SmallJoins
import Derived.SizedLaws
import Derived.DataReads
import Derived.LaidLaws
import Derived.Lib.LaidTab
import Derived.Test.YtllfgppjobinnaaDoorNr2
set_option maxRecDepth 100000
set_option maxHeartbeats 16000000
namespace Go.Proofs.YtllfgppjobinnaaDoor
open Go.RowKit
def nlA:Tr:=.bytes fun x=>x == 97
def nlS:Tr:=.rep 0 (-1) nlA
def nlT:Tr:=.rep 2 5 nlS
theorem nlA_simp:nlA.Simp:=.two (.inr (.inl ⟨rfl,rfl,rfl,rfl,rfl,rfl⟩)) rfl
theorem nlA_some:nlA.isNone=false:=by decide +kernel
theorem nlS_rep:Tr.repF 0 (-1) nlA=nlS:=Tr.rep_rep (by decide) nlA_some (by decide) (by
 intro h
 rcases h with h | h
 · exact absurd h.1 (by decide)
 · exact absurd h (by decide))
theorem nlS_simp:nlS.Simp:=by rw [← nlS_rep];exact Tr.simp_repF nlA_simp (by omega) (by omega) (.inl rfl)
theorem nlT_free:nlT.freeT=true:=by decide
theorem nlT_nm:nlT.nmT=nlS:=by
 rw [Tr.nmT_free nlT_free]
 have h:nlT.subs.map Tr.nmT=[nlS]:=by
   show [nlS.nmT]=[nlS]
   rw [nlS_simp.nm]
 rw [h]
 show Tr.simN 8 0#64 0#64 0#64 0#64 [nlS] 0 2 5 false=nlS
 unfold Tr.simN
 rw [if_neg (by decide),if_neg (by decide),if_pos rfl]
 exact Tr.rep_same2 (by decide) (Tr.isNone_not nlS (by decide)) (Tr.isAnc_not nlS (by decide) (by decide)) (.inr rfl)
theorem nlT_chk:nlT.checkC=0:=by decide +kernel
theorem nlS_cells (sv:Value):nlS.cells sv=#[.int .i64 8,.int .u64 0,.int .u64 0,.int .u64 0,.int .u64 0,sv,.int .i64 0,.int .i64 0,.int .i64 (-1),.bool false]:=by
 unfold nlS Tr.rep Tr.cells
 simp only [Tr.kind,Tr.w0,Tr.w1,Tr.w2,Tr.w3,Tr.num,Tr.least,Tr.most,Tr.bare,u0]
theorem nlS_free:nlS.freeT=true:=by decide
theorem nlG_free:(Tr.grp 1 nlS).freeT=false:=by decide
theorem nmlives_any (A : Nat → Addr) (w : World) (hE : ErrsC w A) (hP : Lib.TabIs Tryd.prog w "internal/strconv.uint64pow10" .u64 Lib.pow10Tab) : Calls Tryd.prog 41 #[] w fun e w' => e = .returned (.bool true) ∧ Below w.heap.size w w' := by
 have HE:=Lib.hid (fun w9 (hb:Below w.heap.size w w9)=>hE.below hb)
 have HPW:=Lib.hid (Lib.tabBelow_of_tabIs hP)
 have HT:=Lib.hid (show ∀ w,Calls Tryd.prog 59 #[.string ⟨#[97]⟩] w (OwnEnd nlA w) from fun w=>treetext_any ⟨#[97]⟩ (by decide) w)
 clear hE hP
 go_enter Tryd.func41,Tryd.ntmps41
 go_wp2_with fail
 refine (HT.out w).mono ?_
 rintro e w1 ⟨s1,F1,rfl,ho,-,hb1⟩
 have HV1:=Lib.hid (show NodeV w1 (fun b=>b ∈ F1) (.agg (nlA.cells s1)) nlA from ⟨s1,rfl,ho.trees⟩)
 have HB1:=Lib.hid hb1
 clear ho hb1
 generalize nlA.cells s1=C1 at *
 go_wp2_with fail
 refine (rep_any nlA 0 (-1) w1 _ _ HV1.out).mono ?_
 rintro e w2 ⟨s2,F2,rfl,ho,-,hb2⟩
 obtain ⟨p2,c2,rfl,-⟩:=ho.slice
 have HB2:=Lib.hid (HB1.out.trans (hb2.mono HB1.out.size))
 have hcc:(Tr.rep 0 (-1) nlA).cells (.slice p2 (Tr.rep 0 (-1) nlA).subs.length c2)=nlS.cells (.slice p2 nlS.subs.length c2):=rfl
 rw [hcc]
 have hba:Below w2.heap.size w2 (w2.alloc (.cells (nlS.cells (.slice p2 nlS.subs.length c2)) 37)):=(Below.refl _ _).alloc (Nat.le_refl _) _
 have HV2:=Lib.hid (show NodeV (w2.alloc (.cells (nlS.cells (.slice p2 nlS.subs.length c2)) 37)) (fun b=>b ∈ F2) (.agg (nlS.cells (.slice p2 nlS.subs.length c2))) nlS from ⟨_,rfl,ho.trees.later hba⟩)
 have Y2:=Lib.hid (heap_alloc_new w2 (.cells (nlS.cells (.slice p2 nlS.subs.length c2)) 37))
 have HB2a:=Lib.hid (HB2.out.trans (hba.mono HB2.out.size))
 clear ho hb2 HB1 HV1 hcc hba HB2
 have hl2:nlS.subs.length=1:=rfl
 rw [hl2,nlS_cells] at HV2 Y2 HB2a ⊢
 clear hl2
 go_upto_region 2 with (fail)
 generalize w2.alloc _=w3 at *
 go_wp2_with (first
   | (refine wpList_load_row rfl 37 (.tmp 1) rfl w2.heap.size rfl 37 _ (0,0) _ Y2.out Tryd.underlying37 rfl (by kernel_rfl) ?_)
   | fail)
 refine (rep_any nlS 2 5 w3 _ _ HV2.out).mono ?_
 rintro e w4 ⟨s4,F4,rfl,ho,-,hb4⟩
 have HV4:=Lib.hid (show NodeV w4 (fun b=>b ∈ F4) (.agg (nlT.cells s4)) nlT from ⟨s4,rfl,ho.trees⟩)
 have HB4:=Lib.hid (HB2a.out.trans (hb4.mono HB2a.out.size))
 have Y4:=Lib.hid (keep_blk hb4 Y2.out);have HS4:=Lib.hid (HV2.out.later hb4)
 clear ho hb4 Y2 HB2a HV2
 have hcc:(Tr.rep 2 5 nlS).cells s4=nlT.cells s4:=rfl
 rw [hcc]
 clear hcc
 generalize nlT.cells s4=C4 at *
 go_wp2_with fail
 refine (nmapi_yes A nlT nlT_chk (by decide) w4 (HE.out w4 HB4.out) (HPW.out w4 HB4.out) _ _ HV4.out).mono ?_
 rintro e w5 ⟨s5,F5,rfl,ho,-,hb5⟩
 rw [nlT_nm] at ho ⊢
 obtain ⟨p5,c5,rfl,-⟩:=ho.slice
 have hl5:nlS.subs.length=1:=rfl
 rw [hl5,nlS_cells]
 rw [hl5] at ho
 have hba:Below w5.heap.size w5 (w5.alloc (.cells #[.int .i64 8,.int .u64 0,.int .u64 0,.int .u64 0,.int .u64 0,.slice p5 1 c5,.int .i64 0,.int .i64 0,.int .i64 (-1),.bool false] 37)):=(Below.refl _ _).alloc (Nat.le_refl _) _
 have V5:=Lib.hid (heap_alloc_new w5 (.cells #[.int .i64 8,.int .u64 0,.int .u64 0,.int .u64 0,.int .u64 0,.slice p5 1 c5,.int .i64 0,.int .i64 0,.int .i64 (-1),.bool false] 37))
 have Y5:=Lib.hid (keep_blk hba (keep_blk hb5 Y4.out))
 have HB5:=Lib.hid ((HB4.out.trans (hb5.mono HB4.out.size)).trans (hba.mono (HB4.out.trans (hb5.mono HB4.out.size)).size))
 have HS5:=Lib.hid ((HS4.out.later hb5).later hba)
 have HN5:=Lib.hid (show NodeV (w5.alloc (.cells #[.int .i64 8,.int .u64 0,.int .u64 0,.int .u64 0,.int .u64 0,.slice p5 1 c5,.int .i64 0,.int .i64 0,.int .i64 (-1),.bool false] 37)) (fun b=>b ∈ F5) (.agg #[.int .i64 8,.int .u64 0,.int .u64 0,.int .u64 0,.int .u64 0,.slice p5 1 c5,.int .i64 0,.int .i64 0,.int .i64 (-1),.bool false]) nlS from ⟨_,by rw [nlS_cells],ho.trees.later hba⟩)
 clear hl5 ho hb5 hba HB4 Y4 HS4 HV4
 go_upto_region 3 with (fail)
 generalize w5.alloc _=w6 at *
 obtain ⟨q0,q1,q2,q3,q4,q5,q6,q7,q8,q9⟩:=allTen V5.out
 obtain ⟨r0,r1,r2,r3,r4,r5,r6,r7,r8,r9⟩:=allTen Y5.out
 go_wp2_with fail
 clear q0 q1 q2 q3 q4 q5 q6 q7 q8 q9 r0 r1 r2 r3 r4 r5 r6 r7 r8 r9
 refine (samenodes_any nlS nlS w6 _ _ _ _ HN5.out HS5.out).mono ?_
 rintro e w7 ⟨b7,rfl,hb7,hbw⟩
 obtain rfl:b7=true:=hb7.2 rfl
 have HB7:=Lib.hid (HB5.out.trans (hbw.mono HB5.out.size));have Y7:=Lib.hid (keep_blk hbw Y5.out);have HS7:=Lib.hid (HS5.out.later hbw)
 clear hb7 hbw HB5 Y5 HS5 V5 HN5
 obtain ⟨r0,r1,r2,r3,r4,r5,r6,r7,r8,r9⟩:=allTen Y7.out
 go_wp2_with fail
 clear r0 r1 r2 r3 r4 r5 r6 r7 r8 r9
 refine (nmfree_any nlS w7 _ _ HS7.out).mono ?_
 rintro e w8 ⟨rfl,hbw⟩
 rw [nlS_free]
 have HB8:=Lib.hid (HB7.out.trans (hbw.mono HB7.out.size));have Y8:=Lib.hid (keep_blk hbw Y7.out);have HS8:=Lib.hid (HS7.out.later hbw)
 clear hbw HB7 Y7 HS7
 obtain ⟨r0,r1,r2,r3,r4,r5,r6,r7,r8,r9⟩:=allTen Y8.out
 go_wp2_with fail
 clear r0 r1 r2 r3 r4 r5 r6 r7 r8 r9
 refine (group_any nlS 1 w8 _ _ HS8.out).mono ?_
 rintro e w9 ⟨s9,F9,rfl,ho,-,hbw⟩
 have HV9:=Lib.hid (show NodeV w9 (fun b=>b ∈ F9) (.agg ((Tr.grp 1 nlS).cells s9)) (Tr.grp 1 nlS) from ⟨s9,rfl,ho.trees⟩)
 have HB9:=Lib.hid (HB8.out.trans (hbw.mono HB8.out.size))
 clear ho hbw HB8 Y8 HS8
 generalize (Tr.grp 1 nlS).cells s9=C9 at *
 go_wp2_with fail
 refine (nmfree_any (Tr.grp 1 nlS) w9 _ _ HV9.out).mono ?_
 rintro e w10 ⟨rfl,hbw⟩
 rw [nlG_free]
 have HB10:=Lib.hid (HB9.out.trans (hbw.mono HB9.out.size))
 clear hbw HB9 HV9
 go_wp2
 go_ret
 exact ⟨rfl,HB10.out⟩
end Go.Proofs.YtllfgppjobinnaaDoor
namespace Go.Proofs.YtllfgppjobinnaaDoor
open Go.RowKit
namespace Tr
def gsFrom (a:Int) (l:List Tr) (m:Nat):Int:=max a (gsS (l.take m))
theorem gsFrom_zero {a:Int} (h:0 ≤ a) (l:List Tr):gsFrom a l 0=a:=by unfold gsFrom;rw [List.take_zero,gsS];omega
theorem gsFrom_succ {a:Int} (h:0 ≤ a) {l:List Tr} {m:Nat} {x:Tr} (hx:l[m]? = some x):gsFrom a l (m+1)=if gsFrom a l m < x.gsT then x.gsT else gsFrom a l m:=by
 have:=gsS_take l m x hx a h
 unfold gsFrom
 rw [← this]
 split <;> omega
end Tr
theorem nmgroups_any:∀ t:Tr,∀ (w:World) (B:Nat→Prop) (v:Value),NodeV w B v t→Calls Tryd.prog 53 #[v] w fun e w'=>e=.returned (.int .i64 t.gsT)∧Below w.heap.size w w':=by
 intro t
 induction t using Tr.rec_subs with
 | h t ih =>
 intro w B v hv
 obtain ⟨s,rfl,hs⟩:=hv
 obtain ⟨p,cap,rfl,hlen⟩:=hs.slice
 rw [Tr.gsT_eq]
 by_cases h7:t.kind=7
 · by_cases h0:0 < t.num
   · rw [if_pos h7,show max 0 t.num=t.num by omega]
     generalize hts:t.subs=ts at *
     have IH:=Lib.hid ih;have HS:=Lib.hid hs
     clear ih hs hts
     unfold Tr.cells
     rw [h7]
     have hm0:max 0 t.num=t.num:=by omega
     clear h7
     go_enter Tryd.func53,Tryd.ntmps53
     go_wp2
     go_loopw [3,16] (fun gv iv wr=>∃ m:Nat,iv=.int .i64 m∧m ≤ ts.length∧gv=.int .i64 (Tr.gsFrom t.num ts m)∧Hid (Below w.heap.size w wr)) (fun _ iv _=>ts.length - (intOf iv).toNat)
     case atStart=>exact ⟨0,rfl,Nat.zero_le _,by rw [Tr.gsFrom_zero (by omega)],Lib.hid (by go_grown)⟩
     case round =>
       obtain ⟨m,rfl,hm,rfl,HB⟩:=hrel
       have wm:IntKind.i64.wrap ((m:Int)+1)=(m:Int)+1:=IntWalk.i64_in _ (by omega)
       by_cases hlt:m < ts.length
       · obtain ⟨x,hx⟩:∃ x,ts[m]? = some x:=⟨_,List.getElem?_eq_getElem hlt⟩
         obtain ⟨b1,o1,s1,rfl,-,t1,sub1⟩:=HS.out.get hx
         obtain ⟨d0,d1,d2,d3,d4,d5,d6,d7,d8,d9⟩:=t1.keep (HB.out.block _ t1.lt)
         have hmem:=List.mem_of_getElem? hx
         obtain ⟨p1,c1,rfl,hl1⟩:=sub1.slice
         have HC:=Lib.hid (fun w9 hb=>IH.out x hmem w9 B (.agg (x.cells (.slice p1 x.subs.length c1))) ⟨_,rfl,sub1.later hb⟩)
         have HSTP:=Lib.hid (Tr.gsFrom_succ (a:=t.num) (by omega) hx)
         clear t1 sub1 hmem hx
         unfold Tr.cells at HC
         go_wp2_with fail
         generalize hw1:World.alloc wr _=w1
         have hb1:Below wr.heap.size wr w1:=by rw [← hw1];exact (Below.refl _ _).alloc (Nat.le_refl _) _
         clear hw1
         refine (HC.out w1 (HB.out.trans (hb1.mono HB.out.size))).mono ?_
         rintro e w2 ⟨rfl,hb2⟩
         have HB2:=Lib.hid (HB.out.trans ((hb1.trans (hb2.mono hb1.size)).mono HB.out.size))
         clear d0 d1 d2 d3 d4 d5 d6 d7 d8 d9 hb1 hb2 HC
         generalize hq:Tr.gsFrom t.num ts m=q at *
         generalize x.gsT=N at *
         clear hq
         go_wp2
         all_goals exact ⟨⟨m+1,by go_num,by omega,by rw [HSTP.out];try (congr 1;split <;> omega),HB2⟩,by simp [intOf];omega⟩
       · obtain rfl:m=ts.length:=by omega
         have HE:Hid (Tr.gsFrom t.num ts ts.length=max t.num (Tr.gsS ts)):=Lib.hid (by unfold Tr.gsFrom;rw [List.take_length])
         go_wp2
         go_ret
         exact ⟨by rw [HE.out];rfl,HB.out⟩
   · rw [if_pos h7,show max 0 t.num=0 by omega]
     generalize hts:t.subs=ts at *
     have IH:=Lib.hid ih;have HS:=Lib.hid hs
     clear ih hs hts
     unfold Tr.cells
     rw [h7]
     have hm0:max 0 t.num=0:=by omega
     clear h7
     go_enter Tryd.func53,Tryd.ntmps53
     go_wp2
     go_loopw [3,16] (fun gv iv wr=>∃ m:Nat,iv=.int .i64 m∧m ≤ ts.length∧gv=.int .i64 (Tr.gsFrom 0 ts m)∧Hid (Below w.heap.size w wr)) (fun _ iv _=>ts.length - (intOf iv).toNat)
     case atStart=>exact ⟨0,rfl,Nat.zero_le _,by rw [Tr.gsFrom_zero (by omega)],Lib.hid (by go_grown)⟩
     case round =>
       obtain ⟨m,rfl,hm,rfl,HB⟩:=hrel
       have wm:IntKind.i64.wrap ((m:Int)+1)=(m:Int)+1:=IntWalk.i64_in _ (by omega)
       by_cases hlt:m < ts.length
       · obtain ⟨x,hx⟩:∃ x,ts[m]? = some x:=⟨_,List.getElem?_eq_getElem hlt⟩
         obtain ⟨b1,o1,s1,rfl,-,t1,sub1⟩:=HS.out.get hx
         obtain ⟨d0,d1,d2,d3,d4,d5,d6,d7,d8,d9⟩:=t1.keep (HB.out.block _ t1.lt)
         have hmem:=List.mem_of_getElem? hx
         obtain ⟨p1,c1,rfl,hl1⟩:=sub1.slice
         have HC:=Lib.hid (fun w9 hb=>IH.out x hmem w9 B (.agg (x.cells (.slice p1 x.subs.length c1))) ⟨_,rfl,sub1.later hb⟩)
         have HSTP:=Lib.hid (Tr.gsFrom_succ (a:=0) (by omega) hx)
         clear t1 sub1 hmem hx
         unfold Tr.cells at HC
         go_wp2_with fail
         generalize hw1:World.alloc wr _=w1
         have hb1:Below wr.heap.size wr w1:=by rw [← hw1];exact (Below.refl _ _).alloc (Nat.le_refl _) _
         clear hw1
         refine (HC.out w1 (HB.out.trans (hb1.mono HB.out.size))).mono ?_
         rintro e w2 ⟨rfl,hb2⟩
         have HB2:=Lib.hid (HB.out.trans ((hb1.trans (hb2.mono hb1.size)).mono HB.out.size))
         clear d0 d1 d2 d3 d4 d5 d6 d7 d8 d9 hb1 hb2 HC
         generalize hq:Tr.gsFrom 0 ts m=q at *
         generalize x.gsT=N at *
         clear hq
         go_wp2
         all_goals exact ⟨⟨m+1,by go_num,by omega,by rw [HSTP.out];try (congr 1;split <;> omega),HB2⟩,by simp [intOf];omega⟩
       · obtain rfl:m=ts.length:=by omega
         have HE:Hid (Tr.gsFrom 0 ts ts.length=max 0 (Tr.gsS ts)):=Lib.hid (by unfold Tr.gsFrom;rw [List.take_length])
         go_wp2
         go_ret
         exact ⟨by rw [HE.out];rfl,HB.out⟩
 · rw [if_neg h7]
   generalize hts:t.subs=ts at *
   have IH:=Lib.hid ih;have HS:=Lib.hid hs
   clear ih hs hts
   unfold Tr.cells
   have e7:(t.kind == 7)=false:=by simpa using h7
   clear h7
   go_enter Tryd.func53,Tryd.ntmps53
   go_wp2
   go_loopw [3,16] (fun gv iv wr=>∃ m:Nat,iv=.int .i64 m∧m ≤ ts.length∧gv=.int .i64 (Tr.gsFrom 0 ts m)∧Hid (Below w.heap.size w wr)) (fun _ iv _=>ts.length - (intOf iv).toNat)
   case atStart=>exact ⟨0,rfl,Nat.zero_le _,by rw [Tr.gsFrom_zero (by omega)],Lib.hid (by go_grown)⟩
   case round =>
     obtain ⟨m,rfl,hm,rfl,HB⟩:=hrel
     have wm:IntKind.i64.wrap ((m:Int)+1)=(m:Int)+1:=IntWalk.i64_in _ (by omega)
     by_cases hlt:m < ts.length
     · obtain ⟨x,hx⟩:∃ x,ts[m]? = some x:=⟨_,List.getElem?_eq_getElem hlt⟩
       obtain ⟨b1,o1,s1,rfl,-,t1,sub1⟩:=HS.out.get hx
       obtain ⟨d0,d1,d2,d3,d4,d5,d6,d7,d8,d9⟩:=t1.keep (HB.out.block _ t1.lt)
       have hmem:=List.mem_of_getElem? hx
       obtain ⟨p1,c1,rfl,hl1⟩:=sub1.slice
       have HC:=Lib.hid (fun w9 hb=>IH.out x hmem w9 B (.agg (x.cells (.slice p1 x.subs.length c1))) ⟨_,rfl,sub1.later hb⟩)
       have HSTP:=Lib.hid (Tr.gsFrom_succ (a:=0) (by omega) hx)
       clear t1 sub1 hmem hx
       unfold Tr.cells at HC
       go_wp2_with fail
       generalize hw1:World.alloc wr _=w1
       have hb1:Below wr.heap.size wr w1:=by rw [← hw1];exact (Below.refl _ _).alloc (Nat.le_refl _) _
       clear hw1
       refine (HC.out w1 (HB.out.trans (hb1.mono HB.out.size))).mono ?_
       rintro e w2 ⟨rfl,hb2⟩
       have HB2:=Lib.hid (HB.out.trans ((hb1.trans (hb2.mono hb1.size)).mono HB.out.size))
       clear d0 d1 d2 d3 d4 d5 d6 d7 d8 d9 hb1 hb2 HC
       generalize hq:Tr.gsFrom 0 ts m=q at *
       generalize x.gsT=N at *
       clear hq
       go_wp2
       all_goals exact ⟨⟨m+1,by go_num,by omega,by rw [HSTP.out];try (congr 1;split <;> omega),HB2⟩,by simp [intOf];omega⟩
     · obtain rfl:m=ts.length:=by omega
       have HE:Hid (Tr.gsFrom 0 ts ts.length=max 0 (Tr.gsS ts)):=Lib.hid (by unfold Tr.gsFrom;rw [List.take_length])
       go_wp2
       go_ret
       exact ⟨by rw [HE.out];rfl,HB.out⟩
end Go.Proofs.YtllfgppjobinnaaDoor
namespace Go.Proofs.YtllfgppjobinnaaDoor
namespace Tr
theorem dpS_nd:∀ {l:List Tr},(∀ t,t ∈ l→t.dpT ≤ 2 * t.ndT)→dpS l ≤ 2 * ndS l
 | [],_=>by simp [dpS]
 | t :: l,h=>by
   have h1:=h t List.mem_cons_self
   have h2:=dpS_nd (l:=l) fun u hu=>h u (List.mem_cons_of_mem _ hu)
   rw [dpS,ndS];omega
theorem dp_nd (t:Tr):t.dpT ≤ 2 * t.ndT:=by
 induction t using Tr.rec_subs with
 | h t ih =>
   have h:=dpS_nd ih
   rw [dpT_eq,ndT_eq]
   split
   · omega
   · split <;> omega
end Tr
end Go.Proofs.YtllfgppjobinnaaDoor
namespace Go.Proofs.YtllfgppjobinnaaDoor
open Go.RowKit
theorem Tr.gs_nm:∀ {t:Tr},t.InForm→t.nmT.gsT=t.gsT:=by
 intro t
 induction t using Tr.rec_subs with
 | h t ih =>
   intro hf
   cases hfr:t.freeT with
   | true=>rw [Tr.gs_free hfr,Tr.gs_free (by rw [Tr.free_nm hf];exact hfr)]
   | false =>
     have part:∀ l:List Tr,(∀ u,u ∈ l→u ∈ t.subs)→Tr.gsS (l.map Tr.nmT)=Tr.gsS l:=by
       intro l
       induction l with
       | nil=>intro _;rfl
       | cons u l il =>
         intro hm
         have hu:=hm u List.mem_cons_self
         rw [List.map_cons,Tr.gsS,Tr.gsS,ih u hu (hf.sub hu),il fun v hv=>hm v (List.mem_cons_of_mem _ hv)]
     rw [Tr.nmT_other hfr,Tr.gsT_eq,Tr.gsT_eq t]
     show max (if t.kind=7 then max 0 t.num else 0) (Tr.gsS (t.subs.map Tr.nmT))=_
     rw [part t.subs fun _ h=>h]
theorem normalless_any (A : Nat → Addr) (t : Tr) (w : World) (hE : Errs w A) (hP : Lib.TabIs Tryd.prog w "internal/strconv.uint64pow10" .u64 Lib.pow10Tab) (B : Nat → Prop) (v : Value) (hv : NodeV w B v t) :
   Calls Tryd.prog 8 #[v] w fun e w'=>e=.returned (.bool true)∧Below w.heap.size w w':=by
 have HE:=Lib.hid (fun w9 (h:Below w.heap.size w w9)=>hE.below h)
 have HPW:=Lib.hid (Lib.tabBelow_of_tabIs hP)
 have HLV:=Lib.hid (fun w9 (h:Below w.heap.size w w9)=>nmlives_any A w9 (hE.below h).few.c (Lib.tabBelow_of_tabIs hP w9 h))
 obtain ⟨s,rfl,hs⟩:=hv
 obtain ⟨p,cap,rfl,-⟩:=hs.slice
 have HV:=Lib.hid (fun w9 (hb:Below w.heap.size w w9)=>(show NodeV w9 B (.agg (t.cells (.slice p t.subs.length cap))) t from ⟨_,rfl,hs.later hb⟩))
 clear hs hE hP
 have HF:=Lib.hid (fun w9 (hb:Below w.heap.size w w9)=>few_any t 2000 (by omega) w9 B _ (HV.out w9 hb))
 have HT:=Lib.hid (heap_alloc_new w (.cells (t.cells (.slice p t.subs.length cap)) 37))
 have HW:=Lib.hid (show Below w.heap.size w (w.alloc (.cells (t.cells (.slice p t.subs.length cap)) 37)) from (Below.refl _ _).alloc (Nat.le_refl _) _)
 unfold Tr.cells at *
 go_enter Tryd.func8,Tryd.ntmps8
 go_upto_region 1 with (fail)
 generalize w.alloc _=w0 at *
 go_wp2_with fail
 refine (HLV.out w0 HW.out).mono ?_
 rintro e w1 ⟨rfl,hb1⟩
 have HB1:=Lib.hid (HW.out.trans (hb1.mono HW.out.size));have T1:=Lib.hid (keep_blk hb1 HT.out)
 clear hb1 HLV HW HT
 go_wp2_with (first
   | (refine wpList_load_row rfl 37 (.tmp 1) rfl w.heap.size rfl 37 _ (0,0) _ T1.out Tryd.underlying37 rfl (by kernel_rfl) ?_)
   | fail)
 refine (HF.out w1 HB1.out).mono ?_
 rintro e w2 ⟨rfl,hb2⟩
 have HB2:=Lib.hid (HB1.out.trans (hb2.mono HB1.out.size));have T2:=Lib.hid (keep_blk hb2 T1.out)
 clear hb2 HF HB1 T1
 by_cases hf:t.ndT ≤ 2000
 case neg =>
   rw [decide_eq_false hf]
   go_wp2
   go_ret
   exact ⟨rfl,HB2.out⟩
 rw [decide_eq_true hf]
 have hd:t.dpT ≤ 1000000:=by have:=Tr.dp_nd t;omega
 by_cases hc:t.checkC=0
 case neg =>
   have HX:=Lib.hid (fun w9 (hb:Below w.heap.size w w9)=>nmapi_no A t hd hc w9 (HE.out w9 hb).few.c B _ (HV.out w9 hb))
   have HKK:=Lib.hid (fun w9 (hb:Below w.heap.size w w9)=>treecheckC_any A t hd w9 (HE.out w9 hb).few.c B _ (HV.out w9 hb))
   have HNN:=Lib.hid (fun w9 (hb:Below w.heap.size w w9)=>sentV_num A t.checkC (Tr.checkC_lt t) w9 (HE.out w9 hb))
   obtain ⟨ty,ad,hn⟩:=(show ∃ ty a,sentV A t.checkC=.iface ty (.pointer (some a)) from ⟨_,_,if_neg hc⟩)
   rw [hn] at HX HKK HNN
   generalize t.checkC=c at *
   clear hc hn hf hd
   go_wp2_with (first
     | (refine wpList_load_row rfl 37 (.tmp 1) rfl w.heap.size rfl 37 _ (0,0) _ T2.out Tryd.underlying37 rfl (by kernel_rfl) ?_)
     | fail)
   refine (HX.out w2 HB2.out).mono ?_
   rintro e w3 ⟨rfl,hb3⟩
   have HB:=Lib.hid ((HB2.out.trans (hb3.mono HB2.out.size)).alloc (HB2.out.trans (hb3.mono HB2.out.size)).size (.cells noNode 37))
   have X0:=Lib.hid (heap_alloc_lt (o:=.cells noNode 37) (keep_blk hb3 T2.out))
   clear hb3 HX HB2 T2
   go_upto_region 7 with (fail)
   generalize w3.alloc _=w4 at *
   have HK:=Lib.hid (fun w9 (hb:Below w4.heap.size w4 w9)=>HKK.out w9 (HB.out.trans (hb.mono HB.out.size)))
   have HN:=Lib.hid (fun w9 (hb:Below w4.heap.size w4 w9)=>HNN.out w9 (HB.out.trans (hb.mono HB.out.size)))
   clear HKK HNN HE HV
   refine Ri.wp_region_frame (by kernel_rfl) (by kernel_rfl) (by kernel_rfl) (by kernel_rfl)
     (fun L v w'=>Below w4.heap.size w4 w'∧(L 0=true→v 0=.agg #[.int .i64 t.kind,.int .u64 (Oc.U t.w0),.int .u64 (Oc.U t.w1),.int .u64 (Oc.U t.w2),.int .u64 (Oc.U t.w3),.slice p t.subs.length cap,.int .i64 t.num,.int .i64 t.least,.int .i64 t.most,.bool t.bare])∧(L 1=true→v 1=.iface ty (.pointer (some ad)))∧(L 2=true→v 2=.bool true)∧(L 3=true→v 3=.bool true)∧(L 4=true→v 4=.iface ty (.pointer (some ad)))∧(L 5=true→v 5=.int .i64 (c:Int))∧(L 6=true→v 6=.agg #[.int .i64 t.kind,.int .u64 (Oc.U t.w0),.int .u64 (Oc.U t.w1),.int .u64 (Oc.U t.w2),.int .u64 (Oc.U t.w3),.slice p t.subs.length cap,.int .i64 t.num,.int .i64 t.least,.int .i64 t.most,.bool t.bare])∧(L 7=true→v 7=.iface ty (.pointer (some ad)))∧(L 8=true→v 8=.int .i64 (c:Int))∧(L 9=true→v 9=.bool true)∧(L 10=true→v 10=.bool true)∧(L 11=true→v 11=.bool true))
     ?_ ?_ ?_
   · exact ⟨(Below.refl _ _).drew,by simp,by simp,by simp,by simp,by simp,by simp,by simp,by simp,by simp,by simp,by simp,by simp⟩
   · intro i hi9 L v w9 xa hI hL hd hv ho
     have hi':i=0 ∨ i=1 ∨ i=2 ∨ i=3 ∨ i=4 ∨ i=5 ∨ i=6 ∨ i=7 ∨ i=8 ∨ i=9 ∨ i=10 ∨ i=11:=by simp at hi9;omega
     obtain ⟨hb,q0,q1,q2,q3,q4,q5,q6,q7,q8,q9,q10,q11⟩:=hI
     rcases hi' with rfl | rfl | rfl | rfl | rfl | rfl | rfl | rfl | rfl | rfl | rfl | rfl
     · have e1:xa.tmps.getD 1 undef=.pointer (some ⟨w.heap.size,0,none⟩):=ho 1 (by kernel_rfl)
       refine Ri.step_plain rfl rfl (fun K' hK=>?_)
       obtain ⟨d0,d1,d2,d3,d4,d5,d6,d7,d8,d9⟩:=allTen (keep_blk hb X0.out)
       go_simp
       exact hK _ _ ⟨_,_,rfl,rfl,hb,fun _=>rfl,q1,q2,q3,q4,q5,q6,q7,q8,q9,q10,q11⟩
     · have l0:L 0=true:=by have:=hd _ rfl;simp [Region.binds] at this;simp [this]
       have f0:=(hv 0 18 rfl l0).trans (q0 l0)
       refine Ri.step_plain rfl rfl (fun K' hK=>?_)
       go_simp
       refine (HK.out _ hb).mono ?_
       rintro e w8 ⟨rfl,hb8⟩
       exact hK _ _ ⟨_,_,rfl,rfl,hb.trans (hb8.mono hb.size),q0,fun _=>rfl,q2,q3,q4,q5,q6,q7,q8,q9,q10,q11⟩
     · have l0:L 1=true:=by have:=hd _ rfl;simp [Region.binds] at this;simp [this]
       have f1:=(hv 1 19 rfl l0).trans (q1 l0)
       refine Ri.step_plain rfl rfl (fun K' hK=>?_)
       go_simp
       exact hK _ _ ⟨_,_,rfl,rfl,hb,q0,q1,fun _=>rfl,q3,q4,q5,q6,q7,q8,q9,q10,q11⟩
     · have l0:L 2=true:=by have:=hd _ rfl;simp [Region.binds] at this;simp [this]
       have f2:=(hv 2 20 rfl l0).trans (q2 l0)
       refine Ri.step_plain rfl rfl (fun K' hK=>?_)
       go_simp
       exact hK _ _ ⟨_,_,rfl,rfl,hb,q0,q1,q2,fun _=>rfl,q4,q5,q6,q7,q8,q9,q10,q11⟩
     · have l0:L 3=true:=by have:=hd _ rfl;simp [Region.binds] at this;simp [this]
       have f3:=(hv 3 21 rfl l0).trans (q3 l0)
       have e4:xa.tmps.getD 4 undef=.iface ty (.pointer (some ad)):=ho 4 (by kernel_rfl)
       refine Ri.step_wanted (b:=true) rfl rfl rfl f3 (fun K' hK=>?_)
       go_simp
       exact hK _ _ ⟨_,_,rfl,rfl,hb,q0,q1,q2,q3,fun _=>rfl,q5,q6,q7,q8,q9,q10,q11⟩
     · have l0:L 3=true∧L 4=true:=by have:=hd _ rfl;simp [Region.binds] at this;simp [this]
       have f3:=(hv 3 21 rfl l0.1).trans (q3 l0.1)
       have f4:=(hv 4 22 rfl l0.2).trans (q4 l0.2)
       refine Ri.step_wanted (b:=true) rfl rfl rfl f3 (fun K' hK=>?_)
       go_simp
       refine (HN.out _ hb).mono ?_
       rintro e w8 ⟨rfl,hb8⟩
       exact hK _ _ ⟨_,_,rfl,rfl,hb.trans (hb8.mono hb.size),q0,q1,q2,q3,q4,fun _=>rfl,q6,q7,q8,q9,q10,q11⟩
     · have l0:L 3=true:=by have:=hd _ rfl;simp [Region.binds] at this;simp [this]
       have f3:=(hv 3 21 rfl l0).trans (q3 l0)
       have e1:xa.tmps.getD 1 undef=.pointer (some ⟨w.heap.size,0,none⟩):=ho 1 (by kernel_rfl)
       refine Ri.step_wanted (b:=true) rfl rfl rfl f3 (fun K' hK=>?_)
       obtain ⟨d0,d1,d2,d3,d4,d5,d6,d7,d8,d9⟩:=allTen (keep_blk hb X0.out)
       go_simp
       exact hK _ _ ⟨_,_,rfl,rfl,hb,q0,q1,q2,q3,q4,q5,fun _=>rfl,q7,q8,q9,q10,q11⟩
     · have l0:L 3=true∧L 6=true:=by have:=hd _ rfl;simp [Region.binds] at this;simp [this]
       have f3:=(hv 3 21 rfl l0.1).trans (q3 l0.1)
       have f6:=(hv 6 24 rfl l0.2).trans (q6 l0.2)
       refine Ri.step_wanted (b:=true) rfl rfl rfl f3 (fun K' hK=>?_)
       go_simp
       refine (HK.out _ hb).mono ?_
       rintro e w8 ⟨rfl,hb8⟩
       exact hK _ _ ⟨_,_,rfl,rfl,hb.trans (hb8.mono hb.size),q0,q1,q2,q3,q4,q5,q6,fun _=>rfl,q8,q9,q10,q11⟩
     · have l0:L 3=true∧L 7=true:=by have:=hd _ rfl;simp [Region.binds] at this;simp [this]
       have f3:=(hv 3 21 rfl l0.1).trans (q3 l0.1)
       have f7:=(hv 7 25 rfl l0.2).trans (q7 l0.2)
       refine Ri.step_wanted (b:=true) rfl rfl rfl f3 (fun K' hK=>?_)
       go_simp
       refine (HN.out _ hb).mono ?_
       rintro e w8 ⟨rfl,hb8⟩
       exact hK _ _ ⟨_,_,rfl,rfl,hb.trans (hb8.mono hb.size),q0,q1,q2,q3,q4,q5,q6,q7,fun _=>rfl,q9,q10,q11⟩
     · have l0:L 3=true∧L 5=true∧L 8=true:=by have:=hd _ rfl;simp [Region.binds] at this;simp [this]
       have f3:=(hv 3 21 rfl l0.1).trans (q3 l0.1)
       have f5:=(hv 5 23 rfl l0.2.1).trans (q5 l0.2.1)
       have f8:=(hv 8 26 rfl l0.2.2).trans (q8 l0.2.2)
       refine Ri.step_wanted (b:=true) rfl rfl rfl f3 (fun K' hK=>?_)
       go_simp
       exact hK _ _ ⟨_,_,rfl,rfl,hb,q0,q1,q2,q3,q4,q5,q6,q7,q8,fun _=>rfl,q10,q11⟩
     · have l0:L 3=true∧L 9=true:=by have:=hd _ rfl;simp [Region.binds] at this;simp [this]
       have f3:=(hv 3 21 rfl l0.1).trans (q3 l0.1)
       have f9:=(hv 9 27 rfl l0.2).trans (q9 l0.2)
       refine Ri.step_plain rfl rfl (fun K' hK=>?_)
       go_simp
       exact hK _ _ ⟨_,_,rfl,rfl,hb,q0,q1,q2,q3,q4,q5,q6,q7,q8,q9,fun _=>rfl,q11⟩
     · have l0:L 10=true:=by have:=hd _ rfl;simp [Region.binds] at this;simp [this]
       have f10:=(hv 10 28 rfl l0).trans (q10 l0)
       refine Ri.step_plain rfl rfl (fun K' hK=>?_)
       go_simp
       exact hK _ _ ⟨_,_,rfl,rfl,hb,q0,q1,q2,q3,q4,q5,q6,q7,q8,q9,q10,fun _=>rfl⟩
   · rintro v w9 ⟨hb,-,-,-,-,-,-,-,-,-,-,-,q11⟩
     have q11':v 11=.bool true:=q11 rfl
     simp only [Ri.frame,List.zipIdx,List.foldl_cons,List.foldl_nil,if_true,List.setIfInBounds_toArray,List.set_cons_zero,List.set_cons_succ,Nat.reduceAdd,q11']
     clear q11 q11'
     generalize v 0=y0;generalize v 1=y1;generalize v 2=y2;generalize v 3=y3;generalize v 4=y4;generalize v 5=y5;generalize v 6=y6;generalize v 7=y7;generalize v 8=y8;generalize v 9=y9;generalize v 10=y10
     have HB5:=Lib.hid (HB.out.trans (hb.mono HB.out.size))
     clear hb
     go_wp2
     go_ret
     exact ⟨rfl,HB5.out⟩
 case pos =>
   obtain ⟨hif,hd2,hz2⟩:=Tr.checkC_zero.1 hc
   have hcx:=Tr.check_nm hc
   have hxx:=Tr.nm_nm hif
   have hnx:=Tr.nd_nm t (fun e=>by obtain ⟨x,hx,-⟩:=hif.rep e;rw [hx];rfl) (fun u hu=>hif.sub hu)
   have hdx:=Tr.dp_nm t hif
   have hsx:=Tr.sz_nm t hif
   have hgx:=Tr.gs_nm hif
   have HX:=Lib.hid (fun w9 (hb:Below w.heap.size w w9)=>nmapi_yes A t hc (by omega) w9 (HE.out w9 hb).few.c (HPW.out w9 hb) B _ (HV.out w9 hb))
   have HSZ0:=Lib.hid (fun w9 (hb:Below w.heap.size w w9)=>treeSize_any t hif w9 B _ (HV.out w9 hb))
   have HGT0:=Lib.hid (fun w9 (hb:Below w.heap.size w w9)=>nmgroups_any t w9 B _ (HV.out w9 hb))
   have HDT0:=Lib.hid (fun w9 (hb:Below w.heap.size w w9)=>treedepth_any t hd w9 B _ (HV.out w9 hb))
   obtain ⟨hif3,hd3,hz3⟩:=Tr.checkC_zero.1 hcx
   generalize t.nmT=R at *
   generalize t.gsT=gt at *
   generalize t.dpT=dt at *
   generalize hn9:t.szT=n at *
   clear hn9 hc hif
   unfold Tr.cells at HX
   go_wp2_with (first
     | (refine wpList_load_row rfl 37 (.tmp 1) rfl w.heap.size rfl 37 _ (0,0) _ T2.out Tryd.underlying37 rfl (by kernel_rfl) ?_)
     | fail)
   refine (HX.out w2 HB2.out).mono ?_
   rintro e w3 ⟨s3,F3,rfl,ho3,-,hb3⟩
   obtain ⟨p3,c3,rfl,-⟩:=ho3.slice
   have hba:Below w3.heap.size w3 (w3.alloc (.cells #[.int .i64 R.kind,.int .u64 (Oc.U R.w0),.int .u64 (Oc.U R.w1),.int .u64 (Oc.U R.w2),.int .u64 (Oc.U R.w3),.slice p3 R.subs.length c3,.int .i64 R.num,.int .i64 R.least,.int .i64 R.most,.bool R.bare] 37)):=(Below.refl _ _).alloc (Nat.le_refl _) _
   have HB:=Lib.hid ((HB2.out.trans (hb3.mono HB2.out.size)).alloc (HB2.out.trans (hb3.mono HB2.out.size)).size (.cells #[.int .i64 R.kind,.int .u64 (Oc.U R.w0),.int .u64 (Oc.U R.w1),.int .u64 (Oc.U R.w2),.int .u64 (Oc.U R.w3),.slice p3 R.subs.length c3,.int .i64 R.num,.int .i64 R.least,.int .i64 R.most,.bool R.bare] 37))
   have X0:=Lib.hid (heap_alloc_lt (o:=.cells #[.int .i64 R.kind,.int .u64 (Oc.U R.w0),.int .u64 (Oc.U R.w1),.int .u64 (Oc.U R.w2),.int .u64 (Oc.U R.w3),.slice p3 R.subs.length c3,.int .i64 R.num,.int .i64 R.least,.int .i64 R.most,.bool R.bare] 37) (keep_blk hb3 T2.out))
   have YX:=Lib.hid (heap_alloc_new w3 (.cells #[.int .i64 R.kind,.int .u64 (Oc.U R.w0),.int .u64 (Oc.U R.w1),.int .u64 (Oc.U R.w2),.int .u64 (Oc.U R.w3),.slice p3 R.subs.length c3,.int .i64 R.num,.int .i64 R.least,.int .i64 R.most,.bool R.bare] 37))
   have HO3:=Lib.hid (ho3.trees.later hba)
   clear ho3 hb3 hba HX HB2 T2
   go_upto_region 8 with (fail)
   generalize w3.alloc _=w4 at *
   have HVX:=Lib.hid (fun w9 (hb:Below w4.heap.size w4 w9)=>(show NodeV w9 (fun b=>b ∈ F3) (.agg (R.cells (.slice p3 R.subs.length c3))) R from ⟨_,rfl,HO3.out.later hb⟩))
   have HX:=Lib.hid (nmapi_yes A R hcx (by omega) w4 (HE.out w4 HB.out).few.c (HPW.out w4 HB.out) _ _ (HVX.out w4 (Below.refl _ _)))
   rw [hxx] at HX
   unfold Tr.cells at HX
   go_wp2_with (first
     | (refine wpList_load_row rfl 37 (.tmp 3) rfl w3.heap.size rfl 37 _ (0,0) _ YX.out Tryd.underlying37 rfl (by kernel_rfl) ?_)
     | fail)
   refine HX.out.mono ?_
   rintro e w5 ⟨s5,F5,rfl,ho5,-,hb5⟩
   obtain ⟨p5,c5,rfl,-⟩:=ho5.slice
   have hba:Below w5.heap.size w5 (w5.alloc (.cells #[.int .i64 R.kind,.int .u64 (Oc.U R.w0),.int .u64 (Oc.U R.w1),.int .u64 (Oc.U R.w2),.int .u64 (Oc.U R.w3),.slice p5 R.subs.length c5,.int .i64 R.num,.int .i64 R.least,.int .i64 R.most,.bool R.bare] 37)):=(Below.refl _ _).alloc (Nat.le_refl _) _
   have hb6:Below w4.heap.size w4 (w5.alloc (.cells #[.int .i64 R.kind,.int .u64 (Oc.U R.w0),.int .u64 (Oc.U R.w1),.int .u64 (Oc.U R.w2),.int .u64 (Oc.U R.w3),.slice p5 R.subs.length c5,.int .i64 R.num,.int .i64 R.least,.int .i64 R.most,.bool R.bare] 37)):=hb5.alloc hb5.size _
   have HB6:=Lib.hid (HB.out.trans (hb6.mono HB.out.size))
   have X06:=Lib.hid (keep_blk hb6 X0.out);have YX6:=Lib.hid (keep_blk hb6 YX.out)
   have YY:=Lib.hid (heap_alloc_new w5 (.cells #[.int .i64 R.kind,.int .u64 (Oc.U R.w0),.int .u64 (Oc.U R.w1),.int .u64 (Oc.U R.w2),.int .u64 (Oc.U R.w3),.slice p5 R.subs.length c5,.int .i64 R.num,.int .i64 R.least,.int .i64 R.most,.bool R.bare] 37))
   have HO5:=Lib.hid (ho5.trees.later hba)
   have HH6:=Lib.hid hb6
   clear ho5 hb5 hba hb6 HX X0 YX HB
   go_upto_region 9 with (fail)
   generalize w5.alloc _=w6 at *
   have HB:=HB6;have X0:=X06;have YX:=YX6
   clear HB6 X06 YX6
   have HVX6:=Lib.hid (fun w9 (hb:Below w6.heap.size w6 w9)=>HVX.out w9 (HH6.out.trans (hb.mono HH6.out.size)))
   have HE6:=Lib.hid (fun w9 (hb:Below w6.heap.size w6 w9)=>(HE.out w9 (HB.out.trans (hb.mono HB.out.size))).few.c)
   have HK:=Lib.hid (fun w9 (hb:Below w6.heap.size w6 w9)=>treecheckC_any A R (by omega) w9 (HE6.out w9 hb) _ _ (HVX6.out w9 hb))
   rw [hcx,sentN_zero] at HK
   have HSX:=Lib.hid (fun w9 (hb:Below w6.heap.size w6 w9)=>treeSize_any R hif3 w9 _ _ (HVX6.out w9 hb))
   have HGX:=Lib.hid (fun w9 (hb:Below w6.heap.size w6 w9)=>nmgroups_any R w9 _ _ (HVX6.out w9 hb))
   rw [hgx] at HGX
   have HGT:=Lib.hid (fun w9 (hb:Below w6.heap.size w6 w9)=>HGT0.out w9 (HB.out.trans (hb.mono HB.out.size)))
   have HSZ:=Lib.hid (fun w9 (hb:Below w6.heap.size w6 w9)=>HSZ0.out w9 (HB.out.trans (hb.mono HB.out.size)))
   have HDT:=Lib.hid (fun w9 (hb:Below w6.heap.size w6 w9)=>HDT0.out w9 (HB.out.trans (hb.mono HB.out.size)))
   have HDX:=Lib.hid (fun w9 (hb:Below w6.heap.size w6 w9)=>treedepth_any R (by omega) w9 _ _ (HVX6.out w9 hb))
   generalize R.dpT=dx at *
   generalize R.szT=nx at *
   have hle:decide (dx ≤ dt)=true:=decide_eq_true (by omega)
   have hle2:decide (nx ≤ n)=true:=decide_eq_true (by omega)
   have HSM:=Lib.hid (fun w9 (hb:Below w6.heap.size w6 w9)=>(treesame_any R R w9 _ _ _ (.agg (R.cells (.slice p5 R.subs.length c5))) (HVX6.out w9 hb) ⟨_,rfl,HO5.out.later hb⟩).mono (fun e w' h=>h.yes rfl))
   unfold Tr.cells SizeEnd at *
   clear HVX HVX6 HE HE6 HV HSZ0 HDT0 HGT0 HO3 HO5 hcx hxx hnx hif3 hd3 hz3 hd hd2 hz2 hf hdx hsx hgx HPW
   refine Ri.wp_region_frame (by kernel_rfl) (by kernel_rfl) (by kernel_rfl) (by kernel_rfl)
     (fun L v w'=>Below w6.heap.size w6 w'∧(L 0=true→v 0=.nilIface)∧(L 1=true→v 1=.bool true)∧(L 2=true→v 2=.bool true)∧(L 3=true→v 3=.agg #[.int .i64 R.kind,.int .u64 (Oc.U R.w0),.int .u64 (Oc.U R.w1),.int .u64 (Oc.U R.w2),.int .u64 (Oc.U R.w3),.slice p3 R.subs.length c3,.int .i64 R.num,.int .i64 R.least,.int .i64 R.most,.bool R.bare])∧(L 4=true→v 4=.agg #[.int .i64 R.kind,.int .u64 (Oc.U R.w0),.int .u64 (Oc.U R.w1),.int .u64 (Oc.U R.w2),.int .u64 (Oc.U R.w3),.slice p5 R.subs.length c5,.int .i64 R.num,.int .i64 R.least,.int .i64 R.most,.bool R.bare])∧(L 5=true→v 5=.bool true)∧(L 6=true→v 6=.bool true)∧(L 7=true→v 7=.bool true)∧(L 8=true→v 8=.agg #[.int .i64 R.kind,.int .u64 (Oc.U R.w0),.int .u64 (Oc.U R.w1),.int .u64 (Oc.U R.w2),.int .u64 (Oc.U R.w3),.slice p3 R.subs.length c3,.int .i64 R.num,.int .i64 R.least,.int .i64 R.most,.bool R.bare])∧(L 9=true→v 9=.nilIface)∧(L 10=true→v 10=.bool true)∧(L 11=true→v 11=.bool true)∧(L 12=true→v 12=.bool true)∧(L 13=true→v 13=.agg #[.int .i64 R.kind,.int .u64 (Oc.U R.w0),.int .u64 (Oc.U R.w1),.int .u64 (Oc.U R.w2),.int .u64 (Oc.U R.w3),.slice p3 R.subs.length c3,.int .i64 R.num,.int .i64 R.least,.int .i64 R.most,.bool R.bare])∧(L 14=true→v 14=.int .i64 (nx:Int))∧(L 15=true→v 15=.agg #[.int .i64 t.kind,.int .u64 (Oc.U t.w0),.int .u64 (Oc.U t.w1),.int .u64 (Oc.U t.w2),.int .u64 (Oc.U t.w3),.slice p t.subs.length cap,.int .i64 t.num,.int .i64 t.least,.int .i64 t.most,.bool t.bare])∧(L 16=true→v 16=.int .i64 (n:Int))∧(L 17=true→v 17=.bool true)∧(L 18=true→v 18=.bool true)∧(L 19=true→v 19=.bool true)∧(L 20=true→v 20=.agg #[.int .i64 R.kind,.int .u64 (Oc.U R.w0),.int .u64 (Oc.U R.w1),.int .u64 (Oc.U R.w2),.int .u64 (Oc.U R.w3),.slice p3 R.subs.length c3,.int .i64 R.num,.int .i64 R.least,.int .i64 R.most,.bool R.bare])∧(L 21=true→v 21=.int .i64 (dx:Int))∧(L 22=true→v 22=.agg #[.int .i64 t.kind,.int .u64 (Oc.U t.w0),.int .u64 (Oc.U t.w1),.int .u64 (Oc.U t.w2),.int .u64 (Oc.U t.w3),.slice p t.subs.length cap,.int .i64 t.num,.int .i64 t.least,.int .i64 t.most,.bool t.bare])∧(L 23=true→v 23=.int .i64 (dt:Int))∧(L 24=true→v 24=.bool true)∧(L 25=true→v 25=.bool true)∧(L 26=true→v 26=.bool true)∧(L 27=true→v 27=.agg #[.int .i64 R.kind,.int .u64 (Oc.U R.w0),.int .u64 (Oc.U R.w1),.int .u64 (Oc.U R.w2),.int .u64 (Oc.U R.w3),.slice p3 R.subs.length c3,.int .i64 R.num,.int .i64 R.least,.int .i64 R.most,.bool R.bare])∧(L 28=true→v 28=.int .i64 gt)∧(L 29=true→v 29=.agg #[.int .i64 t.kind,.int .u64 (Oc.U t.w0),.int .u64 (Oc.U t.w1),.int .u64 (Oc.U t.w2),.int .u64 (Oc.U t.w3),.slice p t.subs.length cap,.int .i64 t.num,.int .i64 t.least,.int .i64 t.most,.bool t.bare])∧(L 30=true→v 30=.int .i64 gt)∧(L 31=true→v 31=.bool true)∧(L 32=true→v 32=.bool true)∧(L 33=true→v 33=.bool true))
     ?_ ?_ ?_
   · exact ⟨(Below.refl _ _).drew,by simp,by simp,by simp,by simp,by simp,by simp,by simp,by simp,by simp,by simp,by simp,by simp,by simp,by simp,by simp,by simp,by simp,by simp,by simp,by simp,by simp,by simp,by simp,by simp,by simp,by simp,by simp,by simp,by simp,by simp,by simp,by simp,by simp,by simp⟩
   · intro i hi9 L v w9 xa hI hL hd hv ho
     have hi':i=0 ∨ i=1 ∨ i=2 ∨ i=3 ∨ i=4 ∨ i=5 ∨ i=6 ∨ i=7 ∨ i=8 ∨ i=9 ∨ i=10 ∨ i=11 ∨ i=12 ∨ i=13 ∨ i=14 ∨ i=15 ∨ i=16 ∨ i=17 ∨ i=18 ∨ i=19 ∨ i=20 ∨ i=21 ∨ i=22 ∨ i=23 ∨ i=24 ∨ i=25 ∨ i=26 ∨ i=27 ∨ i=28 ∨ i=29 ∨ i=30 ∨ i=31 ∨ i=32 ∨ i=33:=by simp at hi9;omega
     obtain ⟨hb,q0,q1,q2,q3,q4,q5,q6,q7,q8,q9,q10,q11,q12,q13,q14,q15,q16,q17,q18,q19,q20,q21,q22,q23,q24,q25,q26,q27,q28,q29,q30,q31,q32,q33⟩:=hI
     rcases hi' with rfl | rfl | rfl | rfl | rfl | rfl | rfl | rfl | rfl | rfl | rfl | rfl | rfl | rfl | rfl | rfl | rfl | rfl | rfl | rfl | rfl | rfl | rfl | rfl | rfl | rfl | rfl | rfl | rfl | rfl | rfl | rfl | rfl | rfl
     · have e4:xa.tmps.getD 4 undef=.nilIface:=ho 4 (by kernel_rfl)
       refine Ri.step_plain rfl rfl (fun K' hK=>?_)
       go_simp
       exact hK _ _ ⟨_,_,rfl,rfl,hb,fun _=>rfl,q1,q2,q3,q4,q5,q6,q7,q8,q9,q10,q11,q12,q13,q14,q15,q16,q17,q18,q19,q20,q21,q22,q23,q24,q25,q26,q27,q28,q29,q30,q31,q32,q33⟩
     · have l0:L 0=true:=by have:=hd _ rfl;simp [Region.binds] at this;simp [this]
       have f0:=(hv 0 34 rfl l0).trans (q0 l0)
       refine Ri.step_plain rfl rfl (fun K' hK=>?_)
       go_simp
       exact hK _ _ ⟨_,_,rfl,rfl,hb,q0,fun _=>rfl,q2,q3,q4,q5,q6,q7,q8,q9,q10,q11,q12,q13,q14,q15,q16,q17,q18,q19,q20,q21,q22,q23,q24,q25,q26,q27,q28,q29,q30,q31,q32,q33⟩
     · have l0:L 1=true:=by have:=hd _ rfl;simp [Region.binds] at this;simp [this]
       have f1:=(hv 1 35 rfl l0).trans (q1 l0)
       refine Ri.step_plain rfl rfl (fun K' hK=>?_)
       go_simp
       exact hK _ _ ⟨_,_,rfl,rfl,hb,q0,q1,fun _=>rfl,q3,q4,q5,q6,q7,q8,q9,q10,q11,q12,q13,q14,q15,q16,q17,q18,q19,q20,q21,q22,q23,q24,q25,q26,q27,q28,q29,q30,q31,q32,q33⟩
     · have l0:L 2=true:=by have:=hd _ rfl;simp [Region.binds] at this;simp [this]
       have f2:=(hv 2 36 rfl l0).trans (q2 l0)
       have e3:xa.tmps.getD 3 undef=.pointer (some ⟨w3.heap.size,0,none⟩):=ho 3 (by kernel_rfl)
       refine Ri.step_wanted (b:=true) rfl rfl rfl f2 (fun K' hK=>?_)
       obtain ⟨d0,d1,d2,d3,d4,d5,d6,d7,d8,d9⟩:=allTen (keep_blk hb YX.out)
       go_simp
       exact hK _ _ ⟨_,_,rfl,rfl,hb,q0,q1,q2,fun _=>rfl,q4,q5,q6,q7,q8,q9,q10,q11,q12,q13,q14,q15,q16,q17,q18,q19,q20,q21,q22,q23,q24,q25,q26,q27,q28,q29,q30,q31,q32,q33⟩
     · have l0:L 2=true:=by have:=hd _ rfl;simp [Region.binds] at this;simp [this]
       have f2:=(hv 2 36 rfl l0).trans (q2 l0)
       have e5:xa.tmps.getD 5 undef=.pointer (some ⟨w5.heap.size,0,none⟩):=ho 5 (by kernel_rfl)
       refine Ri.step_wanted (b:=true) rfl rfl rfl f2 (fun K' hK=>?_)
       obtain ⟨d0,d1,d2,d3,d4,d5,d6,d7,d8,d9⟩:=allTen (keep_blk hb YY.out)
       go_simp
       exact hK _ _ ⟨_,_,rfl,rfl,hb,q0,q1,q2,q3,fun _=>rfl,q5,q6,q7,q8,q9,q10,q11,q12,q13,q14,q15,q16,q17,q18,q19,q20,q21,q22,q23,q24,q25,q26,q27,q28,q29,q30,q31,q32,q33⟩
     · have l0:L 2=true∧L 3=true∧L 4=true:=by have:=hd _ rfl;simp [Region.binds] at this;simp [this]
       have f2:=(hv 2 36 rfl l0.1).trans (q2 l0.1)
       have f3:=(hv 3 37 rfl l0.2.1).trans (q3 l0.2.1)
       have f4:=(hv 4 38 rfl l0.2.2).trans (q4 l0.2.2)
       refine Ri.step_wanted (b:=true) rfl rfl rfl f2 (fun K' hK=>?_)
       go_simp
       refine (HSM.out _ hb).mono ?_
       rintro e w8 ⟨rfl,hb8⟩
       exact hK _ _ ⟨_,_,rfl,rfl,hb.trans (hb8.mono hb.size),q0,q1,q2,q3,q4,fun _=>rfl,q6,q7,q8,q9,q10,q11,q12,q13,q14,q15,q16,q17,q18,q19,q20,q21,q22,q23,q24,q25,q26,q27,q28,q29,q30,q31,q32,q33⟩
     · have l0:L 2=true∧L 5=true:=by have:=hd _ rfl;simp [Region.binds] at this;simp [this]
       have f2:=(hv 2 36 rfl l0.1).trans (q2 l0.1)
       have f5:=(hv 5 39 rfl l0.2).trans (q5 l0.2)
       refine Ri.step_plain rfl rfl (fun K' hK=>?_)
       go_simp
       exact hK _ _ ⟨_,_,rfl,rfl,hb,q0,q1,q2,q3,q4,q5,fun _=>rfl,q7,q8,q9,q10,q11,q12,q13,q14,q15,q16,q17,q18,q19,q20,q21,q22,q23,q24,q25,q26,q27,q28,q29,q30,q31,q32,q33⟩
     · have l0:L 6=true:=by have:=hd _ rfl;simp [Region.binds] at this;simp [this]
       have f6:=(hv 6 40 rfl l0).trans (q6 l0)
       refine Ri.step_plain rfl rfl (fun K' hK=>?_)
       go_simp
       exact hK _ _ ⟨_,_,rfl,rfl,hb,q0,q1,q2,q3,q4,q5,q6,fun _=>rfl,q8,q9,q10,q11,q12,q13,q14,q15,q16,q17,q18,q19,q20,q21,q22,q23,q24,q25,q26,q27,q28,q29,q30,q31,q32,q33⟩
     · have l0:L 7=true:=by have:=hd _ rfl;simp [Region.binds] at this;simp [this]
       have f7:=(hv 7 41 rfl l0).trans (q7 l0)
       have e3:xa.tmps.getD 3 undef=.pointer (some ⟨w3.heap.size,0,none⟩):=ho 3 (by kernel_rfl)
       refine Ri.step_wanted (b:=true) rfl rfl rfl f7 (fun K' hK=>?_)
       obtain ⟨d0,d1,d2,d3,d4,d5,d6,d7,d8,d9⟩:=allTen (keep_blk hb YX.out)
       go_simp
       exact hK _ _ ⟨_,_,rfl,rfl,hb,q0,q1,q2,q3,q4,q5,q6,q7,fun _=>rfl,q9,q10,q11,q12,q13,q14,q15,q16,q17,q18,q19,q20,q21,q22,q23,q24,q25,q26,q27,q28,q29,q30,q31,q32,q33⟩
     · have l0:L 7=true∧L 8=true:=by have:=hd _ rfl;simp [Region.binds] at this;simp [this]
       have f7:=(hv 7 41 rfl l0.1).trans (q7 l0.1)
       have f8:=(hv 8 42 rfl l0.2).trans (q8 l0.2)
       refine Ri.step_wanted (b:=true) rfl rfl rfl f7 (fun K' hK=>?_)
       go_simp
       refine (HK.out _ hb).mono ?_
       rintro e w8 ⟨rfl,hb8⟩
       exact hK _ _ ⟨_,_,rfl,rfl,hb.trans (hb8.mono hb.size),q0,q1,q2,q3,q4,q5,q6,q7,q8,fun _=>rfl,q10,q11,q12,q13,q14,q15,q16,q17,q18,q19,q20,q21,q22,q23,q24,q25,q26,q27,q28,q29,q30,q31,q32,q33⟩
     · have l0:L 7=true∧L 9=true:=by have:=hd _ rfl;simp [Region.binds] at this;simp [this]
       have f7:=(hv 7 41 rfl l0.1).trans (q7 l0.1)
       have f9:=(hv 9 43 rfl l0.2).trans (q9 l0.2)
       refine Ri.step_wanted (b:=true) rfl rfl rfl f7 (fun K' hK=>?_)
       go_simp
       exact hK _ _ ⟨_,_,rfl,rfl,hb,q0,q1,q2,q3,q4,q5,q6,q7,q8,q9,fun _=>rfl,q11,q12,q13,q14,q15,q16,q17,q18,q19,q20,q21,q22,q23,q24,q25,q26,q27,q28,q29,q30,q31,q32,q33⟩
     · have l0:L 7=true∧L 10=true:=by have:=hd _ rfl;simp [Region.binds] at this;simp [this]
       have f7:=(hv 7 41 rfl l0.1).trans (q7 l0.1)
       have f10:=(hv 10 44 rfl l0.2).trans (q10 l0.2)
       refine Ri.step_plain rfl rfl (fun K' hK=>?_)
       go_simp
       exact hK _ _ ⟨_,_,rfl,rfl,hb,q0,q1,q2,q3,q4,q5,q6,q7,q8,q9,q10,fun _=>rfl,q12,q13,q14,q15,q16,q17,q18,q19,q20,q21,q22,q23,q24,q25,q26,q27,q28,q29,q30,q31,q32,q33⟩
     · have l0:L 11=true:=by have:=hd _ rfl;simp [Region.binds] at this;simp [this]
       have f11:=(hv 11 45 rfl l0).trans (q11 l0)
       refine Ri.step_plain rfl rfl (fun K' hK=>?_)
       go_simp
       exact hK _ _ ⟨_,_,rfl,rfl,hb,q0,q1,q2,q3,q4,q5,q6,q7,q8,q9,q10,q11,fun _=>rfl,q13,q14,q15,q16,q17,q18,q19,q20,q21,q22,q23,q24,q25,q26,q27,q28,q29,q30,q31,q32,q33⟩
     · have l0:L 12=true:=by have:=hd _ rfl;simp [Region.binds] at this;simp [this]
       have f12:=(hv 12 46 rfl l0).trans (q12 l0)
       have e3:xa.tmps.getD 3 undef=.pointer (some ⟨w3.heap.size,0,none⟩):=ho 3 (by kernel_rfl)
       refine Ri.step_wanted (b:=true) rfl rfl rfl f12 (fun K' hK=>?_)
       obtain ⟨d0,d1,d2,d3,d4,d5,d6,d7,d8,d9⟩:=allTen (keep_blk hb YX.out)
       go_simp
       exact hK _ _ ⟨_,_,rfl,rfl,hb,q0,q1,q2,q3,q4,q5,q6,q7,q8,q9,q10,q11,q12,fun _=>rfl,q14,q15,q16,q17,q18,q19,q20,q21,q22,q23,q24,q25,q26,q27,q28,q29,q30,q31,q32,q33⟩
     · have l0:L 12=true∧L 13=true:=by have:=hd _ rfl;simp [Region.binds] at this;simp [this]
       have f12:=(hv 12 46 rfl l0.1).trans (q12 l0.1)
       have f13:=(hv 13 47 rfl l0.2).trans (q13 l0.2)
       refine Ri.step_wanted (b:=true) rfl rfl rfl f12 (fun K' hK=>?_)
       go_simp
       refine (HSX.out _ hb).mono ?_
       rintro e w8 ⟨rfl,hb8⟩
       exact hK _ _ ⟨_,_,rfl,rfl,hb.trans (hb8.mono hb.size),q0,q1,q2,q3,q4,q5,q6,q7,q8,q9,q10,q11,q12,q13,fun _=>rfl,q15,q16,q17,q18,q19,q20,q21,q22,q23,q24,q25,q26,q27,q28,q29,q30,q31,q32,q33⟩
     · have l0:L 12=true:=by have:=hd _ rfl;simp [Region.binds] at this;simp [this]
       have f12:=(hv 12 46 rfl l0).trans (q12 l0)
       have e1:xa.tmps.getD 1 undef=.pointer (some ⟨w.heap.size,0,none⟩):=ho 1 (by kernel_rfl)
       refine Ri.step_wanted (b:=true) rfl rfl rfl f12 (fun K' hK=>?_)
       obtain ⟨d0,d1,d2,d3,d4,d5,d6,d7,d8,d9⟩:=allTen (keep_blk hb X0.out)
       go_simp
       exact hK _ _ ⟨_,_,rfl,rfl,hb,q0,q1,q2,q3,q4,q5,q6,q7,q8,q9,q10,q11,q12,q13,q14,fun _=>rfl,q16,q17,q18,q19,q20,q21,q22,q23,q24,q25,q26,q27,q28,q29,q30,q31,q32,q33⟩
     · have l0:L 12=true∧L 15=true:=by have:=hd _ rfl;simp [Region.binds] at this;simp [this]
       have f12:=(hv 12 46 rfl l0.1).trans (q12 l0.1)
       have f15:=(hv 15 49 rfl l0.2).trans (q15 l0.2)
       refine Ri.step_wanted (b:=true) rfl rfl rfl f12 (fun K' hK=>?_)
       go_simp
       refine (HSZ.out _ hb).mono ?_
       rintro e w8 ⟨rfl,hb8⟩
       exact hK _ _ ⟨_,_,rfl,rfl,hb.trans (hb8.mono hb.size),q0,q1,q2,q3,q4,q5,q6,q7,q8,q9,q10,q11,q12,q13,q14,q15,fun _=>rfl,q17,q18,q19,q20,q21,q22,q23,q24,q25,q26,q27,q28,q29,q30,q31,q32,q33⟩
     · have l0:L 12=true∧L 14=true∧L 16=true:=by have:=hd _ rfl;simp [Region.binds] at this;simp [this]
       have f12:=(hv 12 46 rfl l0.1).trans (q12 l0.1)
       have f14:=(hv 14 48 rfl l0.2.1).trans (q14 l0.2.1)
       have f16:=(hv 16 50 rfl l0.2.2).trans (q16 l0.2.2)
       refine Ri.step_wanted (b:=true) rfl rfl rfl f12 (fun K' hK=>?_)
       go_simp
       exact hK _ _ ⟨_,_,rfl,rfl,hb,q0,q1,q2,q3,q4,q5,q6,q7,q8,q9,q10,q11,q12,q13,q14,q15,q16,fun _=>rfl,q18,q19,q20,q21,q22,q23,q24,q25,q26,q27,q28,q29,q30,q31,q32,q33⟩
     · have l0:L 12=true∧L 17=true:=by have:=hd _ rfl;simp [Region.binds] at this;simp [this]
       have f12:=(hv 12 46 rfl l0.1).trans (q12 l0.1)
       have f17:=(hv 17 51 rfl l0.2).trans (q17 l0.2)
       refine Ri.step_plain rfl rfl (fun K' hK=>?_)
       go_simp
       exact hK _ _ ⟨_,_,rfl,rfl,hb,q0,q1,q2,q3,q4,q5,q6,q7,q8,q9,q10,q11,q12,q13,q14,q15,q16,q17,fun _=>rfl,q19,q20,q21,q22,q23,q24,q25,q26,q27,q28,q29,q30,q31,q32,q33⟩
     · have l0:L 18=true:=by have:=hd _ rfl;simp [Region.binds] at this;simp [this]
       have f18:=(hv 18 52 rfl l0).trans (q18 l0)
       refine Ri.step_plain rfl rfl (fun K' hK=>?_)
       go_simp
       exact hK _ _ ⟨_,_,rfl,rfl,hb,q0,q1,q2,q3,q4,q5,q6,q7,q8,q9,q10,q11,q12,q13,q14,q15,q16,q17,q18,fun _=>rfl,q20,q21,q22,q23,q24,q25,q26,q27,q28,q29,q30,q31,q32,q33⟩
     · have l0:L 19=true:=by have:=hd _ rfl;simp [Region.binds] at this;simp [this]
       have f19:=(hv 19 53 rfl l0).trans (q19 l0)
       have e3:xa.tmps.getD 3 undef=.pointer (some ⟨w3.heap.size,0,none⟩):=ho 3 (by kernel_rfl)
       refine Ri.step_wanted (b:=true) rfl rfl rfl f19 (fun K' hK=>?_)
       obtain ⟨d0,d1,d2,d3,d4,d5,d6,d7,d8,d9⟩:=allTen (keep_blk hb YX.out)
       go_simp
       exact hK _ _ ⟨_,_,rfl,rfl,hb,q0,q1,q2,q3,q4,q5,q6,q7,q8,q9,q10,q11,q12,q13,q14,q15,q16,q17,q18,q19,fun _=>rfl,q21,q22,q23,q24,q25,q26,q27,q28,q29,q30,q31,q32,q33⟩
     · have l0:L 19=true∧L 20=true:=by have:=hd _ rfl;simp [Region.binds] at this;simp [this]
       have f19:=(hv 19 53 rfl l0.1).trans (q19 l0.1)
       have f20:=(hv 20 54 rfl l0.2).trans (q20 l0.2)
       refine Ri.step_wanted (b:=true) rfl rfl rfl f19 (fun K' hK=>?_)
       go_simp
       refine (HDX.out _ hb).mono ?_
       rintro e w8 ⟨rfl,hb8⟩
       exact hK _ _ ⟨_,_,rfl,rfl,hb.trans (hb8.mono hb.size),q0,q1,q2,q3,q4,q5,q6,q7,q8,q9,q10,q11,q12,q13,q14,q15,q16,q17,q18,q19,q20,fun _=>rfl,q22,q23,q24,q25,q26,q27,q28,q29,q30,q31,q32,q33⟩
     · have l0:L 19=true:=by have:=hd _ rfl;simp [Region.binds] at this;simp [this]
       have f19:=(hv 19 53 rfl l0).trans (q19 l0)
       have e1:xa.tmps.getD 1 undef=.pointer (some ⟨w.heap.size,0,none⟩):=ho 1 (by kernel_rfl)
       refine Ri.step_wanted (b:=true) rfl rfl rfl f19 (fun K' hK=>?_)
       obtain ⟨d0,d1,d2,d3,d4,d5,d6,d7,d8,d9⟩:=allTen (keep_blk hb X0.out)
       go_simp
       exact hK _ _ ⟨_,_,rfl,rfl,hb,q0,q1,q2,q3,q4,q5,q6,q7,q8,q9,q10,q11,q12,q13,q14,q15,q16,q17,q18,q19,q20,q21,fun _=>rfl,q23,q24,q25,q26,q27,q28,q29,q30,q31,q32,q33⟩
     · have l0:L 19=true∧L 22=true:=by have:=hd _ rfl;simp [Region.binds] at this;simp [this]
       have f19:=(hv 19 53 rfl l0.1).trans (q19 l0.1)
       have f22:=(hv 22 56 rfl l0.2).trans (q22 l0.2)
       refine Ri.step_wanted (b:=true) rfl rfl rfl f19 (fun K' hK=>?_)
       go_simp
       refine (HDT.out _ hb).mono ?_
       rintro e w8 ⟨rfl,hb8⟩
       exact hK _ _ ⟨_,_,rfl,rfl,hb.trans (hb8.mono hb.size),q0,q1,q2,q3,q4,q5,q6,q7,q8,q9,q10,q11,q12,q13,q14,q15,q16,q17,q18,q19,q20,q21,q22,fun _=>rfl,q24,q25,q26,q27,q28,q29,q30,q31,q32,q33⟩
     · have l0:L 19=true∧L 21=true∧L 23=true:=by have:=hd _ rfl;simp [Region.binds] at this;simp [this]
       have f19:=(hv 19 53 rfl l0.1).trans (q19 l0.1)
       have f21:=(hv 21 55 rfl l0.2.1).trans (q21 l0.2.1)
       have f23:=(hv 23 57 rfl l0.2.2).trans (q23 l0.2.2)
       refine Ri.step_wanted (b:=true) rfl rfl rfl f19 (fun K' hK=>?_)
       go_simp
       exact hK _ _ ⟨_,_,rfl,rfl,hb,q0,q1,q2,q3,q4,q5,q6,q7,q8,q9,q10,q11,q12,q13,q14,q15,q16,q17,q18,q19,q20,q21,q22,q23,fun _=>rfl,q25,q26,q27,q28,q29,q30,q31,q32,q33⟩
     · have l0:L 19=true∧L 24=true:=by have:=hd _ rfl;simp [Region.binds] at this;simp [this]
       have f19:=(hv 19 53 rfl l0.1).trans (q19 l0.1)
       have f24:=(hv 24 58 rfl l0.2).trans (q24 l0.2)
       refine Ri.step_plain rfl rfl (fun K' hK=>?_)
       go_simp
       exact hK _ _ ⟨_,_,rfl,rfl,hb,q0,q1,q2,q3,q4,q5,q6,q7,q8,q9,q10,q11,q12,q13,q14,q15,q16,q17,q18,q19,q20,q21,q22,q23,q24,fun _=>rfl,q26,q27,q28,q29,q30,q31,q32,q33⟩
     · have l0:L 25=true:=by have:=hd _ rfl;simp [Region.binds] at this;simp [this]
       have f25:=(hv 25 59 rfl l0).trans (q25 l0)
       refine Ri.step_plain rfl rfl (fun K' hK=>?_)
       go_simp
       exact hK _ _ ⟨_,_,rfl,rfl,hb,q0,q1,q2,q3,q4,q5,q6,q7,q8,q9,q10,q11,q12,q13,q14,q15,q16,q17,q18,q19,q20,q21,q22,q23,q24,q25,fun _=>rfl,q27,q28,q29,q30,q31,q32,q33⟩
     · have l0:L 26=true:=by have:=hd _ rfl;simp [Region.binds] at this;simp [this]
       have f26:=(hv 26 60 rfl l0).trans (q26 l0)
       have e3:xa.tmps.getD 3 undef=.pointer (some ⟨w3.heap.size,0,none⟩):=ho 3 (by kernel_rfl)
       refine Ri.step_wanted (b:=true) rfl rfl rfl f26 (fun K' hK=>?_)
       obtain ⟨d0,d1,d2,d3,d4,d5,d6,d7,d8,d9⟩:=allTen (keep_blk hb YX.out)
       go_simp
       exact hK _ _ ⟨_,_,rfl,rfl,hb,q0,q1,q2,q3,q4,q5,q6,q7,q8,q9,q10,q11,q12,q13,q14,q15,q16,q17,q18,q19,q20,q21,q22,q23,q24,q25,q26,fun _=>rfl,q28,q29,q30,q31,q32,q33⟩
     · have l0:L 26=true∧L 27=true:=by have:=hd _ rfl;simp [Region.binds] at this;simp [this]
       have f26:=(hv 26 60 rfl l0.1).trans (q26 l0.1)
       have f27:=(hv 27 61 rfl l0.2).trans (q27 l0.2)
       refine Ri.step_wanted (b:=true) rfl rfl rfl f26 (fun K' hK=>?_)
       go_simp
       refine (HGX.out _ hb).mono ?_
       rintro e w8 ⟨rfl,hb8⟩
       exact hK _ _ ⟨_,_,rfl,rfl,hb.trans (hb8.mono hb.size),q0,q1,q2,q3,q4,q5,q6,q7,q8,q9,q10,q11,q12,q13,q14,q15,q16,q17,q18,q19,q20,q21,q22,q23,q24,q25,q26,q27,fun _=>rfl,q29,q30,q31,q32,q33⟩
     · have l0:L 26=true:=by have:=hd _ rfl;simp [Region.binds] at this;simp [this]
       have f26:=(hv 26 60 rfl l0).trans (q26 l0)
       have e1:xa.tmps.getD 1 undef=.pointer (some ⟨w.heap.size,0,none⟩):=ho 1 (by kernel_rfl)
       refine Ri.step_wanted (b:=true) rfl rfl rfl f26 (fun K' hK=>?_)
       obtain ⟨d0,d1,d2,d3,d4,d5,d6,d7,d8,d9⟩:=allTen (keep_blk hb X0.out)
       go_simp
       exact hK _ _ ⟨_,_,rfl,rfl,hb,q0,q1,q2,q3,q4,q5,q6,q7,q8,q9,q10,q11,q12,q13,q14,q15,q16,q17,q18,q19,q20,q21,q22,q23,q24,q25,q26,q27,q28,fun _=>rfl,q30,q31,q32,q33⟩
     · have l0:L 26=true∧L 29=true:=by have:=hd _ rfl;simp [Region.binds] at this;simp [this]
       have f26:=(hv 26 60 rfl l0.1).trans (q26 l0.1)
       have f29:=(hv 29 63 rfl l0.2).trans (q29 l0.2)
       refine Ri.step_wanted (b:=true) rfl rfl rfl f26 (fun K' hK=>?_)
       go_simp
       refine (HGT.out _ hb).mono ?_
       rintro e w8 ⟨rfl,hb8⟩
       exact hK _ _ ⟨_,_,rfl,rfl,hb.trans (hb8.mono hb.size),q0,q1,q2,q3,q4,q5,q6,q7,q8,q9,q10,q11,q12,q13,q14,q15,q16,q17,q18,q19,q20,q21,q22,q23,q24,q25,q26,q27,q28,q29,fun _=>rfl,q31,q32,q33⟩
     · have l0:L 26=true∧L 28=true∧L 30=true:=by have:=hd _ rfl;simp [Region.binds] at this;simp [this]
       have f26:=(hv 26 60 rfl l0.1).trans (q26 l0.1)
       have f28:=(hv 28 62 rfl l0.2.1).trans (q28 l0.2.1)
       have f30:=(hv 30 64 rfl l0.2.2).trans (q30 l0.2.2)
       refine Ri.step_wanted (b:=true) rfl rfl rfl f26 (fun K' hK=>?_)
       go_simp
       exact hK _ _ ⟨_,_,rfl,rfl,hb,q0,q1,q2,q3,q4,q5,q6,q7,q8,q9,q10,q11,q12,q13,q14,q15,q16,q17,q18,q19,q20,q21,q22,q23,q24,q25,q26,q27,q28,q29,q30,fun _=>rfl,q32,q33⟩
     · have l0:L 26=true∧L 31=true:=by have:=hd _ rfl;simp [Region.binds] at this;simp [this]
       have f26:=(hv 26 60 rfl l0.1).trans (q26 l0.1)
       have f31:=(hv 31 65 rfl l0.2).trans (q31 l0.2)
       refine Ri.step_plain rfl rfl (fun K' hK=>?_)
       go_simp
       exact hK _ _ ⟨_,_,rfl,rfl,hb,q0,q1,q2,q3,q4,q5,q6,q7,q8,q9,q10,q11,q12,q13,q14,q15,q16,q17,q18,q19,q20,q21,q22,q23,q24,q25,q26,q27,q28,q29,q30,q31,fun _=>rfl,q33⟩
     · have l0:L 32=true:=by have:=hd _ rfl;simp [Region.binds] at this;simp [this]
       have f32:=(hv 32 66 rfl l0).trans (q32 l0)
       refine Ri.step_plain rfl rfl (fun K' hK=>?_)
       go_simp
       exact hK _ _ ⟨_,_,rfl,rfl,hb,q0,q1,q2,q3,q4,q5,q6,q7,q8,q9,q10,q11,q12,q13,q14,q15,q16,q17,q18,q19,q20,q21,q22,q23,q24,q25,q26,q27,q28,q29,q30,q31,q32,fun _=>rfl⟩
   · rintro v w9 ⟨hb,-,-,-,-,-,-,-,-,-,-,-,-,-,-,-,-,-,-,-,-,-,-,-,-,-,-,-,-,-,-,-,-,-,q33⟩
     have q33':v 33=.bool true:=q33 rfl
     simp only [Ri.frame,List.zipIdx,List.foldl_cons,List.foldl_nil,if_true,List.setIfInBounds_toArray,List.set_cons_zero,List.set_cons_succ,Nat.reduceAdd,q33']
     clear q33 q33'
     generalize v 0=y0;generalize v 1=y1;generalize v 2=y2;generalize v 3=y3;generalize v 4=y4;generalize v 5=y5;generalize v 6=y6;generalize v 7=y7;generalize v 8=y8;generalize v 9=y9;generalize v 10=y10;generalize v 11=y11;generalize v 12=y12;generalize v 13=y13;generalize v 14=y14;generalize v 15=y15;generalize v 16=y16;generalize v 17=y17;generalize v 18=y18;generalize v 19=y19;generalize v 20=y20;generalize v 21=y21;generalize v 22=y22;generalize v 23=y23;generalize v 24=y24;generalize v 25=y25;generalize v 26=y26;generalize v 27=y27;generalize v 28=y28;generalize v 29=y29;generalize v 30=y30;generalize v 31=y31;generalize v 32=y32
     have HB7:=Lib.hid (HB.out.trans (hb.mono HB.out.size))
     clear hb
     go_wp2
     go_ret
     exact ⟨rfl,HB7.out⟩
end Go.Proofs.YtllfgppjobinnaaDoor
namespace Go.Proofs.YtllfgppjobinnaaDoor
open Go.ChangeShapes Go.WideShapes Go.ChangeAt Go.RowKit
theorem Tryd.cellsSet:Tryd.prog.cellsOf 24=4:=by kernel_rfl
theorem Tryd.cellsU64:Tryd.prog.cellsOf 22=1:=by kernel_rfl
theorem word_of {n:Int} (h:(Lit.int .u64 n).wf=true):∃ x:BitVec 64,n=Oc.U x:=by
 simp only [Lit.wf,IntKind.min,IntKind.max,IntKind.signed,IntKind.bits,Bool.and_eq_true] at h
 refine ⟨BitVec.ofInt 64 n, ?_⟩
 unfold Oc.U;rw [BitVec.toNat_ofInt]
 have h1:=h.1;have h2:=h.2
 simp at h1 h2
 omega
theorem open_words {H:Type} {enc:TypeId × Value→H} {w:World} {base:Nat} {spare:Nat→Bool} {held:Bool} {fuel:Nat} {c0 c1 c2 c3:Value} {x:DataW H × List MemPlace}
   (h:DataW.trod enc Tryd.prog w base spare held fuel 24 [c0,c1,c2,c3]=some x):∃ a b c d:BitVec 64,c0=.int .u64 (Oc.U a)∧c1=.int .u64 (Oc.U b)∧c2=.int .u64 (Oc.U c)∧c3=.int .u64 (Oc.U d):=by
 obtain ⟨y0,y1,y2,y3,n,_,h0,h1,h2,h3⟩:=trod_array4 Tryd.underlying24 Tryd.cellsU64 h
 obtain ⟨n0,e0,-,w0⟩:=DataW.trod_int Tryd.underlying22 h0
 obtain ⟨n1,e1,-,w1⟩:=DataW.trod_int Tryd.underlying22 h1
 obtain ⟨n2,e2,-,w2⟩:=DataW.trod_int Tryd.underlying22 h2
 obtain ⟨n3,e3,-,w3⟩:=DataW.trod_int Tryd.underlying22 h3
 obtain ⟨a,rfl⟩:=word_of w0
 obtain ⟨b,rfl⟩:=word_of w1
 obtain ⟨c,rfl⟩:=word_of w2
 obtain ⟨d,rfl⟩:=word_of w3
 simp only [List.cons.injEq,and_true] at e0 e1 e2 e3
 exact ⟨a,b,c,d,e0,e1,e2,e3⟩
theorem Tryd.own:ownKnob Tryd.prog.godebug=none:=by kernel_rfl
theorem Tryd.laidOut:laidOutB Tryd.prog=true:=by kernel_rfl
end Go.Proofs.YtllfgppjobinnaaDoor
namespace Go.Proofs.YtllfgppjobinnaaDoor
open Go.ChangeShapes Go.WideShapes Go.ChangeAt Go.RowKit
theorem Tryd.cellsNodeO:Tryd.prog.cellsOf 37=10:=by kernel_rfl
theorem Tryd.cellsIntO:Tryd.prog.cellsOf 3=1:=by kernel_rfl
theorem Tryd.cellsBoolO:Tryd.prog.cellsOf 4=1:=by kernel_rfl
theorem Tryd.cellsNodesO:Tryd.prog.cellsOf 35=1:=by kernel_rfl
theorem Tryd.bytesNodeO:Tryd.prog.bytesOf 37=96:=by kernel_rfl
theorem list10 {α:Type} {l:List α} (h:l.length=10):∃ a0 a1 a2 a3 a4 a5 a6 a7 a8 a9,l=[a0,a1,a2,a3,a4,a5,a6,a7,a8,a9]:=by
 match l,h with
 | [a0,a1,a2,a3,a4,a5,a6,a7,a8,a9],_=>exact ⟨a0,a1,a2,a3,a4,a5,a6,a7,a8,a9,rfl⟩
theorem list7 {α:Type} {l:List α} (h:l.length=7):∃ a0 a1 a2 a3 a4 a5 a6,l=[a0,a1,a2,a3,a4,a5,a6]:=by
 match l,h with
 | [a0,a1,a2,a3,a4,a5,a6],_=>exact ⟨a0,a1,a2,a3,a4,a5,a6,rfl⟩
theorem weightsAll_mem {H:Type} {P:Program} {e:TypeId} {k:Nat} {d:DataW H} : ∀ {l:List (DataW H)},d ∈ l→k ∈ d.weights P e→k ∈ DataW.weightsAll P e l
 | [],h,_=>by cases h
 | x :: l,h,hk=>by
   rw [DataW.weightsAll]
   rcases List.mem_cons.1 h with rfl | h
   · exact List.mem_append_left _ hk
   · exact List.mem_append_right _ (weightsAll_mem h hk)
theorem add_at {a:Addr} (h:a.spot=none) (m:Nat):a.add m=⟨a.block,a.off+m,none⟩:=by
 unfold Addr.add
 split
 · rename_i h0;subst h0;cases a;simp_all
 · rfl
theorem open_node {H:Type} {enc:TypeId × Value→H} {W:World} {base:Nat} {spare:Nat→Bool} {held:Bool} : ∀ (fuel:Nat) (cs:List Value) (x:DataW H × List MemPlace),
   DataW.trod enc Tryd.prog W base spare held fuel 37 cs=some x→(∀ k,k ∈ x.1.weights Tryd.prog 37→k ≤ 140737488351232) →
   ∃ (t:Tr) (s:Value),cs=(t.cells s).toList∧TreesAt W (fun _=>True) s t.subs:=by
 intro fuel
 induction fuel using Nat.strongRecOn with
 | _ fuel ih =>
   intro cs x h hw
   obtain ⟨xs,n,rfl,rfl,hlen,hxs,hf⟩:=DataW.trod_struct Tryd.underlying37 h
   rw [Tryd.cellsNodeO] at hlen
   obtain ⟨c0,c1,c2,c3,c4,c5,c6,c7,c8,c9,rfl⟩:=list10 hlen
   obtain ⟨y0,y1,y2,y3,y4,y5,y6,rfl⟩:=list7 (by simpa using hxs)
   have f0:=hf 0 _ rfl;have f1:=hf 1 _ rfl;have f2:=hf 2 _ rfl;have f3:=hf 3 _ rfl;have f4:=hf 4 _ rfl;have f5:=hf 5 _ rfl;have f6:=hf 6 _ rfl
   simp only [List.getElem_toArray,List.getElem_cons_zero,List.getElem_cons_succ,Tryd.cellsIntO,Tryd.cellsBoolO,Tryd.cellsNodesO,Tryd.cellsSet,List.drop_zero,List.drop_succ_cons,List.take_succ_cons,List.take_zero,List.getElem?_cons_zero,List.getElem?_cons_succ] at f0 f1 f2 f3 f4 f5 f6
   obtain ⟨k,e0,-,-⟩:=DataW.trod_int Tryd.underlying3 f0
   obtain ⟨a,b,c,d,rfl,rfl,rfl,rfl⟩:=open_words f1
   obtain ⟨nn,e3,-,-⟩:=DataW.trod_int Tryd.underlying3 f3
   obtain ⟨lo,e4,-,-⟩:=DataW.trod_int Tryd.underlying3 f4
   obtain ⟨hi,e5,-,-⟩:=DataW.trod_int Tryd.underlying3 f5
   obtain ⟨br,e6,-⟩:=DataW.trod_bool Tryd.underlying4 f6
   simp only [List.cons.injEq,and_true] at e0 e3 e4 e5 e6
   subst e0 e3 e4 e5 e6
   have fin:∀ (ts:List Tr),TreesAt W (fun _=>True) c5 ts→∃ (t:Tr) (s:Value),[.int .i64 k,.int .u64 (Oc.U a),.int .u64 (Oc.U b),.int .u64 (Oc.U c),.int .u64 (Oc.U d),c5,.int .i64 nn,.int .i64 lo,.int .i64 hi,.bool br]=(t.cells s).toList∧TreesAt W (fun _=>True) s t.subs :=
     fun ts hts=>⟨.node k a b c d ts nn lo hi br,c5,rfl,hts⟩
   rcases DataW.trod_slice Tryd.underlying35 f2 with ⟨hc5,-⟩ | ⟨ad,len,cap,elems,rest,n',rfl,hc5,hx,-,-,-,hel,hall,-,-⟩
   · simp only [List.cons.injEq,and_true] at hc5
     subst hc5
     exact fin [] TreesAt.nil
   · simp only [List.cons.injEq,and_true] at hc5
     subst hc5
     rw [Tryd.cellsNodeO] at hall
     have hwn:∀ k,k ∈ y2.1.weights Tryd.prog 35→k ≤ 140737488351232:=fun k hk=>hw k (by
       rw [DataW.weights,Tryd.underlying37]
       exact DataW.weights_mem_each (j:=2) rfl rfl k hk)
     have hlen96:len * 96 ≤ 140737488351232:=by
       have:=hwn ((elems.length+rest.length) * 96) (by
         rw [hx]
         simp only [DataW.weights,Tryd.underlying35,Tryd.bytesNodeO,List.length_map]
         exact List.mem_cons_self)
       rw [hel] at this
       have h2:len * 96 ≤ (len+rest.length) * 96:=Nat.mul_le_mul_right _ (by omega)
       omega
     have key:∀ i,∃ (t:Tr) (s:Value),i < len→(∃ b o,some ad=some ⟨b,o,none⟩∧TenAt W b (o+i * 10) t s)∧TreesAt W (fun _=>True) s t.subs:=by
       intro i
       by_cases hi:i < len
       · have h1:=hall i hi
         rw [List.getElem?_eq_getElem (by omega)] at h1
         obtain ⟨csi,hcs,htr⟩:=Option.bind_eq_some_iff.1 h1
         obtain ⟨t,s,hts,hsub⟩:=ih n' (by omega) csi _ htr (fun k hk=>hwn k (by
           rw [hx]
           simp only [DataW.weights,Tryd.underlying35]
           refine List.mem_cons_of_mem _ (List.mem_append_left _ (weightsAll_mem (d:=elems[i].1) ?_ hk))
           exact List.mem_map.2 ⟨elems[i],List.getElem_mem _,rfl⟩))
         obtain ⟨-,-,hcell⟩:=World.cells?_some hcs
         have hspot:ad.spot=none:=by
           have h0:=hall 0 (by omega)
           rw [List.getElem?_eq_getElem (by omega)] at h0
           obtain ⟨cs0,hcs0,htr0⟩:=Option.bind_eq_some_iff.1 h0
           obtain ⟨t0,s0,hts0,-⟩:=ih n' (by omega) cs0 _ htr0 (fun k hk=>hwn k (by
             rw [hx]
             simp only [DataW.weights,Tryd.underlying35]
             refine List.mem_cons_of_mem _ (List.mem_append_left _ (weightsAll_mem (d:=elems[0].1) ?_ hk))
             exact List.mem_map.2 ⟨elems[0],List.getElem_mem _,rfl⟩))
           have h2:=(World.cells?_some hcs0).2.2 0 (by omega)
           rw [hts0] at h2
           have e:(ad.add (0 * 10)).add 0=ad:=by simp [Addr.add]
           rw [e] at h2
           cases hsp:ad.spot with
           | none=>rfl
           | some z =>
             unfold World.cell? at h2
             rw [hsp] at h2
             split at h2 <;> simp [Tr.cells] at h2
         have hadd:∀ j,(ad.add (i * 10)).add j=⟨ad.block,ad.off+i * 10+j,none⟩:=fun j=>by
           rw [add_at hspot,add_at (a:=⟨ad.block,ad.off+i * 10,none⟩) rfl]
         refine ⟨t,s,fun _=>⟨⟨ad.block,ad.off,by cases ad;simp_all, ?_⟩,hsub⟩⟩
         rw [hts] at hcell
         have get:∀ j u,j < 10→(t.cells s).toList[j]? = some u→W.cell? ⟨ad.block,ad.off+i * 10+j,none⟩=some u:=fun j u hj hu=>by
           rw [← hadd j,hcell j hj,hu]
         exact ⟨get 0 _ (by omega) rfl,get 1 _ (by omega) rfl,get 2 _ (by omega) rfl,get 3 _ (by omega) rfl,get 4 _ (by omega) rfl,get 5 _ (by omega) rfl,get 6 _ (by omega) rfl,get 7 _ (by omega) rfl,get 8 _ (by omega) rfl,get 9 _ (by omega) rfl⟩
       · exact ⟨.node 0 0#64 0#64 0#64 0#64 [] 0 0 0 false,.nilIface,fun h=>absurd h hi⟩
     obtain ⟨T,hT⟩:=Classical.axiomOfChoice key
     obtain ⟨S,hS⟩:=Classical.axiomOfChoice hT
     have hl:((List.range len).map T).length=len:=by simp
     have hg:∀ i t,((List.range len).map T)[i]? = some t→i < len∧t=T i:=fun i t h=>by
       rw [List.getElem?_map] at h
       by_cases hi:i < len
       · rw [List.getElem?_range hi] at h
         exact ⟨hi,(Option.some.inj h).symm⟩
       · rw [List.getElem?_eq_none (by simp;omega)] at h;cases h
     have:=TreesAt.mk (w:=W) (B:=fun _=>True) (some ad) cap ((List.range len).map T) S (by rw [hl];exact hlen96) (fun i t h=>by
       obtain ⟨hi,rfl⟩:=hg i t h
       obtain ⟨⟨b,o,e,ht⟩,-⟩:=hS i hi
       exact ⟨b,o,e,trivial,ht⟩) (fun i t h=>by
       obtain ⟨hi,rfl⟩:=hg i t h
       exact (hS i hi).2)
     rw [hl] at this
     exact fin _ this
theorem open_tree {H:Type} {enc:TypeId × Value→H} {w:World} {base b0:Nat} {spare:Nat→Bool} {held:Bool} {v:Value} {y:DataW H} {ps:List MemPlace} {r:Reach}
   (hv:Value.okWide Tryd.prog w r b0 37 v) (h:DataW.Trod enc Tryd.prog w base spare held 37 v y ps) (hw:∀ k,k ∈ y.weights Tryd.prog 37→k ≤ 140737488351232):∃ t,NodeV w (fun _=>True) v t:=by
 unfold Value.okWide at hv
 rw [Tryd.underlying37] at hv
 obtain ⟨cs,rfl,hsz,-⟩:=hv
 obtain ⟨fuel,hf⟩:=h
 obtain ⟨t,s,e,hs⟩:=open_node fuel _ _ hf hw
 refine ⟨t,s, ?_,hs⟩
 simp only [Value.cells] at e
 exact congrArg Value.agg (Array.toList_inj.1 e)
end Go.Proofs.YtllfgppjobinnaaDoor
namespace Go.Proofs.YtllfgppjobinnaaDoor
open Go.ChangeShapes Go.WideShapes Go.ChangeAt Go.RowKit
theorem im_laid_split {P:Program} {l:List (String × DataW Unit)} {W:World} (h:laidMetH P l W):laidMet P (l.filter fun x=>x.2.handleName?.isNone) W:=by
 unfold laidMetH at h
 generalize hfl:(l.filter fun x=>x.2.handleName?.isSome)=fl at h
 cases fl with
 | nil =>
   have e:(l.filter fun x=>x.2.handleName?.isNone)=l:=by
     rw [List.filter_eq_self]
     intro x hx
     have:=List.filter_eq_nil_iff.1 hfl x hx
     cases hh:x.2.handleName? with
     | none=>rfl
     | some y=>rw [hh] at this;simp at this
   rw [e]
   exact h
 | cons x r=>exact h.1
theorem im_errList_plain:∀ x,x ∈ errList→x.2.handleName?.isNone=true:=by
 have h:(errList.all fun x=>x.2.handleName?.isNone)=true:=by kernel_rfl
 intro x hx
 exact List.all_eq_true.1 h x hx
end Go.Proofs.YtllfgppjobinnaaDoor
namespace Go.Proofs.YtllfgppjobinnaaDoor
open Go.ChangeShapes Go.WideShapes Go.ChangeAt Go.RowKit
theorem Tryd.gPowN : Tryd.prog.globalNamed "internal/strconv.uint64pow10" = some 22 := by kernel_rfl
theorem Tryd.tPowN:(Tryd.prog.globals[22]?).map (·.type)=some 246:=by kernel_rfl
theorem Tryd.cellsU64N:Tryd.prog.cellsOf 22=1:=by kernel_rfl
theorem Tryd.cellsPowN:Tryd.prog.cellsOf 246=20:=by kernel_rfl
theorem pow_datumN:(Rows.laid_internal_strconv_uint64pow10:DataW Unit)=Lib.tabData .u64 Lib.pow10Tab:=rfl
theorem powN_of : ∀ {l : List (String × DataW Unit)} {W : World}, laidMet Tryd.prog l W → ("internal/strconv.uint64pow10", Rows.laid_internal_strconv_uint64pow10) ∈ l → Lib.TabIs Tryd.prog W "internal/strconv.uint64pow10" .u64 Lib.pow10Tab
 | [],_,_,hm=>by cases hm
 | x :: l,W,h,hm=>by
   rcases List.mem_cons.1 hm with e | hm
   · subst e
     rw [pow_datumN] at h
     exact Lib.tabIs_of_head Tryd.gPowN Tryd.tPowN Tryd.underlying246 Tryd.underlying22 Tryd.cellsU64N Tryd.cellsPowN h
   · exact powN_of h.tail hm
theorem nm_env_of {l : List (String × DataW Unit)} {W : World} (h : laidMetH Tryd.prog l W) (hl : ∀ x, x ∈ errList → x ∈ l) (hp : ("internal/strconv.uint64pow10", Rows.laid_internal_strconv_uint64pow10) ∈ l) :
   (∃ A, Errs W A) ∧ Lib.TabIs Tryd.prog W "internal/strconv.uint64pow10" .u64 Lib.pow10Tab :=
 ⟨errs_of (im_laid_split h) fun x hx=>List.mem_filter.2 ⟨hl x hx,im_errList_plain x hx⟩,powN_of (im_laid_split h) (List.mem_filter.2 ⟨hp,rfl⟩)⟩
end Go.Proofs.YtllfgppjobinnaaDoor
