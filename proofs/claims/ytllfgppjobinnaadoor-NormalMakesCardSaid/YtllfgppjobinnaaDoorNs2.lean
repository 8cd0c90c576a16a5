/- Part 2 of what these proofs need. -/
import Derived.Test.YtllfgppjobinnaaDoorNs1
set_option maxRecDepth 100000
set_option maxHeartbeats 16000000
namespace Go.Proofs.YtllfgppjobinnaaDoor
open Go.RowKit
theorem refform_step (k:Int) (a b c d:BitVec 64) (us:List Tr) (n lo hi:Int) (br:Bool) (p:Option Addr) (cap:Nat) (ua ub uc ud:BitVec 64) (un ulo uhi:Int) (ubr:Bool) (w:World) (B:Nat→Prop)
   (HU:Hid (∀ w,Calls Tryd.prog 128 #[.agg #[.int .i64 k,.int .u64 (Oc.U a),.int .u64 (Oc.U b),.int .u64 (Oc.U c),.int .u64 (Oc.U d),.slice p us.length cap,.int .i64 n,.int .i64 lo,.int .i64 hi,.bool br]] w fun e w'=>e=.returned (.agg #[.int .i64 k,.int .u64 (Oc.U ua),.int .u64 (Oc.U ub),.int .u64 (Oc.U uc),.int .u64 (Oc.U ud),.slice none 0 0,.int .i64 un,.int .i64 ulo,.int .i64 uhi,.bool ubr])∧Below w.heap.size w w'))
   (HS:Hid (TreesAt w B (.slice p us.length cap) us)) (hlen:us.length * 96 ≤ 140737488351232)
   (IH:Hid (∀ x,x ∈ us→∀ w B v,NodeV w B v x→Calls Tryd.prog 94 #[v] w fun e w'=>e=.returned (.bool x.formB)∧Below w.heap.size w w')) :
   Calls Tryd.prog 94 #[.agg #[.int .i64 k,.int .u64 (Oc.U a),.int .u64 (Oc.U b),.int .u64 (Oc.U c),.int .u64 (Oc.U d),.slice p us.length cap,.int .i64 n,.int .i64 lo,.int .i64 hi,.bool br]] w fun e w'=>e=.returned (.bool ((!Tr.misV k (Tr.sameW a b c d ua ub uc ud) n un lo ulo hi uhi br ubr && !Tr.badV k us.length n lo hi br) && Tr.formS us))∧Below w.heap.size w w':=by
 have he:=eq4
 obtain ⟨S,hS⟩:∃ S,Tr.sameW a b c d ua ub uc ud=S:=⟨_,rfl⟩
 obtain ⟨M,hM⟩:∃ M,Tr.misV k S n un lo ulo hi uhi br ubr=M:=⟨_,rfl⟩
 obtain ⟨Bd,hB⟩:∃ Bd,Tr.badV k us.length n lo hi br=Bd:=⟨_,rfl⟩
 obtain ⟨R,hR⟩:∃ R,((!M && !Bd) && Tr.formS us)=R:=⟨_,rfl⟩
 rw [hS,hM,hB,hR]
 have HR:=Lib.hid hR
 unfold Tr.sameW at hS
 unfold Tr.misV at hM
 unfold Tr.badV at hB
 have HM:=Lib.hid hM;have HBd:=Lib.hid hB;have HSm:=Lib.hid hS;have HLen:=Lib.hid hlen
 clear hM hB hR hS hlen
 go_enter Tryd.func94,Tryd.ntmps94
 go_wp2_with fail
 refine (HU.out _).mono ?_
 rintro e W0 ⟨rfl,hb1⟩
 have Z1:=Lib.hid (keep_blk hb1 (heap_alloc_new w _))
 have HB1:=Lib.hid (((Below.refl _ _).alloc (Nat.le_refl _) _).trans (hb1.mono (by simp)))
 have hs1:w.heap.size < W0.heap.size:=by have:=hb1.size;simp at this;omega
 clear hb1 HU
 go_upto_region 2 with (fail)
 have Z2:=Lib.hid (heap_alloc_lt (o:=.cells #[.int .i64 k,.int .u64 (Oc.U ua),.int .u64 (Oc.U ub),.int .u64 (Oc.U uc),.int .u64 (Oc.U ud),.slice none 0 0,.int .i64 un,.int .i64 ulo,.int .i64 uhi,.bool ubr] 37) Z1.out)
 have Y2:=Lib.hid (heap_alloc_new W0 (.cells #[.int .i64 k,.int .u64 (Oc.U ua),.int .u64 (Oc.U ub),.int .u64 (Oc.U uc),.int .u64 (Oc.U ud),.slice none 0 0,.int .i64 un,.int .i64 ulo,.int .i64 uhi,.bool ubr] 37))
 have HB2:=Lib.hid (HB1.out.alloc HB1.out.size (.cells #[.int .i64 k,.int .u64 (Oc.U ua),.int .u64 (Oc.U ub),.int .u64 (Oc.U uc),.int .u64 (Oc.U ud),.slice none 0 0,.int .i64 un,.int .i64 ulo,.int .i64 uhi,.bool ubr] 37))
 have hs2:w.heap.size < (W0.alloc (.cells #[.int .i64 k,.int .u64 (Oc.U ua),.int .u64 (Oc.U ub),.int .u64 (Oc.U uc),.int .u64 (Oc.U ud),.slice none 0 0,.int .i64 un,.int .i64 ulo,.int .i64 uhi,.bool ubr] 37)).heap.size:=by simp;omega
 clear Z1 HB1
 generalize W0.alloc (.cells #[.int .i64 k,.int .u64 (Oc.U ua),.int .u64 (Oc.U ub),.int .u64 (Oc.U uc),.int .u64 (Oc.U ud),.slice none 0 0,.int .i64 un,.int .i64 ulo,.int .i64 uhi,.bool ubr] 37)=W2 at *
 go_cut [51] (fun u wx=>u=.bool M∧W2=wx)
 case first =>
   have hM:=HM.out;have hS:=HSm.out
   obtain ⟨d0,d1,d2,d3,d4,d5,d6,d7,d8,d9⟩:=allTen Z2.out
   obtain ⟨u0,u1,u2,u3,u4,u5,u6,u7,u8,u9⟩:=allTen Y2.out
   clear HM HBd HSm HR HS IH HB2 hs2
   rcases bool_or (decide (k < 1)) with q0 | q0
   · rw [q0] at hM
     subst hM
     go_wp2
     go_meet
     exact ⟨rfl,rfl⟩
   rcases bool_or (decide (8 < k)) with q1 | q1
   · rw [q0,q1] at hM
     subst hM
     go_wp2
     go_meet
     exact ⟨rfl,rfl⟩
   cases S with
   | false =>
     rw [q0,q1] at hM
     subst hM
     go_wp2
     go_meet
     exact ⟨rfl,rfl⟩
   | true =>
     rcases bool_or (n != un) with q3 | q3
     · rw [q0,q1,q3] at hM
       subst hM
       go_wp2
       go_meet
       exact ⟨rfl,rfl⟩
     rcases bool_or (lo != ulo) with q4 | q4
     · rw [q0,q1,q3,q4] at hM
       subst hM
       go_wp2
       go_meet
       exact ⟨rfl,rfl⟩
     rcases bool_or (hi != uhi) with q5 | q5
     · rw [q0,q1,q3,q4,q5] at hM
       subst hM
       go_wp2
       go_meet
       exact ⟨rfl,rfl⟩
     cases br <;> cases ubr <;> (
       rw [q0,q1,q3,q4,q5] at hM
       subst hM
       go_wp2
       go_meet
       exact ⟨rfl,rfl⟩)
 case rest =>
   obtain ⟨rfl,rfl⟩:=hcut
   clear HM HSm Y2
   cases M with
   | true =>
     have hr:=HR.out
     rw [Bool.not_true,Bool.false_and,Bool.false_and] at hr
     subst hr
     clear HR HBd HS IH
     go_wp2
     go_ret
     exact ⟨rfl,HB2.out⟩
   | false =>
     have hr:=HR.out
     rw [Bool.not_false,Bool.true_and] at hr
     have HR:=Lib.hid hr
     clear hr
     have hB:=HBd.out
     clear HBd
     have z5:=(allTen Z2.out).2.2.2.2.2.1
     obtain ⟨d0,d1,d2,d3,d4,d5,d6,d7,d8,d9⟩:=allTen Z2.out
     by_cases kk5:k=5
     · subst kk5
       rw [if_pos (by decide)] at hB
       have hl2:decide ((us.length:Int) < 2)=decide (us.length < 2):=by
         by_cases h:us.length < 2
         · rw [decide_eq_true h,decide_eq_true (by omega)]
         · rw [decide_eq_false h,decide_eq_false (by omega)]
       cases Bd with
       | true =>
         have hr:=HR.out
         rw [Bool.not_true,Bool.false_and] at hr
         subst hr
         rw [hB] at hl2
         go_wp2
         go_ret
         exact ⟨rfl,HB2.out⟩
       | false =>
         have hr:=HR.out
         rw [Bool.not_false,Bool.true_and] at hr
         have HR:=Lib.hid hr
         clear hr
         rw [hB] at hl2
         go_wp2
         clear d0 d1 d2 d3 d4 d5 d6 d7 d8 d9
         go_loopw [5] (fun iv wr=>∃ m:Nat,iv=.int .i64 m∧m ≤ us.length∧Hid (Tr.formS (us.take m)=true)∧Hid (Below w.heap.size w wr)∧w.heap.size < wr.heap.size∧Hid (wr.cell? ⟨w.heap.size,5,none⟩=some (.slice p us.length cap))) (fun iv _=>us.length - (intOf iv).toNat)
         case atStart=>exact ⟨0,rfl,Nat.zero_le _,Lib.hid rfl,HB2,hs2,Lib.hid z5⟩
         case round =>
           obtain ⟨m,rfl,hm,HT,HB,hsz,Z0⟩:=hrel
           clear z5
           have wm:IntKind.i64.wrap ((m:Int)+1)=(m:Int)+1:=IntWalk.i64_in _ (by have:=HLen.out;omega)
           by_cases hlt:m < us.length
           · obtain ⟨x,hx⟩:∃ x,us[m]? = some x:=⟨_,List.getElem?_eq_getElem hlt⟩
             obtain ⟨b1,o1,s1,rfl,-,t1,sub1⟩:=HS.out.get hx
             obtain ⟨d0,d1,d2,d3,d4,d5,d6,d7,d8,d9⟩:=t1.keep (HB.out.block _ t1.lt)
             have hmem:=List.mem_of_getElem? hx
             have HC:=Lib.hid (IH.out x hmem wr B (.agg (x.cells s1)) ⟨_,rfl,sub1.later HB.out⟩)
             have hst:=Tr.formS_take us m x hx
             rw [HT.out,Bool.true_and] at hst
             have HST:=Lib.hid hst
             have z5:=Z0.out
             clear t1 sub1 hmem hx hst
             unfold Tr.cells at HC
             go_wp2_with fail
             refine HC.out.mono ?_
             rintro e w2 ⟨rfl,hb2⟩
             have HB2:=Lib.hid (HB.out.trans (hb2.mono HB.out.size));have Y2:=Lib.hid ((hb2.cell (p:=⟨w.heap.size,5,none⟩) hsz).trans z5)
             have hsz2:w.heap.size < w2.heap.size:=Nat.lt_of_lt_of_le hsz hb2.size
             clear d0 d1 d2 d3 d4 d5 d6 d7 d8 d9 z5 hb2 HC
             cases hxf:x.formB with
             | false =>
               rw [hxf] at HST
               have hr:=HR.out
               rw [Tr.formS_no HST.out] at hr
               subst hr
               clear hxf
               go_wp2
               go_ret
               exact ⟨rfl,HB2.out⟩
             | true =>
               rw [hxf] at HST
               clear hxf
               go_wp2
               exact ⟨⟨m+1,by go_num,by omega,HST,HB2,hsz2,Y2⟩,by simp [intOf];omega⟩
           · obtain rfl:m=us.length:=by omega
             rw [List.take_length] at *
             have hr:=HR.out
             rw [HT.out] at hr
             subst hr
             go_wp2
             go_ret
             exact ⟨rfl,HB.out⟩
     have n5:(k == 5)=false:=by simpa using kk5
     by_cases kk6:k=6
     · subst kk6
       rw [if_pos (by decide)] at hB
       have hl2:decide ((us.length:Int) < 2)=decide (us.length < 2):=by
         by_cases h:us.length < 2
         · rw [decide_eq_true h,decide_eq_true (by omega)]
         · rw [decide_eq_false h,decide_eq_false (by omega)]
       cases Bd with
       | true =>
         have hr:=HR.out
         rw [Bool.not_true,Bool.false_and] at hr
         subst hr
         rw [hB] at hl2
         go_wp2
         go_ret
         exact ⟨rfl,HB2.out⟩
       | false =>
         have hr:=HR.out
         rw [Bool.not_false,Bool.true_and] at hr
         have HR:=Lib.hid hr
         clear hr
         rw [hB] at hl2
         go_wp2
         clear d0 d1 d2 d3 d4 d5 d6 d7 d8 d9
         go_loopw [5] (fun iv wr=>∃ m:Nat,iv=.int .i64 m∧m ≤ us.length∧Hid (Tr.formS (us.take m)=true)∧Hid (Below w.heap.size w wr)∧w.heap.size < wr.heap.size∧Hid (wr.cell? ⟨w.heap.size,5,none⟩=some (.slice p us.length cap))) (fun iv _=>us.length - (intOf iv).toNat)
         case atStart=>exact ⟨0,rfl,Nat.zero_le _,Lib.hid rfl,HB2,hs2,Lib.hid z5⟩
         case round =>
           obtain ⟨m,rfl,hm,HT,HB,hsz,Z0⟩:=hrel
           clear z5
           have wm:IntKind.i64.wrap ((m:Int)+1)=(m:Int)+1:=IntWalk.i64_in _ (by have:=HLen.out;omega)
           by_cases hlt:m < us.length
           · obtain ⟨x,hx⟩:∃ x,us[m]? = some x:=⟨_,List.getElem?_eq_getElem hlt⟩
             obtain ⟨b1,o1,s1,rfl,-,t1,sub1⟩:=HS.out.get hx
             obtain ⟨d0,d1,d2,d3,d4,d5,d6,d7,d8,d9⟩:=t1.keep (HB.out.block _ t1.lt)
             have hmem:=List.mem_of_getElem? hx
             have HC:=Lib.hid (IH.out x hmem wr B (.agg (x.cells s1)) ⟨_,rfl,sub1.later HB.out⟩)
             have hst:=Tr.formS_take us m x hx
             rw [HT.out,Bool.true_and] at hst
             have HST:=Lib.hid hst
             have z5:=Z0.out
             clear t1 sub1 hmem hx hst
             unfold Tr.cells at HC
             go_wp2_with fail
             refine HC.out.mono ?_
             rintro e w2 ⟨rfl,hb2⟩
             have HB2:=Lib.hid (HB.out.trans (hb2.mono HB.out.size));have Y2:=Lib.hid ((hb2.cell (p:=⟨w.heap.size,5,none⟩) hsz).trans z5)
             have hsz2:w.heap.size < w2.heap.size:=Nat.lt_of_lt_of_le hsz hb2.size
             clear d0 d1 d2 d3 d4 d5 d6 d7 d8 d9 z5 hb2 HC
             cases hxf:x.formB with
             | false =>
               rw [hxf] at HST
               have hr:=HR.out
               rw [Tr.formS_no HST.out] at hr
               subst hr
               clear hxf
               go_wp2
               go_ret
               exact ⟨rfl,HB2.out⟩
             | true =>
               rw [hxf] at HST
               clear hxf
               go_wp2
               exact ⟨⟨m+1,by go_num,by omega,HST,HB2,hsz2,Y2⟩,by simp [intOf];omega⟩
           · obtain rfl:m=us.length:=by omega
             rw [List.take_length] at *
             have hr:=HR.out
             rw [HT.out] at hr
             subst hr
             go_wp2
             go_ret
             exact ⟨rfl,HB.out⟩
     have n6:(k == 6)=false:=by simpa using kk6
     by_cases kk7:k=7
     · subst kk7
       rw [if_neg (by decide),if_pos rfl] at hB
       have hl1:((us.length:Int) != 1)=(us.length != 1):=by
         by_cases h:us.length=1
         · rw [h];rfl
         · have e1:(us.length != 1)=true:=by simpa using h
           have e2:((us.length:Int) != 1)=true:=by rw [bne_iff_ne];omega
           rw [e1,e2]
       rcases bool_or (us.length != 1) with q0 | q0
       · rw [q0] at hB hl1
         simp only [Bool.true_or] at hB
         subst hB
         have hr:=HR.out
         rw [Bool.not_true,Bool.false_and] at hr
         subst hr
         go_wp2
         go_ret
         exact ⟨rfl,HB2.out⟩
       rw [q0] at hl1
       rcases bool_or (decide (n < 1)) with q1 | q1
       · rw [q0,q1] at hB
         simp only [Bool.true_or,Bool.or_true] at hB
         subst hB
         have hr:=HR.out
         rw [Bool.not_true,Bool.false_and] at hr
         subst hr
         go_wp2
         go_ret
         exact ⟨rfl,HB2.out⟩
       rcases bool_or (decide (999 < n)) with q2 | q2
       · rw [q0,q1,q2] at hB
         simp only [Bool.or_false,Bool.or_true] at hB
         subst hB
         have hr:=HR.out
         rw [Bool.not_true,Bool.false_and] at hr
         subst hr
         go_wp2
         go_ret
         exact ⟨rfl,HB2.out⟩
       rw [q0,q1,q2] at hB
       simp only [Bool.or_false] at hB
       subst hB
       have hr:=HR.out
       rw [Bool.not_false,Bool.true_and] at hr
       have HR:=Lib.hid hr
       clear hr
       go_wp2
       clear d0 d1 d2 d3 d4 d5 d6 d7 d8 d9
       go_loopw [5] (fun iv wr=>∃ m:Nat,iv=.int .i64 m∧m ≤ us.length∧Hid (Tr.formS (us.take m)=true)∧Hid (Below w.heap.size w wr)∧w.heap.size < wr.heap.size∧Hid (wr.cell? ⟨w.heap.size,5,none⟩=some (.slice p us.length cap))) (fun iv _=>us.length - (intOf iv).toNat)
       case atStart=>exact ⟨0,rfl,Nat.zero_le _,Lib.hid rfl,HB2,hs2,Lib.hid z5⟩
       case round =>
         obtain ⟨m,rfl,hm,HT,HB,hsz,Z0⟩:=hrel
         clear z5
         have wm:IntKind.i64.wrap ((m:Int)+1)=(m:Int)+1:=IntWalk.i64_in _ (by have:=HLen.out;omega)
         by_cases hlt:m < us.length
         · obtain ⟨x,hx⟩:∃ x,us[m]? = some x:=⟨_,List.getElem?_eq_getElem hlt⟩
           obtain ⟨b1,o1,s1,rfl,-,t1,sub1⟩:=HS.out.get hx
           obtain ⟨d0,d1,d2,d3,d4,d5,d6,d7,d8,d9⟩:=t1.keep (HB.out.block _ t1.lt)
           have hmem:=List.mem_of_getElem? hx
           have HC:=Lib.hid (IH.out x hmem wr B (.agg (x.cells s1)) ⟨_,rfl,sub1.later HB.out⟩)
           have hst:=Tr.formS_take us m x hx
           rw [HT.out,Bool.true_and] at hst
           have HST:=Lib.hid hst
           have z5:=Z0.out
           clear t1 sub1 hmem hx hst
           unfold Tr.cells at HC
           go_wp2_with fail
           refine HC.out.mono ?_
           rintro e w2 ⟨rfl,hb2⟩
           have HB2:=Lib.hid (HB.out.trans (hb2.mono HB.out.size));have Y2:=Lib.hid ((hb2.cell (p:=⟨w.heap.size,5,none⟩) hsz).trans z5)
           have hsz2:w.heap.size < w2.heap.size:=Nat.lt_of_lt_of_le hsz hb2.size
           clear d0 d1 d2 d3 d4 d5 d6 d7 d8 d9 z5 hb2 HC
           cases hxf:x.formB with
           | false =>
             rw [hxf] at HST
             have hr:=HR.out
             rw [Tr.formS_no HST.out] at hr
             subst hr
             clear hxf
             go_wp2
             go_ret
             exact ⟨rfl,HB2.out⟩
           | true =>
             rw [hxf] at HST
             clear hxf
             go_wp2
             exact ⟨⟨m+1,by go_num,by omega,HST,HB2,hsz2,Y2⟩,by simp [intOf];omega⟩
         · obtain rfl:m=us.length:=by omega
           rw [List.take_length] at *
           have hr:=HR.out
           rw [HT.out] at hr
           subst hr
           go_wp2
           go_ret
           exact ⟨rfl,HB.out⟩
     have n7:(k == 7)=false:=by simpa using kk7
     by_cases kk8:k=8
     · subst kk8
       rw [if_neg (by decide),if_neg (by decide),if_pos rfl] at hB
       have hl1:((us.length:Int) != 1)=(us.length != 1):=by
         by_cases h:us.length=1
         · rw [h];rfl
         · have e1:(us.length != 1)=true:=by simpa using h
           have e2:((us.length:Int) != 1)=true:=by rw [bne_iff_ne];omega
           rw [e1,e2]
       have HB:=Lib.hid hB
       clear hB
       go_upto_region 16 with (fail)
       go_cut [122] (fun u wx=>u=.bool Bd∧W2=wx)
       case first =>
         have hB:=HB.out
         clear HB HR HS IH HB2 hs2
         rcases bool_or (us.length != 1) with q0 | q0
         · rw [q0] at hB hl1
           subst hB
           go_wp2
           go_meet
           exact ⟨rfl,rfl⟩
         rw [q0] at hl1
         rcases bool_or (decide (lo < 0)) with q1 | q1
         · rw [q0,q1] at hB
           subst hB
           go_wp2
           go_meet
           exact ⟨rfl,rfl⟩
         rcases bool_or (decide (255 < lo)) with q2 | q2
         · rw [q0,q1,q2] at hB
           subst hB
           go_wp2
           go_meet
           exact ⟨rfl,rfl⟩
         rcases bool_or (decide (hi < -1)) with q3 | q3
         · rw [q0,q1,q2,q3] at hB
           subst hB
           go_wp2
           go_meet
           exact ⟨rfl,rfl⟩
         rcases bool_or (decide (255 < hi)) with q4 | q4
         · rw [q0,q1,q2,q3,q4] at hB
           subst hB
           go_wp2
           go_meet
           exact ⟨rfl,rfl⟩
         rcases bool_or (decide (0 ≤ hi)) with q5 | q5 <;> rcases bool_or (decide (hi < lo)) with q6 | q6 <;> rcases bool_or (lo != 0) with q7 | q7 <;> cases br <;> (
           rw [q0,q1,q2,q3,q4,q5,q6,q7] at hB
           subst hB
           go_wp2
           go_meet
           exact ⟨rfl,rfl⟩)
       case rest =>
         obtain ⟨rfl,rfl⟩:=hcut
         clear HB hl1
         cases Bd with
         | true =>
           have hr:=HR.out
           rw [Bool.not_true,Bool.false_and] at hr
           subst hr
           go_wp2
           go_ret
           exact ⟨rfl,HB2.out⟩
         | false =>
           have hr:=HR.out
           rw [Bool.not_false,Bool.true_and] at hr
           have HR:=Lib.hid hr
           clear hr
           go_wp2
           clear d0 d1 d2 d3 d4 d5 d6 d7 d8 d9
           go_loopw [5] (fun iv wr=>∃ m:Nat,iv=.int .i64 m∧m ≤ us.length∧Hid (Tr.formS (us.take m)=true)∧Hid (Below w.heap.size w wr)∧w.heap.size < wr.heap.size∧Hid (wr.cell? ⟨w.heap.size,5,none⟩=some (.slice p us.length cap))) (fun iv _=>us.length - (intOf iv).toNat)
           case atStart=>exact ⟨0,rfl,Nat.zero_le _,Lib.hid rfl,HB2,hs2,Lib.hid z5⟩
           case round =>
             obtain ⟨m,rfl,hm,HT,HB,hsz,Z0⟩:=hrel
             clear z5
             have wm:IntKind.i64.wrap ((m:Int)+1)=(m:Int)+1:=IntWalk.i64_in _ (by have:=HLen.out;omega)
             by_cases hlt:m < us.length
             · obtain ⟨x,hx⟩:∃ x,us[m]? = some x:=⟨_,List.getElem?_eq_getElem hlt⟩
               obtain ⟨b1,o1,s1,rfl,-,t1,sub1⟩:=HS.out.get hx
               obtain ⟨d0,d1,d2,d3,d4,d5,d6,d7,d8,d9⟩:=t1.keep (HB.out.block _ t1.lt)
               have hmem:=List.mem_of_getElem? hx
               have HC:=Lib.hid (IH.out x hmem wr B (.agg (x.cells s1)) ⟨_,rfl,sub1.later HB.out⟩)
               have hst:=Tr.formS_take us m x hx
               rw [HT.out,Bool.true_and] at hst
               have HST:=Lib.hid hst
               have z5:=Z0.out
               clear t1 sub1 hmem hx hst
               unfold Tr.cells at HC
               go_wp2_with fail
               refine HC.out.mono ?_
               rintro e w2 ⟨rfl,hb2⟩
               have HB2:=Lib.hid (HB.out.trans (hb2.mono HB.out.size));have Y2:=Lib.hid ((hb2.cell (p:=⟨w.heap.size,5,none⟩) hsz).trans z5)
               have hsz2:w.heap.size < w2.heap.size:=Nat.lt_of_lt_of_le hsz hb2.size
               clear d0 d1 d2 d3 d4 d5 d6 d7 d8 d9 z5 hb2 HC
               cases hxf:x.formB with
               | false =>
                 rw [hxf] at HST
                 have hr:=HR.out
                 rw [Tr.formS_no HST.out] at hr
                 subst hr
                 clear hxf
                 go_wp2
                 go_ret
                 exact ⟨rfl,HB2.out⟩
               | true =>
                 rw [hxf] at HST
                 clear hxf
                 go_wp2
                 exact ⟨⟨m+1,by go_num,by omega,HST,HB2,hsz2,Y2⟩,by simp [intOf];omega⟩
             · obtain rfl:m=us.length:=by omega
               rw [List.take_length] at *
               have hr:=HR.out
               rw [HT.out] at hr
               subst hr
               go_wp2
               go_ret
               exact ⟨rfl,HB.out⟩
     have n8:(k == 8)=false:=by simpa using kk8
     rw [if_neg (by omega),if_neg kk7,if_neg kk8] at hB
     have hl0:((us.length:Int) != 0)=(us.length != 0):=by
       by_cases h:us.length=0
       · rw [h];rfl
       · have e1:(us.length != 0)=true:=by simpa using h
         have e2:((us.length:Int) != 0)=true:=by rw [bne_iff_ne];omega
         rw [e1,e2]
     cases Bd with
     | true =>
       have hr:=HR.out
       rw [Bool.not_true,Bool.false_and] at hr
       subst hr
       rw [hB] at hl0
       clear kk5 kk6 kk7 kk8
       go_wp2
       go_ret
       exact ⟨rfl,HB2.out⟩
     | false =>
       have hr:=HR.out
       rw [Bool.not_false,Bool.true_and] at hr
       have HR:=Lib.hid hr
       clear hr
       rw [hB] at hl0
       clear kk5 kk6 kk7 kk8
       go_wp2
       clear d0 d1 d2 d3 d4 d5 d6 d7 d8 d9
       go_loopw [5] (fun iv wr=>∃ m:Nat,iv=.int .i64 m∧m ≤ us.length∧Hid (Tr.formS (us.take m)=true)∧Hid (Below w.heap.size w wr)∧w.heap.size < wr.heap.size∧Hid (wr.cell? ⟨w.heap.size,5,none⟩=some (.slice p us.length cap))) (fun iv _=>us.length - (intOf iv).toNat)
       case atStart=>exact ⟨0,rfl,Nat.zero_le _,Lib.hid rfl,HB2,hs2,Lib.hid z5⟩
       case round =>
         obtain ⟨m,rfl,hm,HT,HB,hsz,Z0⟩:=hrel
         clear z5
         have wm:IntKind.i64.wrap ((m:Int)+1)=(m:Int)+1:=IntWalk.i64_in _ (by have:=HLen.out;omega)
         by_cases hlt:m < us.length
         · obtain ⟨x,hx⟩:∃ x,us[m]? = some x:=⟨_,List.getElem?_eq_getElem hlt⟩
           obtain ⟨b1,o1,s1,rfl,-,t1,sub1⟩:=HS.out.get hx
           obtain ⟨d0,d1,d2,d3,d4,d5,d6,d7,d8,d9⟩:=t1.keep (HB.out.block _ t1.lt)
           have hmem:=List.mem_of_getElem? hx
           have HC:=Lib.hid (IH.out x hmem wr B (.agg (x.cells s1)) ⟨_,rfl,sub1.later HB.out⟩)
           have hst:=Tr.formS_take us m x hx
           rw [HT.out,Bool.true_and] at hst
           have HST:=Lib.hid hst
           have z5:=Z0.out
           clear t1 sub1 hmem hx hst
           unfold Tr.cells at HC
           go_wp2_with fail
           refine HC.out.mono ?_
           rintro e w2 ⟨rfl,hb2⟩
           have HB2:=Lib.hid (HB.out.trans (hb2.mono HB.out.size));have Y2:=Lib.hid ((hb2.cell (p:=⟨w.heap.size,5,none⟩) hsz).trans z5)
           have hsz2:w.heap.size < w2.heap.size:=Nat.lt_of_lt_of_le hsz hb2.size
           clear d0 d1 d2 d3 d4 d5 d6 d7 d8 d9 z5 hb2 HC
           cases hxf:x.formB with
           | false =>
             rw [hxf] at HST
             have hr:=HR.out
             rw [Tr.formS_no HST.out] at hr
             subst hr
             clear hxf
             go_wp2
             go_ret
             exact ⟨rfl,HB2.out⟩
           | true =>
             rw [hxf] at HST
             clear hxf
             go_wp2
             exact ⟨⟨m+1,by go_num,by omega,HST,HB2,hsz2,Y2⟩,by simp [intOf];omega⟩
         · obtain rfl:m=us.length:=by omega
           rw [List.take_length] at *
           have hr:=HR.out
           rw [HT.out] at hr
           subst hr
           go_wp2
           go_ret
           exact ⟨rfl,HB.out⟩
theorem refform_any:∀ t:Tr,∀ (w:World) (B:Nat→Prop) (v:Value),NodeV w B v t→Calls Tryd.prog 94 #[v] w fun e w'=>e=.returned (.bool t.formB)∧Below w.heap.size w w':=by
 intro t
 induction t using Tr.rec_subs with
 | h t ih =>
   intro w B v hv
   obtain ⟨s,rfl,hs⟩:=hv
   obtain ⟨p,cap,rfl,hlen⟩:=hs.slice
   have h:=refform_step t.kind t.w0 t.w1 t.w2 t.w3 t.subs t.num t.least t.most t.bare p cap t.usedT.w0 t.usedT.w1 t.usedT.w2 t.usedT.w3 t.usedT.num t.usedT.least t.usedT.most t.usedT.bare w B (Lib.hid (fun w=>refused_any t _ ⟨p,t.subs.length,cap,rfl⟩ w)) (Lib.hid hs) hlen (Lib.hid (fun x hx w B v hv=>ih x hx w B v hv))
   rw [Tr.formB_eq,Tr.fieldsB_ref]
   exact h
end Go.Proofs.YtllfgppjobinnaaDoor
namespace Go.Proofs.YtllfgppjobinnaaDoor
open Go.RowKit
theorem Tr.dpT_ref (t:Tr):t.dpT=Tr.dpS t.subs+(if (((t.kind == 8) && decide (0 < t.subs.length)) && !((t.least == 0) && ((t.most == 1) || (t.most == -1))))=true then 2 else 1):=by
 rw [Tr.dpT_eq]
 by_cases h0:t.subs.length=0
 · have e:t.subs=[]:=List.length_eq_zero_iff.1 h0
   rw [if_pos h0,e]
   simp [Tr.dpS]
 · rw [if_neg h0]
   have e:decide (0 < t.subs.length)=true:=by rw [decide_eq_true_eq];omega
   rw [e]
   congr 1
   have:(t.kind=8∧¬ (t.least=0∧(t.most=1 ∨ t.most = -1))) ↔ ((((t.kind == 8) && true) && !((t.least == 0) && ((t.most == 1) || (t.most == -1))))=true):=by by_cases a:t.least=0 <;> simp [a]
   by_cases h:t.kind=8∧¬ (t.least=0∧(t.most=1 ∨ t.most = -1))
   · rw [if_pos h,if_pos (this.1 h)]
   · rw [if_neg h,if_neg (fun h2=>h (this.2 h2))]
theorem refdepth_any:∀ t:Tr,t.dpT ≤ 1000000→∀ (w:World) (B:Nat→Prop) (v:Value),NodeV w B v t→Calls Tryd.prog 82 #[v] w (SizeEnd t.dpT w):=by
 intro t
 induction t using Tr.rec_subs with
 | h t ih =>
   intro hd w B v hv
   obtain ⟨s,rfl,hs⟩:=hv
   obtain ⟨p,cap,rfl,hlen⟩:=hs.slice
   have heq:=Tr.dpT_ref t
   rw [heq] at hd ⊢
   clear heq
   generalize hts:t.subs=ts at *
   have IH:=Lib.hid ih;have HS:=Lib.hid hs
   clear ih hs hts
   unfold Tr.cells at *
   have hle:Tr.dpS ts ≤ 1000000:=by omega
   generalize hD:Tr.dpS ts+(if (((t.kind == 8) && decide (0 < ts.length)) && !((t.least == 0) && ((t.most == 1) || (t.most == -1))))=true then 2 else 1)=D at *
   have HDE:=Lib.hid hD
   have Z0:=Lib.hid (heap_alloc_new w (.cells #[.int .i64 t.kind,.int .u64 (Oc.U t.w0),.int .u64 (Oc.U t.w1),.int .u64 (Oc.U t.w2),.int .u64 (Oc.U t.w3),.slice p ts.length cap,.int .i64 t.num,.int .i64 t.least,.int .i64 t.most,.bool t.bare] 37))
   have HW:=Lib.hid (show Below w.heap.size w (w.alloc (.cells #[.int .i64 t.kind,.int .u64 (Oc.U t.w0),.int .u64 (Oc.U t.w1),.int .u64 (Oc.U t.w2),.int .u64 (Oc.U t.w3),.slice p ts.length cap,.int .i64 t.num,.int .i64 t.least,.int .i64 t.most,.bool t.bare] 37)) from (Below.refl _ _).alloc (Nat.le_refl _) _)
   have hz:w.heap.size < (w.alloc (.cells #[.int .i64 t.kind,.int .u64 (Oc.U t.w0),.int .u64 (Oc.U t.w1),.int .u64 (Oc.U t.w2),.int .u64 (Oc.U t.w3),.slice p ts.length cap,.int .i64 t.num,.int .i64 t.least,.int .i64 t.most,.bool t.bare] 37)).heap.size:=by simp
   have HD:=Lib.hid hd
   clear hd hD
   go_enter Tryd.func82,Tryd.ntmps82
   go_wp2
   generalize w.alloc (.cells #[.int .i64 t.kind,.int .u64 (Oc.U t.w0),.int .u64 (Oc.U t.w1),.int .u64 (Oc.U t.w2),.int .u64 (Oc.U t.w3),.slice p ts.length cap,.int .i64 t.num,.int .i64 t.least,.int .i64 t.most,.bool t.bare] 37)=W0 at *
   go_loopw [3,4] (fun gv iv wr=>∃ m:Nat,iv=.int .i64 m∧m ≤ ts.length∧gv=.int .i64 (Tr.dpS (ts.take m):Nat)∧Hid (Below W0.heap.size W0 wr)) (fun _ iv _=>ts.length - (intOf iv).toNat)
   case atStart=>exact ⟨0,rfl,Nat.zero_le _,rfl,Lib.hid (Below.refl _ _)⟩
   case round =>
     obtain ⟨m,rfl,hm,rfl,HB⟩:=hrel
     have wm:IntKind.i64.wrap ((m:Int)+1)=(m:Int)+1:=IntWalk.i64_in _ (by omega)
     have HBW:=Lib.hid (HW.out.trans (HB.out.mono HW.out.size))
     have Z1:=Lib.hid (keep_blk (HB.out.mono (Nat.le_refl _)) Z0.out)
     have z5:=(allTen Z1.out).2.2.2.2.2.1
     by_cases hlt:m < ts.length
     · obtain ⟨x,hx⟩:∃ x,ts[m]? = some x:=⟨_,List.getElem?_eq_getElem hlt⟩
       obtain ⟨b1,o1,s1,rfl,-,t1,sub1⟩:=HS.out.get hx
       obtain ⟨d0,d1,d2,d3,d4,d5,d6,d7,d8,d9⟩:=t1.keep (HBW.out.block _ t1.lt)
       have hmem:=List.mem_of_getElem? hx
       obtain ⟨p1,c1,rfl,hl1⟩:=sub1.slice
       have hdx:x.dpT ≤ 1000000:=by have:=Tr.dpT_le_dpS hmem;omega
       have HC:=Lib.hid (fun w9 hb=>IH.out x hmem hdx w9 B (.agg (x.cells (.slice p1 x.subs.length c1))) ⟨_,rfl,sub1.later hb⟩)
       have HSTP:=Lib.hid (Tr.dpS_take ts m x hx)
       clear t1 sub1 hmem hx hdx
       generalize hn:Tr.dpS (ts.take m)=n at *
       clear hn
       unfold Tr.cells at HC
       go_wp2_with fail
       refine (HC.out wr HBW.out).mono ?_
       rintro e w2 ⟨rfl,hb2⟩
       have HB2:=Lib.hid (HB.out.trans (hb2.mono HB.out.size))
       clear d0 d1 d2 d3 d4 d5 d6 d7 d8 d9 z5 hb2 HC
       generalize x.dpT=N at *
       go_wp2
       all_goals
         exact ⟨⟨m+1,by go_num,by omega,by rw [HSTP.out];simp;try omega,HB2⟩,by simp [intOf];omega⟩
     · obtain rfl:m=ts.length:=by omega
       rw [List.take_length] at *
       have w2':IntKind.i64.wrap ((Tr.dpS ts:Int)+2)=(Tr.dpS ts:Int)+2:=IntWalk.i64_in _ (by omega)
       have w1':IntKind.i64.wrap ((Tr.dpS ts:Int)+1)=(Tr.dpS ts:Int)+1:=IntWalk.i64_in _ (by omega)
       have hde:=HDE.out
       clear z5
       obtain ⟨d0,d1,d2,d3,d4,d5,d6,d7,d8,d9⟩:=allTen Z1.out
       have hl:decide ((0:Int) < ts.length)=decide (0 < ts.length):=by
         by_cases h:0 < ts.length
         · rw [decide_eq_true h,decide_eq_true (by omega)]
         · rw [decide_eq_false h,decide_eq_false (by omega)]
       rcases bool_or (t.kind == 8) with q1 | q1 <;> rcases bool_or (decide (0 < ts.length)) with q2 | q2 <;> rcases bool_or (t.least == 0) with q3 | q3 <;> rcases bool_or (t.most == 1) with q4 | q4 <;> rcases bool_or (t.most == -1) with q5 | q5 <;> (
         rw [q1,q2,q3,q4,q5] at hde
         rw [q2] at hl
         simp only [Bool.and_true,Bool.and_false,Bool.or_true,Bool.or_false,Bool.not_true,Bool.not_false,if_true,if_false,Bool.false_eq_true] at hde
         have HDF:=Lib.hid hde
         clear hde
         go_wp2
         go_ret
         exact ⟨ret_int (by have:=HDF.out;omega),HBW.out⟩)
theorem refcheck_any (t:Tr) (hd:t.dpT ≤ 1000000) (w:World) (B:Nat→Prop) (v:Value) (hv:NodeV w B v t):Calls Tryd.prog 73 #[v] w (SizeEnd t.checkC w):=by
 obtain ⟨s,rfl,hs⟩:=hv
 have H1:=Lib.hid (fun w' hb=>refform_any t w' B (.agg (t.cells s)) ⟨s,rfl,TreesAt.later (w':=w') hs hb⟩)
 have H2:=Lib.hid (fun w' hb=>refdepth_any t hd w' B (.agg (t.cells s)) ⟨s,rfl,TreesAt.later (w':=w') hs hb⟩)
 have H3:=Lib.hid (fun (hf:t.InForm) w' hb=>refsize_any t hf w' B (.agg (t.cells s)) ⟨s,rfl,TreesAt.later (w':=w') hs hb⟩)
 obtain ⟨p,cap,rfl,hlen⟩:=hs.slice
 have Z0:=Lib.hid (heap_alloc_new w (.cells (t.cells (.slice p t.subs.length cap)) 37))
 have hfi:=Tr.formB_iff t
 have HFI:=Lib.hid hfi
 have HCC:=Lib.hid (show t.checkC=if t.formB=false then 13 else if 200 < t.dpT then 14 else if 2000 < t.szT then 10 else 0 from rfl)
 clear hs hd hfi
 unfold Tr.cells at *
 go_enter Tryd.func73,Tryd.ntmps73
 go_wp2_with (first
   | (refine wpList_load_row rfl 37 (.tmp 1) rfl w.heap.size rfl 37 _ (0,0) _ Z0.out Tryd.underlying37 rfl (by kernel_rfl) ?_)
   | fail)
 refine (H1.out _ ((Below.refl _ _).alloc (Nat.le_refl _) _)).mono ?_
 rintro e w1 ⟨rfl,hb1⟩
 have Z1:=Lib.hid (keep_blk hb1 Z0.out)
 have HB1:=Lib.hid (((Below.refl w.heap.size w).alloc (Nat.le_refl _) _).trans (hb1.mono (by simp)))
 clear hb1 Z0
 have hcc:=HCC.out
 cases hfb:t.formB with
 | false =>
   rw [if_pos hfb] at hcc
   have HCV:=Lib.hid hcc
   clear hcc HCC HFI hfb
   go_wp2
   go_ret
   exact ⟨ret_int (by rw [HCV.out];rfl),HB1.out⟩
 | true =>
   have hform:=HFI.out.1 hfb
   have H3':=Lib.hid (H3.out hform)
   rw [if_neg (by rw [hfb];decide)] at hcc
   have HC2:=Lib.hid hcc
   clear hcc HCC HFI hfb hform H3
   go_wp2_with (first
     | (refine wpList_load_row rfl 37 (.tmp 1) rfl w.heap.size rfl 37 _ (0,0) _ Z1.out Tryd.underlying37 rfl (by kernel_rfl) ?_)
     | fail)
   refine (H2.out _ HB1.out).mono ?_
   rintro e w2 ⟨rfl,hb2⟩
   have Z2:=Lib.hid (keep_blk hb2 Z1.out)
   have HB2:=Lib.hid (HB1.out.trans (hb2.mono HB1.out.size))
   clear hb2 Z1
   have hcc:=HC2.out
   by_cases hd:200 < t.dpT
   · rw [if_pos hd] at hcc
     have HCV:=Lib.hid hcc
     have e1:decide ((200:Int) < t.dpT)=true:=by simp;omega
     have e1':decide (200 < t.dpT)=true:=by simpa using hd
     clear hcc HC2 hd
     generalize t.dpT=D at *
     go_wp2
     go_ret
     exact ⟨ret_int (by rw [HCV.out];rfl),HB2.out⟩
   · have e1:decide ((200:Int) < t.dpT)=false:=by simp;omega
     have e1':decide (200 < t.dpT)=false:=by simpa using hd
     rw [if_neg hd] at hcc
     have HC3:=Lib.hid hcc
     clear hcc HC2 hd
     generalize t.dpT=D at *
     go_wp2_with (first
       | (refine wpList_load_row rfl 37 (.tmp 1) rfl w.heap.size rfl 37 _ (0,0) _ Z2.out Tryd.underlying37 rfl (by kernel_rfl) ?_)
       | fail)
     refine (H3'.out _ HB2.out).mono ?_
     rintro e w3 ⟨rfl,hb3⟩
     have HB3:=Lib.hid (HB2.out.trans (hb3.mono HB2.out.size))
     clear hb3 Z2
     have hcc:=HC3.out
     by_cases hz:2000 < t.szT
     · rw [if_pos hz] at hcc
       have HCV:=Lib.hid hcc
       have z1:decide ((2000:Int) < t.szT)=true:=by simp;omega
       have z1':decide (2000 < t.szT)=true:=by simpa using hz
       clear hcc HC3 hz
       generalize t.szT=ZT at *
       go_wp2
       go_ret
       exact ⟨ret_int (by rw [HCV.out];rfl),HB3.out⟩
     · rw [if_neg hz] at hcc
       have HCV:=Lib.hid hcc
       have z1:decide ((2000:Int) < t.szT)=false:=by simp;omega
       have z1':decide (2000 < t.szT)=false:=by simpa using hz
       clear hcc HC3 hz
       generalize t.szT=ZT at *
       go_wp2
       go_ret
       exact ⟨ret_int (by rw [HCV.out];rfl),HB3.out⟩
end Go.Proofs.YtllfgppjobinnaaDoor
namespace Go.Proofs.YtllfgppjobinnaaDoor
open Go.RowKit
theorem refnmof_list (k:Int) (a b c d:BitVec 64) (ts:List Tr) (n lo hi:Int) (br:Bool) (hfr:(Tr.node k a b c d ts n lo hi br).freeT=false) (w:World) (Bb:Nat→Prop) (s:Value) (ih:∀ u,u ∈ ts→∀ (w:World) (B:Nat→Prop) (v:Value),NodeV w B v u→Calls Tryd.prog 86 #[v] w (NewEnd u.nmT w)) (hs:TreesAt w Bb s ts) :
   Calls Tryd.prog 86 #[.agg #[.int .i64 k,.int .u64 (Oc.U a),.int .u64 (Oc.U b),.int .u64 (Oc.U c),.int .u64 (Oc.U d),s,.int .i64 n,.int .i64 lo,.int .i64 hi,.bool br]] w (NewEnd (.node k a b c d (ts.map Tr.nmT) n lo hi br) w):=by
 obtain ⟨p,cap,rfl,hlen⟩:=hs.slice
 have IH:=Lib.hid ih;have HS:=Lib.hid hs
 obtain ⟨ie,hi0,hz0,hz1,hz2⟩:=info_parts Tryd.infoNode
 have HI:=Lib.hid hi0;have HZ0:=Lib.hid hz0;have HZ1:=Lib.hid hz1;have HZ2:=Lib.hid hz2
 have HFREE:=Lib.hid (fun w9 (hb:Below w.heap.size w w9)=>reffree_any (.node k a b c d ts n lo hi br) w9 Bb (.agg #[.int .i64 k,.int .u64 (Oc.U a),.int .u64 (Oc.U b),.int .u64 (Oc.U c),.int .u64 (Oc.U d),.slice p ts.length cap,.int .i64 n,.int .i64 lo,.int .i64 hi,.bool br]) ⟨.slice p ts.length cap,rfl,hs.later hb⟩)
 rw [hfr] at HFREE
 have hz:=two_new w (.cells #[.int .i64 k,.int .u64 (Oc.U a),.int .u64 (Oc.U b),.int .u64 (Oc.U c),.int .u64 (Oc.U d),.slice p ts.length cap,.int .i64 n,.int .i64 lo,.int .i64 hi,.bool br] 37) (.cells noNode 37)
 have hb0:Below w.heap.size w ((w.alloc (.cells #[.int .i64 k,.int .u64 (Oc.U a),.int .u64 (Oc.U b),.int .u64 (Oc.U c),.int .u64 (Oc.U d),.slice p ts.length cap,.int .i64 n,.int .i64 lo,.int .i64 hi,.bool br] 37)).alloc (.cells noNode 37)):=by go_grown
 have hs0:((w.alloc (.cells #[.int .i64 k,.int .u64 (Oc.U a),.int .u64 (Oc.U b),.int .u64 (Oc.U c),.int .u64 (Oc.U d),.slice p ts.length cap,.int .i64 n,.int .i64 lo,.int .i64 hi,.bool br] 37)).alloc (.cells noNode 37)).heap.size=w.heap.size+2:=by simp
 have Z0:=Lib.hid hz.1;have Z1:=Lib.hid hz.2;have HB0:=Lib.hid hb0;have HS0:=Lib.hid hs0
 clear ih hs hi0 hz0 hz1 hz2 hfr hz hb0 hs0
 go_enter Tryd.func86,Tryd.ntmps86
 go_upto_region 1 with (fail)
 generalize (w.alloc _).alloc _=W0 at *
 go_wp2_with (first
   | (refine wpList_load_row rfl 37 (.tmp 1) rfl w.heap.size rfl 37 _ (0,0) _ Z0.out Tryd.underlying37 rfl (by kernel_rfl) ?_)
   | fail)
 refine (HFREE.out W0 HB0.out).mono ?_
 rintro e W1 ⟨rfl,hb1⟩
 have Y0:=Lib.hid (keep_blk hb1 Z0.out);have Y1:=Lib.hid (keep_blk hb1 Z1.out)
 have HB1:=Lib.hid (HB0.out.trans (hb1.mono HB0.out.size))
 have hU1:w.heap.size+2 ≤ W1.heap.size:=by have:=hb1.size;have:=HS0.out;omega
 have HU:=Lib.hid hU1
 clear hb1 HFREE Z0 Z1 HB0 HS0 hU1
 have Z0:=Lib.hid (heap_alloc_lt (o:=.cells #[.int .i64 k,.int .u64 (Oc.U a),.int .u64 (Oc.U b),.int .u64 (Oc.U c),.int .u64 (Oc.U d),.slice none 0 0,.int .i64 n,.int .i64 lo,.int .i64 hi,.bool br] 37) Y0.out)
 have Z1:=Lib.hid (heap_alloc_lt (o:=.cells #[.int .i64 k,.int .u64 (Oc.U a),.int .u64 (Oc.U b),.int .u64 (Oc.U c),.int .u64 (Oc.U d),.slice none 0 0,.int .i64 n,.int .i64 lo,.int .i64 hi,.bool br] 37) Y1.out)
 have Z2:=Lib.hid (heap_alloc_new W1 (.cells #[.int .i64 k,.int .u64 (Oc.U a),.int .u64 (Oc.U b),.int .u64 (Oc.U c),.int .u64 (Oc.U d),.slice none 0 0,.int .i64 n,.int .i64 lo,.int .i64 hi,.bool br] 37))
 have HB0:=Lib.hid (HB1.out.alloc HB1.out.size (.cells #[.int .i64 k,.int .u64 (Oc.U a),.int .u64 (Oc.U b),.int .u64 (Oc.U c),.int .u64 (Oc.U d),.slice none 0 0,.int .i64 n,.int .i64 lo,.int .i64 hi,.bool br] 37))
 have HS0:=Lib.hid (show (W1.alloc (.cells #[.int .i64 k,.int .u64 (Oc.U a),.int .u64 (Oc.U b),.int .u64 (Oc.U c),.int .u64 (Oc.U d),.slice none 0 0,.int .i64 n,.int .i64 lo,.int .i64 hi,.bool br] 37)).heap.size=W1.heap.size+1 by simp)
 go_upto_region 6 with (first
   | (refine wpList_load_row rfl 37 (.tmp 1) rfl w.heap.size rfl 37 _ (0,0) _ Y0.out Tryd.underlying37 rfl (by kernel_rfl) ?_)
   | fail)
 clear Y0 Y1 HB1
 generalize hU:W1.heap.size=Ub at *
 generalize W1.alloc _=W0 at *
 have hU2:=HU.out
 clear hU
 go_wp2
 go_loopw [5] (fun iv wr=>∃ (m:Nat) (ps:List (Tr × Value)) (sv:Value),iv=.int .i64 m∧m ≤ ts.length∧ps.length=m∧Hid (ps.map (·.1)=(ts.take m).map Tr.nmT)∧Hid (RowLo (Ub+1) (Ub+1) wr sv ps)∧Hid (Below w.heap.size w wr)∧Ub+1 ≤ wr.heap.size ∧
     Hid (wr.heap[w.heap.size]? = some (.cells #[.int .i64 k,.int .u64 (Oc.U a),.int .u64 (Oc.U b),.int .u64 (Oc.U c),.int .u64 (Oc.U d),.slice p ts.length cap,.int .i64 n,.int .i64 lo,.int .i64 hi,.bool br] 37))∧Hid (wr.heap[w.heap.size+1]? = some (.cells noNode 37))∧Hid (wr.heap[Ub]? = some (.cells #[.int .i64 k,.int .u64 (Oc.U a),.int .u64 (Oc.U b),.int .u64 (Oc.U c),.int .u64 (Oc.U d),sv,.int .i64 n,.int .i64 lo,.int .i64 hi,.bool br] 37))) (fun iv _=>ts.length - (intOf iv).toNat)
 case atStart=>exact ⟨0,[],_,rfl,Nat.zero_le _,rfl,Lib.hid (by simp),Lib.hid (RowLo.nil _ _ _),HB0,Nat.le_of_eq HS0.out.symm,Z0,Z1,Z2⟩
 case round =>
   clear Z0 Z1 Z2 HB0 HS0
   obtain ⟨m,ps,sv,rfl,hm,hpl,HMP,HR,HB,hsz,X0,X1,X2⟩:=hrel
   have wm:IntKind.i64.wrap ((m:Int)+1)=(m:Int)+1:=IntWalk.i64_in _ (by omega)
   by_cases hlt:m < ts.length
   · obtain ⟨x,hx⟩:∃ x,ts[m]? = some x:=⟨_,List.getElem?_eq_getElem hlt⟩
     obtain ⟨b1,o1,s1,rfl,-,t1,sub1⟩:=HS.out.get hx
     obtain ⟨p1,c1,rfl,hl1⟩:=sub1.slice
     have T1:=Lib.hid (fun w9 (hb9:Below wr.heap.size wr w9)=>t1.keep ((HB.out.trans (hb9.mono HB.out.size)).block _ t1.lt))
     have HCALL:=Lib.hid (fun w9 (hb9:Below wr.heap.size wr w9)=>IH.out x (List.mem_of_getElem? hx) w9 Bb (.agg (x.cells (.slice p1 x.subs.length c1))) ⟨_,rfl,sub1.later (HB.out.trans (hb9.mono HB.out.size))⟩)
     have HMY:=Lib.hid (show (ts.take (m+1)).map Tr.nmT=(ts.take m).map Tr.nmT ++ [x.nmT] by rw [List.take_add_one,hx,List.map_append];rfl)
     clear t1 sub1 hx
     generalize x.nmT=y at *
     unfold Tr.cells at HCALL
     obtain ⟨f5,-⟩:=at5 X0.out
     have hdl:decide ((m:Int) < (ts.length:Int))=true:=decide_eq_true (by omega)
     go_upto_region 9 with (fail)
     clear f5
     refine Ri.wp_region_app (by kernel_rfl) (by kernel_rfl) (by kernel_rfl) (by kernel_rfl) 11 9 (by kernel_rfl) (by omega) (fun kk=>kk == 10) (by kernel_rfl) (by kernel_rfl) (fun kk ww vv=>match kk with | 0=>vv=.pointer (some ⟨Ub,5,none⟩) | 1=>vv=sv | 2=>vv=.pointer (some ⟨w.heap.size,5,none⟩) | 3=>vv=.slice (some ⟨b1,o1,none⟩) ts.length cap | 4=>vv=.int .i64 (m:Int) | 5=>vv=.pointer (some ⟨b1,o1+m * 10,none⟩) | 6=>vv=.agg #[.int .i64 x.kind,.int .u64 (Oc.U x.w0),.int .u64 (Oc.U x.w1),.int .u64 (Oc.U x.w2),.int .u64 (Oc.U x.w3),.slice p1 x.subs.length c1,.int .i64 x.num,.int .i64 x.least,.int .i64 x.most,.bool x.bare] | 7=>∃ s2,vv=.agg (y.cells s2)∧TreesAt ww (fun b=>wr.heap.size ≤ b) s2 y.subs | 8=>OneAt ww wr.heap.size y vv | 10=>vv=.pointer (some ⟨Ub,5,none⟩) | _=>True) (fun _ kk vv=>match kk with | 0=>vv=.pointer (some ⟨Ub,5,none⟩) | 1=>vv=sv | 2=>vv=.pointer (some ⟨w.heap.size,5,none⟩) | 3=>vv=.slice (some ⟨b1,o1,none⟩) ts.length cap | 4=>vv=.int .i64 (m:Int) | 5=>vv=.pointer (some ⟨b1,o1+m * 10,none⟩) | 6=>vv=.agg #[.int .i64 x.kind,.int .u64 (Oc.U x.w0),.int .u64 (Oc.U x.w1),.int .u64 (Oc.U x.w2),.int .u64 (Oc.U x.w3),.slice p1 x.subs.length c1,.int .i64 x.num,.int .i64 x.least,.int .i64 x.most,.bool x.bare] | 10=>vv=.pointer (some ⟨Ub,5,none⟩) | _=>True) (fun uu ww=>∃ p2 c2,RowLo (Ub+1) (Ub+1) ww uu (ps ++ [(y,.slice p2 y.subs.length c2)])∧Below (Ub+1) wr ww) (fun vv ww=>∃ U p2 c2,ww.heap[Ub]? = some (.cells #[.int .i64 k,.int .u64 (Oc.U a),.int .u64 (Oc.U b),.int .u64 (Oc.U c),.int .u64 (Oc.U d),U,.int .i64 n,.int .i64 lo,.int .i64 hi,.bool br] 37)∧RowLo (Ub+1) (Ub+1) ww U (ps ++ [(y,.slice p2 y.subs.length c2)])∧Below (Ub) wr ww) (fun kk ww vv w8 h hb=>by
               match kk,h with
               | 0,h=>exact h
               | 1,h=>exact h
               | 2,h=>exact h
               | 3,h=>exact h
               | 4,h=>exact h
               | 5,h=>exact h
               | 6,h=>exact h
               | 7,h=>exact h.imp fun s2 h=>⟨h.1,h.2.later hb⟩
               | 8,h=>exact h.below hb
               | 9,h=>exact trivial
               | 10,h=>exact h
               | _+11,_=>trivial) (fun kk ww vv xx h=>by
               match kk,h with
               | 0,h=>exact h
               | 1,h=>exact h
               | 2,h=>exact h
               | 3,h=>exact h
               | 4,h=>exact h
               | 5,h=>exact h
               | 6,h=>exact h
               | 7,h=>exact trivial
               | 8,h=>exact trivial
               | 9,h=>exact trivial
               | 10,h=>exact h
               | _+11,_=>trivial) ?_ ?_ ?_ ?_ ?_
     · intro i hi9 hip L v w9 xa hF9 hL hLp hd hv ho
       obtain ⟨hb,hk⟩:=hF9
       have hi':i=0 ∨ i=1 ∨ i=2 ∨ i=3 ∨ i=4 ∨ i=5 ∨ i=6 ∨ i=7 ∨ i=8 ∨ i=10:=by omega
       rcases hi' with rfl | rfl | rfl | rfl | rfl | rfl | rfl | rfl | rfl | rfl
       · have e4:xa.tmps.getD 4 undef=.pointer (some ⟨Ub,0,none⟩):=ho 4 (by kernel_rfl)
         refine Ri.step_plain rfl rfl (fun K' hK'=>?_)
         go_simp
         exact hK' _ _ ⟨_,_,rfl,rfl,(Below.refl _ _),rfl⟩
       · have j0:L 0=true:=by have:=hd _ rfl;simp [Region.binds] at this;simp [this]
         have f0:=(hv 0 20 rfl j0).trans (hk 0 j0)
         refine Ri.step_plain rfl rfl (fun K' hK'=>?_)
         obtain ⟨h5,-⟩:=at5 (keep_blk hb X2.out)
         go_simp
         exact hK' _ _ ⟨_,_,rfl,rfl,(Below.refl _ _),rfl⟩
       · have e1:xa.tmps.getD 1 undef=.pointer (some ⟨w.heap.size,0,none⟩):=ho 1 (by kernel_rfl)
         refine Ri.step_plain rfl rfl (fun K' hK'=>?_)
         go_simp
         exact hK' _ _ ⟨_,_,rfl,rfl,(Below.refl _ _),rfl⟩
       · have j2:L 2=true:=by have:=hd _ rfl;simp [Region.binds] at this;simp [this]
         have f2:=(hv 2 22 rfl j2).trans (hk 2 j2)
         refine Ri.step_plain rfl rfl (fun K' hK'=>?_)
         obtain ⟨h5,-⟩:=at5 (keep_blk hb X0.out)
         go_simp
         exact hK' _ _ ⟨_,_,rfl,rfl,(Below.refl _ _),rfl⟩
       · have e5:xa.tmps.getD 5 undef=.int .i64 (m:Int):=ho 5 (by kernel_rfl)
         refine Ri.step_plain rfl rfl (fun K' hK'=>?_)
         go_simp
         exact hK' _ _ ⟨_,_,rfl,rfl,(Below.refl _ _),rfl⟩
       · obtain ⟨j3,j4⟩:L 3=true∧L 4=true:=by have:=hd _ rfl;simp [Region.binds] at this;simp [this]
         have f3:=(hv 3 23 rfl j3).trans (hk 3 j3)
         have f4:=(hv 4 24 rfl j4).trans (hk 4 j4)
         refine Ri.step_plain rfl rfl (fun K' hK'=>?_)
         go_simp
         exact hK' _ _ ⟨_,_,rfl,rfl,(Below.refl _ _),rfl⟩
       · have j5:L 5=true:=by have:=hd _ rfl;simp [Region.binds] at this;simp [this]
         have f5:=(hv 5 25 rfl j5).trans (hk 5 j5)
         refine Ri.step_plain rfl rfl (fun K' hK'=>?_)
         obtain ⟨d0,d1,d2,d3,d4,d5,d6,d7,d8,d9⟩:=T1.out w9 hb
         go_simp
         exact hK' _ _ ⟨_,_,rfl,rfl,(Below.refl _ _),rfl⟩
       · have j6:L 6=true:=by have:=hd _ rfl;simp [Region.binds] at this;simp [this]
         have f6:=(hv 6 26 rfl j6).trans (hk 6 j6)
         refine Ri.step_plain rfl rfl (fun K' hK'=>?_)
         go_simp
         refine (HCALL.out w9 hb).mono ?_
         intro e w8 he
         obtain ⟨s2,rfl,ht8,hb8⟩:=he.of
         exact hK' _ _ ⟨_,_,rfl,rfl,hb8,⟨s2,rfl,ht8.mono fun b _ hb9=>Nat.le_trans hb.size hb9⟩⟩
       · have j7:L 7=true:=by have:=hd _ rfl;simp [Region.binds] at this;simp [this]
         have k7:∃ s2,(v 7)=.agg (y.cells s2)∧TreesAt w9 (fun b=>wr.heap.size ≤ b) s2 y.subs:=hk 7 j7
         have f7:=hv 7 27 rfl j7
         refine Ri.step_plain rfl rfl (fun K' hK'=>?_)
         obtain ⟨s2,e8,ht8⟩:=k7
         obtain ⟨p2,c2,rfl,-⟩:=ht8.slice
         replace f7:=f7.trans e8
         refine wp_node1 (.tmp 27) y p2 y.subs.length c2 rfl f7 ?_
         exact hK' _ _ ⟨_,_,rfl,rfl,((Below.refl _ _).alloc (Nat.le_refl _) _),OneAt.new _ ht8⟩
       · have e4:xa.tmps.getD 4 undef=.pointer (some ⟨Ub,0,none⟩):=ho 4 (by kernel_rfl)
         refine Ri.step_plain rfl rfl (fun K' hK'=>?_)
         go_simp
         exact hK' _ _ ⟨_,_,rfl,rfl,(Below.refl _ _),rfl⟩
     · intro i hi9 hfr L v w9 xa hM hk hL hLp hd hv ho
       have hi':i=10:=by simpa using hfr
       rcases hi' with rfl
       · have e4:xa.tmps.getD 4 undef=.pointer (some ⟨Ub,0,none⟩):=ho 4 (by kernel_rfl)
         refine Ri.step_plain rfl rfl (fun K' hK'=>?_)
         go_simp
         exact hK' _ _ ⟨_,_,rfl,rfl,rfl,rfl⟩
     · intro L v w9 xa hF9 hall hv ho
       obtain ⟨hb,hk⟩:=hF9
       have j0:=hall 0 (by omega) (by omega) rfl
       have f0:=(hv 0 20 rfl j0).trans (hk 0 j0)
       have j1:=hall 1 (by omega) (by omega) rfl
       have f1:=(hv 1 21 rfl j1).trans (hk 1 j1)
       have j2:=hall 2 (by omega) (by omega) rfl
       have f2:=(hv 2 22 rfl j2).trans (hk 2 j2)
       have j3:=hall 3 (by omega) (by omega) rfl
       have f3:=(hv 3 23 rfl j3).trans (hk 3 j3)
       have j4:=hall 4 (by omega) (by omega) rfl
       have f4:=(hv 4 24 rfl j4).trans (hk 4 j4)
       have j5:=hall 5 (by omega) (by omega) rfl
       have f5:=(hv 5 25 rfl j5).trans (hk 5 j5)
       have j6:=hall 6 (by omega) (by omega) rfl
       have f6:=(hv 6 26 rfl j6).trans (hk 6 j6)
       have j7:=hall 7 (by omega) (by omega) rfl
       have k7:∃ s2,(v 7)=.agg (y.cells s2)∧TreesAt w9 (fun b=>wr.heap.size ≤ b) s2 y.subs:=hk 7 j7
       have f7:=hv 7 27 rfl j7
       have j8:=hall 8 (by omega) (by omega) rfl
       have k8:OneAt w9 wr.heap.size y (v 8):=hk 8 j8
       have f8:=hv 8 28 rfl j8
       refine Ri.step_plain rfl rfl (fun K' hK'=>?_)
       have hrow:=HR.out.below hb
       have hbz:=hb.size;have hsz9:=hsz
       obtain ⟨p2,c2,g,e8,ht8,hc8⟩:=k8
       replace f8:=f8.trans e8
       clear e8
       have hml:ps.length+1 ≤ maxLen:=by unfold maxLen;omega
       have hbyt:(ps.length+1) * 96 ≤ 140737488355328:=by omega
       have hba:Ub+1 ≤ w9.heap.size:=by omega
       refine wp_append_node _ (.tmp 21) (.tmp 28) 35 rfl (Ub+1) 37 ie _ 10 96 Tryd.underlying35 HI.out HZ0.out HZ1.out HZ2.out rfl (by decide) sv ps.length (rowOf ps) f1 hrow.1 ⟨g,0,none⟩ 1 1 (y.cells (.slice p2 y.subs.length c2)).toList f8 rfl hc8 (nodeC_one _ _ _ _) (by decide) hml hbyt hba ?_
       intro v' w4 hown4 hgrow4 hwhere
       exact hK' _ _ ⟨_,_,rfl,rfl,⟨p2,c2,hrow.step (ht8.mono fun b _ hb9=>⟨by omega,fun e=>by have:=(HR.out.lt b e).2;omega⟩) hown4 hgrow4 hwhere,((hb.mono hsz).grown hgrow4 (by omega) (fun k e=>(HR.out.lt k e).1))⟩⟩
     · intro L v w9 xa hM hall hk hv ho
       have f0:=(hv 0 20 rfl (hall 0 (by omega))).trans (hk 0 (by omega) (by omega))
       have f1:=(hv 1 21 rfl (hall 1 (by omega))).trans (hk 1 (by omega) (by omega))
       have f2:=(hv 2 22 rfl (hall 2 (by omega))).trans (hk 2 (by omega) (by omega))
       have f3:=(hv 3 23 rfl (hall 3 (by omega))).trans (hk 3 (by omega) (by omega))
       have f4:=(hv 4 24 rfl (hall 4 (by omega))).trans (hk 4 (by omega) (by omega))
       have f5:=(hv 5 25 rfl (hall 5 (by omega))).trans (hk 5 (by omega) (by omega))
       have f6:=(hv 6 26 rfl (hall 6 (by omega))).trans (hk 6 (by omega) (by omega))
       have f7:=hv 7 27 rfl (hall 7 (by omega))
       have f8:=hv 8 28 rfl (hall 8 (by omega))
       have f9:=hv 9 29 rfl (hall 9 (by omega))
       have f10:=(hv 10 30 rfl (hall 10 (by omega))).trans (hk 10 (by omega) (by omega))
       refine Ri.step_plain rfl rfl (fun K' hK'=>?_)
       obtain ⟨p2,c2,hr4,hb4⟩:=hM
       obtain ⟨q4,l4,c4,e4⟩:=hr4.slice
       have hx2:=(hb4.block (Ub) (by omega)).trans X2.out
       obtain ⟨h5,g5⟩:=at5 hx2
       rw [e4] at f9 hr4
       clear e4
       go_simp
       exact hK' _ _ ⟨_,undef,rfl,rfl,⟨.slice q4 l4 c4,p2,c2,set5 hx2,hr4.setCell (by omega) _ _,(hb4.mono (by omega)).trans ((Below.refl (Ub) w9).setCell (show Ub ≤ Ub from Nat.le_refl _) _)⟩⟩
     · intro v w9 hfin
       obtain ⟨U,p2,c2,hx2,hr4,hb4⟩:=hfin
       simp only [Ri.frame,List.zipIdx,List.foldl_cons,List.foldl_nil,if_true,List.setIfInBounds_toArray,List.set_cons_zero,List.set_cons_succ,Nat.reduceAdd]
       generalize v 0=z0;generalize v 1=z1;generalize v 2=z2;generalize v 3=z3;generalize v 4=z4;generalize v 5=z5;generalize v 6=z6;generalize v 7=z7;generalize v 8=z8;generalize v 9=z9;generalize v 10=z10
       have X0n:=Lib.hid ((hb4.block _ (by omega)).trans X0.out);have X1n:=Lib.hid ((hb4.block _ (by omega)).trans X1.out);have X2n:=Lib.hid hx2
       have HRn:=Lib.hid hr4
       have HBn:=Lib.hid (HB.out.trans (hb4.mono (by omega)))
       have hsn:Ub+1 ≤ w9.heap.size:=by have:=hb4.size;omega
       clear hx2 hr4 hb4
       go_wp2
       exact ⟨⟨m+1,_,U,by go_num,by omega,by rw [List.length_append,hpl];rfl,Lib.hid (by rw [List.map_append,HMP.out,HMY.out];rfl),HRn,HBn,hsn,X0n,X1n,X2n⟩,by simp [intOf];omega⟩
   · obtain rfl:m=ts.length:=by omega
     obtain ⟨f5,-⟩:=at5 X0.out
     go_upto_region 10 with (fail)
     clear f5
     have htr:=HR.out.trees (Nat.le_refl _) (by omega)
     rw [HMP.out,List.take_length] at htr
     have HTR:=Lib.hid htr
     clear htr
     obtain ⟨q4,l4,c4,rfl⟩:=HR.out.slice
     go_wp2_with (first
       | (refine wpList_load_row rfl 37 (.tmp 4) rfl (Ub) rfl 37 _ (0,0) _ X2.out Tryd.underlying37 rfl (by kernel_rfl) ?_)
       | (refine wpList_store_row rfl 37 (.tmp 2) (.tmp 31) rfl (w.heap.size+1) #[.int .i64 k,.int .u64 (Oc.U a),.int .u64 (Oc.U b),.int .u64 (Oc.U c),.int .u64 (Oc.U d),.slice q4 l4 c4,.int .i64 n,.int .i64 lo,.int .i64 hi,.bool br] rfl rfl 37 _ X1.out (by kernel_rfl) rfl (by simp [Value.oneCell']) ?_)
       | fail)
     refine bodyPost_ret (results_cell_row rfl _ _ (w.heap.size+1) 37 #[.int .i64 k,.int .u64 (Oc.U a),.int .u64 (Oc.U b),.int .u64 (Oc.U c),.int .u64 (Oc.U d),.slice q4 l4 c4,.int .i64 n,.int .i64 lo,.int .i64 hi,.bool br] (0,0) _ rfl (heap_setRow X1.out) Tryd.underlying37 rfl (by kernel_rfl)) rfl ⟨_,rfl,⟨.slice q4 l4 c4,rfl, ?_⟩, ?_⟩
     · exact (HTR.out.keep fun b _ hb=>by rw [heap_setRow_other _ _ _ (by omega)]).mono fun b _ hb=>by omega
     · exact below_setRow HB.out (Nat.le_succ _) _
theorem refnmof_free (t:Tr) (hf:t.InForm) (hfr:t.freeT=true) (hnd:t.ndT ≤ 1000000) (w:World) (B:Nat→Prop) (v:Value) (hv:NodeV w B v t):Calls Tryd.prog 86 #[v] w (NewEnd t.nmT w):=by
 obtain ⟨s,rfl,hs⟩:=hv
 obtain ⟨p,cap,rfl,hlen⟩:=hs.slice
 obtain ⟨z0,z1⟩:=two_new w (.cells (t.cells (.slice p t.subs.length cap)) 37) (.cells noNode 37)
 have hb0:Below w.heap.size w ((w.alloc (.cells (t.cells (.slice p t.subs.length cap)) 37)).alloc (.cells noNode 37)):=by go_grown
 have hs0:((w.alloc (.cells (t.cells (.slice p t.subs.length cap)) 37)).alloc (.cells noNode 37)).heap.size=w.heap.size+2:=by simp
 have HK:=Lib.hid (fun w9 (hb:Below w.heap.size w w9)=>reffree_any t w9 B (.agg (t.cells (.slice p t.subs.length cap))) ⟨_,rfl,hs.later hb⟩)
 have HX:=Lib.hid (fun w9 (hb:Below w.heap.size w w9)=>refsimple_any t hf hfr hnd w9 B (.agg (t.cells (.slice p t.subs.length cap))) ⟨_,rfl,hs.later hb⟩)
 have Z0:=Lib.hid z0;have Z1:=Lib.hid z1;have HB0:=Lib.hid hb0;have HS0:=Lib.hid hs0
 rw [hfr] at HK
 clear hs z0 z1 hb0 hs0 hlen hf hfr hnd
 unfold Tr.cells at *
 generalize t.nmT=R at *
 go_enter Tryd.func86,Tryd.ntmps86
 go_upto_region 1 with (fail)
 generalize (w.alloc _).alloc _=W0 at *
 go_wp2_with (first
   | (refine wpList_load_row rfl 37 (.tmp 1) rfl w.heap.size rfl 37 _ (0,0) _ Z0.out Tryd.underlying37 rfl (by kernel_rfl) ?_)
   | fail)
 refine (HK.out W0 HB0.out).mono ?_
 rintro e w1 ⟨rfl,hb1⟩
 have Y0:=Lib.hid (keep_blk hb1 Z0.out);have Y1:=Lib.hid (keep_blk hb1 Z1.out)
 have HB1:=Lib.hid (HB0.out.trans (hb1.mono HB0.out.size))
 have HS1:=Lib.hid (show w.heap.size+2 ≤ w1.heap.size from by have:=hb1.size;have:=HS0.out;omega)
 clear hb1 HK Z0 Z1 HB0 HS0
 have HX2:=Lib.hid (HX.out w1 HB1.out)
 clear HX
 go_wp2_with (first
   | (refine wpList_load_row rfl 37 (.tmp 1) rfl w.heap.size rfl 37 _ (0,0) _ Y0.out Tryd.underlying37 rfl (by kernel_rfl) ?_)
   | fail)
 refine HX2.out.mono ?_
 intro e w2 he
 obtain ⟨s2,rfl,ho,hb2⟩:=he.of
 obtain ⟨p2,c2,rfl,hl2⟩:=ho.slice
 clear he
 have V1:=Lib.hid (keep_blk hb2 Y1.out)
 have HO:=Lib.hid (ho.mono (B':=fun b=>w.heap.size+2 ≤ b) fun b _ hb=>by have:=HS1.out;omega)
 have HB2:=Lib.hid (HB1.out.trans (hb2.mono HB1.out.size))
 clear ho hb2 HX2 Y0 Y1 HB1
 unfold Tr.cells
 go_wp2_with (first
   | (refine wpList_store_row rfl 37 (.tmp 2) (.tmp 10) rfl (w.heap.size+1) #[.int .i64 R.kind,.int .u64 (Oc.U R.w0),.int .u64 (Oc.U R.w1),.int .u64 (Oc.U R.w2),.int .u64 (Oc.U R.w3),.slice p2 R.subs.length c2,.int .i64 R.num,.int .i64 R.least,.int .i64 R.most,.bool R.bare] rfl rfl 37 _ V1.out (by kernel_rfl) rfl (by simp [Value.oneCell']) ?_)
   | fail)
 refine bodyPost_ret (results_cell_row rfl _ _ (w.heap.size+1) 37 #[.int .i64 R.kind,.int .u64 (Oc.U R.w0),.int .u64 (Oc.U R.w1),.int .u64 (Oc.U R.w2),.int .u64 (Oc.U R.w3),.slice p2 R.subs.length c2,.int .i64 R.num,.int .i64 R.least,.int .i64 R.most,.bool R.bare] (0,0) _ rfl (heap_setRow V1.out) Tryd.underlying37 rfl (by kernel_rfl)) rfl ⟨_,rfl,⟨.slice p2 R.subs.length c2,rfl, ?_⟩,below_setRow HB2.out (Nat.le_succ _) _⟩
 exact (HO.out.keep fun b _ hb=>by rw [heap_setRow_other _ _ _ (by omega)]).mono fun b _ hb=>by omega
theorem refnmof_any:∀ t:Tr,t.InForm→t.ndT ≤ 1000000→∀ (w:World) (B:Nat→Prop) (v:Value),NodeV w B v t→Calls Tryd.prog 86 #[v] w (NewEnd t.nmT w):=by
 intro t
 induction t using Tr.rec_subs with
 | h t ih =>
   intro hform hnd w B v hv
   cases hfr:t.freeT with
   | true=>exact refnmof_free t hform hfr hnd w B v hv
   | false =>
     obtain ⟨s,rfl,hs⟩:=hv
     rw [Tr.nmT_other hfr]
     rw [Tr.ndT_eq] at hnd
     cases t with | node k a b c d ts n lo hi br =>
     exact refnmof_list k a b c d ts n lo hi br hfr w B s (fun u hu=>ih u hu (hform.sub hu) (by have:=Tr.nd_mem (l:=ts) hu;simp only [Tr.subs] at hnd;omega)) hs
theorem refnormal_yes (t:Tr) (hc:t.checkC=0) (hnd:t.ndT ≤ 1000000) (w:World) (B:Nat→Prop) (v:Value) (hv:NodeV w B v t) :
   Calls Tryd.prog 44 #[v] w (fun e w'=>∃ s,e=.returned (.tuple #[.agg (t.nmT.cells s),.int .i64 0])∧TreesAt w' (fun b=>w.heap.size ≤ b) s t.nmT.subs∧Below w.heap.size w w'):=by
 have hd:t.dpT ≤ 1000000:=by have:=(Tr.checkC_zero.1 hc).2.1;omega
 obtain ⟨s,rfl,hs⟩:=hv
 obtain ⟨p,cap,rfl,hlen⟩:=hs.slice
 obtain ⟨z0,z1⟩:=two_new w (.cells (t.cells (.slice p t.subs.length cap)) 37) (.cells noNode 37)
 have hb0:Below w.heap.size w ((w.alloc (.cells (t.cells (.slice p t.subs.length cap)) 37)).alloc (.cells noNode 37)):=by go_grown
 have hs0:((w.alloc (.cells (t.cells (.slice p t.subs.length cap)) 37)).alloc (.cells noNode 37)).heap.size=w.heap.size+2:=by simp
 have HK:=Lib.hid (fun w9 (hb:Below w.heap.size w w9)=>refcheck_any t hd w9 B (.agg (t.cells (.slice p t.subs.length cap))) ⟨_,rfl,hs.later hb⟩)
 have HX:=Lib.hid (fun w9 (hb:Below w.heap.size w w9) (hf:t.InForm)=>refnmof_any t hf hnd w9 B (.agg (t.cells (.slice p t.subs.length cap))) ⟨_,rfl,hs.later hb⟩)
 have Z0:=Lib.hid z0;have Z1:=Lib.hid z1;have HB0:=Lib.hid hb0;have HS0:=Lib.hid hs0
 clear hs z0 z1 hb0 hs0 hlen hnd
 unfold Tr.cells at *
 have hI:=(Tr.checkC_zero.1 hc).1
 have HXI:=Lib.hid (fun w9 hb=>HX.out w9 hb hI)
 rw [hc] at HK
 clear hc HX hI
 generalize t.nmT=R at *
 go_enter Tryd.func44,Tryd.ntmps44
 go_upto_region 1 with (fail)
 generalize (w.alloc _).alloc _=W0 at *
 go_wp2_with (first
   | (refine wpList_load_row rfl 37 (.tmp 1) rfl w.heap.size rfl 37 _ (0,0) _ Z0.out Tryd.underlying37 rfl (by kernel_rfl) ?_)
   | fail)
 refine (HK.out W0 HB0.out).mono ?_
 rintro e w1 ⟨rfl,hb1⟩
 have Y0:=Lib.hid (keep_blk hb1 Z0.out);have Y1:=Lib.hid (keep_blk hb1 Z1.out)
 have HB1:=Lib.hid (HB0.out.trans (hb1.mono HB0.out.size))
 have HS1:=Lib.hid (show w.heap.size+2 ≤ w1.heap.size from by have:=hb1.size;have:=HS0.out;omega)
 clear hb1 HK Z0 Z1 HB0 HS0
 have HX2:=Lib.hid (HXI.out w1 HB1.out)
 clear HXI
 go_wp2_with (first
   | (refine wpList_load_row rfl 37 (.tmp 1) rfl w.heap.size rfl 37 _ (0,0) _ Y0.out Tryd.underlying37 rfl (by kernel_rfl) ?_)
   | fail)
 refine HX2.out.mono ?_
 intro e w2 he
 obtain ⟨s2,rfl,ho,hb2⟩:=he.of
 obtain ⟨p2,c2,rfl,hl2⟩:=ho.slice
 clear he
 have V1:=Lib.hid (keep_blk hb2 Y1.out)
 have HO:=Lib.hid (ho.mono (B':=fun b=>w.heap.size+2 ≤ b) fun b _ hb=>by have:=HS1.out;omega)
 have HB2:=Lib.hid (HB1.out.trans (hb2.mono HB1.out.size))
 clear ho hb2 HX2 Y0 Y1 HB1
 unfold Tr.cells
 go_wp2_with (first
   | (refine wpList_store_row rfl 37 (.tmp 2) (.tmp 12) rfl (w.heap.size+1) #[.int .i64 R.kind,.int .u64 (Oc.U R.w0),.int .u64 (Oc.U R.w1),.int .u64 (Oc.U R.w2),.int .u64 (Oc.U R.w3),.slice p2 R.subs.length c2,.int .i64 R.num,.int .i64 R.least,.int .i64 R.most,.bool R.bare] rfl rfl 37 _ V1.out (by kernel_rfl) rfl (by simp [Value.oneCell']) ?_)
   | fail)
 refine bodyPost_ret (results_row_nm rfl _ _ (w.heap.size+1) 37 #[.int .i64 R.kind,.int .u64 (Oc.U R.w0),.int .u64 (Oc.U R.w1),.int .u64 (Oc.U R.w2),.int .u64 (Oc.U R.w3),.slice p2 R.subs.length c2,.int .i64 R.num,.int .i64 R.least,.int .i64 R.most,.bool R.bare] (0,0) _ _ rfl rfl (heap_setRow V1.out) Tryd.underlying37 rfl (by kernel_rfl)) rfl ⟨.slice p2 R.subs.length c2,rfl, ?_, ?_⟩
 · exact (HO.out.keep fun b _ hb=>by rw [heap_setRow_other _ _ _ (by omega)]).mono fun b _ hb=>by omega
 · exact below_setRow HB2.out (Nat.le_succ _) _
theorem refnormal_no (t:Tr) (hd:t.dpT ≤ 1000000) (hc:t.checkC ≠ 0) (w:World) (B:Nat→Prop) (v:Value) (hv:NodeV w B v t) :
   Calls Tryd.prog 44 #[v] w (fun e w'=>e=.returned (.tuple #[.agg noNode,.int .i64 t.checkC])∧Below w.heap.size w w'):=by
 obtain ⟨s,rfl,hs⟩:=hv
 obtain ⟨p,cap,rfl,hlen⟩:=hs.slice
 obtain ⟨z0,z1⟩:=two_new w (.cells (t.cells (.slice p t.subs.length cap)) 37) (.cells noNode 37)
 have hb0:Below w.heap.size w ((w.alloc (.cells (t.cells (.slice p t.subs.length cap)) 37)).alloc (.cells noNode 37)):=by go_grown
 have hs0:((w.alloc (.cells (t.cells (.slice p t.subs.length cap)) 37)).alloc (.cells noNode 37)).heap.size=w.heap.size+2:=by simp
 have HK:=Lib.hid (fun w9 (hb:Below w.heap.size w w9)=>refcheck_any t hd w9 B (.agg (t.cells (.slice p t.subs.length cap))) ⟨_,rfl,hs.later hb⟩)
 have Z0:=Lib.hid z0;have Z1:=Lib.hid z1;have HB0:=Lib.hid hb0;have HS0:=Lib.hid hs0
 clear hs z0 z1 hb0 hs0 hlen
 unfold Tr.cells at *
 have ec:((t.checkC:Int) != 0)=true:=by rw [bne_iff_ne];omega
 clear hc
 go_enter Tryd.func44,Tryd.ntmps44
 go_upto_region 1 with (fail)
 generalize (w.alloc _).alloc _=W0 at *
 go_wp2_with (first
   | (refine wpList_load_row rfl 37 (.tmp 1) rfl w.heap.size rfl 37 _ (0,0) _ Z0.out Tryd.underlying37 rfl (by kernel_rfl) ?_)
   | fail)
 refine (HK.out W0 HB0.out).mono ?_
 rintro e w1 ⟨rfl,hb1⟩
 have Y0:=Lib.hid (keep_blk hb1 Z0.out);have Y1:=Lib.hid (keep_blk hb1 Z1.out)
 have HB1:=Lib.hid (HB0.out.trans (hb1.mono HB0.out.size))
 have HS1:=Lib.hid (show w.heap.size+2 ≤ w1.heap.size from by have:=hb1.size;have:=HS0.out;omega)
 clear hb1 HK Z0 Z1 HB0 HS0
 go_wp2_with (first
   | (refine wpList_store_row rfl 37 (.tmp 2) (.tmp 9) rfl (w.heap.size+1) noNode rfl rfl 37 _ Y1.out (by kernel_rfl) rfl (by simp [Value.oneCell']) ?_)
   | fail)
 refine bodyPost_ret (results_row_nm rfl _ _ (w.heap.size+1) 37 noNode (0,0) _ _ rfl rfl (heap_setRow Y1.out) Tryd.underlying37 rfl (by kernel_rfl)) rfl ⟨rfl,below_setRow HB1.out (Nat.le_succ _) _⟩
end Go.Proofs.YtllfgppjobinnaaDoor
namespace Go.Proofs.YtllfgppjobinnaaDoor
open Go.RowKit
def MemsAt (w:World) (base:Nat) (v:Value) (ps:List (Tr × Value)):Prop :=
 ∃ L:Nat→List Nat,(∀ (i:Nat) (t:Tr) (s:Value),ps[i]? = some (t,s)→Owned w s t.subs (L i))∧(∀ i b,i < ps.length→b ∈ L i→base ≤ b∧v.ownBlock ≠ some b)∧(∀ i j b,i < ps.length→j < ps.length→i ≠ j→b ∈ L i→b ∉ L j)
theorem MemsAt.nil (w:World) (base:Nat) (v:Value):MemsAt w base v []:=⟨fun _=>[],fun i t s h=>by simp at h,fun i b h=>by simp at h,fun i j b h=>by simp at h⟩
theorem MemsAt.step {wr w3 w4:World} {base:Nat} {v v':Value} {ps:List (Tr × Value)} {x:Tr} {s:Value} {F:List Nat} (h:MemsAt wr base v ps) (hb:Below wr.heap.size wr w3) (ho:Owned w3 s x.subs F) (hF:∀ b,b ∈ F→wr.heap.size ≤ b) (hbase:base ≤ wr.heap.size)
   (hv:∀ g,v.ownBlock=some g→g < wr.heap.size) (hg:w3.grownBy w4 v.ownBlock) (hw:v'.ownBlock=v.ownBlock ∨ v'.ownBlock=some w3.heap.size):MemsAt w4 base v' (ps ++ [(x,s)]):=by
 obtain ⟨L,h1,h2,h3⟩:=h
 have hlt:∀ i b,i < ps.length→b ∈ L i→b < wr.heap.size:=fun i b hi hb'=>(h1 i ps[i].1 ps[i].2 (List.getElem?_eq_getElem hi)).lt b hb'
 have hnew:∀ b,b < w3.heap.size→v.ownBlock ≠ some b→v'.ownBlock ≠ some b:=fun b hb' hne=>by
   rcases hw with e | e
   · rw [e];exact hne
   · rw [e];intro h;have:=Option.some.inj h;omega
 have hFv:∀ b,b ∈ F→v.ownBlock ≠ some b:=fun b hb' e=>by have:=hv b e;have:=hF b hb';omega
 refine ⟨pick L ps.length F,fun i t s' hi=>?_,fun i b hi hbL=>?_,fun i j b hi hj hij h5 h6=>?_⟩
 · by_cases hip:i < ps.length
   · rw [List.getElem?_append_left hip] at hi
     rw [pick_ne _ _ _ (by omega)]
     exact ((h1 i t s' hi).later hb).keep fun b hb'=>hg.block b (Nat.lt_of_lt_of_le (hlt i b hip hb') hb.size) (fun e=>(h2 i b hip hb').2 e.symm)
   · rw [List.getElem?_append_right (by omega)] at hi
     have hi0:i - ps.length=0:=by
       by_cases h0:i - ps.length=0
       · exact h0
       · rw [List.getElem?_eq_none (by simp;omega)] at hi;cases hi
     rw [hi0] at hi
     simp only [List.getElem?_cons_zero,Option.some.injEq,Prod.mk.injEq] at hi
     obtain ⟨rfl,rfl⟩:=hi
     obtain rfl:i=ps.length:=by omega
     rw [pick_eq]
     exact ho.keep fun b hb'=>hg.block b (ho.lt b hb') (fun e=>hFv b hb' e.symm)
 · rw [List.length_append] at hi
   by_cases e:i=ps.length
   · subst e;rw [pick_eq] at hbL
     exact ⟨by have:=hF b hbL;omega,hnew b (ho.lt b hbL) (hFv b hbL)⟩
   · rw [pick_ne _ _ _ e] at hbL
     have hip:i < ps.length:=by simp at hi;omega
     exact ⟨(h2 i b hip hbL).1,hnew b (Nat.lt_of_lt_of_le (hlt i b hip hbL) hb.size) (h2 i b hip hbL).2⟩
 · rw [List.length_append] at hi hj
   simp only [List.length_cons,List.length_nil] at hi hj
   by_cases e:i=ps.length
   · subst e
     rw [pick_eq] at h5;rw [pick_ne _ _ _ (Ne.symm hij)] at h6
     have:=hF b h5;have:=hlt j b (by omega) h6;omega
   · rw [pick_ne _ _ _ e] at h5
     by_cases e2:j=ps.length
     · subst e2;rw [pick_eq] at h6
       have:=hF b h6;have:=hlt i b (by omega) h5;omega
     · rw [pick_ne _ _ _ e2] at h6;exact h3 i j b (by omega) (by omega) hij h5 h6
theorem owned_of_row {w:World} {base:Nat} {v:Value} {n:Nat} {ps:List (Tr × Value)} (h:w.ownsRow base 37 10 v n (rowOf ps)) (hn:ps.length * 96 ≤ 140737488351232) (hm:MemsAt w base v ps) :
   ∃ F,Owned w v (ps.map (·.1)) F∧∀ b,b ∈ F→base ≤ b:=by
 obtain ⟨L,h1,h2,h3⟩:=hm
 have hlen:ps.length=n:=by have:=h.1;rw [rowOf_length] at this;omega
 have hcells:=fun g hv=>World.ownsRow.cells h (g:=g) hv
 rcases h.2 with ⟨rfl,hn0⟩ | ⟨g,cap,cur,rfl,hbg,hheap,-⟩
 · have:ps=[]:=List.length_eq_zero_iff.1 (by omega)
   subst this
   exact ⟨[],Owned.nil _ _,fun b hb=>by cases hb⟩
 · have hc:=hcells g rfl
   have key:∀ (i:Nat) (t:Tr) (s:Value),ps[i]? = some (t,s)→TenAt w g (0+i * 10) t s:=by
     intro i t s hi
     have get:∀ j u,j < 10→(t.cells s)[j]? = some u→w.cell? ⟨g,0+i * 10+j,none⟩=some u:=by
       intro j u hj hu
       have:=hc (i * 10+j) u (by rw [rowOf_get ps i t s hi j hj];exact hu)
       have ea:(⟨g,0,none⟩:Addr).add (i * 10+j)=⟨g,0+i * 10+j,none⟩:=by unfold Addr.add;split <;> simp_all <;> omega
       rw [ea] at this;exact this
     exact ⟨get 0 _ (by omega) rfl,get 1 _ (by omega) rfl,get 2 _ (by omega) rfl,get 3 _ (by omega) rfl,get 4 _ (by omega) rfl,get 5 _ (by omega) rfl,get 6 _ (by omega) rfl,get 7 _ (by omega) rfl,get 8 _ (by omega) rfl,get 9 _ (by omega) rfl⟩
   have hl2:n=(ps.map (·.1)).length:=by rw [List.length_map];omega
   rw [hl2]
   have split:∀ (i:Nat) (t:Tr),(ps.map (·.1))[i]? = some t→∃ s,ps[i]? = some (t,s):=by
     intro i t hi
     rw [List.getElem?_map] at hi
     cases hx:ps[i]? with
     | none=>rw [hx] at hi;cases hi
     | some x=>rw [hx] at hi;cases x with | mk a b=>simp only [Option.map_some,Option.some.injEq] at hi;subst hi;exact ⟨b,rfl⟩
   refine ⟨_,.row g 0 cap (ps.map (·.1)) (fun i=>((ps[i]?).map (·.2)).getD undef) L (by rw [List.length_map];exact hn) ⟨_,_,hheap⟩ (fun i t hi=>?_) (fun i t hi=>?_) (fun i hi hgL=>?_) (fun i j b hi hj=>?_),fun b hb=>?_⟩
   · obtain ⟨s,hs'⟩:=split i t hi
     simp only [hs',Option.map_some,Option.getD_some];exact key i t s hs'
   · obtain ⟨s,hs'⟩:=split i t hi
     simp only [hs',Option.map_some,Option.getD_some]
     exact h1 i t s hs'
   · rw [List.length_map] at hi;exact (h2 i g hi hgL).2 rfl
   · rw [List.length_map] at hi hj;exact h3 i j b hi hj
   · rcases List.mem_cons.1 hb with rfl | hb
     · exact hbg
     · obtain ⟨i,hi,hb⟩:=mem_range_flatMap.1 hb
       rw [List.length_map] at hi;exact (h2 i b hi hb).1
theorem copynode_own:∀ t:Tr,∀ (w:World) (B:Nat→Prop) (v:Value),NodeV w B v t→Calls Tryd.prog 42 #[v] w (OwnEnd t w):=by
 intro t
 induction t using Tr.rec_subs with
 | h t ih =>
   intro w B v hv
   obtain ⟨s,rfl,hs⟩:=hv
   obtain ⟨p,cap,rfl,hlen⟩:=hs.slice
   cases t with | node k a b c d ts n lo hi br =>
   simp only [Tr.cells,Tr.kind,Tr.w0,Tr.w1,Tr.w2,Tr.w3,Tr.num,Tr.least,Tr.most,Tr.bare,Tr.subs] at *
   have IH:=Lib.hid ih
   have HS:=Lib.hid hs
   clear ih hs
   go_enter Tryd.func42,Tryd.ntmps42
   obtain ⟨ie,hi0,hz0,hz1,hz2⟩:=info_parts Tryd.infoNode
   have HI:=Lib.hid hi0;have HZ0:=Lib.hid hz0;have HZ1:=Lib.hid hz1;have HZ2:=Lib.hid hz2
   clear hi0 hz0 hz1 hz2
   go_wp2
   go_loopw [9,3] (fun iv sv wr=>∃ ps:List (Tr × Value),iv=.int .i64 ps.length∧ps.length ≤ ts.length∧Hid (ps.map (·.1)=ts.take ps.length)∧Hid (wr.ownsRow (w.heap.size+2) 37 10 sv ps.length (rowOf ps)) ∧
     Hid (MemsAt wr (w.heap.size+2) sv ps)∧Hid (Below w.heap.size w wr)∧w.heap.size+1 < wr.heap.size ∧
     Hid (wr.heap[w.heap.size]? = some (.cells #[.int .i64 k,.int .u64 (Oc.U a),.int .u64 (Oc.U b),.int .u64 (Oc.U c),.int .u64 (Oc.U d),.slice p ts.length cap,.int .i64 n,.int .i64 lo,.int .i64 hi,.bool br] 37))∧Hid (wr.heap[w.heap.size+1]? = some (.cells #[.int .i64 0,.int .u64 0,.int .u64 0,.int .u64 0,.int .u64 0,.slice none 0 0,.int .i64 0,.int .i64 0,.int .i64 0,.bool false] 37))) (fun iv _ _=>ts.length - (intOf iv).toNat)
   case atStart =>
     exact ⟨[],rfl,Nat.zero_le _,Lib.hid (by simp),Lib.hid (World.ownsRow_nil _ _ _ _),Lib.hid (MemsAt.nil _ _ _),Lib.hid (by go_grown),by simp,Lib.hid (two_new _ _ _).1,Lib.hid (two_new _ _ _).2⟩
   case round =>
     obtain ⟨ps,rfl,hm,hmap,hown,hsubs,HB,hsz,Z0,Z1⟩:=hrel
     have wm:IntKind.i64.wrap ((ps.length:Int)+1)=(ps.length:Int)+1:=IntWalk.i64_in _ (by omega)
     by_cases hlt:ps.length < ts.length
     · obtain ⟨x,hx⟩:∃ x,ts[ps.length]? = some x:=⟨_,List.getElem?_eq_getElem hlt⟩
       obtain ⟨b1,o1,s1,rfl,-,t1,sub1⟩:=HS.out.get hx
       obtain ⟨d0,d1,d2,d3,d4,d5,d6,d7,d8,d9⟩:=t1.keep (HB.out.block _ t1.lt)
       obtain ⟨p1,c1,rfl,hl1⟩:=sub1.slice
       have HC:=Lib.hid (fun w9 hb=>IH.out x (List.mem_of_getElem? hx) w9 B (.agg (x.cells (.slice p1 x.subs.length c1))) ⟨_,rfl,sub1.later hb⟩)
       have HX:=Lib.hid hx
       clear t1 sub1 hx
       go_wp2_with fail
       generalize hw1:World.alloc wr _=w1
       have hb1:Below wr.heap.size wr w1:=by rw [← hw1];exact (Below.refl _ _).alloc (Nat.le_refl _) _
       have hs1:w1.heap.size=wr.heap.size+1:=by rw [← hw1];simp
       clear hw1
       refine (HC.out w1 (HB.out.trans (hb1.mono HB.out.size))).mono ?_
       intro e w2 he2
       obtain ⟨s2,F2,rfl,hsub2,hF2,hb2⟩:=he2
       obtain ⟨p2,c2,rfl,hl2⟩:=hsub2.slice
       have hb12:Below wr.heap.size wr w2:=hb1.trans (hb2.mono hb1.size)
       have HB2:=Lib.hid (HB.out.trans (hb12.mono HB.out.size))
       have HB12:=Lib.hid hb12
       have hs2:w1.heap.size ≤ w2.heap.size:=hb2.size
       have hown2:=(hown.out.kept (w':=w2) (row:=none) ⟨hb12.os,hb12.tape,hb12.output,hb12.size,fun k hk _=>hb12.block k hk⟩ (by
         cases h:Value.ownBlock u3 with
         | none=>exact .inl rfl
         | some g=>exact .inr (by simp)))
       have hlt3:=hown.out.lt
       have HOWN2:=Lib.hid (hown2.alloc (.cells (x.cells (.slice p2 x.subs.length c2)) 37))
       have HSUB2:=Lib.hid hsub2;have HF2:=Lib.hid (fun b hb=>Nat.le_trans (show wr.heap.size ≤ w1.heap.size by omega) (hF2 b hb));have HLT3:=Lib.hid hlt3
       have ND:=Lib.hid (heap_alloc_new w2 (.cells (x.cells (.slice p2 x.subs.length c2)) 37))
       clear hown2 hsub2 hF2 hb1 hb2 hb12 hlt3
       have HNW:Hid (∀ (j:Nat) (u:Value),(x.cells (.slice p2 x.subs.length c2)).toList[j]? = some u→(w2.alloc (.cells (x.cells (.slice p2 x.subs.length c2)) 37)).cell? ((⟨w2.heap.size,0,none⟩:Addr).add j)=some u):=Lib.hid (fun j u hu=>by
         have ea:(⟨w2.heap.size,0,none⟩:Addr).add j=⟨w2.heap.size,j,none⟩:=by unfold Addr.add;split <;> simp_all
         rw [ea,cell_new];simpa using hu)
       have HBA:Hid (w.heap.size+2 ≤ (w2.alloc (.cells (x.cells (.slice p2 x.subs.length c2)) 37)).heap.size):=Lib.hid (by simp;omega)
       have hml:ps.length+1 ≤ maxLen:=by unfold maxLen;omega
       have hbyt:(ps.length+1) * 96 ≤ 140737488355328:=by omega
       go_wp2_with (first
         | (refine wpList_node1 rfl (.tmp 15) x p2 x.subs.length c2 rfl rfl ?_)
         | (refine wpList_append_fresh _ rfl (.tmp 13) (.tmp 16) 35 rfl (w.heap.size+2) 37 ie _ 10 96 Tryd.underlying35 HI.out HZ0.out HZ1.out HZ2.out rfl (by decide) _ _ _ rfl HOWN2.out ⟨w2.heap.size,0,none⟩ 1 1 (x.cells (.slice p2 x.subs.length c2)).toList rfl rfl HNW.out (nodeC_one _ _ _ _) (by decide) hml hbyt HBA.out ?_;intro v' w4 hown4 hgrow4 hwhere)
         | fail)
       have HG4:=Lib.hid hgrow4;have HW4:=Lib.hid hwhere
       have hb3:Below wr.heap.size wr (w2.alloc (.cells (x.cells (.slice p2 x.subs.length c2)) 37)):=HB12.out.alloc HB12.out.size _
       have key:∀ k,k < wr.heap.size→k < w.heap.size+2→w4.heap[k]? = wr.heap[k]?:=fun k hk hk2 =>
         (HG4.out.block k (Nat.lt_of_lt_of_le hk hb3.size) (fun e=>by have:=(HLT3.out k e.symm).1;omega)).trans (hb3.block k hk)
       refine ⟨⟨ps ++ [(x,.slice p2 x.subs.length c2)],by simp,by simp;omega,Lib.hid ?_,Lib.hid ?_,Lib.hid ?_,Lib.hid ?_, ?_,Lib.hid ((key _ (by omega) (by omega)).trans Z0.out),Lib.hid ((key _ hsz (by omega)).trans Z1.out)⟩,by simp [intOf];omega⟩
       · rw [List.map_append,hmap.out,List.length_append]
         show List.take ps.length ts ++ [x]=List.take (ps.length+1) ts
         rw [List.take_add_one,HX.out];rfl
       · rw [rowOf_snoc,List.length_append];exact hown4
       · exact hsubs.out.step hb3 (HSUB2.out.later ((Below.refl _ _).alloc (Nat.le_refl _) _)) HF2.out (by omega) (fun g hg=>(HLT3.out g hg).2) HG4.out HW4.out
       · exact (HB2.out.alloc HB2.out.size _).grown HG4.out (by have:=HB2.out.size;simp;omega) (fun k e=>by have:=(HLT3.out k e).1;omega)
       · have:=HG4.out.size;have h3:=hb3.size;omega
     · have hlen2:ps.length=ts.length:=by omega
       have hmap2:ps.map (·.1)=ts:=by rw [hmap.out,hlen2,List.take_length]
       have hlt3:=hown.out.lt
       obtain ⟨F,htr,hF⟩:=owned_of_row hown.out (by omega) hsubs.out
       rw [hmap2] at htr
       have HTR:=Lib.hid htr;have HFB:=Lib.hid hF
       obtain ⟨f5,g5⟩:=at5 Z0.out
       have Z0s:=Lib.hid (set5 (y:=u3) Z0.out)
       have Z1s:Hid ((wr.setCell ⟨w.heap.size,5,none⟩ u3).heap[w.heap.size+1]? = some (.cells #[.int .i64 0,.int .u64 0,.int .u64 0,.int .u64 0,.int .u64 0,.slice none 0 0,.int .i64 0,.int .i64 0,.int .i64 0,.bool false] 37)):=Lib.hid (by rw [Below.heap_setCell _ _ _ _ (by simp)];exact Z1.out)
       clear htr hlt3 hmap2 hF
       obtain ⟨q3,l3,c3,rfl⟩:∃ q l c,u3=.slice q l c:=by
         obtain ⟨q,c,e,-⟩:=HTR.out.slice;exact ⟨_,_,_,e⟩
       go_wp2_with (first
         | (refine wpList_load_row rfl 37 (.tmp 1) rfl w.heap.size rfl 37 _ (0,0) _ Z0s.out Tryd.underlying37 rfl (by kernel_rfl) ?_)
         | (refine wpList_store_row rfl 37 (.tmp 2) (.tmp 21) rfl (w.heap.size+1) #[.int .i64 k,.int .u64 (Oc.U a),.int .u64 (Oc.U b),.int .u64 (Oc.U c),.int .u64 (Oc.U d),.slice q3 l3 c3,.int .i64 n,.int .i64 lo,.int .i64 hi,.bool br] rfl rfl 37 _ Z1s.out (by kernel_rfl) rfl (by simp [Value.oneCell']) ?_)
         | fail)
       refine bodyPost_ret (results_cell_row rfl _ _ (w.heap.size+1) 37 #[.int .i64 k,.int .u64 (Oc.U a),.int .u64 (Oc.U b),.int .u64 (Oc.U c),.int .u64 (Oc.U d),.slice q3 l3 c3,.int .i64 n,.int .i64 lo,.int .i64 hi,.bool br] (0,0) _ rfl (heap_setRow Z1s.out) Tryd.underlying37 rfl (by kernel_rfl)) rfl ⟨_,F,rfl, ?_,(fun b hb=>by have:=HFB.out b hb;omega), ?_⟩
       · exact HTR.out.keep fun b hb=>by
           have:=HFB.out b hb
           rw [heap_setRow_other _ _ _ (by omega),Below.heap_setCell _ _ _ _ (by simp;omega)]
       · exact below_setRow (HB.out.setCell (Nat.le_refl _) _) (Nat.le_succ _) _
end Go.Proofs.YtllfgppjobinnaaDoor
namespace Go.Proofs.YtllfgppjobinnaaDoor
open Go.RowKit
def Tr.nmZ:Tr:=.node 0 0#64 0#64 0#64 0#64 [] 0 0 0 false
theorem nmZ_cells:Tr.nmZ.cells (.slice none 0 0)=noNode:=by
 unfold Tr.nmZ Tr.cells noNode
 simp only [Tr.kind,Tr.w0,Tr.w1,Tr.w2,Tr.w3,Tr.num,Tr.least,Tr.most,Tr.bare,u0]
noncomputable def Tr.nmO (t:Tr):Tr:=if t.checkC=0 then t.nmT else Tr.nmZ
theorem normal_o (A : Nat → Addr) (t : Tr) (hd : t.dpT ≤ 1000000) (hnd : t.ndT ≤ 1000000) (w : World) (hE : ErrsC w A) (hP : Lib.TabIs Tryd.prog w "internal/strconv.uint64pow10" .u64 Lib.pow10Tab) (B : Nat → Prop) (v : Value) (hv : NodeV w B v t) :
   Calls Tryd.prog 43 #[v] w (fun e w'=>∃ s F,e=.returned (.tuple #[.agg (t.nmO.cells s),sentV A t.checkC])∧Owned w' s t.nmO.subs F∧(∀ b,b ∈ F→w.heap.size ≤ b)∧Below w.heap.size w w'):=by
 by_cases hc:t.checkC=0
 · rw [show t.nmO=t.nmT by unfold Tr.nmO;rw [if_pos hc],hc,sentN_zero]
   exact nmapi_yes A t hc hnd w hE hP B v hv
 · rw [show t.nmO=Tr.nmZ by unfold Tr.nmO;rw [if_neg hc]]
   refine (nmapi_no A t hd hc w hE B v hv).mono ?_
   rintro e w' ⟨rfl,hb⟩
   exact ⟨.slice none 0 0,[],by rw [nmZ_cells],.nil _ _,fun b hb=>(by cases hb),hb⟩
theorem refnormal_o (t:Tr) (hd:t.dpT ≤ 1000000) (hnd:t.ndT ≤ 1000000) (w:World) (B:Nat→Prop) (v:Value) (hv:NodeV w B v t) :
   Calls Tryd.prog 44 #[v] w (fun e w'=>∃ s,e=.returned (.tuple #[.agg (t.nmO.cells s),.int .i64 t.checkC])∧TreesAt w' (fun b=>w.heap.size ≤ b) s t.nmO.subs∧Below w.heap.size w w'):=by
 by_cases hc:t.checkC=0
 · rw [show t.nmO=t.nmT by unfold Tr.nmO;rw [if_pos hc],hc]
   exact refnormal_yes t hc hnd w B v hv
 · rw [show t.nmO=Tr.nmZ by unfold Tr.nmO;rw [if_neg hc]]
   refine (refnormal_no t hd hc w B v hv).mono ?_
   rintro e w' ⟨rfl,hb⟩
   exact ⟨.slice none 0 0,by rw [nmZ_cells],TreesAt.nil,hb⟩
theorem normalmakes_any (A : Nat → Addr) (t : Tr) (w : World) (hE : Errs w A) (hP : Lib.TabIs Tryd.prog w "internal/strconv.uint64pow10" .u64 Lib.pow10Tab) (B : Nat → Prop) (v : Value) (hv : NodeV w B v t) :
   Calls Tryd.prog 7 #[v] w fun e w'=>e=.returned (.bool true)∧Below w.heap.size w w':=by
 have HE:=Lib.hid (fun w9 (h:Below w.heap.size w w9)=>hE.below h)
 have HPW:=Lib.hid (Lib.tabBelow_of_tabIs hP)
 have HLV:=Lib.hid (fun w9 (h:Below w.heap.size w w9)=>nmlives_any A w9 (hE.below h).few.c (Lib.tabBelow_of_tabIs hP w9 h))
 obtain ⟨s,rfl,hs⟩:=hv
 obtain ⟨p,cap,rfl,-⟩:=hs.slice
 have HV:=Lib.hid (fun w9 (hb:Below w.heap.size w w9)=>(show NodeV w9 B (.agg (t.cells (.slice p t.subs.length cap))) t from ⟨_,rfl,hs.later hb⟩))
 clear hs hE hP
 have HF:=Lib.hid (fun w9 (hb:Below w.heap.size w w9)=>few_any t 2000 (by omega) w9 B _ (HV.out w9 hb))
 have HT:=Lib.hid (heap_alloc_new w (.cells (t.cells (.slice p t.subs.length cap)) 37))
 have HW:=Lib.hid (show Below w.heap.size w (w.alloc (.cells (t.cells (.slice p t.subs.length cap)) 37)) from (Below.refl _ _).alloc (Nat.le_refl _) _)
 have hwz:(w.alloc (.cells (t.cells (.slice p t.subs.length cap)) 37)).heap.size=w.heap.size+1:=by simp
 have HWZ:=Lib.hid hwz
 clear hwz
 unfold Tr.cells at *
 go_enter Tryd.func7,Tryd.ntmps7
 go_upto_region 1 with (fail)
 generalize w.alloc _=w0 at *
 go_wp2_with fail
 refine (HLV.out w0 HW.out).mono ?_
 rintro e w1 ⟨rfl,hb1⟩
 have HB1:=Lib.hid (HW.out.trans (hb1.mono HW.out.size));have T1:=Lib.hid (keep_blk hb1 HT.out)
 have HZ1:=Lib.hid (show w.heap.size+1 ≤ w1.heap.size from by have:=hb1.size;have:=HWZ.out;omega)
 clear hb1 HLV HW HT HWZ
 go_wp2_with (first
   | (refine wpList_load_row rfl 37 (.tmp 1) rfl w.heap.size rfl 37 _ (0,0) _ T1.out Tryd.underlying37 rfl (by kernel_rfl) ?_)
   | fail)
 refine (HF.out w1 HB1.out).mono ?_
 rintro e u2 ⟨rfl,hb2⟩
 have HB:=Lib.hid (HB1.out.trans (hb2.mono HB1.out.size));have X0:=Lib.hid (keep_blk hb2 T1.out)
 have HZ2:=Lib.hid (show w.heap.size+1 ≤ u2.heap.size from by have:=hb2.size;have:=HZ1.out;omega)
 clear hb2 HF HB1 T1 HZ1
 by_cases hf:t.ndT ≤ 2000
 case neg =>
   rw [decide_eq_false hf]
   go_wp2
   go_ret
   exact ⟨rfl,HB.out⟩
 rw [decide_eq_true hf]
 have hd:t.dpT ≤ 1000000:=by have:=Tr.dp_nd t;omega
 have hnd:t.ndT ≤ 1000000:=by omega
 have HCP:=Lib.hid (fun w9 (hb:Below w.heap.size w w9)=>copynode_own t w9 B _ (HV.out w9 hb))
 have HEX:=Lib.hid (fun w9 (hb:Below w.heap.size w w9) (B9:Nat→Prop) (v9:Value) (hv9:NodeV w9 B9 v9 t)=>normal_o A t hd hnd w9 (HE.out w9 hb).few.c (HPW.out w9 hb) B9 v9 hv9)
 have HRX:=Lib.hid (fun w9 (hb:Below w.heap.size w w9)=>refnormal_o t hd hnd w9 B _ (HV.out w9 hb))
 have HNX:=Lib.hid (fun w9 (hb:Below w.heap.size w w9)=>sentV_num A t.checkC (Tr.checkC_lt t) w9 (HE.out w9 hb))
 have HPX:=Lib.hid (fun w9 (hb:Below w.heap.size w w9) (B9:Nat→Prop) (v9:Value) (hv9:NodeV w9 B9 v9 t)=>nmfree_any t w9 B9 v9 hv9)
 have HRP:=Lib.hid (fun w9 (hb:Below w.heap.size w w9)=>reffree_any t w9 B _ (HV.out w9 hb))
 generalize t.freeT=pl at *
 generalize t.checkC=c at *
 generalize sentV A c=ev at *
 generalize t.nmO=o at *
 clear hf hd hnd HE HPW
 unfold Tr.cells at HRX
 go_wp2_with (first
   | (refine wpList_load_row rfl 37 (.tmp 1) rfl w.heap.size rfl 37 _ (0,0) _ X0.out Tryd.underlying37 rfl (by kernel_rfl) ?_)
   | fail)
 refine (HCP.out u2 HB.out).mono ?_
 rintro e u3 ⟨sm,Fm,rfl,hom,hFm,hbc⟩
 obtain ⟨pm,cm,rfl,-⟩:=hom.slice
 have hb4:Below u2.heap.size u2 (u3.alloc (.cells #[.int .i64 t.kind,.int .u64 (Oc.U t.w0),.int .u64 (Oc.U t.w1),.int .u64 (Oc.U t.w2),.int .u64 (Oc.U t.w3),.slice pm t.subs.length cm,.int .i64 t.num,.int .i64 t.least,.int .i64 t.most,.bool t.bare] 37)):=hbc.alloc hbc.size _
 have hz4:(u3.alloc (.cells #[.int .i64 t.kind,.int .u64 (Oc.U t.w0),.int .u64 (Oc.U t.w1),.int .u64 (Oc.U t.w2),.int .u64 (Oc.U t.w3),.slice pm t.subs.length cm,.int .i64 t.num,.int .i64 t.least,.int .i64 t.most,.bool t.bare] 37)).heap.size=u3.heap.size+1:=by simp
 have HFM:=Lib.hid (show ∀ b,b ∈ Fm→w.heap.size+1 ≤ b∧b < u3.heap.size from fun b hb=>⟨by have:=hFm b hb;have:=HZ2.out;omega,hom.lt b hb⟩)
 have XM:=Lib.hid (heap_alloc_new u3 (.cells #[.int .i64 t.kind,.int .u64 (Oc.U t.w0),.int .u64 (Oc.U t.w1),.int .u64 (Oc.U t.w2),.int .u64 (Oc.U t.w3),.slice pm t.subs.length cm,.int .i64 t.num,.int .i64 t.least,.int .i64 t.most,.bool t.bare] 37))
 have HOM:=Lib.hid (hom.later ((Below.refl u3.heap.size u3).alloc (Nat.le_refl _) (.cells #[.int .i64 t.kind,.int .u64 (Oc.U t.w0),.int .u64 (Oc.U t.w1),.int .u64 (Oc.U t.w2),.int .u64 (Oc.U t.w3),.slice pm t.subs.length cm,.int .i64 t.num,.int .i64 t.least,.int .i64 t.most,.bool t.bare] 37)))
 have X0n:=Lib.hid (keep_blk hb4 X0.out);have HBn:=Lib.hid (HB.out.trans (hb4.mono HB.out.size))
 have HZ3:=Lib.hid (show w.heap.size+1 ≤ u3.heap.size from by have:=hbc.size;have:=HZ2.out;omega)
 have HZ4:=Lib.hid hz4
 clear hom hFm hbc hb4 hz4 HCP X0 HB HZ2
 unfold Tr.cells
 go_upto_region 6 with (fail)
 generalize u3.alloc _=u4 at *
 have X0:=X0n;have HB:=HBn
 clear X0n HBn
 have HVM:=Lib.hid (fun w9 (hb:Below u4.heap.size u4 w9)=>(show NodeV w9 (fun b=>b ∈ Fm) (.agg (t.cells (.slice pm t.subs.length cm))) t from ⟨_,rfl,HOM.out.trees.later hb⟩))
 have HC6:=Lib.hid (HEX.out u4 HB.out _ _ (HVM.out u4 (Below.refl _ _)))
 unfold Tr.cells at HC6
 go_wp2_with (first
   | (refine wpList_load_row rfl 37 (.tmp 3) rfl u3.heap.size rfl 37 _ (0,0) _ XM.out Tryd.underlying37 rfl (by kernel_rfl) ?_)
   | fail)
 refine HC6.out.mono ?_
 rintro e u5 ⟨sa,Fa,rfl,hoa,hFa,hbc⟩
 obtain ⟨pa,ca,rfl,-⟩:=hoa.slice
 have hb4:Below u4.heap.size u4 (u5.alloc (.cells #[.int .i64 o.kind,.int .u64 (Oc.U o.w0),.int .u64 (Oc.U o.w1),.int .u64 (Oc.U o.w2),.int .u64 (Oc.U o.w3),.slice pa o.subs.length ca,.int .i64 o.num,.int .i64 o.least,.int .i64 o.most,.bool o.bare] 37)):=hbc.alloc hbc.size _
 have hz6:(u5.alloc (.cells #[.int .i64 o.kind,.int .u64 (Oc.U o.w0),.int .u64 (Oc.U o.w1),.int .u64 (Oc.U o.w2),.int .u64 (Oc.U o.w3),.slice pa o.subs.length ca,.int .i64 o.num,.int .i64 o.least,.int .i64 o.most,.bool o.bare] 37)).heap.size=u5.heap.size+1:=by simp
 have HFA:=Lib.hid (show ∀ b,b ∈ Fa→u3.heap.size+1 ≤ b∧b < u5.heap.size from fun b hb=>⟨by have:=hFa b hb;have:=HZ4.out;omega,hoa.lt b hb⟩)
 have XA:=Lib.hid (heap_alloc_new u5 (.cells #[.int .i64 o.kind,.int .u64 (Oc.U o.w0),.int .u64 (Oc.U o.w1),.int .u64 (Oc.U o.w2),.int .u64 (Oc.U o.w3),.slice pa o.subs.length ca,.int .i64 o.num,.int .i64 o.least,.int .i64 o.most,.bool o.bare] 37))
 have HOA:=Lib.hid (hoa.later ((Below.refl u5.heap.size u5).alloc (Nat.le_refl _) (.cells #[.int .i64 o.kind,.int .u64 (Oc.U o.w0),.int .u64 (Oc.U o.w1),.int .u64 (Oc.U o.w2),.int .u64 (Oc.U o.w3),.slice pa o.subs.length ca,.int .i64 o.num,.int .i64 o.least,.int .i64 o.most,.bool o.bare] 37)))
 have X0n:=Lib.hid (keep_blk hb4 X0.out);have XMn:=Lib.hid (keep_blk hb4 XM.out);have HBn:=Lib.hid (HB.out.trans (hb4.mono HB.out.size))
 have H46:=Lib.hid hb4
 have HZ5:=Lib.hid (show u3.heap.size+1 ≤ u5.heap.size from by have:=hbc.size;have:=HZ4.out;omega)
 have HZ6:=Lib.hid hz6
 clear hoa hFa hbc hb4 hz6 HC6 X0 XM HB
 go_upto_region 7 with (fail)
 generalize u5.alloc _=u6 at *
 have X0:=X0n;have XM:=XMn;have HB:=HBn
 clear X0n XMn HBn
 have HC8:=Lib.hid (HEX.out u6 HB.out _ _ (HVM.out u6 H46.out))
 unfold Tr.cells at HC8
 go_wp2_with (first
   | (refine wpList_load_row rfl 37 (.tmp 3) rfl u3.heap.size rfl 37 _ (0,0) _ XM.out Tryd.underlying37 rfl (by kernel_rfl) ?_)
   | fail)
 refine HC8.out.mono ?_
 rintro e u7 ⟨sb,Fb,rfl,hob,hFb,hbc⟩
 obtain ⟨pb,cb,rfl,-⟩:=hob.slice
 have hb4:Below u6.heap.size u6 (u7.alloc (.cells #[.int .i64 o.kind,.int .u64 (Oc.U o.w0),.int .u64 (Oc.U o.w1),.int .u64 (Oc.U o.w2),.int .u64 (Oc.U o.w3),.slice pb o.subs.length cb,.int .i64 o.num,.int .i64 o.least,.int .i64 o.most,.bool o.bare] 37)):=hbc.alloc hbc.size _
 have hz8:(u7.alloc (.cells #[.int .i64 o.kind,.int .u64 (Oc.U o.w0),.int .u64 (Oc.U o.w1),.int .u64 (Oc.U o.w2),.int .u64 (Oc.U o.w3),.slice pb o.subs.length cb,.int .i64 o.num,.int .i64 o.least,.int .i64 o.most,.bool o.bare] 37)).heap.size=u7.heap.size+1:=by simp
 have HFB:=Lib.hid (show ∀ b,b ∈ Fb→u5.heap.size+1 ≤ b∧b < u7.heap.size from fun b hb=>⟨by have:=hFb b hb;have:=HZ6.out;omega,hob.lt b hb⟩)
 have XB:=Lib.hid (heap_alloc_new u7 (.cells #[.int .i64 o.kind,.int .u64 (Oc.U o.w0),.int .u64 (Oc.U o.w1),.int .u64 (Oc.U o.w2),.int .u64 (Oc.U o.w3),.slice pb o.subs.length cb,.int .i64 o.num,.int .i64 o.least,.int .i64 o.most,.bool o.bare] 37))
 have HOB:=Lib.hid (hob.later ((Below.refl u7.heap.size u7).alloc (Nat.le_refl _) (.cells #[.int .i64 o.kind,.int .u64 (Oc.U o.w0),.int .u64 (Oc.U o.w1),.int .u64 (Oc.U o.w2),.int .u64 (Oc.U o.w3),.slice pb o.subs.length cb,.int .i64 o.num,.int .i64 o.least,.int .i64 o.most,.bool o.bare] 37)))
 have X0n:=Lib.hid (keep_blk hb4 X0.out);have XMn:=Lib.hid (keep_blk hb4 XM.out);have XAn:=Lib.hid (keep_blk hb4 XA.out);have HBn:=Lib.hid (HB.out.trans (hb4.mono HB.out.size))
 have H48:=Lib.hid (H46.out.trans (hb4.mono H46.out.size));have H68:=Lib.hid hb4
 have HZ7:=Lib.hid (show u5.heap.size+1 ≤ u7.heap.size from by have:=hbc.size;have:=HZ6.out;omega)
 have HZ8:=Lib.hid hz8
 clear hob hFb hbc hb4 hz8 HC8 X0 XM XA HB H46 HEX
 go_upto_region 8 with (fail)
 generalize u7.alloc _=u8 at *
 have X0:=X0n;have XM:=XMn;have XA:=XAn;have HB:=HBn
 clear X0n XMn XAn HBn
 go_wp2_with (first
   | (refine wpList_load_row rfl 37 (.tmp 1) rfl w.heap.size rfl 37 _ (0,0) _ X0.out Tryd.underlying37 rfl (by kernel_rfl) ?_)
   | fail)
 refine (HRX.out u8 HB.out).mono ?_
 rintro e u9 ⟨sw,rfl,htw,hbc⟩
 obtain ⟨pw,cw,rfl,-⟩:=htw.slice
 have hb4:Below u8.heap.size u8 (u9.alloc (.cells #[.int .i64 o.kind,.int .u64 (Oc.U o.w0),.int .u64 (Oc.U o.w1),.int .u64 (Oc.U o.w2),.int .u64 (Oc.U o.w3),.slice pw o.subs.length cw,.int .i64 o.num,.int .i64 o.least,.int .i64 o.most,.bool o.bare] 37)):=hbc.alloc hbc.size _
 have XW:=Lib.hid (heap_alloc_new u9 (.cells #[.int .i64 o.kind,.int .u64 (Oc.U o.w0),.int .u64 (Oc.U o.w1),.int .u64 (Oc.U o.w2),.int .u64 (Oc.U o.w3),.slice pw o.subs.length cw,.int .i64 o.num,.int .i64 o.least,.int .i64 o.most,.bool o.bare] 37))
 have HTW:=Lib.hid ((htw.mono (B':=fun b=>u7.heap.size+1 ≤ b) fun b _ hb=>by have:=HZ8.out;omega).later ((Below.refl u9.heap.size u9).alloc (Nat.le_refl _) (.cells #[.int .i64 o.kind,.int .u64 (Oc.U o.w0),.int .u64 (Oc.U o.w1),.int .u64 (Oc.U o.w2),.int .u64 (Oc.U o.w3),.slice pw o.subs.length cw,.int .i64 o.num,.int .i64 o.least,.int .i64 o.most,.bool o.bare] 37)))
 have X0n:=Lib.hid (keep_blk hb4 X0.out);have XMn:=Lib.hid (keep_blk hb4 XM.out);have XAn:=Lib.hid (keep_blk hb4 XA.out);have XBn:=Lib.hid (keep_blk hb4 XB.out);have HBn:=Lib.hid (HB.out.trans (hb4.mono HB.out.size))
 have H4n:=Lib.hid (H48.out.trans (hb4.mono H48.out.size));have H6n:=Lib.hid (H68.out.trans (hb4.mono H68.out.size));have H8n:=Lib.hid hb4
 have HZ9:=Lib.hid (show u7.heap.size+1 ≤ u9.heap.size from by have:=hbc.size;have:=HZ8.out;omega)
 clear htw hbc hb4 HRX X0 XM XA XB HB H48 H68
 go_upto_region 9 with (fail)
 generalize u9.alloc _=u10 at *
 have X0:=X0n;have XM:=XMn;have XA:=XAn;have XB:=XBn;have HB:=HBn
 clear X0n XMn XAn XBn HBn
 have HOM9:=Lib.hid (HOM.out.later H4n.out);have HOA9:=Lib.hid (HOA.out.later H6n.out);have HOB9:=Lib.hid (HOB.out.later H8n.out)
 have HNU:=Lib.hid (fun w9 (hb:Below u10.heap.size u10 w9)=>HNX.out w9 (HB.out.trans (hb.mono HB.out.size)))
 have HS1:=Lib.hid (fun w9 (hb:Below u10.heap.size u10 w9)=>(samenodes_any o o w9 _ _ (.agg (o.cells (.slice pa o.subs.length ca))) (.agg (o.cells (.slice pw o.subs.length cw))) ⟨_,rfl,HOA9.out.trees.later hb⟩ ⟨_,rfl,HTW.out.later hb⟩).mono (fun e w' h=>h.yes rfl))
 have HS2:=Lib.hid (fun w9 (hb:Below u10.heap.size u10 w9)=>(samenodes_any t t w9 _ _ (.agg (t.cells (.slice pm t.subs.length cm))) _ ⟨_,rfl,HOM9.out.trees.later hb⟩ (HV.out w9 (HB.out.trans (hb.mono HB.out.size)))).mono (fun e w' h=>h.yes rfl))
 have HP1:=Lib.hid (fun w9 (hb:Below u10.heap.size u10 w9)=>HPX.out w9 (HB.out.trans (hb.mono HB.out.size)) _ (.agg (t.cells (.slice pm t.subs.length cm))) ⟨_,rfl,HOM9.out.trees.later hb⟩)
 have HP2:=Lib.hid (fun w9 (hb:Below u10.heap.size u10 w9)=>HRP.out w9 (HB.out.trans (hb.mono HB.out.size)))
 unfold Tr.cells at HS1 HS2 HP1
 have hcc:((c:Int) != (c:Int))=false:=by simp
 clear HNX HPX HRP HVM HOM HOA HOB HV
 refine Ri.wp_region_frame (by kernel_rfl) (by kernel_rfl) (by kernel_rfl) (by kernel_rfl)
   (fun L v w'=>Below u10.heap.size u10 w'∧(L 0=true→v 0=ev)∧(L 1=true→v 1=.int .i64 (c:Int))∧(L 2=true→v 2=.int .i64 (c:Int))∧(L 3=true→v 3=.bool false)∧(L 4=true→v 4=.bool false)∧(L 5=true→v 5=.agg #[.int .i64 o.kind,.int .u64 (Oc.U o.w0),.int .u64 (Oc.U o.w1),.int .u64 (Oc.U o.w2),.int .u64 (Oc.U o.w3),.slice pa o.subs.length ca,.int .i64 o.num,.int .i64 o.least,.int .i64 o.most,.bool o.bare])∧(L 6=true→v 6=.agg #[.int .i64 o.kind,.int .u64 (Oc.U o.w0),.int .u64 (Oc.U o.w1),.int .u64 (Oc.U o.w2),.int .u64 (Oc.U o.w3),.slice pw o.subs.length cw,.int .i64 o.num,.int .i64 o.least,.int .i64 o.most,.bool o.bare])∧(L 7=true→v 7=.bool true)∧(L 8=true→v 8=.bool false)∧(L 9=true→v 9=.bool false)∧(L 10=true→v 10=.bool false)∧(L 11=true→v 11=.agg #[.int .i64 t.kind,.int .u64 (Oc.U t.w0),.int .u64 (Oc.U t.w1),.int .u64 (Oc.U t.w2),.int .u64 (Oc.U t.w3),.slice pm t.subs.length cm,.int .i64 t.num,.int .i64 t.least,.int .i64 t.most,.bool t.bare])∧(L 12=true→v 12=.agg #[.int .i64 t.kind,.int .u64 (Oc.U t.w0),.int .u64 (Oc.U t.w1),.int .u64 (Oc.U t.w2),.int .u64 (Oc.U t.w3),.slice p t.subs.length cap,.int .i64 t.num,.int .i64 t.least,.int .i64 t.most,.bool t.bare])∧(L 13=true→v 13=.bool true)∧(L 14=true→v 14=.bool false)∧(L 15=true→v 15=.bool false)∧(L 16=true→v 16=.bool false)∧(L 17=true→v 17=.agg #[.int .i64 t.kind,.int .u64 (Oc.U t.w0),.int .u64 (Oc.U t.w1),.int .u64 (Oc.U t.w2),.int .u64 (Oc.U t.w3),.slice pm t.subs.length cm,.int .i64 t.num,.int .i64 t.least,.int .i64 t.most,.bool t.bare])∧(L 18=true→v 18=.bool pl)∧(L 19=true→v 19=.agg #[.int .i64 t.kind,.int .u64 (Oc.U t.w0),.int .u64 (Oc.U t.w1),.int .u64 (Oc.U t.w2),.int .u64 (Oc.U t.w3),.slice p t.subs.length cap,.int .i64 t.num,.int .i64 t.least,.int .i64 t.most,.bool t.bare])∧(L 20=true→v 20=.bool pl)∧(L 21=true→v 21=.bool false)∧(L 22=true→v 22=.bool false))
   ?_ ?_ ?_
 · exact ⟨(Below.refl _ _).drew,by simp,by simp,by simp,by simp,by simp,by simp,by simp,by simp,by simp,by simp,by simp,by simp,by simp,by simp,by simp,by simp,by simp,by simp,by simp,by simp,by simp,by simp,by simp⟩
 · intro i hi9 L v w9 xa hI hL hd hv ho
   have hi':i=0 ∨ i=1 ∨ i=2 ∨ i=3 ∨ i=4 ∨ i=5 ∨ i=6 ∨ i=7 ∨ i=8 ∨ i=9 ∨ i=10 ∨ i=11 ∨ i=12 ∨ i=13 ∨ i=14 ∨ i=15 ∨ i=16 ∨ i=17 ∨ i=18 ∨ i=19 ∨ i=20 ∨ i=21 ∨ i=22:=by simp at hi9;omega
   obtain ⟨hb,q0,q1,q2,q3,q4,q5,q6,q7,q8,q9,q10,q11,q12,q13,q14,q15,q16,q17,q18,q19,q20,q21,q22⟩:=hI
   rcases hi' with rfl | rfl | rfl | rfl | rfl | rfl | rfl | rfl | rfl | rfl | rfl | rfl | rfl | rfl | rfl | rfl | rfl | rfl | rfl | rfl | rfl | rfl | rfl
   · have e5:xa.tmps.getD 5 undef=ev:=ho 5 (by kernel_rfl)
     refine Ri.step_plain rfl rfl (fun K' hK=>?_)
     go_simp
     exact hK _ _ ⟨_,_,rfl,rfl,hb,fun _=>rfl,q1,q2,q3,q4,q5,q6,q7,q8,q9,q10,q11,q12,q13,q14,q15,q16,q17,q18,q19,q20,q21,q22⟩
   · have l0:L 0=true:=by have:=hd _ rfl;simp [Region.binds] at this;simp [this]
     have f0:=(hv 0 32 rfl l0).trans (q0 l0)
     refine Ri.step_plain rfl rfl (fun K' hK=>?_)
     go_simp
     refine (HNU.out _ hb).mono ?_
     rintro e w8 ⟨rfl,hb8⟩
     exact hK _ _ ⟨_,_,rfl,rfl,hb.trans (hb8.mono hb.size),q0,fun _=>rfl,q2,q3,q4,q5,q6,q7,q8,q9,q10,q11,q12,q13,q14,q15,q16,q17,q18,q19,q20,q21,q22⟩
   · have e9:xa.tmps.getD 9 undef=.int .i64 (c:Int):=ho 9 (by kernel_rfl)
     refine Ri.step_plain rfl rfl (fun K' hK=>?_)
     go_simp
     exact hK _ _ ⟨_,_,rfl,rfl,hb,q0,q1,fun _=>rfl,q3,q4,q5,q6,q7,q8,q9,q10,q11,q12,q13,q14,q15,q16,q17,q18,q19,q20,q21,q22⟩
   · have l0:L 1=true∧L 2=true:=by have:=hd _ rfl;simp [Region.binds] at this;simp [this]
     have f1:=(hv 1 33 rfl l0.1).trans (q1 l0.1)
     have f2:=(hv 2 34 rfl l0.2).trans (q2 l0.2)
     refine Ri.step_plain rfl rfl (fun K' hK=>?_)
     go_simp
     exact hK _ _ ⟨_,_,rfl,rfl,hb,q0,q1,q2,fun _=>rfl,q4,q5,q6,q7,q8,q9,q10,q11,q12,q13,q14,q15,q16,q17,q18,q19,q20,q21,q22⟩
   · have l0:L 3=true:=by have:=hd _ rfl;simp [Region.binds] at this;simp [this]
     have f3:=(hv 3 35 rfl l0).trans (q3 l0)
     refine Ri.step_plain rfl rfl (fun K' hK=>?_)
     go_simp
     exact hK _ _ ⟨_,_,rfl,rfl,hb,q0,q1,q2,q3,fun _=>rfl,q5,q6,q7,q8,q9,q10,q11,q12,q13,q14,q15,q16,q17,q18,q19,q20,q21,q22⟩
   · have l0:L 4=true:=by have:=hd _ rfl;simp [Region.binds] at this;simp [this]
     have f4:=(hv 4 36 rfl l0).trans (q4 l0)
     have e4:xa.tmps.getD 4 undef=.pointer (some ⟨u5.heap.size,0,none⟩):=ho 4 (by kernel_rfl)
     refine Ri.step_wanted (b:=false) rfl rfl rfl f4 (fun K' hK=>?_)
     obtain ⟨d0,d1,d2,d3,d4,d5,d6,d7,d8,d9⟩:=allTen (keep_blk hb XA.out)
     go_simp
     exact hK _ _ ⟨_,_,rfl,rfl,hb,q0,q1,q2,q3,q4,fun _=>rfl,q6,q7,q8,q9,q10,q11,q12,q13,q14,q15,q16,q17,q18,q19,q20,q21,q22⟩
   · have l0:L 4=true:=by have:=hd _ rfl;simp [Region.binds] at this;simp [this]
     have f4:=(hv 4 36 rfl l0).trans (q4 l0)
     have e8:xa.tmps.getD 8 undef=.pointer (some ⟨u9.heap.size,0,none⟩):=ho 8 (by kernel_rfl)
     refine Ri.step_wanted (b:=false) rfl rfl rfl f4 (fun K' hK=>?_)
     obtain ⟨d0,d1,d2,d3,d4,d5,d6,d7,d8,d9⟩:=allTen (keep_blk hb XW.out)
     go_simp
     exact hK _ _ ⟨_,_,rfl,rfl,hb,q0,q1,q2,q3,q4,q5,fun _=>rfl,q7,q8,q9,q10,q11,q12,q13,q14,q15,q16,q17,q18,q19,q20,q21,q22⟩
   · have l0:L 4=true∧L 5=true∧L 6=true:=by have:=hd _ rfl;simp [Region.binds] at this;simp [this]
     have f4:=(hv 4 36 rfl l0.1).trans (q4 l0.1)
     have f5:=(hv 5 37 rfl l0.2.1).trans (q5 l0.2.1)
     have f6:=(hv 6 38 rfl l0.2.2).trans (q6 l0.2.2)
     refine Ri.step_wanted (b:=false) rfl rfl rfl f4 (fun K' hK=>?_)
     go_simp
     refine (HS1.out _ hb).mono ?_
     rintro e w8 ⟨rfl,hb8⟩
     exact hK _ _ ⟨_,_,rfl,rfl,hb.trans (hb8.mono hb.size),q0,q1,q2,q3,q4,q5,q6,fun _=>rfl,q8,q9,q10,q11,q12,q13,q14,q15,q16,q17,q18,q19,q20,q21,q22⟩
   · have l0:L 4=true∧L 7=true:=by have:=hd _ rfl;simp [Region.binds] at this;simp [this]
     have f4:=(hv 4 36 rfl l0.1).trans (q4 l0.1)
     have f7:=(hv 7 39 rfl l0.2).trans (q7 l0.2)
     refine Ri.step_wanted (b:=false) rfl rfl rfl f4 (fun K' hK=>?_)
     go_simp
     exact hK _ _ ⟨_,_,rfl,rfl,hb,q0,q1,q2,q3,q4,q5,q6,q7,fun _=>rfl,q9,q10,q11,q12,q13,q14,q15,q16,q17,q18,q19,q20,q21,q22⟩
   · have l0:L 4=true∧L 8=true:=by have:=hd _ rfl;simp [Region.binds] at this;simp [this]
     have f4:=(hv 4 36 rfl l0.1).trans (q4 l0.1)
     have f8:=(hv 8 40 rfl l0.2).trans (q8 l0.2)
     refine Ri.step_plain rfl rfl (fun K' hK=>?_)
     go_simp
     exact hK _ _ ⟨_,_,rfl,rfl,hb,q0,q1,q2,q3,q4,q5,q6,q7,q8,fun _=>rfl,q10,q11,q12,q13,q14,q15,q16,q17,q18,q19,q20,q21,q22⟩
   · have l0:L 9=true:=by have:=hd _ rfl;simp [Region.binds] at this;simp [this]
     have f9:=(hv 9 41 rfl l0).trans (q9 l0)
     refine Ri.step_plain rfl rfl (fun K' hK=>?_)
     go_simp
     exact hK _ _ ⟨_,_,rfl,rfl,hb,q0,q1,q2,q3,q4,q5,q6,q7,q8,q9,fun _=>rfl,q11,q12,q13,q14,q15,q16,q17,q18,q19,q20,q21,q22⟩
   · have l0:L 10=true:=by have:=hd _ rfl;simp [Region.binds] at this;simp [this]
     have f10:=(hv 10 42 rfl l0).trans (q10 l0)
     have e3:xa.tmps.getD 3 undef=.pointer (some ⟨u3.heap.size,0,none⟩):=ho 3 (by kernel_rfl)
     refine Ri.step_wanted (b:=false) rfl rfl rfl f10 (fun K' hK=>?_)
     obtain ⟨d0,d1,d2,d3,d4,d5,d6,d7,d8,d9⟩:=allTen (keep_blk hb XM.out)
     go_simp
     exact hK _ _ ⟨_,_,rfl,rfl,hb,q0,q1,q2,q3,q4,q5,q6,q7,q8,q9,q10,fun _=>rfl,q12,q13,q14,q15,q16,q17,q18,q19,q20,q21,q22⟩
   · have l0:L 10=true:=by have:=hd _ rfl;simp [Region.binds] at this;simp [this]
     have f10:=(hv 10 42 rfl l0).trans (q10 l0)
     have e1:xa.tmps.getD 1 undef=.pointer (some ⟨w.heap.size,0,none⟩):=ho 1 (by kernel_rfl)
     refine Ri.step_wanted (b:=false) rfl rfl rfl f10 (fun K' hK=>?_)
     obtain ⟨d0,d1,d2,d3,d4,d5,d6,d7,d8,d9⟩:=allTen (keep_blk hb X0.out)
     go_simp
     exact hK _ _ ⟨_,_,rfl,rfl,hb,q0,q1,q2,q3,q4,q5,q6,q7,q8,q9,q10,q11,fun _=>rfl,q13,q14,q15,q16,q17,q18,q19,q20,q21,q22⟩
   · have l0:L 10=true∧L 11=true∧L 12=true:=by have:=hd _ rfl;simp [Region.binds] at this;simp [this]
     have f10:=(hv 10 42 rfl l0.1).trans (q10 l0.1)
     have f11:=(hv 11 43 rfl l0.2.1).trans (q11 l0.2.1)
     have f12:=(hv 12 44 rfl l0.2.2).trans (q12 l0.2.2)
     refine Ri.step_wanted (b:=false) rfl rfl rfl f10 (fun K' hK=>?_)
     go_simp
     refine (HS2.out _ hb).mono ?_
     rintro e w8 ⟨rfl,hb8⟩
     exact hK _ _ ⟨_,_,rfl,rfl,hb.trans (hb8.mono hb.size),q0,q1,q2,q3,q4,q5,q6,q7,q8,q9,q10,q11,q12,fun _=>rfl,q14,q15,q16,q17,q18,q19,q20,q21,q22⟩
   · have l0:L 10=true∧L 13=true:=by have:=hd _ rfl;simp [Region.binds] at this;simp [this]
     have f10:=(hv 10 42 rfl l0.1).trans (q10 l0.1)
     have f13:=(hv 13 45 rfl l0.2).trans (q13 l0.2)
     refine Ri.step_wanted (b:=false) rfl rfl rfl f10 (fun K' hK=>?_)
     go_simp
     exact hK _ _ ⟨_,_,rfl,rfl,hb,q0,q1,q2,q3,q4,q5,q6,q7,q8,q9,q10,q11,q12,q13,fun _=>rfl,q15,q16,q17,q18,q19,q20,q21,q22⟩
   · have l0:L 10=true∧L 14=true:=by have:=hd _ rfl;simp [Region.binds] at this;simp [this]
     have f10:=(hv 10 42 rfl l0.1).trans (q10 l0.1)
     have f14:=(hv 14 46 rfl l0.2).trans (q14 l0.2)
     refine Ri.step_plain rfl rfl (fun K' hK=>?_)
     go_simp
     exact hK _ _ ⟨_,_,rfl,rfl,hb,q0,q1,q2,q3,q4,q5,q6,q7,q8,q9,q10,q11,q12,q13,q14,fun _=>rfl,q16,q17,q18,q19,q20,q21,q22⟩
   · have l0:L 15=true:=by have:=hd _ rfl;simp [Region.binds] at this;simp [this]
     have f15:=(hv 15 47 rfl l0).trans (q15 l0)
     refine Ri.step_plain rfl rfl (fun K' hK=>?_)
     go_simp
     exact hK _ _ ⟨_,_,rfl,rfl,hb,q0,q1,q2,q3,q4,q5,q6,q7,q8,q9,q10,q11,q12,q13,q14,q15,fun _=>rfl,q17,q18,q19,q20,q21,q22⟩
   · have l0:L 16=true:=by have:=hd _ rfl;simp [Region.binds] at this;simp [this]
     have f16:=(hv 16 48 rfl l0).trans (q16 l0)
     have e3:xa.tmps.getD 3 undef=.pointer (some ⟨u3.heap.size,0,none⟩):=ho 3 (by kernel_rfl)
     refine Ri.step_wanted (b:=false) rfl rfl rfl f16 (fun K' hK=>?_)
     obtain ⟨d0,d1,d2,d3,d4,d5,d6,d7,d8,d9⟩:=allTen (keep_blk hb XM.out)
     go_simp
     exact hK _ _ ⟨_,_,rfl,rfl,hb,q0,q1,q2,q3,q4,q5,q6,q7,q8,q9,q10,q11,q12,q13,q14,q15,q16,fun _=>rfl,q18,q19,q20,q21,q22⟩
   · have l0:L 16=true∧L 17=true:=by have:=hd _ rfl;simp [Region.binds] at this;simp [this]
     have f16:=(hv 16 48 rfl l0.1).trans (q16 l0.1)
     have f17:=(hv 17 49 rfl l0.2).trans (q17 l0.2)
     refine Ri.step_wanted (b:=false) rfl rfl rfl f16 (fun K' hK=>?_)
     go_simp
     refine (HP1.out _ hb).mono ?_
     rintro e w8 ⟨rfl,hb8⟩
     exact hK _ _ ⟨_,_,rfl,rfl,hb.trans (hb8.mono hb.size),q0,q1,q2,q3,q4,q5,q6,q7,q8,q9,q10,q11,q12,q13,q14,q15,q16,q17,fun _=>rfl,q19,q20,q21,q22⟩
   · have l0:L 16=true:=by have:=hd _ rfl;simp [Region.binds] at this;simp [this]
     have f16:=(hv 16 48 rfl l0).trans (q16 l0)
     have e1:xa.tmps.getD 1 undef=.pointer (some ⟨w.heap.size,0,none⟩):=ho 1 (by kernel_rfl)
     refine Ri.step_wanted (b:=false) rfl rfl rfl f16 (fun K' hK=>?_)
     obtain ⟨d0,d1,d2,d3,d4,d5,d6,d7,d8,d9⟩:=allTen (keep_blk hb X0.out)
     go_simp
     exact hK _ _ ⟨_,_,rfl,rfl,hb,q0,q1,q2,q3,q4,q5,q6,q7,q8,q9,q10,q11,q12,q13,q14,q15,q16,q17,q18,fun _=>rfl,q20,q21,q22⟩
   · have l0:L 16=true∧L 19=true:=by have:=hd _ rfl;simp [Region.binds] at this;simp [this]
     have f16:=(hv 16 48 rfl l0.1).trans (q16 l0.1)
     have f19:=(hv 19 51 rfl l0.2).trans (q19 l0.2)
     refine Ri.step_wanted (b:=false) rfl rfl rfl f16 (fun K' hK=>?_)
     go_simp
     refine (HP2.out _ hb).mono ?_
     rintro e w8 ⟨rfl,hb8⟩
     exact hK _ _ ⟨_,_,rfl,rfl,hb.trans (hb8.mono hb.size),q0,q1,q2,q3,q4,q5,q6,q7,q8,q9,q10,q11,q12,q13,q14,q15,q16,q17,q18,q19,fun _=>rfl,q21,q22⟩
   · have l0:L 16=true∧L 18=true∧L 20=true:=by have:=hd _ rfl;simp [Region.binds] at this;simp [this]
     have f16:=(hv 16 48 rfl l0.1).trans (q16 l0.1)
     have f18:=(hv 18 50 rfl l0.2.1).trans (q18 l0.2.1)
     have f20:=(hv 20 52 rfl l0.2.2).trans (q20 l0.2.2)
     refine Ri.step_wanted (b:=false) rfl rfl rfl f16 (fun K' hK=>?_)
     go_simp
     exact hK _ _ ⟨_,_,rfl,rfl,hb,q0,q1,q2,q3,q4,q5,q6,q7,q8,q9,q10,q11,q12,q13,q14,q15,q16,q17,q18,q19,q20,fun _=>rfl,q22⟩
   · have l0:L 16=true∧L 21=true:=by have:=hd _ rfl;simp [Region.binds] at this;simp [this]
     have f16:=(hv 16 48 rfl l0.1).trans (q16 l0.1)
     have f21:=(hv 21 53 rfl l0.2).trans (q21 l0.2)
     refine Ri.step_plain rfl rfl (fun K' hK=>?_)
     go_simp
     exact hK _ _ ⟨_,_,rfl,rfl,hb,q0,q1,q2,q3,q4,q5,q6,q7,q8,q9,q10,q11,q12,q13,q14,q15,q16,q17,q18,q19,q20,q21,fun _=>rfl⟩
 · rintro v w9 ⟨hb,-,-,-,-,-,-,-,-,-,-,-,-,-,-,-,-,-,-,-,-,-,-,q22⟩
   have q22':v 22=.bool false:=q22 rfl
   simp only [Ri.frame,List.zipIdx,List.foldl_cons,List.foldl_nil,if_true,List.setIfInBounds_toArray,List.set_cons_zero,List.set_cons_succ,Nat.reduceAdd,q22']
   clear q22 q22'
   generalize v 0=y0;generalize v 1=y1;generalize v 2=y2;generalize v 3=y3;generalize v 4=y4;generalize v 5=y5;generalize v 6=y6;generalize v 7=y7;generalize v 8=y8;generalize v 9=y9;generalize v 10=y10;generalize v 11=y11;generalize v 12=y12;generalize v 13=y13;generalize v 14=y14;generalize v 15=y15;generalize v 16=y16;generalize v 17=y17;generalize v 18=y18;generalize v 19=y19;generalize v 20=y20;generalize v 21=y21
   have XM9:=Lib.hid (keep_blk hb XM.out);have XA9:=Lib.hid (keep_blk hb XA.out);have XB9:=Lib.hid (keep_blk hb XB.out);have XW9:=Lib.hid (keep_blk hb XW.out)
   have HM9:=Lib.hid (HOM9.out.later hb);have HA9:=Lib.hid (HOA9.out.later hb);have HB9:=Lib.hid (HOB9.out.later hb);have HW9:=Lib.hid (HTW.out.later hb)
   have HBB:=Lib.hid (HB.out.trans (hb.mono HB.out.size))
   clear hb HNU HS1 HS2 HP1 HP2 XM XA XB XW X0 HB HOM9 HOA9 HOB9 HTW H4n H6n H8n
   go_wp2_with (first
     | (refine wpList_load_row rfl 37 (.tmp 3) rfl u3.heap.size rfl 37 _ (0,0) _ XM9.out Tryd.underlying37 rfl (by kernel_rfl) ?_)
     | fail)
   refine (spoil_any t w9 (.slice pm t.subs.length cm) Fm HM9.out).mono ?_
   rintro e v1 ⟨rfl,ht1⟩
   have hA1:∀ k,u3.heap.size ≤ k→k < w9.heap.size→v1.heap[k]? = w9.heap[k]?:=fun k h1 h2=>ht1.block k h2 (fun hm=>by have:=HFM.out k hm;omega)
   have XA1:=Lib.hid ((hA1 _ (by have:=HZ5.out;omega) (Array.getElem?_eq_some_iff.1 XA9.out).1).trans XA9.out)
   have XB1:=Lib.hid ((hA1 _ (by have:=HZ5.out;have:=HZ7.out;omega) (Array.getElem?_eq_some_iff.1 XB9.out).1).trans XB9.out)
   have XW1:=Lib.hid ((hA1 _ (by have:=HZ5.out;have:=HZ7.out;have:=HZ9.out;omega) (Array.getElem?_eq_some_iff.1 XW9.out).1).trans XW9.out)
   have HA1:=Lib.hid (HA9.out.keep (w':=v1) fun b hb=>hA1 b (by have:=HFA.out b hb;omega) (HA9.out.lt b hb))
   have HB1:=Lib.hid (HB9.out.keep (w':=v1) fun b hb=>hA1 b (by have:=HFB.out b hb;have:=HZ5.out;omega) (HB9.out.lt b hb))
   have HW1:=Lib.hid (HW9.out.keep (w':=v1) fun b hlt hb=>hA1 b (by have:=HZ5.out;have:=HZ7.out;omega) hlt)
   have HBB1:=Lib.hid (HBB.out.trans (ht1.below (fun k hk=>by have:=HFM.out k hk;omega) HBB.out.size))
   clear hA1 ht1 XM9 XA9 XB9 XW9 HM9 HA9 HB9 HW9 HBB
   have HS3:=Lib.hid ((samenodes_any o o v1 _ _ (.agg (o.cells (.slice pa o.subs.length ca))) (.agg (o.cells (.slice pw o.subs.length cw))) ⟨_,rfl,HA1.out.trees⟩ ⟨_,rfl,HW1.out⟩).mono (fun e w' h=>h.yes rfl))
   unfold Tr.cells at HS3
   go_wp2_with (first
     | (refine wpList_load_row rfl 37 (.tmp 4) rfl u5.heap.size rfl 37 _ (0,0) _ XA1.out Tryd.underlying37 rfl (by kernel_rfl) ?_)
     | (refine wpList_load_row rfl 37 (.tmp 8) rfl u9.heap.size rfl 37 _ (0,0) _ XW1.out Tryd.underlying37 rfl (by kernel_rfl) ?_)
     | fail)
   refine HS3.out.mono ?_
   rintro e v2 ⟨rfl,hb2⟩
   have XA2:=Lib.hid (keep_blk hb2 XA1.out);have XB2:=Lib.hid (keep_blk hb2 XB1.out);have XW2:=Lib.hid (keep_blk hb2 XW1.out)
   have HA2:=Lib.hid (HA1.out.later hb2);have HB2:=Lib.hid (HB1.out.later hb2);have HW2:=Lib.hid (HW1.out.later hb2)
   have HBB2:=Lib.hid (HBB1.out.trans (hb2.mono HBB1.out.size))
   clear hb2 HS3 XA1 XB1 XW1 HA1 HB1 HW1 HBB1
   have HSP:=Lib.hid (spoil_any o v2 (.slice pa o.subs.length ca) Fa HA2.out)
   unfold Tr.cells at HSP
   go_wp2_with (first
     | (refine wpList_load_row rfl 37 (.tmp 4) rfl u5.heap.size rfl 37 _ (0,0) _ XA2.out Tryd.underlying37 rfl (by kernel_rfl) ?_)
     | fail)
   refine HSP.out.mono ?_
   rintro e v3 ⟨rfl,ht3⟩
   have hA3:∀ k,u5.heap.size ≤ k→k < v2.heap.size→v3.heap[k]? = v2.heap[k]?:=fun k h1 h2=>ht3.block k h2 (fun hm=>by have:=HFA.out k hm;omega)
   have XB3:=Lib.hid ((hA3 _ (by have:=HZ7.out;omega) (Array.getElem?_eq_some_iff.1 XB2.out).1).trans XB2.out)
   have XW3:=Lib.hid ((hA3 _ (by have:=HZ7.out;have:=HZ9.out;omega) (Array.getElem?_eq_some_iff.1 XW2.out).1).trans XW2.out)
   have HB3:=Lib.hid (HB2.out.keep (w':=v3) fun b hb=>hA3 b (by have:=HFB.out b hb;omega) (HB2.out.lt b hb))
   have HW3:=Lib.hid (HW2.out.keep (w':=v3) fun b hlt hb=>hA3 b (by have:=HZ7.out;omega) hlt)
   have HBB3:=Lib.hid (HBB2.out.trans (ht3.below (fun k hk=>by have:=HFA.out k hk;have:=HZ3.out;omega) HBB2.out.size))
   clear hA3 ht3 XA2 XB2 XW2 HA2 HB2 HW2 HBB2 HSP
   have HS4:=Lib.hid ((samenodes_any o o v3 _ _ (.agg (o.cells (.slice pb o.subs.length cb))) (.agg (o.cells (.slice pw o.subs.length cw))) ⟨_,rfl,HB3.out.trees⟩ ⟨_,rfl,HW3.out⟩).mono (fun e w' h=>h.yes rfl))
   unfold Tr.cells at HS4
   go_wp2_with (first
     | (refine wpList_load_row rfl 37 (.tmp 6) rfl u7.heap.size rfl 37 _ (0,0) _ XB3.out Tryd.underlying37 rfl (by kernel_rfl) ?_)
     | (refine wpList_load_row rfl 37 (.tmp 8) rfl u9.heap.size rfl 37 _ (0,0) _ XW3.out Tryd.underlying37 rfl (by kernel_rfl) ?_)
     | fail)
   refine HS4.out.mono ?_
   rintro e v4 ⟨rfl,hb4⟩
   have HBB4:=Lib.hid (HBB3.out.trans (hb4.mono HBB3.out.size))
   clear hb4 HS4
   go_wp2
   go_ret
   exact ⟨rfl,HBB4.out⟩
end Go.Proofs.YtllfgppjobinnaaDoor
