/- Part 2 of what these proofs need. -/
import Derived.BigRegion
import Derived.LaidEql
import Derived.Stop.Asserts
import Derived.Stop.IfaceNil
import Derived.RowKitTokens
import Derived.Deep.LoopGhost
import Derived.ProofKit
import Derived.LaidMore
import Derived.LaidHandle
import Derived.OpenShut
import Derived.MakeChecks
import Derived.Stop.LaidErr
import Derived.Test.YtnaoiglbjkjogaaDoorOe1
set_option maxRecDepth 100000
set_option maxHeartbeats 16000000
namespace Go.Proofs.YtnaoiglbjkjogaaDoor
open Go.RowKit
theorem walk_any (V:Nat→Nat→Tr→Prop) (hV:LvFn V) (base lb sb tb n:Nat) (hlb:lb < base) (hsb:sb < base) (htb:tb < base) (x:Sc):∀ (q:Pa) (t:Tr) (b o:Nat),V b o t→t.InForm→Rk.okT x q t=true→∀ (σ:Rk.Told) (w:World),LvAt w base V→TlAt w lb sb tb n σ→OksA V σ w→∀ vq,PaV w (fun b=>b < base∧b ≠ sb∧b ≠ tb) vq q →
   Calls Tryd.prog 65 #[.pointer (some ⟨lb,0,none⟩),.pointer (some ⟨b,o,none⟩),vq] w (StEnd V base lb sb tb n (Rk.bk q t σ) w):=by
 intro q
 induction q using Pa.rec_subs with
 | h q ih =>
   intro t b o hv hform hok σ w hL hT hO vq hq
   obtain ⟨z,rfl,hz⟩:=hq
   obtain ⟨pp,pc,rfl,hlq⟩:=hz.slice
   have hok2:=hok
   rw [Rk.okT_eq,Bool.and_eq_true] at hok2
   have HAT:=Lib.hid (fun i (hi:i < q.subs.length)=>Rk.fits_at hform hok2.1 hi)
   have HOKS:=Lib.hid (show ∀ i y u,q.subs[i]? = some y→Rk.at? t.subs (Rk.taker t.kind q.pick i)=some u→Rk.okT x y u=true from fun i y u hy hu=>Rk.okS_get hok2.2 hy (by rw [Nat.zero_add];exact hu))
   have HBK:=Lib.hid (Rk.bk_eq q t σ)
   have HID:=Lib.hid (fun h=>Rk.bk_id q t σ h)
   clear hok hok2
   unfold Pa.cells at *
   generalize hqs:q.subs=qs at *
   have HQE:=Lib.hid hqs
   clear hqs
   generalize q.lo=lo at *;generalize q.hi=hi at *;generalize q.pick=pk at *
   obtain ⟨hbb,ho4,k0,k1,⟨p,cap,k2,-,-⟩,⟨f,k3⟩,k4⟩:=hL b o t hv
   have hblt:=hL.lt hv
   have hbw:base ≤ w.heap.size:=Nat.le_trans hbb (Nat.le_of_lt hblt)
   have YB:=Lib.hid (heap_alloc_new w (.cells #[.int .i64 lo,.int .i64 hi,.int .i64 pk,.slice pp qs.length pc] 57))
   have HBW:=Lib.hid (show Below w.heap.size w (w.alloc (.cells #[.int .i64 lo,.int .i64 hi,.int .i64 pk,.slice pp qs.length pc] 57)) from (Below.refl _ _).alloc (Nat.le_refl _) _)
   have HL:=Lib.hid hL;have HT:=Lib.hid hT;have HO:=Lib.hid hO;have HV:=Lib.hid hv;have HFI:=Lib.hid hform;have IH:=Lib.hid ih;have HNV:=Lib.hid hV;have HQ:=Lib.hid hz
   clear hT hO hv hform ih hV hz
   cases f with
   | true =>
     have HS:=Lib.hid (show Rk.bk q t σ=σ from HID.out (HO.out (t.ndT+1) b o t HV.out (by omega) k3))
     rw [HS.out]
     obtain ⟨hl9,hf9⟩:=hL.later HBW.out
     have HL9:=Lib.hid hl9;have HF9:=Lib.hid (hf9 σ);have HT9:=Lib.hid (HT.out.later HBW.out)
     have j3:=(HBW.out.cell (p:=⟨b,o+3,none⟩) hblt).trans k3
     clear hL hl9 hf9 k0 k1 k2 k3 k4 HID HBK HAT HOKS
     go_enter Tryd.func65,Tryd.ntmps65
     go_wp2
     go_end0
     exact ⟨rfl,HL9.out,HT9.out,HF9.out,Tch.of_below HBW.out⟩
   | false =>
     have HNVB:=Lib.hid (show ∀ o u,¬ V w.heap.size o u from fun o u h=>Nat.lt_irrefl _ (HL.out.lt h))
     have HOLD:=Lib.hid (show ∀ b' o u,V b' o u→¬ b' < base from fun b' o u h=>by have:=(HL.out b' o u h).1;omega)
     obtain ⟨hl9,hf9⟩:=hL.later HBW.out
     have HL9:=Lib.hid hl9;have HF9:=Lib.hid hf9;have HT9:=Lib.hid (HT.out.later HBW.out)
     have j3:=(HBW.out.cell (p:=⟨b,o+3,none⟩) hblt).trans k3
     obtain ⟨R,hR⟩:∃ R,Rk.bk q t σ=R:=⟨_,rfl⟩
     rw [hR]
     rw [hR] at HBK
     clear hL hl9 hf9 k0 k1 k2 k3 k4 HID hR
     have HQ9:=Lib.hid (HQ.out.later HBW.out)
     have HO9:=Lib.hid (HO.out.fl (HF9.out σ) (Rk.Le.refl σ))
     have HTC9:=Lib.hid (Tch.of_below (V:=V) (sb:=sb) (tb:=tb) HBW.out)
     go_enter Tryd.func65,Tryd.ntmps65
     go_upto_region 2 with (fail)
     generalize w.alloc (.cells #[.int .i64 lo,.int .i64 hi,.int .i64 pk,.slice pp qs.length pc] 57)=W0 at *
     obtain ⟨d0,d1,d2,d3,-,-,-,-⟩:=four YB.out
     have wl:IntKind.i64.wrap ((qs.length:Int) - 1)=(qs.length:Int) - 1:=IntWalk.i64_in _ (by omega)
     clear j3
     go_wp2
     clear d0 d1 d2 d3 wl
     go_loopw [6] (fun iv wr=>∃ (k:Nat) (z:Int),iv=.int .i64 z∧k ≤ qs.length∧Hid (z=(k:Int) - 1)∧Hid (LvAt wr base V)∧Hid (TlAt wr lb sb tb n (Rk.bkS (qs.drop k) t pk k σ))∧Hid (Fl V (Rk.bkS (qs.drop k) t pk k σ) w wr)∧Hid (Tch V sb tb w wr)∧Hid (OksA V (Rk.bkS (qs.drop k) t pk k σ) wr)∧Hid (wr.heap[w.heap.size]? = some (.cells #[.int .i64 lo,.int .i64 hi,.int .i64 pk,.slice pp qs.length pc] 57))∧Hid (PasAt wr (fun b=>b < base∧b ≠ sb∧b ≠ tb) (.slice pp qs.length pc) qs)) (fun iv _=>(intOf iv+1).toNat)
     case atStart =>
       have e0:Rk.bkS (qs.drop qs.length) t pk qs.length σ=σ:=by rw [List.drop_length,Rk.bkS_nil]
       exact ⟨qs.length,(qs.length:Int) - 1,by simp,Nat.le_refl _,Lib.hid rfl,HL9,by rw [e0];exact HT9,by rw [e0];exact Lib.hid (HF9.out σ),HTC9,by rw [e0];exact HO9,YB,HQ9⟩
     case round =>
       clear HL9 HT9 HF9 HTC9 HO9 YB HQ9 HL HT HO HQ
       obtain ⟨k,z,rfl,hk,HZ,HL,HT,HF,HC,HO,YB,HQ⟩:=hrel
       obtain ⟨-,-,k0,k1,⟨p',cap,k2,-,hkids⟩,-,-⟩:=HL.out b o t HV.out
       have hblt:=HL.out.lt HV.out
       have hwr:=HC.out.size
       cases k with
       | succ j =>
         obtain rfl:z=(j:Int):=by have:=HZ.out;omega
         have gz:decide ((0:Int) ≤ (j:Int))=true:=by simp
         have wj:IntKind.i64.wrap ((j:Int) - 1)=(j:Int) - 1:=IntWalk.i64_in _ (by omega)
         have hjl:j < qs.length:=by omega
         obtain ⟨y,hy⟩:∃ y,qs[j]? = some y:=⟨_,List.getElem?_eq_getElem hjl⟩
         obtain ⟨b2,o2,s2,rfl,hB2,t2,sub2⟩:=HQ.out.get hy
         obtain ⟨p2,c2,rfl,-⟩:=sub2.slice
         obtain ⟨u,hat,hu⟩:=HAT.out j hjl
         have hjj:∃ jn:Nat,Rk.taker t.kind pk j=(jn:Int)∧t.subs[jn]? = some u:=by
           have hat':=hat
           unfold Rk.at? at hat'
           split at hat'
           · exact ⟨(Rk.taker t.kind pk j).toNat,by omega,hat'⟩
           · cases hat'
         obtain ⟨jn,hj,hju⟩:=hjj
         have hjn:jn < t.subs.length:=(List.getElem?_eq_some_iff.1 hju).1
         obtain ⟨bt,ot,rfl,hvu⟩:=hkids jn u hju
         have HTA:=Lib.hid (fun w9=>rktaker_any t.kind pk j w9)
         rw [hj] at HTA
         have T2:=Lib.hid t2
         have hb2:=t2.lt
         have HBK2:=Lib.hid (show Rk.bkS (qs.drop j) t pk j σ=Rk.bk y u (Rk.bkS (qs.drop (j+1)) t pk (j+1) σ) by
           rw [List.drop_eq_getElem_cons hjl,(List.getElem?_eq_some_iff.1 hy).2,Rk.bkS_cons y _ t pk j σ hat])
         have HS:=Lib.hid (fun w9 (hb:Below wr.heap.size wr w9)=>IH.out y (List.mem_of_getElem? hy) u bt (ot+jn * 4) hvu (HFI.out.sub hu) (HOKS.out j y u hy hat) (Rk.bkS (qs.drop (j+1)) t pk (j+1) σ) w9 (HL.out.later hb).1 (HT.out.later hb) (HO.out.fl ((HL.out.later hb).2 _) (Rk.Le.refl _)) (.agg #[.int .i64 y.lo,.int .i64 y.hi,.int .i64 y.pick,.slice p2 y.subs.length c2]) ⟨_,rfl,sub2.later hb⟩)
         have HBK:=HBK2
         clear t2 sub2 hy hat hu hj hju hvu hkids hB2 HZ
         go_wp2
         refine Ri.wp_region_frame (by kernel_rfl) (by kernel_rfl) (by kernel_rfl) (by kernel_rfl)
           (fun L v w'=>(L 19=false→Below wr.heap.size wr w')∧(L 19=true→LvAt w' base V∧TlAt w' lb sb tb n (Rk.bkS (qs.drop j) t pk j σ)∧Fl V (Rk.bkS (qs.drop j) t pk j σ) wr w'∧Tch V sb tb wr w')∧(L 19=true→L 0=true)∧(L 19=true→L 1=true)∧(L 19=true→L 2=true)∧(L 19=true→L 3=true)∧(L 19=true→L 4=true)∧(L 19=true→L 5=true)∧(L 19=true→L 6=true)∧(L 19=true→L 7=true)∧(L 19=true→L 8=true)∧(L 19=true→L 9=true)∧(L 19=true→L 10=true)∧(L 19=true→L 11=true)∧(L 19=true→L 12=true)∧(L 19=true→L 13=true)∧(L 19=true→L 14=true)∧(L 19=true→L 15=true)∧(L 19=true→L 16=true)∧(L 19=true→L 17=true)∧(L 19=true→L 18=true)∧(L 2=true→L 1=true)∧(L 3=true→L 2=true)∧(L 4=true→L 3=true)∧(L 6=true→L 5=true)∧(L 7=true→L 6=true)∧(L 8=true→L 7=true)∧(L 10=true→L 9=true)∧(L 12=true→L 8=true)∧(L 12=true→L 10=true)∧(L 12=true→L 11=true)∧(L 13=true→L 4=true)∧(L 13=true→L 12=true)∧(L 15=true→L 14=true)∧(L 17=true→L 15=true)∧(L 17=true→L 16=true)∧(L 18=true→L 17=true)∧(L 0=true→v 0=.pointer (some ⟨lb,0,none⟩))∧(L 1=true→v 1=.pointer (some ⟨b,o,none⟩))∧(L 2=true→v 2=.pointer (some ⟨b,o,none⟩))∧(L 3=true→v 3=.pointer (some ⟨b,o+2,none⟩))∧(L 4=true→v 4=.slice (some ⟨bt,ot,none⟩) t.subs.length cap)∧(L 5=true→v 5=.pointer (some ⟨b,o,none⟩))∧(L 6=true→v 6=.pointer (some ⟨b,o,none⟩))∧(L 7=true→v 7=.pointer (some ⟨b,o,none⟩))∧(L 8=true→v 8=.int .i64 t.kind)∧(L 9=true→v 9=.pointer (some ⟨w.heap.size,2,none⟩))∧(L 10=true→v 10=.int .i64 pk)∧(L 11=true→v 11=.int .i64 (j:Int))∧(L 12=true→v 12=.int .i64 (jn:Int))∧(L 13=true→v 13=.pointer (some ⟨bt,ot+jn * 4,none⟩))∧(L 14=true→v 14=.pointer (some ⟨w.heap.size,3,none⟩))∧(L 15=true→v 15=.slice (some ⟨b2,o2,none⟩) qs.length pc)∧(L 16=true→v 16=.int .i64 (j:Int))∧(L 17=true→v 17=.pointer (some ⟨b2,o2+j * 4,none⟩))∧(L 18=true→v 18=.agg #[.int .i64 y.lo,.int .i64 y.hi,.int .i64 y.pick,.slice p2 y.subs.length c2]))
           ?_ ?_ ?_
         · exact ⟨fun _=>(Below.refl _ _).drew,by simp,by simp,by simp,by simp,by simp,by simp,by simp,by simp,by simp,by simp,by simp,by simp,by simp,by simp,by simp,by simp,by simp,by simp,by simp,by simp,by simp,by simp,by simp,by simp,by simp,by simp,by simp,by simp,by simp,by simp,by simp,by simp,by simp,by simp,by simp,by simp,by simp,by simp,by simp,by simp,by simp,by simp,by simp,by simp,by simp,by simp,by simp,by simp,by simp,by simp,by simp,by simp,by simp,by simp,by simp⟩
         · intro i hi9 L v w9 xa hI hL hd hv ho
           have hi':i=0 ∨ i=1 ∨ i=2 ∨ i=3 ∨ i=4 ∨ i=5 ∨ i=6 ∨ i=7 ∨ i=8 ∨ i=9 ∨ i=10 ∨ i=11 ∨ i=12 ∨ i=13 ∨ i=14 ∨ i=15 ∨ i=16 ∨ i=17 ∨ i=18 ∨ i=19:=by simp at hi9;omega
           obtain ⟨hbf,hfin,dd0,dd1,dd2,dd3,dd4,dd5,dd6,dd7,dd8,dd9,dd10,dd11,dd12,dd13,dd14,dd15,dd16,dd17,dd18,c2_1,c3_2,c4_3,c6_5,c7_6,c8_7,c10_9,c12_8,c12_10,c12_11,c13_4,c13_12,c15_14,c17_15,c17_16,c18_17,q0,q1,q2,q3,q4,q5,q6,q7,q8,q9,q10,q11,q12,q13,q14,q15,q16,q17,q18⟩:=hI
           rcases hi' with rfl | rfl | rfl | rfl | rfl | rfl | rfl | rfl | rfl | rfl | rfl | rfl | rfl | rfl | rfl | rfl | rfl | rfl | rfl | rfl
           · have e0:xa.tmps.getD 0 undef=.pointer (some ⟨lb,0,none⟩):=ho 0 (by kernel_rfl)
             have hl9:L 19=false:=by cases h:L 19 with | false=>rfl | true=>rw [dd0 h] at hL;cases hL
             have hb:=hbf hl9
             refine Ri.step_plain rfl rfl (fun K' hK=>?_)
             go_simp
             exact hK _ _ ⟨_,_,rfl,rfl,(fun _=>hb),(fun h=>Bool.noConfusion (hl9.symm.trans h)),(fun _=>rfl),dd1,dd2,dd3,dd4,dd5,dd6,dd7,dd8,dd9,dd10,dd11,dd12,dd13,dd14,dd15,dd16,dd17,dd18,c2_1,c3_2,c4_3,c6_5,c7_6,c8_7,c10_9,c12_8,c12_10,c12_11,c13_4,c13_12,c15_14,c17_15,c17_16,c18_17,(fun _=>rfl),q1,q2,q3,q4,q5,q6,q7,q8,q9,q10,q11,q12,q13,q14,q15,q16,q17,q18⟩
           · have e1:xa.tmps.getD 1 undef=.pointer (some ⟨b,o,none⟩):=ho 1 (by kernel_rfl)
             have hl9:L 19=false:=by cases h:L 19 with | false=>rfl | true=>rw [dd1 h] at hL;cases hL
             have hb:=hbf hl9
             refine Ri.step_plain rfl rfl (fun K' hK=>?_)
             go_simp
             exact hK _ _ ⟨_,_,rfl,rfl,(fun _=>hb),(fun h=>Bool.noConfusion (hl9.symm.trans h)),dd0,(fun _=>rfl),dd2,dd3,dd4,dd5,dd6,dd7,dd8,dd9,dd10,dd11,dd12,dd13,dd14,dd15,dd16,dd17,dd18,(fun _=>rfl),c3_2,c4_3,c6_5,c7_6,c8_7,c10_9,c12_8,c12_10,c12_11,c13_4,c13_12,c15_14,c17_15,c17_16,c18_17,q0,(fun _=>rfl),q2,q3,q4,q5,q6,q7,q8,q9,q10,q11,q12,q13,q14,q15,q16,q17,q18⟩
           · have l0:L 1=true:=by have:=hd _ rfl;simp [Region.binds] at this;simp [this]
             have f1:=(hv 1 20 rfl l0).trans (q1 l0)
             have hl9:L 19=false:=by cases h:L 19 with | false=>rfl | true=>rw [dd2 h] at hL;cases hL
             have hb:=hbf hl9
             refine Ri.step_plain rfl rfl (fun K' hK=>?_)
             go_simp
             exact hK _ _ ⟨_,_,rfl,rfl,(fun _=>hb),(fun h=>Bool.noConfusion (hl9.symm.trans h)),dd0,dd1,(fun _=>rfl),dd3,dd4,dd5,dd6,dd7,dd8,dd9,dd10,dd11,dd12,dd13,dd14,dd15,dd16,dd17,dd18,(fun _=>l0),(fun _=>rfl),c4_3,c6_5,c7_6,c8_7,c10_9,c12_8,c12_10,c12_11,c13_4,c13_12,c15_14,c17_15,c17_16,c18_17,q0,q1,(fun _=>rfl),q3,q4,q5,q6,q7,q8,q9,q10,q11,q12,q13,q14,q15,q16,q17,q18⟩
           · have l0:L 2=true:=by have:=hd _ rfl;simp [Region.binds] at this;simp [this]
             have f2:=(hv 2 21 rfl l0).trans (q2 l0)
             have hl9:L 19=false:=by cases h:L 19 with | false=>rfl | true=>rw [dd3 h] at hL;cases hL
             have hb:=hbf hl9
             refine Ri.step_plain rfl rfl (fun K' hK=>?_)
             go_simp
             exact hK _ _ ⟨_,_,rfl,rfl,(fun _=>hb),(fun h=>Bool.noConfusion (hl9.symm.trans h)),dd0,dd1,dd2,(fun _=>rfl),dd4,dd5,dd6,dd7,dd8,dd9,dd10,dd11,dd12,dd13,dd14,dd15,dd16,dd17,dd18,c2_1,(fun _=>l0),(fun _=>rfl),c6_5,c7_6,c8_7,c10_9,c12_8,c12_10,c12_11,c13_4,c13_12,c15_14,c17_15,c17_16,c18_17,q0,q1,q2,(fun _=>rfl),q4,q5,q6,q7,q8,q9,q10,q11,q12,q13,q14,q15,q16,q17,q18⟩
           · have l0:L 3=true:=by have:=hd _ rfl;simp [Region.binds] at this;simp [this]
             have f3:=(hv 3 22 rfl l0).trans (q3 l0)
             have hl9:L 19=false:=by cases h:L 19 with | false=>rfl | true=>rw [dd4 h] at hL;cases hL
             have hb:=hbf hl9
             refine Ri.step_plain rfl rfl (fun K' hK=>?_)
             obtain c2':=(hb.cell (p:=⟨b,o+2,none⟩) hblt).trans k2
             go_simp
             exact hK _ _ ⟨_,_,rfl,rfl,(fun _=>hb),(fun h=>Bool.noConfusion (hl9.symm.trans h)),dd0,dd1,dd2,dd3,(fun _=>rfl),dd5,dd6,dd7,dd8,dd9,dd10,dd11,dd12,dd13,dd14,dd15,dd16,dd17,dd18,c2_1,c3_2,(fun _=>l0),c6_5,c7_6,c8_7,c10_9,c12_8,c12_10,c12_11,(fun _=>rfl),c13_12,c15_14,c17_15,c17_16,c18_17,q0,q1,q2,q3,(fun _=>rfl),q5,q6,q7,q8,q9,q10,q11,q12,q13,q14,q15,q16,q17,q18⟩
           · have e1:xa.tmps.getD 1 undef=.pointer (some ⟨b,o,none⟩):=ho 1 (by kernel_rfl)
             have hl9:L 19=false:=by cases h:L 19 with | false=>rfl | true=>rw [dd5 h] at hL;cases hL
             have hb:=hbf hl9
             refine Ri.step_plain rfl rfl (fun K' hK=>?_)
             go_simp
             exact hK _ _ ⟨_,_,rfl,rfl,(fun _=>hb),(fun h=>Bool.noConfusion (hl9.symm.trans h)),dd0,dd1,dd2,dd3,dd4,(fun _=>rfl),dd6,dd7,dd8,dd9,dd10,dd11,dd12,dd13,dd14,dd15,dd16,dd17,dd18,c2_1,c3_2,c4_3,(fun _=>rfl),c7_6,c8_7,c10_9,c12_8,c12_10,c12_11,c13_4,c13_12,c15_14,c17_15,c17_16,c18_17,q0,q1,q2,q3,q4,(fun _=>rfl),q6,q7,q8,q9,q10,q11,q12,q13,q14,q15,q16,q17,q18⟩
           · have l0:L 5=true:=by have:=hd _ rfl;simp [Region.binds] at this;simp [this]
             have f5:=(hv 5 24 rfl l0).trans (q5 l0)
             have hl9:L 19=false:=by cases h:L 19 with | false=>rfl | true=>rw [dd6 h] at hL;cases hL
             have hb:=hbf hl9
             refine Ri.step_plain rfl rfl (fun K' hK=>?_)
             go_simp
             exact hK _ _ ⟨_,_,rfl,rfl,(fun _=>hb),(fun h=>Bool.noConfusion (hl9.symm.trans h)),dd0,dd1,dd2,dd3,dd4,dd5,(fun _=>rfl),dd7,dd8,dd9,dd10,dd11,dd12,dd13,dd14,dd15,dd16,dd17,dd18,c2_1,c3_2,c4_3,(fun _=>l0),(fun _=>rfl),c8_7,c10_9,c12_8,c12_10,c12_11,c13_4,c13_12,c15_14,c17_15,c17_16,c18_17,q0,q1,q2,q3,q4,q5,(fun _=>rfl),q7,q8,q9,q10,q11,q12,q13,q14,q15,q16,q17,q18⟩
           · have l0:L 6=true:=by have:=hd _ rfl;simp [Region.binds] at this;simp [this]
             have f6:=(hv 6 25 rfl l0).trans (q6 l0)
             have hl9:L 19=false:=by cases h:L 19 with | false=>rfl | true=>rw [dd7 h] at hL;cases hL
             have hb:=hbf hl9
             refine Ri.step_plain rfl rfl (fun K' hK=>?_)
             go_simp
             exact hK _ _ ⟨_,_,rfl,rfl,(fun _=>hb),(fun h=>Bool.noConfusion (hl9.symm.trans h)),dd0,dd1,dd2,dd3,dd4,dd5,dd6,(fun _=>rfl),dd8,dd9,dd10,dd11,dd12,dd13,dd14,dd15,dd16,dd17,dd18,c2_1,c3_2,c4_3,c6_5,(fun _=>l0),(fun _=>rfl),c10_9,c12_8,c12_10,c12_11,c13_4,c13_12,c15_14,c17_15,c17_16,c18_17,q0,q1,q2,q3,q4,q5,q6,(fun _=>rfl),q8,q9,q10,q11,q12,q13,q14,q15,q16,q17,q18⟩
           · have l0:L 7=true:=by have:=hd _ rfl;simp [Region.binds] at this;simp [this]
             have f7:=(hv 7 26 rfl l0).trans (q7 l0)
             have hl9:L 19=false:=by cases h:L 19 with | false=>rfl | true=>rw [dd8 h] at hL;cases hL
             have hb:=hbf hl9
             refine Ri.step_plain rfl rfl (fun K' hK=>?_)
             obtain c0':=(hb.cell (p:=⟨b,o,none⟩) hblt).trans k0
             go_simp
             exact hK _ _ ⟨_,_,rfl,rfl,(fun _=>hb),(fun h=>Bool.noConfusion (hl9.symm.trans h)),dd0,dd1,dd2,dd3,dd4,dd5,dd6,dd7,(fun _=>rfl),dd9,dd10,dd11,dd12,dd13,dd14,dd15,dd16,dd17,dd18,c2_1,c3_2,c4_3,c6_5,c7_6,(fun _=>l0),c10_9,(fun _=>rfl),c12_10,c12_11,c13_4,c13_12,c15_14,c17_15,c17_16,c18_17,q0,q1,q2,q3,q4,q5,q6,q7,(fun _=>rfl),q9,q10,q11,q12,q13,q14,q15,q16,q17,q18⟩
           · have e5:xa.tmps.getD 5 undef=.pointer (some ⟨w.heap.size,0,none⟩):=ho 5 (by kernel_rfl)
             have hl9:L 19=false:=by cases h:L 19 with | false=>rfl | true=>rw [dd9 h] at hL;cases hL
             have hb:=hbf hl9
             refine Ri.step_plain rfl rfl (fun K' hK=>?_)
             go_simp
             exact hK _ _ ⟨_,_,rfl,rfl,(fun _=>hb),(fun h=>Bool.noConfusion (hl9.symm.trans h)),dd0,dd1,dd2,dd3,dd4,dd5,dd6,dd7,dd8,(fun _=>rfl),dd10,dd11,dd12,dd13,dd14,dd15,dd16,dd17,dd18,c2_1,c3_2,c4_3,c6_5,c7_6,c8_7,(fun _=>rfl),c12_8,c12_10,c12_11,c13_4,c13_12,c15_14,c17_15,c17_16,c18_17,q0,q1,q2,q3,q4,q5,q6,q7,q8,(fun _=>rfl),q10,q11,q12,q13,q14,q15,q16,q17,q18⟩
           · have l0:L 9=true:=by have:=hd _ rfl;simp [Region.binds] at this;simp [this]
             have f9:=(hv 9 28 rfl l0).trans (q9 l0)
             have hl9:L 19=false:=by cases h:L 19 with | false=>rfl | true=>rw [dd10 h] at hL;cases hL
             have hb:=hbf hl9
             refine Ri.step_plain rfl rfl (fun K' hK=>?_)
             obtain ⟨d0,d1,d2,d3,-,-,-,-⟩:=four (keep_blk hb YB.out)
             go_simp
             exact hK _ _ ⟨_,_,rfl,rfl,(fun _=>hb),(fun h=>Bool.noConfusion (hl9.symm.trans h)),dd0,dd1,dd2,dd3,dd4,dd5,dd6,dd7,dd8,dd9,(fun _=>rfl),dd11,dd12,dd13,dd14,dd15,dd16,dd17,dd18,c2_1,c3_2,c4_3,c6_5,c7_6,c8_7,(fun _=>l0),c12_8,(fun _=>rfl),c12_11,c13_4,c13_12,c15_14,c17_15,c17_16,c18_17,q0,q1,q2,q3,q4,q5,q6,q7,q8,q9,(fun _=>rfl),q11,q12,q13,q14,q15,q16,q17,q18⟩
           · have e6:xa.tmps.getD 6 undef=.int .i64 (j:Int):=ho 6 (by kernel_rfl)
             have hl9:L 19=false:=by cases h:L 19 with | false=>rfl | true=>rw [dd11 h] at hL;cases hL
             have hb:=hbf hl9
             refine Ri.step_plain rfl rfl (fun K' hK=>?_)
             go_simp
             exact hK _ _ ⟨_,_,rfl,rfl,(fun _=>hb),(fun h=>Bool.noConfusion (hl9.symm.trans h)),dd0,dd1,dd2,dd3,dd4,dd5,dd6,dd7,dd8,dd9,dd10,(fun _=>rfl),dd12,dd13,dd14,dd15,dd16,dd17,dd18,c2_1,c3_2,c4_3,c6_5,c7_6,c8_7,c10_9,c12_8,c12_10,(fun _=>rfl),c13_4,c13_12,c15_14,c17_15,c17_16,c18_17,q0,q1,q2,q3,q4,q5,q6,q7,q8,q9,q10,(fun _=>rfl),q12,q13,q14,q15,q16,q17,q18⟩
           · have l0:L 8=true∧L 10=true∧L 11=true:=by have:=hd _ rfl;simp [Region.binds] at this;simp [this]
             have f8:=(hv 8 27 rfl l0.1).trans (q8 l0.1)
             have f10:=(hv 10 29 rfl l0.2.1).trans (q10 l0.2.1)
             have f11:=(hv 11 30 rfl l0.2.2).trans (q11 l0.2.2)
             have hl9:L 19=false:=by cases h:L 19 with | false=>rfl | true=>rw [dd12 h] at hL;cases hL
             have hb:=hbf hl9
             refine Ri.step_plain rfl rfl (fun K' hK=>?_)
             go_simp
             refine (HTA.out _).mono ?_
             rintro e w8 ⟨rfl,rfl⟩
             exact hK _ _ ⟨_,_,rfl,rfl,(fun _=>hb),(fun h=>Bool.noConfusion (hl9.symm.trans h)),dd0,dd1,dd2,dd3,dd4,dd5,dd6,dd7,dd8,dd9,dd10,dd11,(fun _=>rfl),dd13,dd14,dd15,dd16,dd17,dd18,c2_1,c3_2,c4_3,c6_5,c7_6,c8_7,c10_9,(fun _=>l0.1),(fun _=>l0.2.1),(fun _=>l0.2.2),c13_4,(fun _=>rfl),c15_14,c17_15,c17_16,c18_17,q0,q1,q2,q3,q4,q5,q6,q7,q8,q9,q10,q11,(fun _=>rfl),q13,q14,q15,q16,q17,q18⟩
           · have l0:L 4=true∧L 12=true:=by have:=hd _ rfl;simp [Region.binds] at this;simp [this]
             have f4:=(hv 4 23 rfl l0.1).trans (q4 l0.1)
             have f12:=(hv 12 31 rfl l0.2).trans (q12 l0.2)
             have hl9:L 19=false:=by cases h:L 19 with | false=>rfl | true=>rw [dd13 h] at hL;cases hL
             have hb:=hbf hl9
             refine Ri.step_plain rfl rfl (fun K' hK=>?_)
             go_simp
             exact hK _ _ ⟨_,_,rfl,rfl,(fun _=>hb),(fun h=>Bool.noConfusion (hl9.symm.trans h)),dd0,dd1,dd2,dd3,dd4,dd5,dd6,dd7,dd8,dd9,dd10,dd11,dd12,(fun _=>rfl),dd14,dd15,dd16,dd17,dd18,c2_1,c3_2,c4_3,c6_5,c7_6,c8_7,c10_9,c12_8,c12_10,c12_11,(fun _=>l0.1),(fun _=>l0.2),c15_14,c17_15,c17_16,c18_17,q0,q1,q2,q3,q4,q5,q6,q7,q8,q9,q10,q11,q12,(fun _=>rfl),q14,q15,q16,q17,q18⟩
           · have e5:xa.tmps.getD 5 undef=.pointer (some ⟨w.heap.size,0,none⟩):=ho 5 (by kernel_rfl)
             have hl9:L 19=false:=by cases h:L 19 with | false=>rfl | true=>rw [dd14 h] at hL;cases hL
             have hb:=hbf hl9
             refine Ri.step_plain rfl rfl (fun K' hK=>?_)
             go_simp
             exact hK _ _ ⟨_,_,rfl,rfl,(fun _=>hb),(fun h=>Bool.noConfusion (hl9.symm.trans h)),dd0,dd1,dd2,dd3,dd4,dd5,dd6,dd7,dd8,dd9,dd10,dd11,dd12,dd13,(fun _=>rfl),dd15,dd16,dd17,dd18,c2_1,c3_2,c4_3,c6_5,c7_6,c8_7,c10_9,c12_8,c12_10,c12_11,c13_4,c13_12,(fun _=>rfl),c17_15,c17_16,c18_17,q0,q1,q2,q3,q4,q5,q6,q7,q8,q9,q10,q11,q12,q13,(fun _=>rfl),q15,q16,q17,q18⟩
           · have l0:L 14=true:=by have:=hd _ rfl;simp [Region.binds] at this;simp [this]
             have f14:=(hv 14 33 rfl l0).trans (q14 l0)
             have hl9:L 19=false:=by cases h:L 19 with | false=>rfl | true=>rw [dd15 h] at hL;cases hL
             have hb:=hbf hl9
             refine Ri.step_plain rfl rfl (fun K' hK=>?_)
             obtain ⟨d0,d1,d2,d3,-,-,-,-⟩:=four (keep_blk hb YB.out)
             go_simp
             exact hK _ _ ⟨_,_,rfl,rfl,(fun _=>hb),(fun h=>Bool.noConfusion (hl9.symm.trans h)),dd0,dd1,dd2,dd3,dd4,dd5,dd6,dd7,dd8,dd9,dd10,dd11,dd12,dd13,dd14,(fun _=>rfl),dd16,dd17,dd18,c2_1,c3_2,c4_3,c6_5,c7_6,c8_7,c10_9,c12_8,c12_10,c12_11,c13_4,c13_12,(fun _=>l0),(fun _=>rfl),c17_16,c18_17,q0,q1,q2,q3,q4,q5,q6,q7,q8,q9,q10,q11,q12,q13,q14,(fun _=>rfl),q16,q17,q18⟩
           · have e6:xa.tmps.getD 6 undef=.int .i64 (j:Int):=ho 6 (by kernel_rfl)
             have hl9:L 19=false:=by cases h:L 19 with | false=>rfl | true=>rw [dd16 h] at hL;cases hL
             have hb:=hbf hl9
             refine Ri.step_plain rfl rfl (fun K' hK=>?_)
             go_simp
             exact hK _ _ ⟨_,_,rfl,rfl,(fun _=>hb),(fun h=>Bool.noConfusion (hl9.symm.trans h)),dd0,dd1,dd2,dd3,dd4,dd5,dd6,dd7,dd8,dd9,dd10,dd11,dd12,dd13,dd14,dd15,(fun _=>rfl),dd17,dd18,c2_1,c3_2,c4_3,c6_5,c7_6,c8_7,c10_9,c12_8,c12_10,c12_11,c13_4,c13_12,c15_14,c17_15,(fun _=>rfl),c18_17,q0,q1,q2,q3,q4,q5,q6,q7,q8,q9,q10,q11,q12,q13,q14,q15,(fun _=>rfl),q17,q18⟩
           · have l0:L 15=true∧L 16=true:=by have:=hd _ rfl;simp [Region.binds] at this;simp [this]
             have f15:=(hv 15 34 rfl l0.1).trans (q15 l0.1)
             have f16:=(hv 16 35 rfl l0.2).trans (q16 l0.2)
             have hl9:L 19=false:=by cases h:L 19 with | false=>rfl | true=>rw [dd17 h] at hL;cases hL
             have hb:=hbf hl9
             refine Ri.step_plain rfl rfl (fun K' hK=>?_)
             go_simp
             exact hK _ _ ⟨_,_,rfl,rfl,(fun _=>hb),(fun h=>Bool.noConfusion (hl9.symm.trans h)),dd0,dd1,dd2,dd3,dd4,dd5,dd6,dd7,dd8,dd9,dd10,dd11,dd12,dd13,dd14,dd15,dd16,(fun _=>rfl),dd18,c2_1,c3_2,c4_3,c6_5,c7_6,c8_7,c10_9,c12_8,c12_10,c12_11,c13_4,c13_12,c15_14,(fun _=>l0.1),(fun _=>l0.2),(fun _=>rfl),q0,q1,q2,q3,q4,q5,q6,q7,q8,q9,q10,q11,q12,q13,q14,q15,q16,(fun _=>rfl),q18⟩
           · have l0:L 17=true:=by have:=hd _ rfl;simp [Region.binds] at this;simp [this]
             have f17:=(hv 17 36 rfl l0).trans (q17 l0)
             have hl9:L 19=false:=by cases h:L 19 with | false=>rfl | true=>rw [dd18 h] at hL;cases hL
             have hb:=hbf hl9
             refine Ri.step_plain rfl rfl (fun K' hK=>?_)
             obtain ⟨e0,e1,e2,e3⟩:=(T2.out.keep (hb.block _ hb2))
             go_simp
             exact hK _ _ ⟨_,_,rfl,rfl,(fun _=>hb),(fun h=>Bool.noConfusion (hl9.symm.trans h)),dd0,dd1,dd2,dd3,dd4,dd5,dd6,dd7,dd8,dd9,dd10,dd11,dd12,dd13,dd14,dd15,dd16,dd17,(fun _=>rfl),c2_1,c3_2,c4_3,c6_5,c7_6,c8_7,c10_9,c12_8,c12_10,c12_11,c13_4,c13_12,c15_14,c17_15,c17_16,(fun _=>l0),q0,q1,q2,q3,q4,q5,q6,q7,q8,q9,q10,q11,q12,q13,q14,q15,q16,q17,(fun _=>rfl)⟩
           · have l0:L 0=true∧L 13=true∧L 18=true:=by have:=hd _ rfl;simp [Region.binds] at this;simp [this]
             have f0:=(hv 0 19 rfl l0.1).trans (q0 l0.1)
             have f13:=(hv 13 32 rfl l0.2.1).trans (q13 l0.2.1)
             have f18:=(hv 18 37 rfl l0.2.2).trans (q18 l0.2.2)
             have h0:L 0=true:=by first | (have:=hd _ rfl;simp [Region.binds] at this;simp [this];done)
             have h13:L 13=true:=by first | (have:=hd _ rfl;simp [Region.binds] at this;simp [this];done)
             have h18:L 18=true:=by first | (have:=hd _ rfl;simp [Region.binds] at this;simp [this];done)
             have h4:L 4=true:=by first | (have:=hd _ rfl;simp [Region.binds] at this;simp [this];done) | exact c13_4 h13
             have h12:L 12=true:=by first | (have:=hd _ rfl;simp [Region.binds] at this;simp [this];done) | exact c13_12 h13
             have h17:L 17=true:=by first | (have:=hd _ rfl;simp [Region.binds] at this;simp [this];done) | exact c18_17 h18
             have h3:L 3=true:=by first | (have:=hd _ rfl;simp [Region.binds] at this;simp [this];done) | exact c4_3 h4
             have h8:L 8=true:=by first | (have:=hd _ rfl;simp [Region.binds] at this;simp [this];done) | exact c12_8 h12
             have h10:L 10=true:=by first | (have:=hd _ rfl;simp [Region.binds] at this;simp [this];done) | exact c12_10 h12
             have h11:L 11=true:=by first | (have:=hd _ rfl;simp [Region.binds] at this;simp [this];done) | exact c12_11 h12
             have h15:L 15=true:=by first | (have:=hd _ rfl;simp [Region.binds] at this;simp [this];done) | exact c17_15 h17
             have h16:L 16=true:=by first | (have:=hd _ rfl;simp [Region.binds] at this;simp [this];done) | exact c17_16 h17
             have h2:L 2=true:=by first | (have:=hd _ rfl;simp [Region.binds] at this;simp [this];done) | exact c3_2 h3
             have h7:L 7=true:=by first | (have:=hd _ rfl;simp [Region.binds] at this;simp [this];done) | exact c8_7 h8
             have h9:L 9=true:=by first | (have:=hd _ rfl;simp [Region.binds] at this;simp [this];done) | exact c10_9 h10
             have h14:L 14=true:=by first | (have:=hd _ rfl;simp [Region.binds] at this;simp [this];done) | exact c15_14 h15
             have h1:L 1=true:=by first | (have:=hd _ rfl;simp [Region.binds] at this;simp [this];done) | exact c2_1 h2
             have h6:L 6=true:=by first | (have:=hd _ rfl;simp [Region.binds] at this;simp [this];done) | exact c7_6 h7
             have h5:L 5=true:=by first | (have:=hd _ rfl;simp [Region.binds] at this;simp [this];done) | exact c6_5 h6
             have hb:=hbf hL
             refine Ri.step_plain rfl rfl (fun K' hK=>?_)
             go_simp
             refine (HS.out _ hb).mono ?_
             rintro e w8 ⟨rfl,hlv8,htl8,hfl8,htc8⟩
             exact hK _ _ ⟨_,_,rfl,rfl,(fun h=>by cases h),(fun _=>⟨hlv8,HBK.out.symm ▸ htl8,HBK.out.symm ▸ (((HL.out.later hb).2 _).trans hfl8 (Rk.Le.refl _)),(Tch.of_below hb).trans htc8⟩),(fun _=>h0),(fun _=>h1),(fun _=>h2),(fun _=>h3),(fun _=>h4),(fun _=>h5),(fun _=>h6),(fun _=>h7),(fun _=>h8),(fun _=>h9),(fun _=>h10),(fun _=>h11),(fun _=>h12),(fun _=>h13),(fun _=>h14),(fun _=>h15),(fun _=>h16),(fun _=>h17),(fun _=>h18),c2_1,c3_2,c4_3,c6_5,c7_6,c8_7,c10_9,c12_8,c12_10,c12_11,c13_4,c13_12,c15_14,c17_15,c17_16,c18_17,q0,q1,q2,q3,q4,q5,q6,q7,q8,q9,q10,q11,q12,q13,q14,q15,q16,q17,q18⟩
         · rintro v w9 ⟨-,hfin,-,-,-,-,-,-,-,-,-,-,-,-,-,-,-,-,-,-,-,-,-,-,-,-,-,-,-,-,-,-,-,-,-,-,-,-,-,-,-,-,-,-,-,-,-,-,-,-,-,-,-,-,-,-⟩
           have HF9:=Lib.hid (hfin rfl)
           simp only [Ri.frame,List.zipIdx,List.foldl_cons,List.foldl_nil,if_true,List.setIfInBounds_toArray,List.set_cons_zero,List.set_cons_succ,Nat.reduceAdd]
           clear hfin
           generalize v 0=y0;generalize v 1=y1;generalize v 2=y2;generalize v 3=y3;generalize v 4=y4;generalize v 5=y5;generalize v 6=y6;generalize v 7=y7;generalize v 8=y8;generalize v 9=y9;generalize v 10=y10;generalize v 11=y11;generalize v 12=y12;generalize v 13=y13;generalize v 14=y14;generalize v 15=y15;generalize v 16=y16;generalize v 17=y17;generalize v 18=y18;generalize v 19=y19
           obtain ⟨x1,x2,x3,x4⟩:=HF9.out
           have X1:=Lib.hid x1;have X2:=Lib.hid x2
           have hlo:Rk.Le (Rk.bkS (qs.drop (j+1)) t pk (j+1) σ) (Rk.bkS (qs.drop j) t pk j σ):=by rw [HBK.out];exact Rk.bk_le _ _ _
           have X3:=Lib.hid (HF.out.trans x3 hlo)
           have X4:=Lib.hid (HC.out.trans x4)
           have X5:=Lib.hid (HO.out.fl x3 hlo)
           have hbx:w.heap.size < wr.heap.size:=(Array.getElem?_eq_some_iff.1 YB.out).1
           have X6:=Lib.hid ((x4.block _ hbx HNVB.out (by omega) (by omega)).trans YB.out)
           have X7:=Lib.hid (HQ.out.keep (w':=w9) (fun b' hb' hB'=>x4.block b' hb' (fun o u h=>HOLD.out b' o u h hB'.1) hB'.2.1 hB'.2.2))
           clear x1 x2 x3 x4 hlo hbx HF9
           go_wp2
           exact ⟨⟨j,(j:Int) - 1,rfl,by omega,Lib.hid rfl,X1,X2,X3,X4,X5,X6,X7⟩,by simp [intOf]⟩
         | zero =>
         obtain rfl:z = -1:=by have:=HZ.out;omega
         have gz:decide ((0:Int) ≤ -1)=false:=by decide
         have HT0:=HT;have HF0:=HF;have HO0:=HO
         rw [List.drop_zero] at HT0 HF0 HO0
         clear HT HF HO HZ hkids
         have HT:=HT0;have HF:=HF0;have HO:=HO0
         clear HT0 HF0 HO0
         have hbk:=HBK.out
         by_cases h7:t.kind=7
         · rw [if_pos h7] at hbk
           obtain ⟨kn,hkn⟩:∃ kn:Nat,t.num=kn:=⟨t.num.toNat,by have:=Rk.nums_pos t HFI.out t.num (by rw [Rk.nums_eq,if_pos h7];exact List.mem_cons_self);omega⟩
           rw [hkn] at hbk k1
           have HB7:=Lib.hid hbk;have H7:=Lib.hid h7;have HKN:=Lib.hid hkn
           rw [h7] at k0
           clear hbk h7 hkn
           go_wp2
           refine Ri.wp_region_frame (by kernel_rfl) (by kernel_rfl) (by kernel_rfl) (by kernel_rfl)
             (fun L v w'=>(L 7=false→Below wr.heap.size wr w')∧(L 7=true→TlAt w' lb sb tb n (Rk.tell (Rk.bkS qs t pk 0 σ) kn (lo,hi))∧Touch [sb,tb] wr w')∧(L 7=true→L 0=true)∧(L 7=true→L 1=true)∧(L 7=true→L 2=true)∧(L 7=true→L 3=true)∧(L 7=true→L 4=true)∧(L 7=true→L 5=true)∧(L 7=true→L 6=true)∧(L 2=true→L 1=true)∧(L 3=true→L 2=true)∧(L 4=true→L 3=true)∧(L 6=true→L 5=true)∧(L 0=true→v 0=.pointer (some ⟨lb,0,none⟩))∧(L 1=true→v 1=.pointer (some ⟨b,o,none⟩))∧(L 2=true→v 2=.pointer (some ⟨b,o,none⟩))∧(L 3=true→v 3=.pointer (some ⟨b,o+1,none⟩))∧(L 4=true→v 4=.int .i64 (kn:Int))∧(L 5=true→v 5=.agg #[.int .i64 lo,.int .i64 hi,.int .i64 pk,.slice pp qs.length pc])∧(L 6=true→v 6=.agg #[.int .i64 lo,.int .i64 hi]))
             ?_ ?_ ?_
           · exact ⟨fun _=>(Below.refl _ _).drew,by simp,by simp,by simp,by simp,by simp,by simp,by simp,by simp,by simp,by simp,by simp,by simp,by simp,by simp,by simp,by simp,by simp,by simp,by simp⟩
           · intro i hi9 L v w9 xa hI hL hd hv ho
             have hi':i=0 ∨ i=1 ∨ i=2 ∨ i=3 ∨ i=4 ∨ i=5 ∨ i=6 ∨ i=7:=by simp at hi9;omega
             obtain ⟨hbf,hfin,dd0,dd1,dd2,dd3,dd4,dd5,dd6,c2_1,c3_2,c4_3,c6_5,q0,q1,q2,q3,q4,q5,q6⟩:=hI
             rcases hi' with rfl | rfl | rfl | rfl | rfl | rfl | rfl | rfl
             · have e0:xa.tmps.getD 0 undef=.pointer (some ⟨lb,0,none⟩):=ho 0 (by kernel_rfl)
               have hl9:L 7=false:=by cases h:L 7 with | false=>rfl | true=>rw [dd0 h] at hL;cases hL
               have hb:=hbf hl9
               refine Ri.step_plain rfl rfl (fun K' hK=>?_)
               go_simp
               exact hK _ _ ⟨_,_,rfl,rfl,(fun _=>hb),(fun h=>Bool.noConfusion (hl9.symm.trans h)),(fun _=>rfl),dd1,dd2,dd3,dd4,dd5,dd6,c2_1,c3_2,c4_3,c6_5,(fun _=>rfl),q1,q2,q3,q4,q5,q6⟩
             · have e1:xa.tmps.getD 1 undef=.pointer (some ⟨b,o,none⟩):=ho 1 (by kernel_rfl)
               have hl9:L 7=false:=by cases h:L 7 with | false=>rfl | true=>rw [dd1 h] at hL;cases hL
               have hb:=hbf hl9
               refine Ri.step_plain rfl rfl (fun K' hK=>?_)
               go_simp
               exact hK _ _ ⟨_,_,rfl,rfl,(fun _=>hb),(fun h=>Bool.noConfusion (hl9.symm.trans h)),dd0,(fun _=>rfl),dd2,dd3,dd4,dd5,dd6,(fun _=>rfl),c3_2,c4_3,c6_5,q0,(fun _=>rfl),q2,q3,q4,q5,q6⟩
             · have l0:L 1=true:=by have:=hd _ rfl;simp [Region.binds] at this;simp [this]
               have f1:=(hv 1 45 rfl l0).trans (q1 l0)
               have hl9:L 7=false:=by cases h:L 7 with | false=>rfl | true=>rw [dd2 h] at hL;cases hL
               have hb:=hbf hl9
               refine Ri.step_plain rfl rfl (fun K' hK=>?_)
               go_simp
               exact hK _ _ ⟨_,_,rfl,rfl,(fun _=>hb),(fun h=>Bool.noConfusion (hl9.symm.trans h)),dd0,dd1,(fun _=>rfl),dd3,dd4,dd5,dd6,(fun _=>l0),(fun _=>rfl),c4_3,c6_5,q0,q1,(fun _=>rfl),q3,q4,q5,q6⟩
             · have l0:L 2=true:=by have:=hd _ rfl;simp [Region.binds] at this;simp [this]
               have f2:=(hv 2 46 rfl l0).trans (q2 l0)
               have hl9:L 7=false:=by cases h:L 7 with | false=>rfl | true=>rw [dd3 h] at hL;cases hL
               have hb:=hbf hl9
               refine Ri.step_plain rfl rfl (fun K' hK=>?_)
               go_simp
               exact hK _ _ ⟨_,_,rfl,rfl,(fun _=>hb),(fun h=>Bool.noConfusion (hl9.symm.trans h)),dd0,dd1,dd2,(fun _=>rfl),dd4,dd5,dd6,c2_1,(fun _=>l0),(fun _=>rfl),c6_5,q0,q1,q2,(fun _=>rfl),q4,q5,q6⟩
             · have l0:L 3=true:=by have:=hd _ rfl;simp [Region.binds] at this;simp [this]
               have f3:=(hv 3 47 rfl l0).trans (q3 l0)
               have hl9:L 7=false:=by cases h:L 7 with | false=>rfl | true=>rw [dd4 h] at hL;cases hL
               have hb:=hbf hl9
               refine Ri.step_plain rfl rfl (fun K' hK=>?_)
               obtain c1:=(hb.cell (p:=⟨b,o+1,none⟩) hblt).trans k1
               go_simp
               exact hK _ _ ⟨_,_,rfl,rfl,(fun _=>hb),(fun h=>Bool.noConfusion (hl9.symm.trans h)),dd0,dd1,dd2,dd3,(fun _=>rfl),dd5,dd6,c2_1,c3_2,(fun _=>l0),c6_5,q0,q1,q2,q3,(fun _=>rfl),q5,q6⟩
             · have e5:xa.tmps.getD 5 undef=.pointer (some ⟨w.heap.size,0,none⟩):=ho 5 (by kernel_rfl)
               have hl9:L 7=false:=by cases h:L 7 with | false=>rfl | true=>rw [dd5 h] at hL;cases hL
               have hb:=hbf hl9
               refine Ri.step_plain rfl rfl (fun K' hK=>?_)
               obtain ⟨d0,d1,d2,d3,-,-,-,-⟩:=four (keep_blk hb YB.out)
               go_simp
               exact hK _ _ ⟨_,_,rfl,rfl,(fun _=>hb),(fun h=>Bool.noConfusion (hl9.symm.trans h)),dd0,dd1,dd2,dd3,dd4,(fun _=>rfl),dd6,c2_1,c3_2,c4_3,(fun _=>rfl),q0,q1,q2,q3,q4,(fun _=>rfl),q6⟩
             · have l0:L 5=true:=by have:=hd _ rfl;simp [Region.binds] at this;simp [this]
               have f5:=(hv 5 49 rfl l0).trans (q5 l0)
               have hl9:L 7=false:=by cases h:L 7 with | false=>rfl | true=>rw [dd6 h] at hL;cases hL
               have hb:=hbf hl9
               refine Ri.step_plain rfl rfl (fun K' hK=>?_)
               go_simp
               refine (rkspan_any _ _ _ _ _ _ _).mono ?_
               rintro e w8 ⟨rfl,hb8⟩
               exact hK _ _ ⟨_,_,rfl,rfl,(fun _=>hb.trans (hb8.mono hb.size)),(fun h=>Bool.noConfusion (hl9.symm.trans h)),dd0,dd1,dd2,dd3,dd4,dd5,(fun _=>rfl),c2_1,c3_2,c4_3,(fun _=>l0),q0,q1,q2,q3,q4,q5,(fun _=>rfl)⟩
             · have l0:L 0=true∧L 4=true∧L 6=true:=by have:=hd _ rfl;simp [Region.binds] at this;simp [this]
               have f0:=(hv 0 44 rfl l0.1).trans (q0 l0.1)
               have f4:=(hv 4 48 rfl l0.2.1).trans (q4 l0.2.1)
               have f6:=(hv 6 50 rfl l0.2.2).trans (q6 l0.2.2)
               have h0:L 0=true:=by first | (have:=hd _ rfl;simp [Region.binds] at this;simp [this];done)
               have h4:L 4=true:=by first | (have:=hd _ rfl;simp [Region.binds] at this;simp [this];done)
               have h6:L 6=true:=by first | (have:=hd _ rfl;simp [Region.binds] at this;simp [this];done)
               have h3:L 3=true:=by first | (have:=hd _ rfl;simp [Region.binds] at this;simp [this];done) | exact c4_3 h4
               have h5:L 5=true:=by first | (have:=hd _ rfl;simp [Region.binds] at this;simp [this];done) | exact c6_5 h6
               have h2:L 2=true:=by first | (have:=hd _ rfl;simp [Region.binds] at this;simp [this];done) | exact c3_2 h3
               have h1:L 1=true:=by first | (have:=hd _ rfl;simp [Region.binds] at this;simp [this];done) | exact c2_1 h2
               have hb:=hbf hL
               refine Ri.step_plain rfl rfl (fun K' hK=>?_)
               go_simp
               refine (tell_any lb sb tb n (Rk.bkS qs t pk 0 σ) kn lo hi _ (HT.out.later hb)).mono ?_
               rintro e w8 ⟨rfl,ht8,hto8⟩
               exact hK _ _ ⟨_,_,rfl,rfl,(fun h=>by cases h),(fun _=>⟨ht8,(Touch.of_below _ hb).trans hto8⟩),(fun _=>h0),(fun _=>h1),(fun _=>h2),(fun _=>h3),(fun _=>h4),(fun _=>h5),(fun _=>h6),c2_1,c3_2,c4_3,c6_5,q0,q1,q2,q3,q4,q5,q6⟩
           · rintro v w9 ⟨-,hfin,-,-,-,-,-,-,-,-,-,-,-,-,-,-,-,-,-,-⟩
             have HF9:=Lib.hid (hfin rfl)
             simp only [Ri.frame,List.zipIdx,List.foldl_cons,List.foldl_nil,if_true,List.setIfInBounds_toArray,List.set_cons_zero,List.set_cons_succ,Nat.reduceAdd]
             clear hfin
             generalize v 0=y0;generalize v 1=y1;generalize v 2=y2;generalize v 3=y3;generalize v 4=y4;generalize v 5=y5;generalize v 6=y6;generalize v 7=y7
             have hto:=HF9.out.2
             obtain ⟨l9,f9⟩:=HL.out.touch hto hsb htb
             have HT9:=Lib.hid HF9.out.1
             have HLV9:=Lib.hid l9;have HFL9:=Lib.hid (f9 (Rk.tell (Rk.bkS qs t pk 0 σ) kn (lo,hi)));have HTC9:=Lib.hid (Tch.of_touch (V:=V) hto)
             have HLE:=Lib.hid (Rk.le_tell (Rk.bkS qs t pk 0 σ) kn (lo,hi))
             clear l9 f9 hto HF9
             go_wp2_with fail
             refine (settle_any V HNV.out base lb sb tb n hlb hsb htb t b o HV.out _ w9 HLV9.out HT9.out ((HO.out.fl HFL9.out HLE.out) _) (fun _=>by rw [HKN.out];exact Rk.tell_told _ _ _) HFI.out).mono ?_
             rintro e w8 ⟨rfl,hlv8,htl8,hfl8,htc8⟩
             have hle2:=Rk.le_tellAll (Rk.tell (Rk.bkS qs t pk 0 σ) kn (lo,hi)) (Rk.numsS t.subs)
             have X1:=Lib.hid hlv8;have X2:=Lib.hid htl8;have X3:=Lib.hid ((HF.out.trans HFL9.out HLE.out).trans hfl8 hle2);have X4:=Lib.hid (HC.out.trans (HTC9.out.trans htc8))
             clear hlv8 htl8 hfl8 htc8 hle2
             go_wp2
             go_end0
             exact ⟨rfl,X1.out,HB7.out ▸ X2.out,HB7.out ▸ X3.out,X4.out⟩
         · rw [if_neg h7] at hbk
           have HB7:=Lib.hid hbk
           have e7:(t.kind == 7)=false:=by simpa using h7
           clear hbk h7
           go_wp2
           go_end0
           exact ⟨rfl,HL.out,HB7.out ▸ HT.out,HB7.out ▸ HF.out,HC.out⟩
end Go.Proofs.YtnaoiglbjkjogaaDoor
namespace Go.Proofs.YtnaoiglbjkjogaaDoor
open Go.RowKit
inductive LvOf (w:World) (b0 o0:Nat) (t0:Tr):Nat→Nat→Tr→Prop
 | top:LvOf w b0 o0 t0 b0 o0 t0
 | sub {b o:Nat} {u:Tr} (h:LvOf w b0 o0 t0 b o u) {p:Option Addr} {len cap:Nat} (hc:w.cell? ⟨b,o+2,none⟩=some (.slice p len cap)) {i:Nat} {c:Tr} (hi:u.subs[i]? = some c) {bs os:Nat} (hp:p=some ⟨bs,os,none⟩):LvOf w b0 o0 t0 bs (os+i * 4) c
theorem PtsAt.addr {w:World} {B:Nat→Prop} {s:Value} {ts:List Tr} (h:PtsAt w B s ts) {i:Nat} {c:Tr} (hi:ts[i]? = some c):∃ g cap,s=.slice (some ⟨g,0,none⟩) ts.length cap:=by
 cases h with
 | nil p cap=>simp at hi
 | row g cap _ S F=>exact ⟨g,cap,rfl⟩
theorem PtsAt.len_le {w:World} {B:Nat→Prop} {s:Value} {ts:List Tr} (h:PtsAt w B s ts):ts.length ≤ 2932031007402:=by
 cases h with
 | nil p cap=>simp
 | row g cap _ S F hlen=>exact hlen
def StP (w:World) (base b o:Nat) (u:Tr):Prop:=base ≤ b∧o % 4=0∧w.frozen? ⟨b,o+3,none⟩=false∧∃ s f,FourP w b o u s f∧(f=true→Rk.nums u=[])∧PtsAt w (fun b=>base ≤ b) s u.subs
theorem StP.sub {w:World} {base b o:Nat} {u:Tr} (h:StP w base b o u) {p:Option Addr} {len cap:Nat} (hc:w.cell? ⟨b,o+2,none⟩=some (.slice p len cap)) {i:Nat} {c:Tr} (hi:u.subs[i]? = some c) {bs os:Nat} (hp:p=some ⟨bs,os,none⟩):StP w base bs (os+i * 4) c:=by
 obtain ⟨-,-,-,s,f,h4,-,hp9⟩:=h
 have e:s=.slice p len cap:=Option.some.inj (h4.c2.symm.trans hc)
 subst e
 generalize hl:u.subs=l at *
 cases hp9 with
 | nil p cap=>simp at hi
 | row g cap _ S F hlen hg hf hc9 hs =>
   injection hp with e1
   injection e1 with e2 e3
   subst e2 e3
   obtain ⟨k1,k2⟩:=hc9 i c hi
   rw [Nat.zero_add]
   exact ⟨hg,by omega,frozen_of hf,_,_,k1,k2,hs i c hi⟩
theorem StP.all {w:World} {base b0 o0:Nat} {t0:Tr} (h:StP w base b0 o0 t0) {b o:Nat} {u:Tr} (hv:LvOf w b0 o0 t0 b o u):StP w base b o u:=by
 induction hv with
 | top=>exact h
 | sub _ hc hi hp ih=>exact ih.sub hc hi hp
theorem lists_same:∀ (l l':List Tr),l.length=l'.length→(∀ (i:Nat) (c c':Tr),l[i]? = some c→l'[i]? = some c'→Rk.nums c=Rk.nums c'∧c.ndT=c'.ndT)→Rk.numsS l=Rk.numsS l'∧Tr.ndS l=Tr.ndS l'
 | [],[],_,_=>⟨rfl,rfl⟩
 | [],_ :: _,h,_=>by simp at h
 | _ :: _,[],h,_=>by simp at h
 | t :: l,t' :: l',h,hh=>by
   obtain ⟨a,b⟩:=hh 0 t t' rfl rfl
   obtain ⟨c,d⟩:=lists_same l l' (by simpa using h) fun i c c' h1 h2=>hh (i+1) c c' (by simpa using h1) (by simpa using h2)
   rw [Rk.numsS,Rk.numsS,Tr.ndS,Tr.ndS,a,b,c,d]
   exact ⟨rfl,rfl⟩
theorem stp_fn {w:World} {base:Nat} (u:Tr):∀ (b o:Nat) (u':Tr),StP w base b o u→StP w base b o u'→Rk.nums u=Rk.nums u'∧u.ndT=u'.ndT:=by
 induction u using Tr.rec_subs with
 | h u ih =>
   intro b o u' h h'
   have hs:=fun {p len cap} hc {i c} hi {bs os} hp=>h.sub (p:=p) (len:=len) (cap:=cap) hc (i:=i) (c:=c) hi (bs:=bs) (os:=os) hp
   have hs':=fun {p len cap} hc {i c} hi {bs os} hp=>h'.sub (p:=p) (len:=len) (cap:=cap) hc (i:=i) (c:=c) hi (bs:=bs) (os:=os) hp
   obtain ⟨-,-,-,s,f,h4,-,hp9⟩:=h
   obtain ⟨-,-,-,s',f',h4',-,hp9'⟩:=h'
   have e0:u.kind=u'.kind:=by have:=Option.some.inj (h4.c0.symm.trans h4'.c0);injection this
   have e1:u.num=u'.num:=by have:=Option.some.inj (h4.c1.symm.trans h4'.c1);injection this
   have e2:s=s':=Option.some.inj (h4.c2.symm.trans h4'.c2)
   subst e2
   have key:Rk.numsS u.subs=Rk.numsS u'.subs∧Tr.ndS u.subs=Tr.ndS u'.subs:=by
     obtain ⟨p,cap,es⟩:=hp9.slice
     obtain ⟨p',cap',es'⟩:=hp9'.slice
     subst es
     injection es' with e3 e4 e5
     refine lists_same _ _ e4 fun i c c' hi hi'=>?_
     have hadr:∃ bs,p=some ⟨bs,0,none⟩:=by
       obtain ⟨g,cap9,e9⟩:=hp9.addr hi
       injection e9 with e6
       exact ⟨g,e6⟩
     obtain ⟨bs,hbs⟩:=hadr
     exact ih c (List.mem_of_getElem? hi) bs (0+i * 4) c' (hs h4.c2 hi hbs) (hs' h4.c2 hi' hbs)
   rw [Rk.nums_eq,Rk.nums_eq u',Tr.ndT_eq,Tr.ndT_eq u',e0,e1,key.1,key.2]
   exact ⟨rfl,rfl⟩
theorem lvof_fn {w:World} {base b0 o0:Nat} {t0:Tr} (h:StP w base b0 o0 t0):LvFn (LvOf w b0 o0 t0):=fun b o u u' hv hv'=>stp_fn u b o u' (h.all hv) (h.all hv')
theorem lvof_at {w:World} {base b0 o0:Nat} {t0:Tr} (h:StP w base b0 o0 t0):LvAt w base (LvOf w b0 o0 t0):=fun b o u hv=>by
 obtain ⟨h1,h2,h3,s,f,h4,h5,h6⟩:=h.all hv
 obtain ⟨p,cap,rfl⟩:=h6.slice
 refine ⟨h1,h2,h4.c0,h4.c1,⟨p,cap,h4.c2, ?_,fun i c hi=>?_⟩,⟨f,h4.c3⟩,h3⟩
 · exact h6.len_le
 · have hadr:∃ bs,p=some ⟨bs,0,none⟩:=by
     obtain ⟨g,cap9,e9⟩:=h6.addr hi
     injection e9 with e6
     exact ⟨g,e6⟩
   obtain ⟨bs,hbs⟩:=hadr
   exact ⟨bs,0,hbs,LvOf.sub hv h4.c2 hi hbs⟩
theorem lvof_ok {w:World} {base b0 o0:Nat} {t0:Tr} (h:StP w base b0 o0 t0) (σ:Rk.Told):OksA (LvOf w b0 o0 t0) σ w:=fun N b o u hv _ hf n hn=>by
 obtain ⟨-,-,-,s,f,h4,h5,-⟩:=h.all hv
 have:f=true:=by have:=Option.some.inj (h4.c3.symm.trans hf);injection this
 rw [h5 this] at hn
 cases hn
end Go.Proofs.YtnaoiglbjkjogaaDoor
namespace Go.Proofs.YtnaoiglbjkjogaaDoor
open Go.RowKit
theorem set4P {w:World} {b:Nat} {x0 x1 x2 x3 y z:Value} {t:TypeId} (h:w.heap[b]? = some (.cells #[x0,x1,x2,x3] t)):(w.setCell ⟨b,2,none⟩ y).heap[b]? = some (.cells #[x0,x1,y,x3] t)∧((w.setCell ⟨b,2,none⟩ y).setCell ⟨b,3,none⟩ z).heap[b]? = some (.cells #[x0,x1,y,z] t):=by
 constructor <;> simp [World.setCell,Array.getElem?_modify,h]
theorem ownsRow_succP {W:World} {base:Nat} {e:TypeId} {size:Nat} {v:Value} {k:Nat} {xs:List Value} (h:W.ownsRow base e size v (k+1) xs):∃ g cap,v=.slice (some ⟨g,0,none⟩) (k+1) cap:=by
 rcases h.2 with ⟨_,h0⟩ | ⟨g,cap,_,rfl,_⟩
 · omega
 · exact ⟨g,cap,rfl⟩
theorem partof_any:∀ t:Tr,∀ (w:World) (B:Nat→Prop) (v:Value),NodeV w B v t→Calls Tryd.prog 64 #[v] w (PtEnd t w):=by
 intro t
 induction t using Tr.rec_subs with
 | h t ih =>
   intro w B v hv
   obtain ⟨s,rfl,hs⟩:=hv
   obtain ⟨p,cap,rfl,hlen⟩:=hs.slice
   have IH:=Lib.hid ih
   have HNU:=Lib.hid (Rk.nums_eq t)
   unfold Tr.cells
   generalize hts:t.subs=ts at *
   have HS:=Lib.hid hs;have HTS:=Lib.hid hts
   clear ih hs hts
   go_enter Tryd.func64,Tryd.ntmps64
   obtain ⟨ie,hi0,hz0,hz1,hz2⟩:=info_parts Tryd.infoPart
   have HI:=Lib.hid hi0;have HZ0:=Lib.hid hz0;have HZ1:=Lib.hid hz1;have HZ2:=Lib.hid hz2
   clear hi0 hz0 hz1 hz2
   have HW3:=Lib.hid (three_new w (.cells #[.int .i64 t.kind,.int .u64 (Oc.U t.w0),.int .u64 (Oc.U t.w1),.int .u64 (Oc.U t.w2),.int .u64 (Oc.U t.w3),.slice p ts.length cap,.int .i64 t.num,.int .i64 t.least,.int .i64 t.most,.bool t.bare] 37) (.cells #[.int .i64 0,.int .i64 0,.slice none 0 0,.bool false] 107) (.cells #[.int .i64 t.kind,.int .i64 t.num,.slice none 0 0,.bool (t.kind != 7)] 107))
   have HF0:=Lib.hid (show (t.kind != 7)=true→t.kind ≠ 7∧Rk.numsS (ts.take 0)=[] from fun h=>⟨by simpa using h,rfl⟩)
   go_wp2
   go_loopw [18] (fun iv wr=>∃ (ps:List (Tr × Value × Bool)) (sv:Value) (f:Bool),iv=.int .i64 ps.length∧ps.length ≤ ts.length∧Hid (ps.map (·.1)=ts.take ps.length)∧Hid (wr.ownsRow (w.heap.size+3) 107 4 sv ps.length (rowP ps)) ∧
     Hid (∀ (i:Nat) (t:Tr) (s:Value) (f:Bool),ps[i]? = some (t,s,f)→PtsAt wr (fun b=>w.heap.size+3 ≤ b∧sv.ownBlock ≠ some b) s t.subs∧(f=true→Rk.nums t=[]))∧Hid (Below w.heap.size w wr)∧w.heap.size+2 < wr.heap.size ∧
     Hid (wr.heap[w.heap.size]? = some (.cells #[.int .i64 t.kind,.int .u64 (Oc.U t.w0),.int .u64 (Oc.U t.w1),.int .u64 (Oc.U t.w2),.int .u64 (Oc.U t.w3),.slice p ts.length cap,.int .i64 t.num,.int .i64 t.least,.int .i64 t.most,.bool t.bare] 37))∧Hid (wr.heap[w.heap.size+1]? = some (.cells #[.int .i64 0,.int .i64 0,.slice none 0 0,.bool false] 107))∧Hid (wr.heap[w.heap.size+1+1]? = some (.cells #[.int .i64 t.kind,.int .i64 t.num,sv,.bool f] 107))∧Hid (f=true→t.kind ≠ 7∧Rk.numsS (ts.take ps.length)=[])∧Hid (∃ q l c,sv=.slice q l c)) (fun iv _=>ts.length - (intOf iv).toNat)
   case atStart =>
     exact ⟨[],.slice none 0 0,(t.kind != 7),rfl,Nat.zero_le _,Lib.hid (by simp),Lib.hid (World.ownsRow_nil _ _ _ _),Lib.hid (fun i t s f h=>by simp at h),Lib.hid (by go_grown),by simp,Lib.hid HW3.out.1,Lib.hid HW3.out.2.1,Lib.hid HW3.out.2.2,HF0,Lib.hid ⟨_,_,_,rfl⟩⟩
   case round =>
     obtain ⟨ps,sv,f,rfl,hm,hmap,hown,hsubs,HB,hsz,Z0,Z1,Z2,HFF,HSL⟩:=hrel
     clear HW3 HF0
     have wm:IntKind.i64.wrap ((ps.length:Int)+1)=(ps.length:Int)+1:=IntWalk.i64_in _ (by omega)
     by_cases hlt:ps.length < ts.length
     · obtain ⟨x,hx⟩:∃ x,ts[ps.length]? = some x:=⟨_,List.getElem?_eq_getElem hlt⟩
       obtain ⟨b1,o1,s1,rfl,-,t1,sub1⟩:=HS.out.get hx
       obtain ⟨d0,d1,d2,d3,d4,d5,d6,d7,d8,d9⟩:=t1.keep (HB.out.block _ t1.lt)
       obtain ⟨p1,c1,rfl,hl1⟩:=sub1.slice
       have HC:=Lib.hid (fun w9 hb=>IH.out x (List.mem_of_getElem? hx) w9 B (.agg (x.cells (.slice p1 x.subs.length c1))) ⟨_,rfl,sub1.later hb⟩)
       have HX:=Lib.hid hx
       have ZX:=Lib.hid (heap_alloc_new wr (.cells #[.int .i64 x.kind,.int .u64 (Oc.U x.w0),.int .u64 (Oc.U x.w1),.int .u64 (Oc.U x.w2),.int .u64 (Oc.U x.w3),.slice p1 x.subs.length c1,.int .i64 x.num,.int .i64 x.least,.int .i64 x.most,.bool x.bare] 37))
       unfold Tr.cells at HC
       clear t1 sub1 hx
       go_upto_region 5 with (fail)
       generalize hw1:World.alloc wr _=w1 at *
       have hb1:Below wr.heap.size wr w1:=by rw [← hw1];exact (Below.refl _ _).alloc (Nat.le_refl _) _
       have hs1:w1.heap.size=wr.heap.size+1:=by rw [← hw1];simp
       clear hw1 d0 d1 d2 d3 d4 d5 d6 d7 d8 d9
       go_wp2_with (first
         | (refine wpList_load_row rfl 37 (.tmp 5) rfl wr.heap.size rfl 37 _ (0,0) _ ZX.out Tryd.underlying37 rfl (by kernel_rfl) ?_)
         | fail)
       refine (HC.out w1 (HB.out.trans (hb1.mono HB.out.size))).mono ?_
       intro e w2 he2
       obtain ⟨s2,f2,rfl,hsub2,hfn2,hb2⟩:=he2
       obtain ⟨p2,c2,rfl⟩:=hsub2.slice
       have hb12:Below wr.heap.size wr w2:=hb1.trans (hb2.mono hb1.size)
       have HB2:=Lib.hid (HB.out.trans (hb12.mono HB.out.size))
       have HB12:=Lib.hid hb12
       have hs2:w1.heap.size ≤ w2.heap.size:=hb2.size
       have hown2:=(hown.out.kept (w':=w2) (row:=none) ⟨hb12.os,hb12.tape,hb12.output,hb12.size,fun k hk _=>hb12.block k hk⟩ (by
         cases h:Value.ownBlock sv with
         | none=>exact .inl rfl
         | some g=>exact .inr (by simp)))
       have hlt3:=hown.out.lt
       have HOWN2:=Lib.hid (hown2.alloc (.cells #[.int .i64 x.kind,.int .i64 x.num,.slice p2 x.subs.length c2,.bool f2] 107))
       have HSUB2:=Lib.hid hsub2;have HLT3:=Lib.hid hlt3;have HFN2:=Lib.hid hfn2
       have BX:=Lib.hid (heap_alloc_new w2 (.cells #[.int .i64 x.kind,.int .i64 x.num,.slice p2 x.subs.length c2,.bool f2] 107))
       have YM:=Lib.hid (show (w2.alloc (.cells #[.int .i64 x.kind,.int .i64 x.num,.slice p2 x.subs.length c2,.bool f2] 107)).heap[w.heap.size+1+1]? = some (.cells #[.int .i64 t.kind,.int .i64 t.num,sv,.bool f] 107) from heap_alloc_lt (keep_blk hb12 Z2.out))
       have hmb:w.heap.size+1+1 < w2.heap.size:=by have:=hb12.size;omega
       have HBb:=Lib.hid (show Below w2.heap.size w2 (w2.alloc (.cells #[.int .i64 x.kind,.int .i64 x.num,.slice p2 x.subs.length c2,.bool f2] 107)) from (Below.refl _ _).alloc (Nat.le_refl _) _)
       have HZb:=Lib.hid (show (w2.alloc (.cells #[.int .i64 x.kind,.int .i64 x.num,.slice p2 x.subs.length c2,.bool f2] 107)).heap.size=w2.heap.size+1 by simp)
       clear hown2 hsub2 hb1 hb2 hb12 hlt3 hfn2
       unfold ptC at *
       go_upto_region 6 with (fail)
       generalize w2.alloc (.cells #[.int .i64 x.kind,.int .i64 x.num,.slice p2 x.subs.length c2,.bool f2] 107)=wb at *
       have hzb:=HZb.out
       have HOWN3:=Lib.hid (HOWN2.out.alloc (.cells #[.int .i64 x.kind,.int .i64 x.num,.slice p2 x.subs.length c2,.bool f2] 107))
       have HNW:Hid (∀ (j:Nat) (u:Value),(#[.int .i64 x.kind,.int .i64 x.num,.slice p2 x.subs.length c2,.bool f2]:Array Value).toList[j]? = some u→(wb.alloc (.cells #[.int .i64 x.kind,.int .i64 x.num,.slice p2 x.subs.length c2,.bool f2] 107)).cell? ((⟨wb.heap.size,0,none⟩:Addr).add j)=some u):=Lib.hid (fun j u hu=>by
         have ea:(⟨wb.heap.size,0,none⟩:Addr).add j=⟨wb.heap.size,j,none⟩:=by unfold Addr.add;split <;> simp_all
         rw [ea,cell_new];simpa using hu)
       have HBA:Hid (w.heap.size+3 ≤ (wb.alloc (.cells #[.int .i64 x.kind,.int .i64 x.num,.slice p2 x.subs.length c2,.bool f2] 107)).heap.size):=Lib.hid (by simp;omega)
       have hml:ps.length+1 ≤ maxLen:=by unfold maxLen;omega
       have hbyt:(ps.length+1) * 48 ≤ 140737488355328:=by omega
       have hone:∀ u ∈ (#[.int .i64 x.kind,.int .i64 x.num,.slice p2 x.subs.length c2,.bool f2]:Array Value).toList,u.oneCell'=true:=by simp [Value.oneCell']
       have HYM2:=Lib.hid (heap_alloc_lt (o:=.cells #[.int .i64 x.kind,.int .i64 x.num,.slice p2 x.subs.length c2,.bool f2] 107) YM.out)
       have HBX2:=Lib.hid (heap_alloc_lt (o:=.cells #[.int .i64 x.kind,.int .i64 x.num,.slice p2 x.subs.length c2,.bool f2] 107) BX.out)
       have HZ2A:=Lib.hid (show (wb.alloc (.cells #[.int .i64 x.kind,.int .i64 x.num,.slice p2 x.subs.length c2,.bool f2] 107)).heap.size=wb.heap.size+1 by simp)
       have HBW:=Lib.hid (show Below wb.heap.size wb (wb.alloc (.cells #[.int .i64 x.kind,.int .i64 x.num,.slice p2 x.subs.length c2,.bool f2] 107)) from (Below.refl _ _).alloc (Nat.le_refl _) _)
       obtain ⟨q0,q1,q2,q3,-,-,-,-⟩:=four YM.out
       obtain ⟨r0,r1,r2,r3,-,-,-,-⟩:=four BX.out
       clear hzb
       have HMB:=Lib.hid (show w.heap.size+1+1 < (wb.alloc (.cells #[.int .i64 x.kind,.int .i64 x.num,.slice p2 x.subs.length c2,.bool f2] 107)).heap.size by have:=HZb.out;simp;omega)
       go_upto_region 7 with (first
         | (refine wpList_part1 rfl (.tmp 26) x p2 x.subs.length c2 f2 rfl rfl ?_)
         | (at_builtin;refine wpList_append_fresh _ rfl (.tmp 25) (.tmp 27) 105 rfl (w.heap.size+3) 107 ie _ 4 48 Tryd.underlying105 HI.out HZ0.out HZ1.out HZ2.out rfl (by decide) _ _ _ rfl HOWN3.out ⟨wb.heap.size,0,none⟩ 1 1 (#[.int .i64 x.kind,.int .i64 x.num,.slice p2 x.subs.length c2,.bool f2]:Array Value).toList rfl rfl HNW.out hone (by decide) hml hbyt HBA.out ?_;intro v4 w4 hown4 hgrow4 hwhere;unfold ptC at hgrow4 hwhere;obtain ⟨g4,cp4,rfl⟩:=ownsRow_succP hown4;have y4:=(hgrow4.block (w.heap.size+1+1) HMB.out (fun e=>by have:=(HLT3.out _ e.symm).1;omega)).trans HYM2.out;obtain ⟨m0,m1,m2,m3,fz0,fz1,fz2,fz3⟩:=four y4;have HG4:=Lib.hid hgrow4;have HW4:=Lib.hid hwhere;have HO4:=Lib.hid hown4;have Y4:=Lib.hid y4;clear hgrow4 hwhere hown4 y4)
         | fail)
       have HBX4:=Lib.hid ((HG4.out.block w2.heap.size (by have:=HZ2A.out;have:=HZb.out;omega) (fun e=>by have:=(HLT3.out _ e.symm).2;have:=HB12.out.size;omega)).trans HBX2.out)
       have HFR:=Lib.hid (fun (y z:Value) k (hk:k ≠ w.heap.size+1+1)=>(show ((w4.setCell ⟨w.heap.size+1+1,2,none⟩ y).setCell ⟨w.heap.size+1+1,3,none⟩ z).heap[k]? = w4.heap[k]? from (Below.heap_setCell _ _ _ _ hk).trans (Below.heap_setCell _ _ _ _ hk)))
       have hbx4:=(Below.heap_setCell w4 ⟨w.heap.size+1+1,2,none⟩ (.slice (some ⟨g4,0,none⟩) (ps.length+1) cp4) w2.heap.size (by show w2.heap.size ≠ w.heap.size+1+1;omega)).trans HBX4.out
       have hy5:=(set4P (y:=.slice (some ⟨g4,0,none⟩) (ps.length+1) cp4) (z:=.bool false) Y4.out).1
       have HS4:=Lib.hid (fun (y z:Value)=>(set4P (y:=y) (z:=z) Y4.out).2)
       clear q0 q1 q2 q3 r0 r1 r2 r3 m0 m1 m2 m3 fz0 fz1 fz2 fz3
       have HBX5:=Lib.hid hbx4
       clear hbx4
       obtain ⟨a0,a1,a2,a3,az0,az1,az2,az3⟩:=four hy5
       obtain ⟨r0,r1,r2,r3,-,-,-,-⟩:=four HBX5.out
       clear hy5
       have HE:=Lib.hid (show ∀ fl:Bool,(fl=true→f=true∧f2=true)→(∃ (ps':List (Tr × Value × Bool)) (sv':Value) (f':Bool),Value.int .i64 ((ps.length:Int)+1)=.int .i64 (ps'.length:Int)∧ps'.length ≤ ts.length∧Hid (ps'.map (·.1)=ts.take ps'.length)∧Hid (((w4.setCell ⟨w.heap.size+1+1,2,none⟩ (.slice (some ⟨g4,0,none⟩) (ps.length+1) cp4)).setCell ⟨w.heap.size+1+1,3,none⟩ (.bool fl)).ownsRow (w.heap.size+3) 107 4 sv' ps'.length (rowP ps')) ∧
           Hid (∀ (i:Nat) (t:Tr) (s:Value) (f:Bool),ps'[i]? = some (t,s,f)→PtsAt ((w4.setCell ⟨w.heap.size+1+1,2,none⟩ (.slice (some ⟨g4,0,none⟩) (ps.length+1) cp4)).setCell ⟨w.heap.size+1+1,3,none⟩ (.bool fl)) (fun b=>w.heap.size+3 ≤ b∧sv'.ownBlock ≠ some b) s t.subs∧(f=true→Rk.nums t=[]))∧Hid (Below w.heap.size w ((w4.setCell ⟨w.heap.size+1+1,2,none⟩ (.slice (some ⟨g4,0,none⟩) (ps.length+1) cp4)).setCell ⟨w.heap.size+1+1,3,none⟩ (.bool fl)))∧w.heap.size+2 < ((w4.setCell ⟨w.heap.size+1+1,2,none⟩ (.slice (some ⟨g4,0,none⟩) (ps.length+1) cp4)).setCell ⟨w.heap.size+1+1,3,none⟩ (.bool fl)).heap.size ∧
           Hid (((w4.setCell ⟨w.heap.size+1+1,2,none⟩ (.slice (some ⟨g4,0,none⟩) (ps.length+1) cp4)).setCell ⟨w.heap.size+1+1,3,none⟩ (.bool fl)).heap[w.heap.size]? = some (.cells #[.int .i64 t.kind,.int .u64 (Oc.U t.w0),.int .u64 (Oc.U t.w1),.int .u64 (Oc.U t.w2),.int .u64 (Oc.U t.w3),.slice (some ⟨b1,o1,none⟩) ts.length cap,.int .i64 t.num,.int .i64 t.least,.int .i64 t.most,.bool t.bare] 37))∧Hid (((w4.setCell ⟨w.heap.size+1+1,2,none⟩ (.slice (some ⟨g4,0,none⟩) (ps.length+1) cp4)).setCell ⟨w.heap.size+1+1,3,none⟩ (.bool fl)).heap[w.heap.size+1]? = some (.cells #[.int .i64 0,.int .i64 0,.slice none 0 0,.bool false] 107))∧Hid (((w4.setCell ⟨w.heap.size+1+1,2,none⟩ (.slice (some ⟨g4,0,none⟩) (ps.length+1) cp4)).setCell ⟨w.heap.size+1+1,3,none⟩ (.bool fl)).heap[w.heap.size+1+1]? = some (.cells #[.int .i64 t.kind,.int .i64 t.num,sv',.bool f'] 107))∧Hid (f'=true→t.kind ≠ 7∧Rk.numsS (ts.take ps'.length)=[])∧Hid (∃ q l c,sv'=.slice q l c)) from fun fl hfl=>by
         have hzb:=HZb.out;have hz2a:=HZ2A.out;have hg4s:=HG4.out.size;have hb12s:=HB12.out.size
         have key:∀ k,k < wr.heap.size→k < w.heap.size+3→w4.heap[k]? = wr.heap[k]?:=fun k hk hk2 =>
           (HG4.out.block k (by omega) (fun e=>by have:=(HLT3.out k e.symm).1;omega)).trans ((HBW.out.block k (by omega)).trans ((HBb.out.block k (by omega)).trans (HB12.out.block k hk)))
         refine ⟨ps ++ [(x,.slice p2 x.subs.length c2,f2)],.slice (some ⟨g4,0,none⟩) (ps.length+1) cp4,fl,by simp,by simp;omega,Lib.hid ?_,Lib.hid ?_,Lib.hid ?_,Lib.hid ?_, ?_,Lib.hid ?_,Lib.hid ?_,Lib.hid (HS4.out _ _),Lib.hid ?_,Lib.hid ⟨_,_,_,rfl⟩⟩
         · rw [List.map_append,hmap.out,List.length_append]
           show List.take ps.length ts ++ [x]=List.take (ps.length+1) ts
           rw [List.take_add_one,HX.out];rfl
         · rw [rowP_snoc,List.length_append]
           exact ownsRow_setCell_below (ownsRow_setCell_below HO4.out (by show w.heap.size+1+1 < w.heap.size+3;omega) _) (by show w.heap.size+1+1 < w.heap.size+3;omega) _
         · intro i t' s' f' hi
           have kp:∀ {s:Value} {l:List Tr},PtsAt w4 (fun b=>w.heap.size+3 ≤ b∧Value.ownBlock (.slice (some ⟨g4,0,none⟩) (ps.length+1) cp4) ≠ some b) s l→PtsAt ((w4.setCell ⟨w.heap.size+1+1,2,none⟩ (.slice (some ⟨g4,0,none⟩) (ps.length+1) cp4)).setCell ⟨w.heap.size+1+1,3,none⟩ (.bool fl)) (fun b=>w.heap.size+3 ≤ b∧Value.ownBlock (.slice (some ⟨g4,0,none⟩) (ps.length+1) cp4) ≠ some b) s l:=fun h=>h.keep fun b _ hb=>HFR.out _ _ b (by have:=hb.1;omega)
           by_cases hip:i < ps.length
           · rw [List.getElem?_append_left hip] at hi
             obtain ⟨h1,h2⟩:=hsubs.out i t' s' f' hi
             exact ⟨kp (parts_step ((((h1.later HB12.out).later HBb.out).later HBW.out)) HG4.out HW4.out),h2⟩
           · rw [List.getElem?_append_right (by omega)] at hi
             have hi0:i - ps.length=0:=by
               by_cases h0:i - ps.length=0
               · exact h0
               · rw [List.getElem?_eq_none (by simp;omega)] at hi;cases hi
             rw [hi0] at hi
             simp only [List.getElem?_cons_zero,Option.some.injEq,Prod.mk.injEq] at hi
             obtain ⟨rfl,rfl,rfl⟩:=hi
             refine ⟨kp (parts_step ?_ HG4.out HW4.out),HFN2.out⟩
             refine (((HSUB2.out.later HBb.out).later HBW.out).mono fun b _ hb=>⟨by omega,fun e=>?_⟩)
             have:=(HLT3.out b e).2
             omega
         · refine Below.setCell (Below.setCell ?_ (by show w.heap.size ≤ w.heap.size+1+1;omega) _) (by show w.heap.size ≤ w.heap.size+1+1;omega) _
           exact (((HB2.out.trans (HBb.out.mono HB2.out.size)).trans (HBW.out.mono (by have:=HB2.out.size;omega))).grown HG4.out (by have:=HB2.out.size;omega) (fun k e=>by have:=(HLT3.out k e).1;omega))
         · simp only [World.setCell];simp;omega
         · exact (HFR.out _ _ _ (by omega)).trans ((key _ (by omega) (by omega)).trans Z0.out)
         · exact (HFR.out _ _ _ (by omega)).trans ((key _ (by omega) (by omega)).trans Z1.out)
         · intro h
           obtain ⟨h1,h2⟩:=hfl h
           obtain ⟨h3,h4⟩:=HFF.out h1
           refine ⟨h3, ?_⟩
           rw [List.length_append]
           show Rk.numsS (List.take (ps.length+1) ts)=[]
           rw [List.take_add_one,HX.out,Rk.numsS_append,h4]
           show [] ++ Rk.numsS [x]=[]
           rw [Rk.numsS,HFN2.out h2];rfl)
       cases f with
       | true =>
         cases f2 with
         | true =>
           go_wp2
           exact ⟨HE.out true (fun _=>⟨rfl,rfl⟩),by simp [intOf];omega⟩
         | false =>
           go_wp2
           exact ⟨HE.out false (fun h=>by cases h),by simp [intOf];omega⟩
       | false =>
         go_wp2
         exact ⟨HE.out false (fun h=>by cases h),by simp [intOf];omega⟩
     · have hlen2:ps.length=ts.length:=by omega
       have hmap2:ps.map (·.1)=ts:=by rw [hmap.out,hlen2,List.take_length]
       have hlt3:=hown.out.lt
       have htr:=parts_of_row (B':=fun b=>w.heap.size+3 ≤ b) hown.out (by omega) hsubs.out (fun b hb=>hb.1) (fun g hg=>(hlt3 g hg).1)
       rw [hmap2] at htr
       have HTR:=Lib.hid htr
       have HNN:=Lib.hid (show f=true→Rk.nums t=[] from fun h=>by
         obtain ⟨h1,h2⟩:=HFF.out h
         rw [hlen2,List.take_length] at h2
         rw [HNU.out,if_neg h1,h2])
       obtain ⟨q,l,c,rfl⟩:=HSL.out
       clear htr hlt3 hmap2
       go_wp2_with (first
         | (refine wpList_load_row rfl 107 (.tmp 3) rfl (w.heap.size+1+1) rfl 107 _ (0,0) _ Z2.out Tryd.underlying107 rfl (by kernel_rfl) ?_)
         | (refine wpList_store_row rfl 107 (.tmp 2) (.tmp 38) rfl (w.heap.size+1) #[.int .i64 t.kind,.int .i64 t.num,.slice q l c,.bool f] rfl rfl 107 _ Z1.out (by kernel_rfl) rfl (by simp [Value.oneCell']) ?_)
         | fail)
       refine bodyPost_ret (results_cell_row rfl _ _ (w.heap.size+1) 107 #[.int .i64 t.kind,.int .i64 t.num,.slice q l c,.bool f] (0,0) _ rfl (heap_setRow Z1.out) Tryd.underlying107 rfl (by kernel_rfl)) rfl ⟨.slice q l c,f,rfl, ?_,HNN.out, ?_⟩
       · exact (HTS.out ▸ HTR.out.keep fun b _ hb=>heap_setRow_other _ _ _ (by omega)).mono fun b _ hb=>by omega
       · exact below_setRow HB.out (Nat.le_succ _) _
end Go.Proofs.YtnaoiglbjkjogaaDoor
namespace Go.Proofs.YtnaoiglbjkjogaaDoor
open Go.RowKit
theorem Tryd.infoSpanB:(Tryd.prog.info? 70).map (fun i=>(i.zero,i.size,i.bytes))=some (some (.agg #[.int .i64 0,.int .i64 0]),2,16):=by kernel_rfl
theorem make_spans (ty:TypeId) (ht:Tryd.prog.underlying ty=some (.slice 70)) (n:Nat) (hn:n ≤ 1000000) (w:World):(Instr.makeSlice ty (.int .i64 n) (.int .i64 n)).run Tryd.prog w=.ok (.slice (some ⟨w.heap.size,0,none⟩) n n) (w.alloc (.cells (sp n fun _=>(0,0)) 70)):=by
 obtain ⟨ie,hi,hz0,hz1,hz2⟩:=info_parts Tryd.infoSpanB
 have h:=run_make (P:=Tryd.prog) w ty 70 ie _ ht hi hz0 .i64 .i64 n n (by omega) (Int.le_refl _) (by rw [hz2];omega) (by omega)
 simp only [Int.toNat_natCast,hz1] at h
 have e:madeCells (Value.agg #[.int .i64 0,.int .i64 0]).cells (n * 2)=sp n fun _=>(0,0):=by
   apply Array.ext
   · rw [size_madeCells,sp_size]
   · intro i h1 h2
     rcases Nat.mod_two_eq_zero_or_one i with hm | hm <;> simp [madeCells,sp,Value.cells,hm]
 rw [e] at h
 exact h
def halfN (i:Nat) (j:Nat):Int × Int:=if j < i then (-1,-1) else (0,0)
theorem halfN_zero:halfN 0=fun _=>(0,0):=by funext j;simp [halfN]
theorem halfN_at (i:Nat):halfN (i+1) i=(-1,-1):=by simp [halfN]
theorem halfN_ne (i:Nat):∀ j,j ≠ i→halfN (i+1) j=halfN i j:=fun j hj=>by
 unfold halfN
 by_cases h:j < i
 · rw [if_pos h,if_pos (by omega)]
 · rw [if_neg h,if_neg (by omega)]
theorem halfN_all (n:Nat):sp n (halfN n)=sp n fun _=>(-1,-1):=by
 unfold sp;congr 1;funext i
 have:=i.isLt
 rw [show halfN n (i.val / 2)=(-1,-1) from if_pos (by omega)]
theorem two_cells {w:World} {b:Nat} {x0 x1:Value} {t:TypeId} (h:w.heap[b]? = some (.cells #[x0,x1] t)):w.cell? ⟨b,0,none⟩=some x0∧w.cell? ⟨b,1,none⟩=some x1:=by
 simp [World.cell?,h]
theorem four_new (w:World) (a b c d:Obj):((((w.alloc a).alloc b).alloc c).alloc d).heap[w.heap.size]? = some a∧((((w.alloc a).alloc b).alloc c).alloc d).heap[w.heap.size+1]? = some b∧((((w.alloc a).alloc b).alloc c).alloc d).heap[w.heap.size+1+1]? = some c∧((((w.alloc a).alloc b).alloc c).alloc d).heap[w.heap.size+1+1+1]? = some d:=by
 obtain ⟨h1,h2,h3⟩:=three_new w a b c
 refine ⟨heap_alloc_lt h1,heap_alloc_lt h2,heap_alloc_lt h3, ?_⟩
 have:=heap_alloc_new (((w.alloc a).alloc b).alloc c) d
 rwa [show (((w.alloc a).alloc b).alloc c).heap.size=w.heap.size+1+1+1 by simp] at this
def NtEnd (n:Nat) (w:World) (e:Ending) (w':World):Prop:=∃ sb tb,e=.returned (.agg #[.slice (some ⟨sb,0,none⟩) n n,.slice (some ⟨tb,0,none⟩) n n])∧w.heap.size ≤ sb∧w.heap.size ≤ tb ∧
 w'.heap[sb]? = some (.cells (sp n fun _=>(-1,-1)) 70)∧w'.heap[tb]? = some (.cells (bl n fun _=>false) 4)∧Below w.heap.size w w'
theorem newteller_any (g:Nat) (hg:g ≤ 999) (w:World):Calls Tryd.prog 61 #[.int .i64 (g:Int)] w (NtEnd (g+1) w):=by
 have wg:IntKind.i64.wrap ((g:Int)+1)=((g+1:Nat):Int):=by rw [IntWalk.i64_in _ (by omega)];omega
 have hms:=fun w=>make_spans 64 Tryd.underlying64 (g+1) (by omega) w
 have hmb:=fun w=>make_bools 99 Tryd.underlying99 (g+1) (by omega) w
 have hn1:g+1 ≤ 1000:=by omega
 generalize g+1=n at *
 go_enter Tryd.func61,Tryd.ntmps61
 go_upto_region 1 with (fail)
 go_region
 · have HH:=Lib.hid (four_new w (.cells #[.slice none 0 0,.slice none 0 0] 101) (.cells (sp n fun _=>(0,0)) 70) (.cells (bl n fun _=>false) 4) (.cells #[.slice (some ⟨w.heap.size+1,0,none⟩) n n,.slice (some ⟨w.heap.size+1+1,0,none⟩) n n] 101))
   have HBW:=Lib.hid (show Below w.heap.size w ((((w.alloc (.cells #[.slice none 0 0,.slice none 0 0] 101)).alloc (.cells (sp n fun _=>(0,0)) 70)).alloc (.cells (bl n fun _=>false) 4)).alloc (.cells #[.slice (some ⟨w.heap.size+1,0,none⟩) n n,.slice (some ⟨w.heap.size+1+1,0,none⟩) n n] 101)).drew from (((((Below.refl _ _).alloc (Nat.le_refl _) _).alloc (by simp) _).alloc (by simp;omega) _).alloc (by simp;omega) _).drew)
   have YZ0:=Lib.hid (show (((((w.alloc (.cells #[.slice none 0 0,.slice none 0 0] 101)).alloc (.cells (sp n fun _=>(0,0)) 70)).alloc (.cells (bl n fun _=>false) 4)).alloc (.cells #[.slice (some ⟨w.heap.size+1,0,none⟩) n n,.slice (some ⟨w.heap.size+1+1,0,none⟩) n n] 101)).drew).heap[w.heap.size]? = some (.cells #[.slice none 0 0,.slice none 0 0] 101) from HH.out.1)
   have Y10:=Lib.hid (show (((((w.alloc (.cells #[.slice none 0 0,.slice none 0 0] 101)).alloc (.cells (sp n fun _=>(0,0)) 70)).alloc (.cells (bl n fun _=>false) 4)).alloc (.cells #[.slice (some ⟨w.heap.size+1,0,none⟩) n n,.slice (some ⟨w.heap.size+1+1,0,none⟩) n n] 101)).drew).heap[w.heap.size+1]? = some (.cells (sp n fun _=>(0,0)) 70) from HH.out.2.1)
   have Y20:=Lib.hid (show (((((w.alloc (.cells #[.slice none 0 0,.slice none 0 0] 101)).alloc (.cells (sp n fun _=>(0,0)) 70)).alloc (.cells (bl n fun _=>false) 4)).alloc (.cells #[.slice (some ⟨w.heap.size+1,0,none⟩) n n,.slice (some ⟨w.heap.size+1+1,0,none⟩) n n] 101)).drew).heap[w.heap.size+1+1]? = some (.cells (bl n fun _=>false) 4) from HH.out.2.2.1)
   have Y30:=Lib.hid (show (((((w.alloc (.cells #[.slice none 0 0,.slice none 0 0] 101)).alloc (.cells (sp n fun _=>(0,0)) 70)).alloc (.cells (bl n fun _=>false) 4)).alloc (.cells #[.slice (some ⟨w.heap.size+1,0,none⟩) n n,.slice (some ⟨w.heap.size+1+1,0,none⟩) n n] 101)).drew).heap[w.heap.size+1+1+1]? = some (.cells #[.slice (some ⟨w.heap.size+1,0,none⟩) n n,.slice (some ⟨w.heap.size+1+1,0,none⟩) n n] 101) from HH.out.2.2.2)
   generalize World.drew _=W0 at *
   clear HH
   obtain ⟨m0,m1⟩:=two_cells Y30.out
   go_wp2
   clear m0 m1
   go_loopw [15] (fun iv wr=>∃ i:Nat,iv=.int .i64 i∧i ≤ n∧Hid (wr.heap[w.heap.size+1]? = some (.cells (sp n (halfN i)) 70))∧Hid (wr.heap[w.heap.size+1+1]? = some (.cells (bl n fun _=>false) 4))∧Hid (wr.heap[w.heap.size+1+1+1]? = some (.cells #[.slice (some ⟨w.heap.size+1,0,none⟩) n n,.slice (some ⟨w.heap.size+1+1,0,none⟩) n n] 101))∧Hid (wr.heap[w.heap.size]? = some (.cells #[.slice none 0 0,.slice none 0 0] 101))∧Hid (Below w.heap.size w wr)) (fun iv _=>n - (intOf iv).toNat)
   case atStart=>exact ⟨0,rfl,Nat.zero_le _,by rw [show halfN 0=fun _=>(0,0) from halfN_zero];exact Y10,Y20,Y30,YZ0,HBW⟩
   case round =>
     clear YZ0 Y10 Y20 Y30 HBW
     obtain ⟨i,rfl,hi,YS,YT,YM,YZ,HB⟩:=hrel
     have wi:IntKind.i64.wrap ((i:Int)+1)=(i:Int)+1:=IntWalk.i64_in _ (by omega)
     by_cases hlt:i < n
     · go_upto_region 5 with (fail)
       refine Ri.wp_region_frame (by kernel_rfl) (by kernel_rfl) (by kernel_rfl) (by kernel_rfl)
         (fun L v w'=>(L 5=false→Below wr.heap.size wr w')∧(L 5=true→w'.heap[w.heap.size+1]? = some (.cells (sp n (halfN (i+1))) 70)∧Touch [w.heap.size+1] wr w')∧(L 5=true→L 0=true)∧(L 5=true→L 1=true)∧(L 5=true→L 2=true)∧(L 5=true→L 3=true)∧(L 5=true→L 4=true)∧(L 0=true→v 0=.pointer (some ⟨w.heap.size+1+1+1,0,none⟩))∧(L 1=true→v 1=.slice (some ⟨w.heap.size+1,0,none⟩) n n)∧(L 2=true→v 2=.int .i64 (i:Int))∧(L 3=true→v 3=.agg #[.int .i64 (-1),.int .i64 (-1)])∧(L 4=true→v 4=.pointer (some ⟨w.heap.size+1,i * 2,none⟩)))
         ?_ ?_ ?_
       · exact ⟨fun _=>(Below.refl _ _).drew,by simp,by simp,by simp,by simp,by simp,by simp,by simp,by simp,by simp,by simp,by simp⟩
       · intro i hi9 L v w9 xa hI hL hd hv ho
         have hi':i=0 ∨ i=1 ∨ i=2 ∨ i=3 ∨ i=4 ∨ i=5:=by simp at hi9;omega
         obtain ⟨hbf,hfin,d0,d1,d2,d3,d4,q0,q1,q2,q3,q4⟩:=hI
         rcases hi' with rfl | rfl | rfl | rfl | rfl | rfl
         · have e3:xa.tmps.getD 3 undef=.pointer (some ⟨w.heap.size+1+1+1,0,none⟩):=ho 3 (by kernel_rfl)
           have hl9:L 5=false:=by cases h:L 5 with | false=>rfl | true=>rw [d0 h] at hL;cases hL
           have hb:=hbf hl9
           refine Ri.step_plain rfl rfl (fun K' hK=>?_)
           go_simp
           exact hK _ _ ⟨_,_,rfl,rfl,(fun _=>hb),(fun h=>Bool.noConfusion (hl9.symm.trans h)),(fun _=>rfl),d1,d2,d3,d4,(fun _=>rfl),q1,q2,q3,q4⟩
         · have l0:L 0=true:=by have:=hd _ rfl;simp [Region.binds] at this;simp [this]
           have f0:=(hv 0 18 rfl l0).trans (q0 l0)
           have hl9:L 5=false:=by cases h:L 5 with | false=>rfl | true=>rw [d1 h] at hL;cases hL
           have hb:=hbf hl9
           refine Ri.step_plain rfl rfl (fun K' hK=>?_)
           obtain ⟨b0,b1⟩:=two_cells (keep_blk hb YM.out)
           go_simp
           exact hK _ _ ⟨_,_,rfl,rfl,(fun _=>hb),(fun h=>Bool.noConfusion (hl9.symm.trans h)),d0,(fun _=>rfl),d2,d3,d4,q0,(fun _=>rfl),q2,q3,q4⟩
         · have e4:xa.tmps.getD 4 undef=.int .i64 (i:Int):=ho 4 (by kernel_rfl)
           have hl9:L 5=false:=by cases h:L 5 with | false=>rfl | true=>rw [d2 h] at hL;cases hL
           have hb:=hbf hl9
           refine Ri.step_plain rfl rfl (fun K' hK=>?_)
           go_simp
           exact hK _ _ ⟨_,_,rfl,rfl,(fun _=>hb),(fun h=>Bool.noConfusion (hl9.symm.trans h)),d0,d1,(fun _=>rfl),d3,d4,q0,q1,(fun _=>rfl),q3,q4⟩
         · have hl9:L 5=false:=by cases h:L 5 with | false=>rfl | true=>rw [d3 h] at hL;cases hL
           have hb:=hbf hl9
           refine Ri.step_plain rfl rfl (fun K' hK=>?_)
           go_simp
           refine (rknowhere_any _).mono ?_
           rintro e w8 ⟨rfl,hb8⟩
           exact hK _ _ ⟨_,_,rfl,rfl,(fun _=>hb.trans (hb8.mono hb.size)),(fun h=>Bool.noConfusion (hl9.symm.trans h)),d0,d1,d2,(fun _=>rfl),d4,q0,q1,q2,(fun _=>rfl),q4⟩
         · have l0:L 1=true∧L 2=true:=by have:=hd _ rfl;simp [Region.binds] at this;simp [this]
           have f1:=(hv 1 19 rfl l0.1).trans (q1 l0.1)
           have f2:=(hv 2 20 rfl l0.2).trans (q2 l0.2)
           have hl9:L 5=false:=by cases h:L 5 with | false=>rfl | true=>rw [d4 h] at hL;cases hL
           have hb:=hbf hl9
           refine Ri.step_plain rfl rfl (fun K' hK=>?_)
           go_simp
           exact hK _ _ ⟨_,_,rfl,rfl,(fun _=>hb),(fun h=>Bool.noConfusion (hl9.symm.trans h)),d0,d1,d2,d3,(fun _=>rfl),q0,q1,q2,q3,(fun _=>rfl)⟩
         · have l0:L 4=true∧L 3=true:=by have:=hd _ rfl;simp [Region.binds] at this;simp [this]
           have f4:=(hv 4 22 rfl l0.1).trans (q4 l0.1)
           have f3:=(hv 3 21 rfl l0.2).trans (q3 l0.2)
           have h0:L 0=true:=by have:=hd _ rfl;simp [Region.binds] at this;simp [this]
           have h1:L 1=true:=by have:=hd _ rfl;simp [Region.binds] at this;simp [this]
           have h2:L 2=true:=by have:=hd _ rfl;simp [Region.binds] at this;simp [this]
           have h3:L 3=true:=by have:=hd _ rfl;simp [Region.binds] at this;simp [this]
           have h4:L 4=true:=by have:=hd _ rfl;simp [Region.binds] at this;simp [this]
           have hb:=hbf hL
           refine Ri.step_plain rfl rfl (fun K' hK=>?_)
           obtain ⟨c0,c1,c2,c3⟩:=sp_cell hlt (keep_blk hb YS.out)
           go_simp
           exact hK _ _ ⟨_,undef,rfl,rfl,(fun h=>by cases h),(fun _=>⟨sp_put hlt (keep_blk hb YS.out) (halfN_at i) (halfN_ne i),(Touch.of_below _ hb).setCells (b:=w.heap.size+1) (by simp) (i * 2) [.int .i64 (-1),.int .i64 (-1)]⟩),(fun _=>h0),(fun _=>h1),(fun _=>h2),(fun _=>h3),(fun _=>h4),q0,q1,q2,q3,q4⟩
       · rintro v w9 ⟨-,hfin,-,-,-,-,-,-,-,-,-,-⟩
         have HF:=Lib.hid (hfin rfl)
         simp only [Ri.frame,List.zipIdx,List.foldl_cons,List.foldl_nil,if_true,List.setIfInBounds_toArray,List.set_cons_zero,List.set_cons_succ,Nat.reduceAdd]
         clear hfin
         generalize v 0=y0;generalize v 1=y1;generalize v 2=y2;generalize v 3=y3;generalize v 4=y4
         have HL:=Lib.hid (show w.heap.size < wr.heap.size from (Array.getElem?_eq_some_iff.1 YZ.out).1)
         have hs1:=(Array.getElem?_eq_some_iff.1 YS.out).1;have ht1:=(Array.getElem?_eq_some_iff.1 YT.out).1;have hm1:=(Array.getElem?_eq_some_iff.1 YM.out).1
         have X1:=Lib.hid ((HF.out.2.block _ ht1 (by simp only [List.mem_singleton];omega)).trans YT.out)
         have X2:=Lib.hid ((HF.out.2.block _ hm1 (by simp only [List.mem_singleton];omega)).trans YM.out)
         have X3:=Lib.hid ((HF.out.2.block _ HL.out (by simp only [List.mem_singleton];omega)).trans YZ.out)
         have X4:=Lib.hid (HB.out.trans (HF.out.2.below (B:=w.heap.size) (by intro k hk;simp only [List.mem_singleton] at hk;omega) HB.out.size))
         clear hs1 ht1 hm1
         go_wp2
         exact ⟨⟨i+1,by go_num,by omega,Lib.hid HF.out.1,X1,X2,X3,X4⟩,by simp [intOf];omega⟩
     · obtain rfl:n=i:=by omega
       obtain ⟨m0,m1⟩:=two_cells YM.out
       have HS:=Lib.hid (halfN_all n)
       have HM:=Lib.hid (show w.heap.size < w.heap.size+1∧w.heap.size < w.heap.size+1+1 by omega)
       clear hlt
       go_wp2_with (first
         | (refine wpList_load_row rfl 101 (.tmp 3) rfl (w.heap.size+1+1+1) rfl 101 _ (0,0) _ YM.out Tryd.underlying101 rfl (by kernel_rfl) ?_)
         | (refine wpList_store_row rfl 101 (.tmp 2) (.tmp 24) rfl (w.heap.size) #[.slice (some ⟨w.heap.size+1,0,none⟩) n n,.slice (some ⟨w.heap.size+1+1,0,none⟩) n n] rfl rfl 101 _ YZ.out (by kernel_rfl) rfl (by simp [Value.oneCell']) ?_)
         | fail)
       refine bodyPost_ret (results_cell_row rfl _ _ (w.heap.size) 101 #[.slice (some ⟨w.heap.size+1,0,none⟩) n n,.slice (some ⟨w.heap.size+1+1,0,none⟩) n n] (0,0) _ rfl (heap_setRow YZ.out) Tryd.underlying101 rfl (by kernel_rfl)) rfl ⟨w.heap.size+1,w.heap.size+1+1,rfl,by omega,by omega, ?_, ?_, ?_⟩
       · rw [heap_setRow_other _ _ _ (by omega),← HS.out];exact YS.out
       · rw [heap_setRow_other _ _ _ (by omega)];exact YT.out
       · exact below_setRow HB.out (Nat.le_refl _) _
 · have HH:=Lib.hid (four_new w (.cells #[.slice none 0 0,.slice none 0 0] 101) (.cells (sp n fun _=>(0,0)) 70) (.cells #[.slice (some ⟨w.heap.size+1,0,none⟩) n n,.slice (some ⟨w.heap.size+1+1+1,0,none⟩) n n] 101) (.cells (bl n fun _=>false) 4))
   have HBW:=Lib.hid (show Below w.heap.size w ((((w.alloc (.cells #[.slice none 0 0,.slice none 0 0] 101)).alloc (.cells (sp n fun _=>(0,0)) 70)).alloc (.cells #[.slice (some ⟨w.heap.size+1,0,none⟩) n n,.slice (some ⟨w.heap.size+1+1+1,0,none⟩) n n] 101)).alloc (.cells (bl n fun _=>false) 4)).drew from (((((Below.refl _ _).alloc (Nat.le_refl _) _).alloc (by simp) _).alloc (by simp;omega) _).alloc (by simp;omega) _).drew)
   have YZ0:=Lib.hid (show (((((w.alloc (.cells #[.slice none 0 0,.slice none 0 0] 101)).alloc (.cells (sp n fun _=>(0,0)) 70)).alloc (.cells #[.slice (some ⟨w.heap.size+1,0,none⟩) n n,.slice (some ⟨w.heap.size+1+1+1,0,none⟩) n n] 101)).alloc (.cells (bl n fun _=>false) 4)).drew).heap[w.heap.size]? = some (.cells #[.slice none 0 0,.slice none 0 0] 101) from HH.out.1)
   have Y10:=Lib.hid (show (((((w.alloc (.cells #[.slice none 0 0,.slice none 0 0] 101)).alloc (.cells (sp n fun _=>(0,0)) 70)).alloc (.cells #[.slice (some ⟨w.heap.size+1,0,none⟩) n n,.slice (some ⟨w.heap.size+1+1+1,0,none⟩) n n] 101)).alloc (.cells (bl n fun _=>false) 4)).drew).heap[w.heap.size+1]? = some (.cells (sp n fun _=>(0,0)) 70) from HH.out.2.1)
   have Y20:=Lib.hid (show (((((w.alloc (.cells #[.slice none 0 0,.slice none 0 0] 101)).alloc (.cells (sp n fun _=>(0,0)) 70)).alloc (.cells #[.slice (some ⟨w.heap.size+1,0,none⟩) n n,.slice (some ⟨w.heap.size+1+1+1,0,none⟩) n n] 101)).alloc (.cells (bl n fun _=>false) 4)).drew).heap[w.heap.size+1+1]? = some (.cells #[.slice (some ⟨w.heap.size+1,0,none⟩) n n,.slice (some ⟨w.heap.size+1+1+1,0,none⟩) n n] 101) from HH.out.2.2.1)
   have Y30:=Lib.hid (show (((((w.alloc (.cells #[.slice none 0 0,.slice none 0 0] 101)).alloc (.cells (sp n fun _=>(0,0)) 70)).alloc (.cells #[.slice (some ⟨w.heap.size+1,0,none⟩) n n,.slice (some ⟨w.heap.size+1+1+1,0,none⟩) n n] 101)).alloc (.cells (bl n fun _=>false) 4)).drew).heap[w.heap.size+1+1+1]? = some (.cells (bl n fun _=>false) 4) from HH.out.2.2.2)
   generalize World.drew _=W0 at *
   clear HH
   obtain ⟨m0,m1⟩:=two_cells Y20.out
   go_wp2
   clear m0 m1
   go_loopw [15] (fun iv wr=>∃ i:Nat,iv=.int .i64 i∧i ≤ n∧Hid (wr.heap[w.heap.size+1]? = some (.cells (sp n (halfN i)) 70))∧Hid (wr.heap[w.heap.size+1+1+1]? = some (.cells (bl n fun _=>false) 4))∧Hid (wr.heap[w.heap.size+1+1]? = some (.cells #[.slice (some ⟨w.heap.size+1,0,none⟩) n n,.slice (some ⟨w.heap.size+1+1+1,0,none⟩) n n] 101))∧Hid (wr.heap[w.heap.size]? = some (.cells #[.slice none 0 0,.slice none 0 0] 101))∧Hid (Below w.heap.size w wr)) (fun iv _=>n - (intOf iv).toNat)
   case atStart=>exact ⟨0,rfl,Nat.zero_le _,by rw [show halfN 0=fun _=>(0,0) from halfN_zero];exact Y10,Y30,Y20,YZ0,HBW⟩
   case round =>
     clear YZ0 Y10 Y20 Y30 HBW
     obtain ⟨i,rfl,hi,YS,YT,YM,YZ,HB⟩:=hrel
     have wi:IntKind.i64.wrap ((i:Int)+1)=(i:Int)+1:=IntWalk.i64_in _ (by omega)
     by_cases hlt:i < n
     · go_upto_region 5 with (fail)
       refine Ri.wp_region_frame (by kernel_rfl) (by kernel_rfl) (by kernel_rfl) (by kernel_rfl)
         (fun L v w'=>(L 5=false→Below wr.heap.size wr w')∧(L 5=true→w'.heap[w.heap.size+1]? = some (.cells (sp n (halfN (i+1))) 70)∧Touch [w.heap.size+1] wr w')∧(L 5=true→L 0=true)∧(L 5=true→L 1=true)∧(L 5=true→L 2=true)∧(L 5=true→L 3=true)∧(L 5=true→L 4=true)∧(L 0=true→v 0=.pointer (some ⟨w.heap.size+1+1,0,none⟩))∧(L 1=true→v 1=.slice (some ⟨w.heap.size+1,0,none⟩) n n)∧(L 2=true→v 2=.int .i64 (i:Int))∧(L 3=true→v 3=.agg #[.int .i64 (-1),.int .i64 (-1)])∧(L 4=true→v 4=.pointer (some ⟨w.heap.size+1,i * 2,none⟩)))
         ?_ ?_ ?_
       · exact ⟨fun _=>(Below.refl _ _).drew,by simp,by simp,by simp,by simp,by simp,by simp,by simp,by simp,by simp,by simp,by simp⟩
       · intro i hi9 L v w9 xa hI hL hd hv ho
         have hi':i=0 ∨ i=1 ∨ i=2 ∨ i=3 ∨ i=4 ∨ i=5:=by simp at hi9;omega
         obtain ⟨hbf,hfin,d0,d1,d2,d3,d4,q0,q1,q2,q3,q4⟩:=hI
         rcases hi' with rfl | rfl | rfl | rfl | rfl | rfl
         · have e3:xa.tmps.getD 3 undef=.pointer (some ⟨w.heap.size+1+1,0,none⟩):=ho 3 (by kernel_rfl)
           have hl9:L 5=false:=by cases h:L 5 with | false=>rfl | true=>rw [d0 h] at hL;cases hL
           have hb:=hbf hl9
           refine Ri.step_plain rfl rfl (fun K' hK=>?_)
           go_simp
           exact hK _ _ ⟨_,_,rfl,rfl,(fun _=>hb),(fun h=>Bool.noConfusion (hl9.symm.trans h)),(fun _=>rfl),d1,d2,d3,d4,(fun _=>rfl),q1,q2,q3,q4⟩
         · have l0:L 0=true:=by have:=hd _ rfl;simp [Region.binds] at this;simp [this]
           have f0:=(hv 0 18 rfl l0).trans (q0 l0)
           have hl9:L 5=false:=by cases h:L 5 with | false=>rfl | true=>rw [d1 h] at hL;cases hL
           have hb:=hbf hl9
           refine Ri.step_plain rfl rfl (fun K' hK=>?_)
           obtain ⟨b0,b1⟩:=two_cells (keep_blk hb YM.out)
           go_simp
           exact hK _ _ ⟨_,_,rfl,rfl,(fun _=>hb),(fun h=>Bool.noConfusion (hl9.symm.trans h)),d0,(fun _=>rfl),d2,d3,d4,q0,(fun _=>rfl),q2,q3,q4⟩
         · have e4:xa.tmps.getD 4 undef=.int .i64 (i:Int):=ho 4 (by kernel_rfl)
           have hl9:L 5=false:=by cases h:L 5 with | false=>rfl | true=>rw [d2 h] at hL;cases hL
           have hb:=hbf hl9
           refine Ri.step_plain rfl rfl (fun K' hK=>?_)
           go_simp
           exact hK _ _ ⟨_,_,rfl,rfl,(fun _=>hb),(fun h=>Bool.noConfusion (hl9.symm.trans h)),d0,d1,(fun _=>rfl),d3,d4,q0,q1,(fun _=>rfl),q3,q4⟩
         · have hl9:L 5=false:=by cases h:L 5 with | false=>rfl | true=>rw [d3 h] at hL;cases hL
           have hb:=hbf hl9
           refine Ri.step_plain rfl rfl (fun K' hK=>?_)
           go_simp
           refine (rknowhere_any _).mono ?_
           rintro e w8 ⟨rfl,hb8⟩
           exact hK _ _ ⟨_,_,rfl,rfl,(fun _=>hb.trans (hb8.mono hb.size)),(fun h=>Bool.noConfusion (hl9.symm.trans h)),d0,d1,d2,(fun _=>rfl),d4,q0,q1,q2,(fun _=>rfl),q4⟩
         · have l0:L 1=true∧L 2=true:=by have:=hd _ rfl;simp [Region.binds] at this;simp [this]
           have f1:=(hv 1 19 rfl l0.1).trans (q1 l0.1)
           have f2:=(hv 2 20 rfl l0.2).trans (q2 l0.2)
           have hl9:L 5=false:=by cases h:L 5 with | false=>rfl | true=>rw [d4 h] at hL;cases hL
           have hb:=hbf hl9
           refine Ri.step_plain rfl rfl (fun K' hK=>?_)
           go_simp
           exact hK _ _ ⟨_,_,rfl,rfl,(fun _=>hb),(fun h=>Bool.noConfusion (hl9.symm.trans h)),d0,d1,d2,d3,(fun _=>rfl),q0,q1,q2,q3,(fun _=>rfl)⟩
         · have l0:L 4=true∧L 3=true:=by have:=hd _ rfl;simp [Region.binds] at this;simp [this]
           have f4:=(hv 4 22 rfl l0.1).trans (q4 l0.1)
           have f3:=(hv 3 21 rfl l0.2).trans (q3 l0.2)
           have h0:L 0=true:=by have:=hd _ rfl;simp [Region.binds] at this;simp [this]
           have h1:L 1=true:=by have:=hd _ rfl;simp [Region.binds] at this;simp [this]
           have h2:L 2=true:=by have:=hd _ rfl;simp [Region.binds] at this;simp [this]
           have h3:L 3=true:=by have:=hd _ rfl;simp [Region.binds] at this;simp [this]
           have h4:L 4=true:=by have:=hd _ rfl;simp [Region.binds] at this;simp [this]
           have hb:=hbf hL
           refine Ri.step_plain rfl rfl (fun K' hK=>?_)
           obtain ⟨c0,c1,c2,c3⟩:=sp_cell hlt (keep_blk hb YS.out)
           go_simp
           exact hK _ _ ⟨_,undef,rfl,rfl,(fun h=>by cases h),(fun _=>⟨sp_put hlt (keep_blk hb YS.out) (halfN_at i) (halfN_ne i),(Touch.of_below _ hb).setCells (b:=w.heap.size+1) (by simp) (i * 2) [.int .i64 (-1),.int .i64 (-1)]⟩),(fun _=>h0),(fun _=>h1),(fun _=>h2),(fun _=>h3),(fun _=>h4),q0,q1,q2,q3,q4⟩
       · rintro v w9 ⟨-,hfin,-,-,-,-,-,-,-,-,-,-⟩
         have HF:=Lib.hid (hfin rfl)
         simp only [Ri.frame,List.zipIdx,List.foldl_cons,List.foldl_nil,if_true,List.setIfInBounds_toArray,List.set_cons_zero,List.set_cons_succ,Nat.reduceAdd]
         clear hfin
         generalize v 0=y0;generalize v 1=y1;generalize v 2=y2;generalize v 3=y3;generalize v 4=y4
         have HL:=Lib.hid (show w.heap.size < wr.heap.size from (Array.getElem?_eq_some_iff.1 YZ.out).1)
         have hs1:=(Array.getElem?_eq_some_iff.1 YS.out).1;have ht1:=(Array.getElem?_eq_some_iff.1 YT.out).1;have hm1:=(Array.getElem?_eq_some_iff.1 YM.out).1
         have X1:=Lib.hid ((HF.out.2.block _ ht1 (by simp only [List.mem_singleton];omega)).trans YT.out)
         have X2:=Lib.hid ((HF.out.2.block _ hm1 (by simp only [List.mem_singleton];omega)).trans YM.out)
         have X3:=Lib.hid ((HF.out.2.block _ HL.out (by simp only [List.mem_singleton];omega)).trans YZ.out)
         have X4:=Lib.hid (HB.out.trans (HF.out.2.below (B:=w.heap.size) (by intro k hk;simp only [List.mem_singleton] at hk;omega) HB.out.size))
         clear hs1 ht1 hm1
         go_wp2
         exact ⟨⟨i+1,by go_num,by omega,Lib.hid HF.out.1,X1,X2,X3,X4⟩,by simp [intOf];omega⟩
     · obtain rfl:n=i:=by omega
       obtain ⟨m0,m1⟩:=two_cells YM.out
       have HS:=Lib.hid (halfN_all n)
       have HM:=Lib.hid (show w.heap.size < w.heap.size+1∧w.heap.size < w.heap.size+1+1+1 by omega)
       clear hlt
       go_wp2_with (first
         | (refine wpList_load_row rfl 101 (.tmp 3) rfl (w.heap.size+1+1) rfl 101 _ (0,0) _ YM.out Tryd.underlying101 rfl (by kernel_rfl) ?_)
         | (refine wpList_store_row rfl 101 (.tmp 2) (.tmp 24) rfl (w.heap.size) #[.slice (some ⟨w.heap.size+1,0,none⟩) n n,.slice (some ⟨w.heap.size+1+1+1,0,none⟩) n n] rfl rfl 101 _ YZ.out (by kernel_rfl) rfl (by simp [Value.oneCell']) ?_)
         | fail)
       refine bodyPost_ret (results_cell_row rfl _ _ (w.heap.size) 101 #[.slice (some ⟨w.heap.size+1,0,none⟩) n n,.slice (some ⟨w.heap.size+1+1+1,0,none⟩) n n] (0,0) _ rfl (heap_setRow YZ.out) Tryd.underlying101 rfl (by kernel_rfl)) rfl ⟨w.heap.size+1,w.heap.size+1+1+1,rfl,by omega,by omega, ?_, ?_, ?_⟩
       · rw [heap_setRow_other _ _ _ (by omega),← HS.out];exact YS.out
       · rw [heap_setRow_other _ _ _ (by omega)];exact YT.out
       · exact below_setRow HB.out (Nat.le_refl _) _
 · have HH:=Lib.hid (four_new w (.cells #[.slice none 0 0,.slice none 0 0] 101) (.cells (bl n fun _=>false) 4) (.cells (sp n fun _=>(0,0)) 70) (.cells #[.slice (some ⟨w.heap.size+1+1,0,none⟩) n n,.slice (some ⟨w.heap.size+1,0,none⟩) n n] 101))
   have HBW:=Lib.hid (show Below w.heap.size w ((((w.alloc (.cells #[.slice none 0 0,.slice none 0 0] 101)).alloc (.cells (bl n fun _=>false) 4)).alloc (.cells (sp n fun _=>(0,0)) 70)).alloc (.cells #[.slice (some ⟨w.heap.size+1+1,0,none⟩) n n,.slice (some ⟨w.heap.size+1,0,none⟩) n n] 101)).drew from (((((Below.refl _ _).alloc (Nat.le_refl _) _).alloc (by simp) _).alloc (by simp;omega) _).alloc (by simp;omega) _).drew)
   have YZ0:=Lib.hid (show (((((w.alloc (.cells #[.slice none 0 0,.slice none 0 0] 101)).alloc (.cells (bl n fun _=>false) 4)).alloc (.cells (sp n fun _=>(0,0)) 70)).alloc (.cells #[.slice (some ⟨w.heap.size+1+1,0,none⟩) n n,.slice (some ⟨w.heap.size+1,0,none⟩) n n] 101)).drew).heap[w.heap.size]? = some (.cells #[.slice none 0 0,.slice none 0 0] 101) from HH.out.1)
   have Y10:=Lib.hid (show (((((w.alloc (.cells #[.slice none 0 0,.slice none 0 0] 101)).alloc (.cells (bl n fun _=>false) 4)).alloc (.cells (sp n fun _=>(0,0)) 70)).alloc (.cells #[.slice (some ⟨w.heap.size+1+1,0,none⟩) n n,.slice (some ⟨w.heap.size+1,0,none⟩) n n] 101)).drew).heap[w.heap.size+1]? = some (.cells (bl n fun _=>false) 4) from HH.out.2.1)
   have Y20:=Lib.hid (show (((((w.alloc (.cells #[.slice none 0 0,.slice none 0 0] 101)).alloc (.cells (bl n fun _=>false) 4)).alloc (.cells (sp n fun _=>(0,0)) 70)).alloc (.cells #[.slice (some ⟨w.heap.size+1+1,0,none⟩) n n,.slice (some ⟨w.heap.size+1,0,none⟩) n n] 101)).drew).heap[w.heap.size+1+1]? = some (.cells (sp n fun _=>(0,0)) 70) from HH.out.2.2.1)
   have Y30:=Lib.hid (show (((((w.alloc (.cells #[.slice none 0 0,.slice none 0 0] 101)).alloc (.cells (bl n fun _=>false) 4)).alloc (.cells (sp n fun _=>(0,0)) 70)).alloc (.cells #[.slice (some ⟨w.heap.size+1+1,0,none⟩) n n,.slice (some ⟨w.heap.size+1,0,none⟩) n n] 101)).drew).heap[w.heap.size+1+1+1]? = some (.cells #[.slice (some ⟨w.heap.size+1+1,0,none⟩) n n,.slice (some ⟨w.heap.size+1,0,none⟩) n n] 101) from HH.out.2.2.2)
   generalize World.drew _=W0 at *
   clear HH
   obtain ⟨m0,m1⟩:=two_cells Y30.out
   go_wp2
   clear m0 m1
   go_loopw [15] (fun iv wr=>∃ i:Nat,iv=.int .i64 i∧i ≤ n∧Hid (wr.heap[w.heap.size+1+1]? = some (.cells (sp n (halfN i)) 70))∧Hid (wr.heap[w.heap.size+1]? = some (.cells (bl n fun _=>false) 4))∧Hid (wr.heap[w.heap.size+1+1+1]? = some (.cells #[.slice (some ⟨w.heap.size+1+1,0,none⟩) n n,.slice (some ⟨w.heap.size+1,0,none⟩) n n] 101))∧Hid (wr.heap[w.heap.size]? = some (.cells #[.slice none 0 0,.slice none 0 0] 101))∧Hid (Below w.heap.size w wr)) (fun iv _=>n - (intOf iv).toNat)
   case atStart=>exact ⟨0,rfl,Nat.zero_le _,by rw [show halfN 0=fun _=>(0,0) from halfN_zero];exact Y20,Y10,Y30,YZ0,HBW⟩
   case round =>
     clear YZ0 Y10 Y20 Y30 HBW
     obtain ⟨i,rfl,hi,YS,YT,YM,YZ,HB⟩:=hrel
     have wi:IntKind.i64.wrap ((i:Int)+1)=(i:Int)+1:=IntWalk.i64_in _ (by omega)
     by_cases hlt:i < n
     · go_upto_region 5 with (fail)
       refine Ri.wp_region_frame (by kernel_rfl) (by kernel_rfl) (by kernel_rfl) (by kernel_rfl)
         (fun L v w'=>(L 5=false→Below wr.heap.size wr w')∧(L 5=true→w'.heap[w.heap.size+1+1]? = some (.cells (sp n (halfN (i+1))) 70)∧Touch [w.heap.size+1+1] wr w')∧(L 5=true→L 0=true)∧(L 5=true→L 1=true)∧(L 5=true→L 2=true)∧(L 5=true→L 3=true)∧(L 5=true→L 4=true)∧(L 0=true→v 0=.pointer (some ⟨w.heap.size+1+1+1,0,none⟩))∧(L 1=true→v 1=.slice (some ⟨w.heap.size+1+1,0,none⟩) n n)∧(L 2=true→v 2=.int .i64 (i:Int))∧(L 3=true→v 3=.agg #[.int .i64 (-1),.int .i64 (-1)])∧(L 4=true→v 4=.pointer (some ⟨w.heap.size+1+1,i * 2,none⟩)))
         ?_ ?_ ?_
       · exact ⟨fun _=>(Below.refl _ _).drew,by simp,by simp,by simp,by simp,by simp,by simp,by simp,by simp,by simp,by simp,by simp⟩
       · intro i hi9 L v w9 xa hI hL hd hv ho
         have hi':i=0 ∨ i=1 ∨ i=2 ∨ i=3 ∨ i=4 ∨ i=5:=by simp at hi9;omega
         obtain ⟨hbf,hfin,d0,d1,d2,d3,d4,q0,q1,q2,q3,q4⟩:=hI
         rcases hi' with rfl | rfl | rfl | rfl | rfl | rfl
         · have e3:xa.tmps.getD 3 undef=.pointer (some ⟨w.heap.size+1+1+1,0,none⟩):=ho 3 (by kernel_rfl)
           have hl9:L 5=false:=by cases h:L 5 with | false=>rfl | true=>rw [d0 h] at hL;cases hL
           have hb:=hbf hl9
           refine Ri.step_plain rfl rfl (fun K' hK=>?_)
           go_simp
           exact hK _ _ ⟨_,_,rfl,rfl,(fun _=>hb),(fun h=>Bool.noConfusion (hl9.symm.trans h)),(fun _=>rfl),d1,d2,d3,d4,(fun _=>rfl),q1,q2,q3,q4⟩
         · have l0:L 0=true:=by have:=hd _ rfl;simp [Region.binds] at this;simp [this]
           have f0:=(hv 0 18 rfl l0).trans (q0 l0)
           have hl9:L 5=false:=by cases h:L 5 with | false=>rfl | true=>rw [d1 h] at hL;cases hL
           have hb:=hbf hl9
           refine Ri.step_plain rfl rfl (fun K' hK=>?_)
           obtain ⟨b0,b1⟩:=two_cells (keep_blk hb YM.out)
           go_simp
           exact hK _ _ ⟨_,_,rfl,rfl,(fun _=>hb),(fun h=>Bool.noConfusion (hl9.symm.trans h)),d0,(fun _=>rfl),d2,d3,d4,q0,(fun _=>rfl),q2,q3,q4⟩
         · have e4:xa.tmps.getD 4 undef=.int .i64 (i:Int):=ho 4 (by kernel_rfl)
           have hl9:L 5=false:=by cases h:L 5 with | false=>rfl | true=>rw [d2 h] at hL;cases hL
           have hb:=hbf hl9
           refine Ri.step_plain rfl rfl (fun K' hK=>?_)
           go_simp
           exact hK _ _ ⟨_,_,rfl,rfl,(fun _=>hb),(fun h=>Bool.noConfusion (hl9.symm.trans h)),d0,d1,(fun _=>rfl),d3,d4,q0,q1,(fun _=>rfl),q3,q4⟩
         · have hl9:L 5=false:=by cases h:L 5 with | false=>rfl | true=>rw [d3 h] at hL;cases hL
           have hb:=hbf hl9
           refine Ri.step_plain rfl rfl (fun K' hK=>?_)
           go_simp
           refine (rknowhere_any _).mono ?_
           rintro e w8 ⟨rfl,hb8⟩
           exact hK _ _ ⟨_,_,rfl,rfl,(fun _=>hb.trans (hb8.mono hb.size)),(fun h=>Bool.noConfusion (hl9.symm.trans h)),d0,d1,d2,(fun _=>rfl),d4,q0,q1,q2,(fun _=>rfl),q4⟩
         · have l0:L 1=true∧L 2=true:=by have:=hd _ rfl;simp [Region.binds] at this;simp [this]
           have f1:=(hv 1 19 rfl l0.1).trans (q1 l0.1)
           have f2:=(hv 2 20 rfl l0.2).trans (q2 l0.2)
           have hl9:L 5=false:=by cases h:L 5 with | false=>rfl | true=>rw [d4 h] at hL;cases hL
           have hb:=hbf hl9
           refine Ri.step_plain rfl rfl (fun K' hK=>?_)
           go_simp
           exact hK _ _ ⟨_,_,rfl,rfl,(fun _=>hb),(fun h=>Bool.noConfusion (hl9.symm.trans h)),d0,d1,d2,d3,(fun _=>rfl),q0,q1,q2,q3,(fun _=>rfl)⟩
         · have l0:L 4=true∧L 3=true:=by have:=hd _ rfl;simp [Region.binds] at this;simp [this]
           have f4:=(hv 4 22 rfl l0.1).trans (q4 l0.1)
           have f3:=(hv 3 21 rfl l0.2).trans (q3 l0.2)
           have h0:L 0=true:=by have:=hd _ rfl;simp [Region.binds] at this;simp [this]
           have h1:L 1=true:=by have:=hd _ rfl;simp [Region.binds] at this;simp [this]
           have h2:L 2=true:=by have:=hd _ rfl;simp [Region.binds] at this;simp [this]
           have h3:L 3=true:=by have:=hd _ rfl;simp [Region.binds] at this;simp [this]
           have h4:L 4=true:=by have:=hd _ rfl;simp [Region.binds] at this;simp [this]
           have hb:=hbf hL
           refine Ri.step_plain rfl rfl (fun K' hK=>?_)
           obtain ⟨c0,c1,c2,c3⟩:=sp_cell hlt (keep_blk hb YS.out)
           go_simp
           exact hK _ _ ⟨_,undef,rfl,rfl,(fun h=>by cases h),(fun _=>⟨sp_put hlt (keep_blk hb YS.out) (halfN_at i) (halfN_ne i),(Touch.of_below _ hb).setCells (b:=w.heap.size+1+1) (by simp) (i * 2) [.int .i64 (-1),.int .i64 (-1)]⟩),(fun _=>h0),(fun _=>h1),(fun _=>h2),(fun _=>h3),(fun _=>h4),q0,q1,q2,q3,q4⟩
       · rintro v w9 ⟨-,hfin,-,-,-,-,-,-,-,-,-,-⟩
         have HF:=Lib.hid (hfin rfl)
         simp only [Ri.frame,List.zipIdx,List.foldl_cons,List.foldl_nil,if_true,List.setIfInBounds_toArray,List.set_cons_zero,List.set_cons_succ,Nat.reduceAdd]
         clear hfin
         generalize v 0=y0;generalize v 1=y1;generalize v 2=y2;generalize v 3=y3;generalize v 4=y4
         have HL:=Lib.hid (show w.heap.size < wr.heap.size from (Array.getElem?_eq_some_iff.1 YZ.out).1)
         have hs1:=(Array.getElem?_eq_some_iff.1 YS.out).1;have ht1:=(Array.getElem?_eq_some_iff.1 YT.out).1;have hm1:=(Array.getElem?_eq_some_iff.1 YM.out).1
         have X1:=Lib.hid ((HF.out.2.block _ ht1 (by simp only [List.mem_singleton];omega)).trans YT.out)
         have X2:=Lib.hid ((HF.out.2.block _ hm1 (by simp only [List.mem_singleton];omega)).trans YM.out)
         have X3:=Lib.hid ((HF.out.2.block _ HL.out (by simp only [List.mem_singleton];omega)).trans YZ.out)
         have X4:=Lib.hid (HB.out.trans (HF.out.2.below (B:=w.heap.size) (by intro k hk;simp only [List.mem_singleton] at hk;omega) HB.out.size))
         clear hs1 ht1 hm1
         go_wp2
         exact ⟨⟨i+1,by go_num,by omega,Lib.hid HF.out.1,X1,X2,X3,X4⟩,by simp [intOf];omega⟩
     · obtain rfl:n=i:=by omega
       obtain ⟨m0,m1⟩:=two_cells YM.out
       have HS:=Lib.hid (halfN_all n)
       have HM:=Lib.hid (show w.heap.size < w.heap.size+1+1∧w.heap.size < w.heap.size+1 by omega)
       clear hlt
       go_wp2_with (first
         | (refine wpList_load_row rfl 101 (.tmp 3) rfl (w.heap.size+1+1+1) rfl 101 _ (0,0) _ YM.out Tryd.underlying101 rfl (by kernel_rfl) ?_)
         | (refine wpList_store_row rfl 101 (.tmp 2) (.tmp 24) rfl (w.heap.size) #[.slice (some ⟨w.heap.size+1+1,0,none⟩) n n,.slice (some ⟨w.heap.size+1,0,none⟩) n n] rfl rfl 101 _ YZ.out (by kernel_rfl) rfl (by simp [Value.oneCell']) ?_)
         | fail)
       refine bodyPost_ret (results_cell_row rfl _ _ (w.heap.size) 101 #[.slice (some ⟨w.heap.size+1+1,0,none⟩) n n,.slice (some ⟨w.heap.size+1,0,none⟩) n n] (0,0) _ rfl (heap_setRow YZ.out) Tryd.underlying101 rfl (by kernel_rfl)) rfl ⟨w.heap.size+1+1,w.heap.size+1,rfl,by omega,by omega, ?_, ?_, ?_⟩
       · rw [heap_setRow_other _ _ _ (by omega),← HS.out];exact YS.out
       · rw [heap_setRow_other _ _ _ (by omega)];exact YT.out
       · exact below_setRow HB.out (Nat.le_refl _) _
 · have HH:=Lib.hid (four_new w (.cells #[.slice none 0 0,.slice none 0 0] 101) (.cells (bl n fun _=>false) 4) (.cells #[.slice (some ⟨w.heap.size+1+1+1,0,none⟩) n n,.slice (some ⟨w.heap.size+1,0,none⟩) n n] 101) (.cells (sp n fun _=>(0,0)) 70))
   have HBW:=Lib.hid (show Below w.heap.size w ((((w.alloc (.cells #[.slice none 0 0,.slice none 0 0] 101)).alloc (.cells (bl n fun _=>false) 4)).alloc (.cells #[.slice (some ⟨w.heap.size+1+1+1,0,none⟩) n n,.slice (some ⟨w.heap.size+1,0,none⟩) n n] 101)).alloc (.cells (sp n fun _=>(0,0)) 70)).drew from (((((Below.refl _ _).alloc (Nat.le_refl _) _).alloc (by simp) _).alloc (by simp;omega) _).alloc (by simp;omega) _).drew)
   have YZ0:=Lib.hid (show (((((w.alloc (.cells #[.slice none 0 0,.slice none 0 0] 101)).alloc (.cells (bl n fun _=>false) 4)).alloc (.cells #[.slice (some ⟨w.heap.size+1+1+1,0,none⟩) n n,.slice (some ⟨w.heap.size+1,0,none⟩) n n] 101)).alloc (.cells (sp n fun _=>(0,0)) 70)).drew).heap[w.heap.size]? = some (.cells #[.slice none 0 0,.slice none 0 0] 101) from HH.out.1)
   have Y10:=Lib.hid (show (((((w.alloc (.cells #[.slice none 0 0,.slice none 0 0] 101)).alloc (.cells (bl n fun _=>false) 4)).alloc (.cells #[.slice (some ⟨w.heap.size+1+1+1,0,none⟩) n n,.slice (some ⟨w.heap.size+1,0,none⟩) n n] 101)).alloc (.cells (sp n fun _=>(0,0)) 70)).drew).heap[w.heap.size+1]? = some (.cells (bl n fun _=>false) 4) from HH.out.2.1)
   have Y20:=Lib.hid (show (((((w.alloc (.cells #[.slice none 0 0,.slice none 0 0] 101)).alloc (.cells (bl n fun _=>false) 4)).alloc (.cells #[.slice (some ⟨w.heap.size+1+1+1,0,none⟩) n n,.slice (some ⟨w.heap.size+1,0,none⟩) n n] 101)).alloc (.cells (sp n fun _=>(0,0)) 70)).drew).heap[w.heap.size+1+1]? = some (.cells #[.slice (some ⟨w.heap.size+1+1+1,0,none⟩) n n,.slice (some ⟨w.heap.size+1,0,none⟩) n n] 101) from HH.out.2.2.1)
   have Y30:=Lib.hid (show (((((w.alloc (.cells #[.slice none 0 0,.slice none 0 0] 101)).alloc (.cells (bl n fun _=>false) 4)).alloc (.cells #[.slice (some ⟨w.heap.size+1+1+1,0,none⟩) n n,.slice (some ⟨w.heap.size+1,0,none⟩) n n] 101)).alloc (.cells (sp n fun _=>(0,0)) 70)).drew).heap[w.heap.size+1+1+1]? = some (.cells (sp n fun _=>(0,0)) 70) from HH.out.2.2.2)
   generalize World.drew _=W0 at *
   clear HH
   obtain ⟨m0,m1⟩:=two_cells Y20.out
   go_wp2
   clear m0 m1
   go_loopw [15] (fun iv wr=>∃ i:Nat,iv=.int .i64 i∧i ≤ n∧Hid (wr.heap[w.heap.size+1+1+1]? = some (.cells (sp n (halfN i)) 70))∧Hid (wr.heap[w.heap.size+1]? = some (.cells (bl n fun _=>false) 4))∧Hid (wr.heap[w.heap.size+1+1]? = some (.cells #[.slice (some ⟨w.heap.size+1+1+1,0,none⟩) n n,.slice (some ⟨w.heap.size+1,0,none⟩) n n] 101))∧Hid (wr.heap[w.heap.size]? = some (.cells #[.slice none 0 0,.slice none 0 0] 101))∧Hid (Below w.heap.size w wr)) (fun iv _=>n - (intOf iv).toNat)
   case atStart=>exact ⟨0,rfl,Nat.zero_le _,by rw [show halfN 0=fun _=>(0,0) from halfN_zero];exact Y30,Y10,Y20,YZ0,HBW⟩
   case round =>
     clear YZ0 Y10 Y20 Y30 HBW
     obtain ⟨i,rfl,hi,YS,YT,YM,YZ,HB⟩:=hrel
     have wi:IntKind.i64.wrap ((i:Int)+1)=(i:Int)+1:=IntWalk.i64_in _ (by omega)
     by_cases hlt:i < n
     · go_upto_region 5 with (fail)
       refine Ri.wp_region_frame (by kernel_rfl) (by kernel_rfl) (by kernel_rfl) (by kernel_rfl)
         (fun L v w'=>(L 5=false→Below wr.heap.size wr w')∧(L 5=true→w'.heap[w.heap.size+1+1+1]? = some (.cells (sp n (halfN (i+1))) 70)∧Touch [w.heap.size+1+1+1] wr w')∧(L 5=true→L 0=true)∧(L 5=true→L 1=true)∧(L 5=true→L 2=true)∧(L 5=true→L 3=true)∧(L 5=true→L 4=true)∧(L 0=true→v 0=.pointer (some ⟨w.heap.size+1+1,0,none⟩))∧(L 1=true→v 1=.slice (some ⟨w.heap.size+1+1+1,0,none⟩) n n)∧(L 2=true→v 2=.int .i64 (i:Int))∧(L 3=true→v 3=.agg #[.int .i64 (-1),.int .i64 (-1)])∧(L 4=true→v 4=.pointer (some ⟨w.heap.size+1+1+1,i * 2,none⟩)))
         ?_ ?_ ?_
       · exact ⟨fun _=>(Below.refl _ _).drew,by simp,by simp,by simp,by simp,by simp,by simp,by simp,by simp,by simp,by simp,by simp⟩
       · intro i hi9 L v w9 xa hI hL hd hv ho
         have hi':i=0 ∨ i=1 ∨ i=2 ∨ i=3 ∨ i=4 ∨ i=5:=by simp at hi9;omega
         obtain ⟨hbf,hfin,d0,d1,d2,d3,d4,q0,q1,q2,q3,q4⟩:=hI
         rcases hi' with rfl | rfl | rfl | rfl | rfl | rfl
         · have e3:xa.tmps.getD 3 undef=.pointer (some ⟨w.heap.size+1+1,0,none⟩):=ho 3 (by kernel_rfl)
           have hl9:L 5=false:=by cases h:L 5 with | false=>rfl | true=>rw [d0 h] at hL;cases hL
           have hb:=hbf hl9
           refine Ri.step_plain rfl rfl (fun K' hK=>?_)
           go_simp
           exact hK _ _ ⟨_,_,rfl,rfl,(fun _=>hb),(fun h=>Bool.noConfusion (hl9.symm.trans h)),(fun _=>rfl),d1,d2,d3,d4,(fun _=>rfl),q1,q2,q3,q4⟩
         · have l0:L 0=true:=by have:=hd _ rfl;simp [Region.binds] at this;simp [this]
           have f0:=(hv 0 18 rfl l0).trans (q0 l0)
           have hl9:L 5=false:=by cases h:L 5 with | false=>rfl | true=>rw [d1 h] at hL;cases hL
           have hb:=hbf hl9
           refine Ri.step_plain rfl rfl (fun K' hK=>?_)
           obtain ⟨b0,b1⟩:=two_cells (keep_blk hb YM.out)
           go_simp
           exact hK _ _ ⟨_,_,rfl,rfl,(fun _=>hb),(fun h=>Bool.noConfusion (hl9.symm.trans h)),d0,(fun _=>rfl),d2,d3,d4,q0,(fun _=>rfl),q2,q3,q4⟩
         · have e4:xa.tmps.getD 4 undef=.int .i64 (i:Int):=ho 4 (by kernel_rfl)
           have hl9:L 5=false:=by cases h:L 5 with | false=>rfl | true=>rw [d2 h] at hL;cases hL
           have hb:=hbf hl9
           refine Ri.step_plain rfl rfl (fun K' hK=>?_)
           go_simp
           exact hK _ _ ⟨_,_,rfl,rfl,(fun _=>hb),(fun h=>Bool.noConfusion (hl9.symm.trans h)),d0,d1,(fun _=>rfl),d3,d4,q0,q1,(fun _=>rfl),q3,q4⟩
         · have hl9:L 5=false:=by cases h:L 5 with | false=>rfl | true=>rw [d3 h] at hL;cases hL
           have hb:=hbf hl9
           refine Ri.step_plain rfl rfl (fun K' hK=>?_)
           go_simp
           refine (rknowhere_any _).mono ?_
           rintro e w8 ⟨rfl,hb8⟩
           exact hK _ _ ⟨_,_,rfl,rfl,(fun _=>hb.trans (hb8.mono hb.size)),(fun h=>Bool.noConfusion (hl9.symm.trans h)),d0,d1,d2,(fun _=>rfl),d4,q0,q1,q2,(fun _=>rfl),q4⟩
         · have l0:L 1=true∧L 2=true:=by have:=hd _ rfl;simp [Region.binds] at this;simp [this]
           have f1:=(hv 1 19 rfl l0.1).trans (q1 l0.1)
           have f2:=(hv 2 20 rfl l0.2).trans (q2 l0.2)
           have hl9:L 5=false:=by cases h:L 5 with | false=>rfl | true=>rw [d4 h] at hL;cases hL
           have hb:=hbf hl9
           refine Ri.step_plain rfl rfl (fun K' hK=>?_)
           go_simp
           exact hK _ _ ⟨_,_,rfl,rfl,(fun _=>hb),(fun h=>Bool.noConfusion (hl9.symm.trans h)),d0,d1,d2,d3,(fun _=>rfl),q0,q1,q2,q3,(fun _=>rfl)⟩
         · have l0:L 4=true∧L 3=true:=by have:=hd _ rfl;simp [Region.binds] at this;simp [this]
           have f4:=(hv 4 22 rfl l0.1).trans (q4 l0.1)
           have f3:=(hv 3 21 rfl l0.2).trans (q3 l0.2)
           have h0:L 0=true:=by have:=hd _ rfl;simp [Region.binds] at this;simp [this]
           have h1:L 1=true:=by have:=hd _ rfl;simp [Region.binds] at this;simp [this]
           have h2:L 2=true:=by have:=hd _ rfl;simp [Region.binds] at this;simp [this]
           have h3:L 3=true:=by have:=hd _ rfl;simp [Region.binds] at this;simp [this]
           have h4:L 4=true:=by have:=hd _ rfl;simp [Region.binds] at this;simp [this]
           have hb:=hbf hL
           refine Ri.step_plain rfl rfl (fun K' hK=>?_)
           obtain ⟨c0,c1,c2,c3⟩:=sp_cell hlt (keep_blk hb YS.out)
           go_simp
           exact hK _ _ ⟨_,undef,rfl,rfl,(fun h=>by cases h),(fun _=>⟨sp_put hlt (keep_blk hb YS.out) (halfN_at i) (halfN_ne i),(Touch.of_below _ hb).setCells (b:=w.heap.size+1+1+1) (by simp) (i * 2) [.int .i64 (-1),.int .i64 (-1)]⟩),(fun _=>h0),(fun _=>h1),(fun _=>h2),(fun _=>h3),(fun _=>h4),q0,q1,q2,q3,q4⟩
       · rintro v w9 ⟨-,hfin,-,-,-,-,-,-,-,-,-,-⟩
         have HF:=Lib.hid (hfin rfl)
         simp only [Ri.frame,List.zipIdx,List.foldl_cons,List.foldl_nil,if_true,List.setIfInBounds_toArray,List.set_cons_zero,List.set_cons_succ,Nat.reduceAdd]
         clear hfin
         generalize v 0=y0;generalize v 1=y1;generalize v 2=y2;generalize v 3=y3;generalize v 4=y4
         have HL:=Lib.hid (show w.heap.size < wr.heap.size from (Array.getElem?_eq_some_iff.1 YZ.out).1)
         have hs1:=(Array.getElem?_eq_some_iff.1 YS.out).1;have ht1:=(Array.getElem?_eq_some_iff.1 YT.out).1;have hm1:=(Array.getElem?_eq_some_iff.1 YM.out).1
         have X1:=Lib.hid ((HF.out.2.block _ ht1 (by simp only [List.mem_singleton];omega)).trans YT.out)
         have X2:=Lib.hid ((HF.out.2.block _ hm1 (by simp only [List.mem_singleton];omega)).trans YM.out)
         have X3:=Lib.hid ((HF.out.2.block _ HL.out (by simp only [List.mem_singleton];omega)).trans YZ.out)
         have X4:=Lib.hid (HB.out.trans (HF.out.2.below (B:=w.heap.size) (by intro k hk;simp only [List.mem_singleton] at hk;omega) HB.out.size))
         clear hs1 ht1 hm1
         go_wp2
         exact ⟨⟨i+1,by go_num,by omega,Lib.hid HF.out.1,X1,X2,X3,X4⟩,by simp [intOf];omega⟩
     · obtain rfl:n=i:=by omega
       obtain ⟨m0,m1⟩:=two_cells YM.out
       have HS:=Lib.hid (halfN_all n)
       have HM:=Lib.hid (show w.heap.size < w.heap.size+1+1+1∧w.heap.size < w.heap.size+1 by omega)
       clear hlt
       go_wp2_with (first
         | (refine wpList_load_row rfl 101 (.tmp 3) rfl (w.heap.size+1+1) rfl 101 _ (0,0) _ YM.out Tryd.underlying101 rfl (by kernel_rfl) ?_)
         | (refine wpList_store_row rfl 101 (.tmp 2) (.tmp 24) rfl (w.heap.size) #[.slice (some ⟨w.heap.size+1+1+1,0,none⟩) n n,.slice (some ⟨w.heap.size+1,0,none⟩) n n] rfl rfl 101 _ YZ.out (by kernel_rfl) rfl (by simp [Value.oneCell']) ?_)
         | fail)
       refine bodyPost_ret (results_cell_row rfl _ _ (w.heap.size) 101 #[.slice (some ⟨w.heap.size+1+1+1,0,none⟩) n n,.slice (some ⟨w.heap.size+1,0,none⟩) n n] (0,0) _ rfl (heap_setRow YZ.out) Tryd.underlying101 rfl (by kernel_rfl)) rfl ⟨w.heap.size+1+1+1,w.heap.size+1,rfl,by omega,by omega, ?_, ?_, ?_⟩
       · rw [heap_setRow_other _ _ _ (by omega),← HS.out];exact YS.out
       · rw [heap_setRow_other _ _ _ (by omega)];exact YT.out
       · exact below_setRow HB.out (Nat.le_refl _) _
 · have HH:=Lib.hid (four_new w (.cells #[.slice none 0 0,.slice none 0 0] 101) (.cells #[.slice (some ⟨w.heap.size+1+1,0,none⟩) n n,.slice (some ⟨w.heap.size+1+1+1,0,none⟩) n n] 101) (.cells (sp n fun _=>(0,0)) 70) (.cells (bl n fun _=>false) 4))
   have HBW:=Lib.hid (show Below w.heap.size w ((((w.alloc (.cells #[.slice none 0 0,.slice none 0 0] 101)).alloc (.cells #[.slice (some ⟨w.heap.size+1+1,0,none⟩) n n,.slice (some ⟨w.heap.size+1+1+1,0,none⟩) n n] 101)).alloc (.cells (sp n fun _=>(0,0)) 70)).alloc (.cells (bl n fun _=>false) 4)).drew from (((((Below.refl _ _).alloc (Nat.le_refl _) _).alloc (by simp) _).alloc (by simp;omega) _).alloc (by simp;omega) _).drew)
   have YZ0:=Lib.hid (show (((((w.alloc (.cells #[.slice none 0 0,.slice none 0 0] 101)).alloc (.cells #[.slice (some ⟨w.heap.size+1+1,0,none⟩) n n,.slice (some ⟨w.heap.size+1+1+1,0,none⟩) n n] 101)).alloc (.cells (sp n fun _=>(0,0)) 70)).alloc (.cells (bl n fun _=>false) 4)).drew).heap[w.heap.size]? = some (.cells #[.slice none 0 0,.slice none 0 0] 101) from HH.out.1)
   have Y10:=Lib.hid (show (((((w.alloc (.cells #[.slice none 0 0,.slice none 0 0] 101)).alloc (.cells #[.slice (some ⟨w.heap.size+1+1,0,none⟩) n n,.slice (some ⟨w.heap.size+1+1+1,0,none⟩) n n] 101)).alloc (.cells (sp n fun _=>(0,0)) 70)).alloc (.cells (bl n fun _=>false) 4)).drew).heap[w.heap.size+1]? = some (.cells #[.slice (some ⟨w.heap.size+1+1,0,none⟩) n n,.slice (some ⟨w.heap.size+1+1+1,0,none⟩) n n] 101) from HH.out.2.1)
   have Y20:=Lib.hid (show (((((w.alloc (.cells #[.slice none 0 0,.slice none 0 0] 101)).alloc (.cells #[.slice (some ⟨w.heap.size+1+1,0,none⟩) n n,.slice (some ⟨w.heap.size+1+1+1,0,none⟩) n n] 101)).alloc (.cells (sp n fun _=>(0,0)) 70)).alloc (.cells (bl n fun _=>false) 4)).drew).heap[w.heap.size+1+1]? = some (.cells (sp n fun _=>(0,0)) 70) from HH.out.2.2.1)
   have Y30:=Lib.hid (show (((((w.alloc (.cells #[.slice none 0 0,.slice none 0 0] 101)).alloc (.cells #[.slice (some ⟨w.heap.size+1+1,0,none⟩) n n,.slice (some ⟨w.heap.size+1+1+1,0,none⟩) n n] 101)).alloc (.cells (sp n fun _=>(0,0)) 70)).alloc (.cells (bl n fun _=>false) 4)).drew).heap[w.heap.size+1+1+1]? = some (.cells (bl n fun _=>false) 4) from HH.out.2.2.2)
   generalize World.drew _=W0 at *
   clear HH
   obtain ⟨m0,m1⟩:=two_cells Y10.out
   go_wp2
   clear m0 m1
   go_loopw [15] (fun iv wr=>∃ i:Nat,iv=.int .i64 i∧i ≤ n∧Hid (wr.heap[w.heap.size+1+1]? = some (.cells (sp n (halfN i)) 70))∧Hid (wr.heap[w.heap.size+1+1+1]? = some (.cells (bl n fun _=>false) 4))∧Hid (wr.heap[w.heap.size+1]? = some (.cells #[.slice (some ⟨w.heap.size+1+1,0,none⟩) n n,.slice (some ⟨w.heap.size+1+1+1,0,none⟩) n n] 101))∧Hid (wr.heap[w.heap.size]? = some (.cells #[.slice none 0 0,.slice none 0 0] 101))∧Hid (Below w.heap.size w wr)) (fun iv _=>n - (intOf iv).toNat)
   case atStart=>exact ⟨0,rfl,Nat.zero_le _,by rw [show halfN 0=fun _=>(0,0) from halfN_zero];exact Y20,Y30,Y10,YZ0,HBW⟩
   case round =>
     clear YZ0 Y10 Y20 Y30 HBW
     obtain ⟨i,rfl,hi,YS,YT,YM,YZ,HB⟩:=hrel
     have wi:IntKind.i64.wrap ((i:Int)+1)=(i:Int)+1:=IntWalk.i64_in _ (by omega)
     by_cases hlt:i < n
     · go_upto_region 5 with (fail)
       refine Ri.wp_region_frame (by kernel_rfl) (by kernel_rfl) (by kernel_rfl) (by kernel_rfl)
         (fun L v w'=>(L 5=false→Below wr.heap.size wr w')∧(L 5=true→w'.heap[w.heap.size+1+1]? = some (.cells (sp n (halfN (i+1))) 70)∧Touch [w.heap.size+1+1] wr w')∧(L 5=true→L 0=true)∧(L 5=true→L 1=true)∧(L 5=true→L 2=true)∧(L 5=true→L 3=true)∧(L 5=true→L 4=true)∧(L 0=true→v 0=.pointer (some ⟨w.heap.size+1,0,none⟩))∧(L 1=true→v 1=.slice (some ⟨w.heap.size+1+1,0,none⟩) n n)∧(L 2=true→v 2=.int .i64 (i:Int))∧(L 3=true→v 3=.agg #[.int .i64 (-1),.int .i64 (-1)])∧(L 4=true→v 4=.pointer (some ⟨w.heap.size+1+1,i * 2,none⟩)))
         ?_ ?_ ?_
       · exact ⟨fun _=>(Below.refl _ _).drew,by simp,by simp,by simp,by simp,by simp,by simp,by simp,by simp,by simp,by simp,by simp⟩
       · intro i hi9 L v w9 xa hI hL hd hv ho
         have hi':i=0 ∨ i=1 ∨ i=2 ∨ i=3 ∨ i=4 ∨ i=5:=by simp at hi9;omega
         obtain ⟨hbf,hfin,d0,d1,d2,d3,d4,q0,q1,q2,q3,q4⟩:=hI
         rcases hi' with rfl | rfl | rfl | rfl | rfl | rfl
         · have e3:xa.tmps.getD 3 undef=.pointer (some ⟨w.heap.size+1,0,none⟩):=ho 3 (by kernel_rfl)
           have hl9:L 5=false:=by cases h:L 5 with | false=>rfl | true=>rw [d0 h] at hL;cases hL
           have hb:=hbf hl9
           refine Ri.step_plain rfl rfl (fun K' hK=>?_)
           go_simp
           exact hK _ _ ⟨_,_,rfl,rfl,(fun _=>hb),(fun h=>Bool.noConfusion (hl9.symm.trans h)),(fun _=>rfl),d1,d2,d3,d4,(fun _=>rfl),q1,q2,q3,q4⟩
         · have l0:L 0=true:=by have:=hd _ rfl;simp [Region.binds] at this;simp [this]
           have f0:=(hv 0 18 rfl l0).trans (q0 l0)
           have hl9:L 5=false:=by cases h:L 5 with | false=>rfl | true=>rw [d1 h] at hL;cases hL
           have hb:=hbf hl9
           refine Ri.step_plain rfl rfl (fun K' hK=>?_)
           obtain ⟨b0,b1⟩:=two_cells (keep_blk hb YM.out)
           go_simp
           exact hK _ _ ⟨_,_,rfl,rfl,(fun _=>hb),(fun h=>Bool.noConfusion (hl9.symm.trans h)),d0,(fun _=>rfl),d2,d3,d4,q0,(fun _=>rfl),q2,q3,q4⟩
         · have e4:xa.tmps.getD 4 undef=.int .i64 (i:Int):=ho 4 (by kernel_rfl)
           have hl9:L 5=false:=by cases h:L 5 with | false=>rfl | true=>rw [d2 h] at hL;cases hL
           have hb:=hbf hl9
           refine Ri.step_plain rfl rfl (fun K' hK=>?_)
           go_simp
           exact hK _ _ ⟨_,_,rfl,rfl,(fun _=>hb),(fun h=>Bool.noConfusion (hl9.symm.trans h)),d0,d1,(fun _=>rfl),d3,d4,q0,q1,(fun _=>rfl),q3,q4⟩
         · have hl9:L 5=false:=by cases h:L 5 with | false=>rfl | true=>rw [d3 h] at hL;cases hL
           have hb:=hbf hl9
           refine Ri.step_plain rfl rfl (fun K' hK=>?_)
           go_simp
           refine (rknowhere_any _).mono ?_
           rintro e w8 ⟨rfl,hb8⟩
           exact hK _ _ ⟨_,_,rfl,rfl,(fun _=>hb.trans (hb8.mono hb.size)),(fun h=>Bool.noConfusion (hl9.symm.trans h)),d0,d1,d2,(fun _=>rfl),d4,q0,q1,q2,(fun _=>rfl),q4⟩
         · have l0:L 1=true∧L 2=true:=by have:=hd _ rfl;simp [Region.binds] at this;simp [this]
           have f1:=(hv 1 19 rfl l0.1).trans (q1 l0.1)
           have f2:=(hv 2 20 rfl l0.2).trans (q2 l0.2)
           have hl9:L 5=false:=by cases h:L 5 with | false=>rfl | true=>rw [d4 h] at hL;cases hL
           have hb:=hbf hl9
           refine Ri.step_plain rfl rfl (fun K' hK=>?_)
           go_simp
           exact hK _ _ ⟨_,_,rfl,rfl,(fun _=>hb),(fun h=>Bool.noConfusion (hl9.symm.trans h)),d0,d1,d2,d3,(fun _=>rfl),q0,q1,q2,q3,(fun _=>rfl)⟩
         · have l0:L 4=true∧L 3=true:=by have:=hd _ rfl;simp [Region.binds] at this;simp [this]
           have f4:=(hv 4 22 rfl l0.1).trans (q4 l0.1)
           have f3:=(hv 3 21 rfl l0.2).trans (q3 l0.2)
           have h0:L 0=true:=by have:=hd _ rfl;simp [Region.binds] at this;simp [this]
           have h1:L 1=true:=by have:=hd _ rfl;simp [Region.binds] at this;simp [this]
           have h2:L 2=true:=by have:=hd _ rfl;simp [Region.binds] at this;simp [this]
           have h3:L 3=true:=by have:=hd _ rfl;simp [Region.binds] at this;simp [this]
           have h4:L 4=true:=by have:=hd _ rfl;simp [Region.binds] at this;simp [this]
           have hb:=hbf hL
           refine Ri.step_plain rfl rfl (fun K' hK=>?_)
           obtain ⟨c0,c1,c2,c3⟩:=sp_cell hlt (keep_blk hb YS.out)
           go_simp
           exact hK _ _ ⟨_,undef,rfl,rfl,(fun h=>by cases h),(fun _=>⟨sp_put hlt (keep_blk hb YS.out) (halfN_at i) (halfN_ne i),(Touch.of_below _ hb).setCells (b:=w.heap.size+1+1) (by simp) (i * 2) [.int .i64 (-1),.int .i64 (-1)]⟩),(fun _=>h0),(fun _=>h1),(fun _=>h2),(fun _=>h3),(fun _=>h4),q0,q1,q2,q3,q4⟩
       · rintro v w9 ⟨-,hfin,-,-,-,-,-,-,-,-,-,-⟩
         have HF:=Lib.hid (hfin rfl)
         simp only [Ri.frame,List.zipIdx,List.foldl_cons,List.foldl_nil,if_true,List.setIfInBounds_toArray,List.set_cons_zero,List.set_cons_succ,Nat.reduceAdd]
         clear hfin
         generalize v 0=y0;generalize v 1=y1;generalize v 2=y2;generalize v 3=y3;generalize v 4=y4
         have HL:=Lib.hid (show w.heap.size < wr.heap.size from (Array.getElem?_eq_some_iff.1 YZ.out).1)
         have hs1:=(Array.getElem?_eq_some_iff.1 YS.out).1;have ht1:=(Array.getElem?_eq_some_iff.1 YT.out).1;have hm1:=(Array.getElem?_eq_some_iff.1 YM.out).1
         have X1:=Lib.hid ((HF.out.2.block _ ht1 (by simp only [List.mem_singleton];omega)).trans YT.out)
         have X2:=Lib.hid ((HF.out.2.block _ hm1 (by simp only [List.mem_singleton];omega)).trans YM.out)
         have X3:=Lib.hid ((HF.out.2.block _ HL.out (by simp only [List.mem_singleton];omega)).trans YZ.out)
         have X4:=Lib.hid (HB.out.trans (HF.out.2.below (B:=w.heap.size) (by intro k hk;simp only [List.mem_singleton] at hk;omega) HB.out.size))
         clear hs1 ht1 hm1
         go_wp2
         exact ⟨⟨i+1,by go_num,by omega,Lib.hid HF.out.1,X1,X2,X3,X4⟩,by simp [intOf];omega⟩
     · obtain rfl:n=i:=by omega
       obtain ⟨m0,m1⟩:=two_cells YM.out
       have HS:=Lib.hid (halfN_all n)
       have HM:=Lib.hid (show w.heap.size < w.heap.size+1+1∧w.heap.size < w.heap.size+1+1+1 by omega)
       clear hlt
       go_wp2_with (first
         | (refine wpList_load_row rfl 101 (.tmp 3) rfl (w.heap.size+1) rfl 101 _ (0,0) _ YM.out Tryd.underlying101 rfl (by kernel_rfl) ?_)
         | (refine wpList_store_row rfl 101 (.tmp 2) (.tmp 24) rfl (w.heap.size) #[.slice (some ⟨w.heap.size+1+1,0,none⟩) n n,.slice (some ⟨w.heap.size+1+1+1,0,none⟩) n n] rfl rfl 101 _ YZ.out (by kernel_rfl) rfl (by simp [Value.oneCell']) ?_)
         | fail)
       refine bodyPost_ret (results_cell_row rfl _ _ (w.heap.size) 101 #[.slice (some ⟨w.heap.size+1+1,0,none⟩) n n,.slice (some ⟨w.heap.size+1+1+1,0,none⟩) n n] (0,0) _ rfl (heap_setRow YZ.out) Tryd.underlying101 rfl (by kernel_rfl)) rfl ⟨w.heap.size+1+1,w.heap.size+1+1+1,rfl,by omega,by omega, ?_, ?_, ?_⟩
       · rw [heap_setRow_other _ _ _ (by omega),← HS.out];exact YS.out
       · rw [heap_setRow_other _ _ _ (by omega)];exact YT.out
       · exact below_setRow HB.out (Nat.le_refl _) _
 · have HH:=Lib.hid (four_new w (.cells #[.slice none 0 0,.slice none 0 0] 101) (.cells #[.slice (some ⟨w.heap.size+1+1+1,0,none⟩) n n,.slice (some ⟨w.heap.size+1+1,0,none⟩) n n] 101) (.cells (bl n fun _=>false) 4) (.cells (sp n fun _=>(0,0)) 70))
   have HBW:=Lib.hid (show Below w.heap.size w ((((w.alloc (.cells #[.slice none 0 0,.slice none 0 0] 101)).alloc (.cells #[.slice (some ⟨w.heap.size+1+1+1,0,none⟩) n n,.slice (some ⟨w.heap.size+1+1,0,none⟩) n n] 101)).alloc (.cells (bl n fun _=>false) 4)).alloc (.cells (sp n fun _=>(0,0)) 70)).drew from (((((Below.refl _ _).alloc (Nat.le_refl _) _).alloc (by simp) _).alloc (by simp;omega) _).alloc (by simp;omega) _).drew)
   have YZ0:=Lib.hid (show (((((w.alloc (.cells #[.slice none 0 0,.slice none 0 0] 101)).alloc (.cells #[.slice (some ⟨w.heap.size+1+1+1,0,none⟩) n n,.slice (some ⟨w.heap.size+1+1,0,none⟩) n n] 101)).alloc (.cells (bl n fun _=>false) 4)).alloc (.cells (sp n fun _=>(0,0)) 70)).drew).heap[w.heap.size]? = some (.cells #[.slice none 0 0,.slice none 0 0] 101) from HH.out.1)
   have Y10:=Lib.hid (show (((((w.alloc (.cells #[.slice none 0 0,.slice none 0 0] 101)).alloc (.cells #[.slice (some ⟨w.heap.size+1+1+1,0,none⟩) n n,.slice (some ⟨w.heap.size+1+1,0,none⟩) n n] 101)).alloc (.cells (bl n fun _=>false) 4)).alloc (.cells (sp n fun _=>(0,0)) 70)).drew).heap[w.heap.size+1]? = some (.cells #[.slice (some ⟨w.heap.size+1+1+1,0,none⟩) n n,.slice (some ⟨w.heap.size+1+1,0,none⟩) n n] 101) from HH.out.2.1)
   have Y20:=Lib.hid (show (((((w.alloc (.cells #[.slice none 0 0,.slice none 0 0] 101)).alloc (.cells #[.slice (some ⟨w.heap.size+1+1+1,0,none⟩) n n,.slice (some ⟨w.heap.size+1+1,0,none⟩) n n] 101)).alloc (.cells (bl n fun _=>false) 4)).alloc (.cells (sp n fun _=>(0,0)) 70)).drew).heap[w.heap.size+1+1]? = some (.cells (bl n fun _=>false) 4) from HH.out.2.2.1)
   have Y30:=Lib.hid (show (((((w.alloc (.cells #[.slice none 0 0,.slice none 0 0] 101)).alloc (.cells #[.slice (some ⟨w.heap.size+1+1+1,0,none⟩) n n,.slice (some ⟨w.heap.size+1+1,0,none⟩) n n] 101)).alloc (.cells (bl n fun _=>false) 4)).alloc (.cells (sp n fun _=>(0,0)) 70)).drew).heap[w.heap.size+1+1+1]? = some (.cells (sp n fun _=>(0,0)) 70) from HH.out.2.2.2)
   generalize World.drew _=W0 at *
   clear HH
   obtain ⟨m0,m1⟩:=two_cells Y10.out
   go_wp2
   clear m0 m1
   go_loopw [15] (fun iv wr=>∃ i:Nat,iv=.int .i64 i∧i ≤ n∧Hid (wr.heap[w.heap.size+1+1+1]? = some (.cells (sp n (halfN i)) 70))∧Hid (wr.heap[w.heap.size+1+1]? = some (.cells (bl n fun _=>false) 4))∧Hid (wr.heap[w.heap.size+1]? = some (.cells #[.slice (some ⟨w.heap.size+1+1+1,0,none⟩) n n,.slice (some ⟨w.heap.size+1+1,0,none⟩) n n] 101))∧Hid (wr.heap[w.heap.size]? = some (.cells #[.slice none 0 0,.slice none 0 0] 101))∧Hid (Below w.heap.size w wr)) (fun iv _=>n - (intOf iv).toNat)
   case atStart=>exact ⟨0,rfl,Nat.zero_le _,by rw [show halfN 0=fun _=>(0,0) from halfN_zero];exact Y30,Y20,Y10,YZ0,HBW⟩
   case round =>
     clear YZ0 Y10 Y20 Y30 HBW
     obtain ⟨i,rfl,hi,YS,YT,YM,YZ,HB⟩:=hrel
     have wi:IntKind.i64.wrap ((i:Int)+1)=(i:Int)+1:=IntWalk.i64_in _ (by omega)
     by_cases hlt:i < n
     · go_upto_region 5 with (fail)
       refine Ri.wp_region_frame (by kernel_rfl) (by kernel_rfl) (by kernel_rfl) (by kernel_rfl)
         (fun L v w'=>(L 5=false→Below wr.heap.size wr w')∧(L 5=true→w'.heap[w.heap.size+1+1+1]? = some (.cells (sp n (halfN (i+1))) 70)∧Touch [w.heap.size+1+1+1] wr w')∧(L 5=true→L 0=true)∧(L 5=true→L 1=true)∧(L 5=true→L 2=true)∧(L 5=true→L 3=true)∧(L 5=true→L 4=true)∧(L 0=true→v 0=.pointer (some ⟨w.heap.size+1,0,none⟩))∧(L 1=true→v 1=.slice (some ⟨w.heap.size+1+1+1,0,none⟩) n n)∧(L 2=true→v 2=.int .i64 (i:Int))∧(L 3=true→v 3=.agg #[.int .i64 (-1),.int .i64 (-1)])∧(L 4=true→v 4=.pointer (some ⟨w.heap.size+1+1+1,i * 2,none⟩)))
         ?_ ?_ ?_
       · exact ⟨fun _=>(Below.refl _ _).drew,by simp,by simp,by simp,by simp,by simp,by simp,by simp,by simp,by simp,by simp,by simp⟩
       · intro i hi9 L v w9 xa hI hL hd hv ho
         have hi':i=0 ∨ i=1 ∨ i=2 ∨ i=3 ∨ i=4 ∨ i=5:=by simp at hi9;omega
         obtain ⟨hbf,hfin,d0,d1,d2,d3,d4,q0,q1,q2,q3,q4⟩:=hI
         rcases hi' with rfl | rfl | rfl | rfl | rfl | rfl
         · have e3:xa.tmps.getD 3 undef=.pointer (some ⟨w.heap.size+1,0,none⟩):=ho 3 (by kernel_rfl)
           have hl9:L 5=false:=by cases h:L 5 with | false=>rfl | true=>rw [d0 h] at hL;cases hL
           have hb:=hbf hl9
           refine Ri.step_plain rfl rfl (fun K' hK=>?_)
           go_simp
           exact hK _ _ ⟨_,_,rfl,rfl,(fun _=>hb),(fun h=>Bool.noConfusion (hl9.symm.trans h)),(fun _=>rfl),d1,d2,d3,d4,(fun _=>rfl),q1,q2,q3,q4⟩
         · have l0:L 0=true:=by have:=hd _ rfl;simp [Region.binds] at this;simp [this]
           have f0:=(hv 0 18 rfl l0).trans (q0 l0)
           have hl9:L 5=false:=by cases h:L 5 with | false=>rfl | true=>rw [d1 h] at hL;cases hL
           have hb:=hbf hl9
           refine Ri.step_plain rfl rfl (fun K' hK=>?_)
           obtain ⟨b0,b1⟩:=two_cells (keep_blk hb YM.out)
           go_simp
           exact hK _ _ ⟨_,_,rfl,rfl,(fun _=>hb),(fun h=>Bool.noConfusion (hl9.symm.trans h)),d0,(fun _=>rfl),d2,d3,d4,q0,(fun _=>rfl),q2,q3,q4⟩
         · have e4:xa.tmps.getD 4 undef=.int .i64 (i:Int):=ho 4 (by kernel_rfl)
           have hl9:L 5=false:=by cases h:L 5 with | false=>rfl | true=>rw [d2 h] at hL;cases hL
           have hb:=hbf hl9
           refine Ri.step_plain rfl rfl (fun K' hK=>?_)
           go_simp
           exact hK _ _ ⟨_,_,rfl,rfl,(fun _=>hb),(fun h=>Bool.noConfusion (hl9.symm.trans h)),d0,d1,(fun _=>rfl),d3,d4,q0,q1,(fun _=>rfl),q3,q4⟩
         · have hl9:L 5=false:=by cases h:L 5 with | false=>rfl | true=>rw [d3 h] at hL;cases hL
           have hb:=hbf hl9
           refine Ri.step_plain rfl rfl (fun K' hK=>?_)
           go_simp
           refine (rknowhere_any _).mono ?_
           rintro e w8 ⟨rfl,hb8⟩
           exact hK _ _ ⟨_,_,rfl,rfl,(fun _=>hb.trans (hb8.mono hb.size)),(fun h=>Bool.noConfusion (hl9.symm.trans h)),d0,d1,d2,(fun _=>rfl),d4,q0,q1,q2,(fun _=>rfl),q4⟩
         · have l0:L 1=true∧L 2=true:=by have:=hd _ rfl;simp [Region.binds] at this;simp [this]
           have f1:=(hv 1 19 rfl l0.1).trans (q1 l0.1)
           have f2:=(hv 2 20 rfl l0.2).trans (q2 l0.2)
           have hl9:L 5=false:=by cases h:L 5 with | false=>rfl | true=>rw [d4 h] at hL;cases hL
           have hb:=hbf hl9
           refine Ri.step_plain rfl rfl (fun K' hK=>?_)
           go_simp
           exact hK _ _ ⟨_,_,rfl,rfl,(fun _=>hb),(fun h=>Bool.noConfusion (hl9.symm.trans h)),d0,d1,d2,d3,(fun _=>rfl),q0,q1,q2,q3,(fun _=>rfl)⟩
         · have l0:L 4=true∧L 3=true:=by have:=hd _ rfl;simp [Region.binds] at this;simp [this]
           have f4:=(hv 4 22 rfl l0.1).trans (q4 l0.1)
           have f3:=(hv 3 21 rfl l0.2).trans (q3 l0.2)
           have h0:L 0=true:=by have:=hd _ rfl;simp [Region.binds] at this;simp [this]
           have h1:L 1=true:=by have:=hd _ rfl;simp [Region.binds] at this;simp [this]
           have h2:L 2=true:=by have:=hd _ rfl;simp [Region.binds] at this;simp [this]
           have h3:L 3=true:=by have:=hd _ rfl;simp [Region.binds] at this;simp [this]
           have h4:L 4=true:=by have:=hd _ rfl;simp [Region.binds] at this;simp [this]
           have hb:=hbf hL
           refine Ri.step_plain rfl rfl (fun K' hK=>?_)
           obtain ⟨c0,c1,c2,c3⟩:=sp_cell hlt (keep_blk hb YS.out)
           go_simp
           exact hK _ _ ⟨_,undef,rfl,rfl,(fun h=>by cases h),(fun _=>⟨sp_put hlt (keep_blk hb YS.out) (halfN_at i) (halfN_ne i),(Touch.of_below _ hb).setCells (b:=w.heap.size+1+1+1) (by simp) (i * 2) [.int .i64 (-1),.int .i64 (-1)]⟩),(fun _=>h0),(fun _=>h1),(fun _=>h2),(fun _=>h3),(fun _=>h4),q0,q1,q2,q3,q4⟩
       · rintro v w9 ⟨-,hfin,-,-,-,-,-,-,-,-,-,-⟩
         have HF:=Lib.hid (hfin rfl)
         simp only [Ri.frame,List.zipIdx,List.foldl_cons,List.foldl_nil,if_true,List.setIfInBounds_toArray,List.set_cons_zero,List.set_cons_succ,Nat.reduceAdd]
         clear hfin
         generalize v 0=y0;generalize v 1=y1;generalize v 2=y2;generalize v 3=y3;generalize v 4=y4
         have HL:=Lib.hid (show w.heap.size < wr.heap.size from (Array.getElem?_eq_some_iff.1 YZ.out).1)
         have hs1:=(Array.getElem?_eq_some_iff.1 YS.out).1;have ht1:=(Array.getElem?_eq_some_iff.1 YT.out).1;have hm1:=(Array.getElem?_eq_some_iff.1 YM.out).1
         have X1:=Lib.hid ((HF.out.2.block _ ht1 (by simp only [List.mem_singleton];omega)).trans YT.out)
         have X2:=Lib.hid ((HF.out.2.block _ hm1 (by simp only [List.mem_singleton];omega)).trans YM.out)
         have X3:=Lib.hid ((HF.out.2.block _ HL.out (by simp only [List.mem_singleton];omega)).trans YZ.out)
         have X4:=Lib.hid (HB.out.trans (HF.out.2.below (B:=w.heap.size) (by intro k hk;simp only [List.mem_singleton] at hk;omega) HB.out.size))
         clear hs1 ht1 hm1
         go_wp2
         exact ⟨⟨i+1,by go_num,by omega,Lib.hid HF.out.1,X1,X2,X3,X4⟩,by simp [intOf];omega⟩
     · obtain rfl:n=i:=by omega
       obtain ⟨m0,m1⟩:=two_cells YM.out
       have HS:=Lib.hid (halfN_all n)
       have HM:=Lib.hid (show w.heap.size < w.heap.size+1+1+1∧w.heap.size < w.heap.size+1+1 by omega)
       clear hlt
       go_wp2_with (first
         | (refine wpList_load_row rfl 101 (.tmp 3) rfl (w.heap.size+1) rfl 101 _ (0,0) _ YM.out Tryd.underlying101 rfl (by kernel_rfl) ?_)
         | (refine wpList_store_row rfl 101 (.tmp 2) (.tmp 24) rfl (w.heap.size) #[.slice (some ⟨w.heap.size+1+1+1,0,none⟩) n n,.slice (some ⟨w.heap.size+1+1,0,none⟩) n n] rfl rfl 101 _ YZ.out (by kernel_rfl) rfl (by simp [Value.oneCell']) ?_)
         | fail)
       refine bodyPost_ret (results_cell_row rfl _ _ (w.heap.size) 101 #[.slice (some ⟨w.heap.size+1+1+1,0,none⟩) n n,.slice (some ⟨w.heap.size+1+1,0,none⟩) n n] (0,0) _ rfl (heap_setRow YZ.out) Tryd.underlying101 rfl (by kernel_rfl)) rfl ⟨w.heap.size+1+1+1,w.heap.size+1+1,rfl,by omega,by omega, ?_, ?_, ?_⟩
       · rw [heap_setRow_other _ _ _ (by omega),← HS.out];exact YS.out
       · rw [heap_setRow_other _ _ _ (by omega)];exact YT.out
       · exact below_setRow HB.out (Nat.le_refl _) _
end Go.Proofs.YtnaoiglbjkjogaaDoor
namespace Go.Proofs.YtnaoiglbjkjogaaDoor
open Go.RowKit
theorem rkorder_any (t:Pa) (w:World) (B:Nat→Prop) (v:Value) (hv:PaV w B v t):Calls Tryd.prog 121 #[v] w fun e w'=>e=.returned (.bool (Rk.inOrd t.subs t.lo t.hi))∧Below w.heap.size w w':=by
 obtain ⟨s,rfl,hs⟩:=hv
 obtain ⟨p,cap,rfl,hlen⟩:=hs.slice
 generalize hts:t.subs=ts at *
 have HS:=Lib.hid hs
 clear hs hts
 unfold Pa.cells at *
 obtain ⟨R,hR⟩:∃ R,Rk.inOrd ts t.lo t.hi=R:=⟨_,rfl⟩
 rw [hR]
 have HR:=Lib.hid hR
 clear hR
 generalize t.lo=lo at *;generalize t.hi=hi at *;generalize t.pick=pk at *
 have Z0:=Lib.hid (heap_alloc_new w (.cells #[.int .i64 lo,.int .i64 hi,.int .i64 pk,.slice p ts.length cap] 57))
 have HW:=Lib.hid (show Below w.heap.size w (w.alloc (.cells #[.int .i64 lo,.int .i64 hi,.int .i64 pk,.slice p ts.length cap] 57)) from (Below.refl _ _).alloc (Nat.le_refl _) _)
 go_enter Tryd.func121,Tryd.ntmps121
 go_wp2
 generalize w.alloc (.cells #[.int .i64 lo,.int .i64 hi,.int .i64 pk,.slice p ts.length cap] 57)=W0 at *
 go_loopw [3,11] (fun av iv wr=>∃ (i:Nat) (a:Int),iv=.int .i64 i∧av=.int .i64 a∧i ≤ ts.length∧Hid (Rk.inOrd (ts.drop i) a hi=R)∧Hid (Below W0.heap.size W0 wr)) (fun _ iv _=>ts.length - (intOf iv).toNat)
 case atStart=>exact ⟨0,lo,rfl,rfl,Nat.zero_le _,by rw [List.drop_zero];exact HR,Lib.hid (Below.refl _ _)⟩
 case round =>
   obtain ⟨i,a,rfl,rfl,hi0,HL,HB⟩:=hrel
   have wi:IntKind.i64.wrap ((i:Int)+1)=(i:Int)+1:=IntWalk.i64_in _ (by omega)
   have HBW:=Lib.hid (HW.out.trans (HB.out.mono HW.out.size))
   by_cases hlt:i < ts.length
   · obtain ⟨x,hx⟩:∃ x,ts[i]? = some x:=⟨_,List.getElem?_eq_getElem hlt⟩
     obtain ⟨b1,o1,s1,rfl,-,t1,sub1⟩:=HS.out.get hx
     obtain ⟨p1,c1,rfl,-⟩:=sub1.slice
     obtain ⟨e0,e1,e2,e3⟩:=t1.keep (HBW.out.block _ t1.lt)
     have hdr:ts.drop i=x :: ts.drop (i+1):=by
       rw [List.drop_eq_getElem_cons hlt,(List.getElem?_eq_some_iff.1 hx).2]
     have hl:=HL.out
     rw [hdr,Rk.inOrd] at hl
     have HL2:=Lib.hid hl
     clear t1 sub1 hx hdr hl HL
     by_cases hxa:x.lo=a
     · have f1:(x.lo != a)=false:=by simpa using hxa
       have HL3:=Lib.hid (show Rk.inOrd (ts.drop (i+1)) x.hi hi=R by have:=HL2.out;rw [beq_iff_eq.2 hxa,Bool.true_and] at this;exact this)
       clear hxa HL2
       go_wp2
       exact ⟨⟨i+1,x.hi,by go_num,rfl,by omega,HL3,Lib.hid (HB.out.alloc HB.out.size _)⟩,by simp [intOf];omega⟩
     · have f1:(x.lo != a)=true:=by simpa using hxa
       have HL3:=Lib.hid (show false=R by have:=HL2.out;rw [beq_eq_false_iff_ne.2 hxa,Bool.false_and] at this;exact this)
       clear hxa HL2
       go_wp2
       go_ret
       exact ⟨ret_bool HL3.out,HBW.out.alloc HBW.out.size _⟩
   · obtain rfl:i=ts.length:=by omega
     have hl:=HL.out
     rw [List.drop_length,Rk.inOrd] at hl
     have HL2:=Lib.hid hl
     have Z1:=Lib.hid (keep_blk (HB.out.mono (Nat.le_refl _)) Z0.out)
     obtain ⟨d0,d1,d2,d3,-,-,-,-⟩:=four Z1.out
     clear hl HL hlt
     go_wp2
     go_ret
     exact ⟨ret_bool HL2.out,HBW.out⟩
theorem pa_size (w:World):(sizeOf (Tryd.prog.elem 55)).run Tryd.prog w=.ok 4 w:=by kernel_rfl
theorem cut_pas {w0:World} {B:Nat→Prop} {p:Option Addr} {len cap:Nat} {ts:List Pa} (h:PasAt w0 B (.slice p len cap) ts) (m:Nat) (hm:m ≤ ts.length) :
   ∃ p',PasAt w0 B (.slice p' (ts.length - m) (cap - m)) (ts.drop m)∧∀ w:World,(Instr.slice 55 (.slice p ts.length cap) (some (.int .i64 (m:Int))) none none).run Tryd.prog w=.ok (.slice p' (ts.length - m) (cap - m)) w:=by
 have hlen:=h.len
 subst hlen
 have key:∀ w,(Instr.slice 55 (.slice p ts.length cap) (some (.int .i64 (m:Int))) none none).run Tryd.prog w=.ok (sliced p m ts.length cap 4) w:=fun w=>by
   rw [run_slice_l w 55 p ts.length cap Tryd.underlying55 .i64 (m:Int) (by omega) (by omega),pa_size]
   simp only [Result.andThen,Int.toNat_natCast]
 obtain ⟨p',hp'⟩:∃ p',sliced p m ts.length cap 4=.slice p' (ts.length - m) (cap - m):=by unfold sliced;split <;> exact ⟨_,rfl⟩
 refine ⟨p',h.drop hm p' (fun hlt b o e=>?_),fun w=>by rw [key,hp']⟩
 have hc:=h.cap
 unfold sliced at hp'
 rw [if_neg (by omega)] at hp'
 injection hp' with e1
 rw [← e1,e]
 simp only [Option.map_some]
 unfold Addr.add
 split
 · rename_i h0;rw [h0];rfl
 · rfl
theorem rkadmits_any (t:Tr) (q:Pa) (h0:0 ≤ t.least) (w:World) (B C:Nat→Prop) (v u:Value) (hv:NodeV w B v t) (hu:PaV w C u q):Calls Tryd.prog 122 #[v,u] w fun e w'=>e=.returned (.bool (Rk.admits t.least t.most t.bare q))∧Below w.heap.size w w':=by
 obtain ⟨s,rfl,hs⟩:=hv
 obtain ⟨p,cap,rfl,-⟩:=hs.slice
 obtain ⟨z,rfl,hz⟩:=hu
 obtain ⟨pp,pc,rfl,hlen⟩:=hz.slice
 have HS:=Lib.hid hz
 clear hs hz
 unfold Tr.cells Pa.cells
 obtain ⟨R,hR⟩:∃ R,Rk.admits t.least t.most t.bare q=R:=⟨_,rfl⟩
 rw [hR]
 unfold Rk.admits at hR
 have HR:=Lib.hid hR
 clear hR
 generalize hts:q.subs=ts at *
 obtain ⟨m,hm⟩:∃ m:Nat,t.least=m:=⟨t.least.toNat,by omega⟩
 rw [hm] at HR ⊢
 simp only [Int.toNat_natCast] at HR
 clear hm h0 hts
 generalize t.most=M at *;generalize t.bare=br at *;generalize q.lo=lo at *;generalize q.hi=hi at *;generalize q.pick=pk at *
 generalize t.subs.length=tl at *
 by_cases h1:(ts.length:Int) < m
 · have d1:decide ((ts.length:Int) < m)=true:=decide_eq_true h1
   have d2:decide (ts.length < m)=true:=by simp;omega
   have HR2:=Lib.hid (show false=R by have:=HR.out;rw [if_pos (.inl h1)] at this;exact this)
   clear h1 HR
   go_enter Tryd.func122,Tryd.ntmps122
   go_wp2
   go_ret
   exact ⟨ret_bool HR2.out,by go_grown⟩
 have d1:decide ((ts.length:Int) < m)=false:=decide_eq_false h1
 have d2:decide (ts.length < m)=false:=by simp;omega
 by_cases h2:M < (ts.length:Int)∧M ≠ -1
 · have d3:decide (M < (ts.length:Int))=true:=decide_eq_true h2.1
   have d4:(M != -1)=true:=by simpa using h2.2
   have HR2:=Lib.hid (show false=R by have:=HR.out;rw [if_pos (.inr h2)] at this;exact this)
   clear h1 h2 HR
   go_enter Tryd.func122,Tryd.ntmps122
   go_wp2
   go_ret
   exact ⟨ret_bool HR2.out,by go_grown⟩
 have HRA:=Lib.hid (show (if ts.length=1∧(m:Int)=0∧br=false∧lo=hi then true else (ts.drop m).all Rk.full)=R by have:=HR.out;rw [if_neg (by rintro (h | h);exact h1 h;exact h2 h)] at this;exact this)
 have hml:m ≤ ts.length:=by omega
 have HG:=Lib.hid (show decide (M < (ts.length:Int))=false ∨ (decide (M < (ts.length:Int))=true∧(M != -1)=false) by
   by_cases a:M < (ts.length:Int)
   · exact .inr ⟨decide_eq_true a,by simpa using fun b=>h2 ⟨a,b⟩⟩
   · exact .inl (decide_eq_false a))
 clear h1 h2 HR
 by_cases ha:ts.length=1∧(m:Int)=0∧br=false∧lo=hi
 · have HR2:=Lib.hid (show true=R by have:=HRA.out;rw [if_pos ha] at this;exact this)
   obtain ⟨a1,a2,rfl,rfl⟩:=ha
   have e1:((ts.length:Int) == 1)=true:=by simp;omega
   have e1':(ts.length == 1)=true:=by simpa using a1
   have e2:((m:Int) == 0)=true:=by simpa using a2
   have e2':(m == 0)=true:=by simp;omega
   have HE:=Lib.hid (fun w9=>rkempty_any lo lo pk (.slice pp ts.length pc) w9)
   have e3:(lo == lo)=true:=by simp
   rw [e3] at HE
   clear a1 a2 HRA e3
   rcases HG.out with hg | ⟨hg,hg2⟩
   all_goals
     clear HG
     go_enter Tryd.func122,Tryd.ntmps122
     go_wp2_with fail
     refine (HE.out _).mono ?_
     rintro e w9 ⟨rfl,hb9⟩
     have HB9:=Lib.hid (show Below w.heap.size w w9 from Below.trans (by go_grown) (hb9.mono (by simp;omega)))
     clear hb9
     go_wp2
     go_ret
     exact ⟨ret_bool HR2.out,HB9.out⟩
 have HR3:=Lib.hid (show (ts.drop m).all Rk.full=R by have:=HRA.out;rw [if_neg ha] at this;exact this)
 clear HRA
 obtain ⟨p',hpd,hrun⟩:=cut_pas HS.out m hml
 have hdl:(ts.drop m).length=ts.length - m:=List.length_drop
 generalize hds:ts.drop m=ds at *
 rw [← hdl] at hpd hrun
 have hd48:ds.length * 48 ≤ 140737488351232:=by omega
 have HD:=Lib.hid hpd
 clear hpd hds HS hml
 have HDL:=Lib.hid hdl
 clear hdl
 have hcs:(ts.length=1∧(m:Int)=0∧br=false∧lo ≠ hi) ∨ ((ts.length == 1)=false∧((ts.length:Int) == 1)=false) ∨ ((ts.length == 1)=true∧((ts.length:Int) == 1)=true∧(m == 0)=false∧((m:Int) == 0)=false) ∨ ((ts.length == 1)=true∧((ts.length:Int) == 1)=true∧(m == 0)=true∧((m:Int) == 0)=true∧br=true):=by
   by_cases a1:ts.length=1
   · by_cases a2:m=0
     · cases br with
       | true=>exact .inr (.inr (.inr ⟨by simpa using a1,by simp;omega,by simpa using a2,by simp;omega,rfl⟩))
       | false=>exact .inl ⟨a1,by omega,rfl,fun a3=>ha ⟨a1,by omega,rfl,a3⟩⟩
     · exact .inr (.inr (.inl ⟨by simpa using a1,by simp;omega,by simpa using a2,by simp;omega⟩))
   · exact .inr (.inl ⟨by simpa using a1,by simp;omega⟩)
 clear ha
 rcases hcs with ⟨a1,a2,rfl,a3⟩ | ⟨q1,q2⟩ | ⟨q1,q2,q3,q4⟩ | ⟨q1,q2,q3,q4,rfl⟩
 · have q1:(ts.length == 1)=true:=by simpa using a1
   have q2:((ts.length:Int) == 1)=true:=by simp;omega
   have q3:(m == 0)=true:=by simp;omega
   have q4:((m:Int) == 0)=true:=by simpa using a2
   have HE0:=Lib.hid (fun w9=>rkempty_any lo hi pk (.slice pp ts.length pc) w9)
   rw [beq_eq_false_iff_ne.2 a3] at HE0
   have W2x:=Lib.hid (two_new w (.cells #[.int .i64 t.kind,.int .u64 (Oc.U t.w0),.int .u64 (Oc.U t.w1),.int .u64 (Oc.U t.w2),.int .u64 (Oc.U t.w3),.slice p tl cap,.int .i64 t.num,.int .i64 m,.int .i64 M,.bool false] 37) (.cells #[.int .i64 lo,.int .i64 hi,.int .i64 pk,.slice pp ts.length pc] 57))
   clear a1 a2 a3
   rcases HG.out with hg | ⟨hg,hg2⟩
   all_goals
     clear HG
     go_enter Tryd.func122,Tryd.ntmps122
     go_wp2_with fail
     refine (HE0.out _).mono ?_
     rintro e w9 ⟨rfl,hb9⟩
     have y0:=keep_blk hb9 W2x.out.1
     have y1:=keep_blk hb9 W2x.out.2
     have HB9:=Lib.hid (show Below w.heap.size w w9 from Below.trans (by go_grown) (hb9.mono (by simp;omega)))
     obtain ⟨n0,n1,n2,n3,n4,n5,n6,n7,n8,n9⟩:=allTen y0
     obtain ⟨d0,d1,d2,d3,-,-,-,-⟩:=four y1
     clear hb9 HE0 W2x y0 y1
     go_wp2
     have HW:=Lib.hid (HB9.out)
     go_loopw [48] (fun iv wr=>∃ i:Nat,iv=.int .i64 i∧i ≤ ds.length∧Hid ((ds.drop i).all Rk.full=R)∧Hid (Below w.heap.size w wr)) (fun iv _=>ds.length - (intOf iv).toNat)
     case atStart=>exact ⟨0,rfl,Nat.zero_le _,by rw [List.drop_zero];exact HR3,HW⟩
     case round =>
       obtain ⟨i,rfl,hi0,HL,HB⟩:=hrel
       have wi:IntKind.i64.wrap ((i:Int)+1)=(i:Int)+1:=IntWalk.i64_in _ (by omega)
       by_cases hlt:i < ds.length
       · obtain ⟨x,hx⟩:∃ x,ds[i]? = some x:=⟨_,List.getElem?_eq_getElem hlt⟩
         obtain ⟨b1,o1,s1,rfl,-,t1,sub1⟩:=HD.out.get hx
         obtain ⟨p1,c1,rfl,-⟩:=sub1.slice
         obtain ⟨e0,e1,e2,e3⟩:=t1.keep (HB.out.block _ t1.lt)
         have hdr:ds.drop i=x :: ds.drop (i+1):=by
           rw [List.drop_eq_getElem_cons hlt,(List.getElem?_eq_some_iff.1 hx).2]
         have hl:=HL.out
         rw [hdr,List.all_cons] at hl
         have HL2:=Lib.hid hl
         have HE:=Lib.hid (fun w9=>rkempty_any x.lo x.hi x.pick (.slice p1 x.subs.length c1) w9)
         clear t1 sub1 hx hdr hl HL
         by_cases hxa:x.lo=x.hi
         · have HL3:=Lib.hid (show false=R by have:=HL2.out;unfold Rk.full at this;rw [beq_iff_eq.2 hxa] at this;exact this)
           rw [beq_iff_eq.2 hxa] at HE
           clear hxa HL2
           go_wp2_with fail
           refine (HE.out _).mono ?_
           rintro e w9 ⟨rfl,hb9⟩
           have HB9:=Lib.hid (show Below w.heap.size w w9 from Below.trans (HB.out.alloc HB.out.size _) (hb9.mono (by have:=HB.out.size;simp;omega)))
           clear hb9
           go_wp2
           go_ret
           exact ⟨ret_bool HL3.out,HB9.out⟩
         · have HL3:=Lib.hid (show (ds.drop (i+1)).all Rk.full=R by have:=HL2.out;unfold Rk.full at this;rw [beq_eq_false_iff_ne.2 hxa] at this;exact this)
           rw [beq_eq_false_iff_ne.2 hxa] at HE
           clear hxa HL2
           go_wp2_with fail
           refine (HE.out _).mono ?_
           rintro e w9 ⟨rfl,hb9⟩
           have HB9:=Lib.hid (show Below w.heap.size w w9 from Below.trans (HB.out.alloc HB.out.size _) (hb9.mono (by have:=HB.out.size;simp;omega)))
           clear hb9
           go_wp2
           exact ⟨⟨i+1,by go_num,by omega,HL3,HB9⟩,by simp [intOf];omega⟩
       · obtain rfl:i=ds.length:=by omega
         have HL3:=Lib.hid (show true=R by have:=HL.out;rw [List.drop_length] at this;exact this)
         clear HL hlt
         go_wp2
         go_ret
         exact ⟨ret_bool HL3.out,HB.out⟩
 all_goals
   rcases HG.out with hg | ⟨hg,hg2⟩
   all_goals
     clear HG
     go_enter Tryd.func122,Tryd.ntmps122
     go_wp2
     go_loopw [48] (fun iv wr=>∃ i:Nat,iv=.int .i64 i∧i ≤ ds.length∧Hid ((ds.drop i).all Rk.full=R)∧Hid (Below w.heap.size w wr)) (fun iv _=>ds.length - (intOf iv).toNat)
     case atStart=>exact ⟨0,rfl,Nat.zero_le _,by rw [List.drop_zero];exact HR3,Lib.hid (((Below.refl _ _).alloc (Nat.le_refl _) _).alloc (by simp) _)⟩
     case round =>
       obtain ⟨i,rfl,hi0,HL,HB⟩:=hrel
       have wi:IntKind.i64.wrap ((i:Int)+1)=(i:Int)+1:=IntWalk.i64_in _ (by omega)
       by_cases hlt:i < ds.length
       · obtain ⟨x,hx⟩:∃ x,ds[i]? = some x:=⟨_,List.getElem?_eq_getElem hlt⟩
         obtain ⟨b1,o1,s1,rfl,-,t1,sub1⟩:=HD.out.get hx
         obtain ⟨p1,c1,rfl,-⟩:=sub1.slice
         obtain ⟨e0,e1,e2,e3⟩:=t1.keep (HB.out.block _ t1.lt)
         have hdr:ds.drop i=x :: ds.drop (i+1):=by
           rw [List.drop_eq_getElem_cons hlt,(List.getElem?_eq_some_iff.1 hx).2]
         have hl:=HL.out
         rw [hdr,List.all_cons] at hl
         have HL2:=Lib.hid hl
         have HE:=Lib.hid (fun w9=>rkempty_any x.lo x.hi x.pick (.slice p1 x.subs.length c1) w9)
         clear t1 sub1 hx hdr hl HL
         by_cases hxa:x.lo=x.hi
         · have HL3:=Lib.hid (show false=R by have:=HL2.out;unfold Rk.full at this;rw [beq_iff_eq.2 hxa] at this;exact this)
           rw [beq_iff_eq.2 hxa] at HE
           clear hxa HL2
           go_wp2_with fail
           refine (HE.out _).mono ?_
           rintro e w9 ⟨rfl,hb9⟩
           have HB9:=Lib.hid (show Below w.heap.size w w9 from Below.trans (HB.out.alloc HB.out.size _) (hb9.mono (by have:=HB.out.size;simp;omega)))
           clear hb9
           go_wp2
           go_ret
           exact ⟨ret_bool HL3.out,HB9.out⟩
         · have HL3:=Lib.hid (show (ds.drop (i+1)).all Rk.full=R by have:=HL2.out;unfold Rk.full at this;rw [beq_eq_false_iff_ne.2 hxa] at this;exact this)
           rw [beq_eq_false_iff_ne.2 hxa] at HE
           clear hxa HL2
           go_wp2_with fail
           refine (HE.out _).mono ?_
           rintro e w9 ⟨rfl,hb9⟩
           have HB9:=Lib.hid (show Below w.heap.size w w9 from Below.trans (HB.out.alloc HB.out.size _) (hb9.mono (by have:=HB.out.size;simp;omega)))
           clear hb9
           go_wp2
           exact ⟨⟨i+1,by go_num,by omega,HL3,HB9⟩,by simp [intOf];omega⟩
       · obtain rfl:i=ds.length:=by omega
         have HL3:=Lib.hid (show true=R by have:=HL.out;rw [List.drop_length] at this;exact this)
         clear HL hlt
         go_wp2
         go_ret
         exact ⟨ret_bool HL3.out,HB.out⟩
end Go.Proofs.YtnaoiglbjkjogaaDoor
namespace Go.Proofs.YtnaoiglbjkjogaaDoor
open Go.RowKit
namespace Rk
theorem len0 (l:List Pa):decide (l=[])=(l.length == 0):=by cases l <;> simp
theorem fit1 {x:Sc} {t:Tr} {p:Pa} (h:t.kind=1):fitK x t p=(p.subs.length == 0 && p.lo == p.hi):=by
 unfold fitK;rw [if_pos h,len0]
theorem fit2 {x:Sc} {t:Tr} {p:Pa} (h:t.kind=2):fitK x t p=(p.subs.length == 0 && (x.inn p.lo && (p.hi == p.lo+1 && Oc.mem t.w0 t.w1 t.w2 t.w3 (cb x.t p.lo.toNat)))):=by
 unfold fitK;rw [if_neg (by omega),if_pos h,len0]
theorem fit3 {x:Sc} {t:Tr} {p:Pa} (h:t.kind=3):fitK x t p=(p.subs.length == 0 && (p.lo == p.hi && x.beg p.lo)):=by
 unfold fitK;rw [if_neg (by omega),if_neg (by omega),if_pos h,len0]
theorem fit4 {x:Sc} {t:Tr} {p:Pa} (h:t.kind=4):fitK x t p=(p.subs.length == 0 && (p.lo == p.hi && x.fin p.lo)):=by
 unfold fitK;rw [if_neg (by omega),if_neg (by omega),if_neg (by omega),if_pos h,len0]
theorem fit5 {x:Sc} {t:Tr} {p:Pa} (h:t.kind=5):fitK x t p=(p.subs.length == t.subs.length && inOrd p.subs p.lo p.hi):=by
 unfold fitK;rw [if_neg (by omega),if_neg (by omega),if_neg (by omega),if_neg (by omega),if_pos h]
 congr 1
theorem fit6 {x:Sc} {t:Tr} {p:Pa} (h:t.kind=6):fitK x t p=(p.subs.length == 1 && (decide (0 ≤ p.pick) && (decide (p.pick < (t.subs.length:Int)) && inOrd p.subs p.lo p.hi))):=by
 unfold fitK;rw [if_neg (by omega),if_neg (by omega),if_neg (by omega),if_neg (by omega),if_neg (by omega),if_pos h]
 congr 1
theorem fit7 {x:Sc} {t:Tr} {p:Pa} (h:t.kind=7):fitK x t p=(p.subs.length == 1 && inOrd p.subs p.lo p.hi):=by
 unfold fitK;rw [if_neg (by omega),if_neg (by omega),if_neg (by omega),if_neg (by omega),if_neg (by omega),if_neg (by omega),if_pos h]
 congr 1
theorem fit8 {x:Sc} {t:Tr} {p:Pa} (h:t.kind=8):fitK x t p=(inOrd p.subs p.lo p.hi && admits t.least t.most t.bare p):=by
 unfold fitK;rw [if_neg (by omega),if_neg (by omega),if_neg (by omega),if_neg (by omega),if_neg (by omega),if_neg (by omega),if_neg (by omega),if_pos h]
end Rk
theorem rkfits_1 (x:Sc) (b:Nat) (t:Tr) (q:Pa) (hk:t.kind=1) (hin:Rk.inSc x q=true) (hpk:q.pick=0) (h0:0 ≤ t.least) (hsz:x.t.size ≤ 4611686018427387904) (w:World) (hx:ScAt w b x) (B C:Nat→Prop) (v u:Value) (hv:NodeV w B v t) (hu:PaV w C u q) :
   Calls Tryd.prog 94 #[v,.pointer (some ⟨b,0,none⟩),u] w fun e w'=>e=.returned (.bool (Rk.fitK x t q))∧Below w.heap.size w w':=by
 have HV:=Lib.hid (fun w9 (h:Below w.heap.size w w9)=>hv.later h)
 have HU:=Lib.hid (fun w9 (h:Below w.heap.size w w9)=>hu.later h)
 obtain ⟨s,rfl,hs⟩:=hv
 obtain ⟨p,cap,rfl,hlt⟩:=hs.slice
 obtain ⟨z,rfl,hz⟩:=hu
 obtain ⟨pp,pc,rfl,hlq⟩:=hz.slice
 clear hs hz
 have HX:=Lib.hid (fun w9 (h:Below w.heap.size w w9)=>hx.below h)
 have HIN:=Lib.hid (fun w9 (h:Below w.heap.size w w9)=>rkinsc_any x b q.lo q.hi q.pick (.slice pp q.subs.length pc) w9 (hx.below h))
 rw [show (decide (0 ≤ q.lo) && (decide (q.lo ≤ q.hi) && decide (q.hi ≤ (x.t.size:Int))))=true from hin] at HIN
 have hb3:=hin
 unfold Rk.inSc at hb3
 simp only [Bool.and_eq_true,decide_eq_true_eq] at hb3
 obtain ⟨b1,b2,b3⟩:=hb3
 have hun:0 ≤ t.least∧x.t.size ≤ 4611686018427387904∧ScAt w b x:=⟨h0,hsz,hx⟩
 have hun2:=hpk
 clear hin hun hun2
 obtain ⟨R,hR⟩:∃ R,Rk.fitK x t q=R:=⟨_,rfl⟩
 rw [hR]
 rw [Rk.fit1 hk] at hR
 have HR:=Lib.hid hR
 clear hR
 have HE:=Lib.hid (fun w9=>rkempty_any q.lo q.hi q.pick (.slice pp q.subs.length pc) w9)
 clear hx
 unfold Tr.cells Pa.cells at *
 rw [hk] at HV ⊢
 clear hk h0 b1 b2 b3 hsz
 generalize t.subs.length=tl at *;generalize q.subs.length=n at *
 generalize q.lo=lo at *;generalize q.hi=hi at *;generalize q.pick=pk at *
 have HA:=Lib.hid (show Below w.heap.size w ((w.alloc (.cells #[.int .i64 1,.int .u64 (Oc.U t.w0),.int .u64 (Oc.U t.w1),.int .u64 (Oc.U t.w2),.int .u64 (Oc.U t.w3),.slice p tl cap,.int .i64 t.num,.int .i64 t.least,.int .i64 t.most,.bool t.bare] 37)).alloc (.cells #[.int .i64 lo,.int .i64 hi,.int .i64 pk,.slice pp n pc] 57)) from by go_grown)
 have W2x:=Lib.hid (two_new w (.cells #[.int .i64 1,.int .u64 (Oc.U t.w0),.int .u64 (Oc.U t.w1),.int .u64 (Oc.U t.w2),.int .u64 (Oc.U t.w3),.slice p tl cap,.int .i64 t.num,.int .i64 t.least,.int .i64 t.most,.bool t.bare] 37) (.cells #[.int .i64 lo,.int .i64 hi,.int .i64 pk,.slice pp n pc] 57))
 have hp0:pk=0:=hpk
 subst hp0
 by_cases hn:n=0
 · subst hn
   have hx9:=HR.out
   rw [show ((0:Nat) == 0)=true from rfl,Bool.true_and] at hx9
   have HR1:=Lib.hid hx9
   clear hx9
   clear HR
   go_enter Tryd.func94,Tryd.ntmps94
   go_wp2_with fail
   refine (HIN.out _ HA.out).mono ?_
   rintro e w1 ⟨rfl,hb1⟩
   have HB1:=Lib.hid (HA.out.trans (hb1.mono HA.out.size))
   have Y0:=Lib.hid (keep_blk hb1 W2x.out.1);have Y1:=Lib.hid (keep_blk hb1 W2x.out.2)
   clear hb1 W2x HA HIN
   obtain ⟨n0,n1,n2,n3,n4,n5,n6,n7,n8,n9⟩:=allTen Y0.out
   obtain ⟨d0,d1,d2,d3,-,-,-,-⟩:=four Y1.out
   go_wp2_with fail
   refine (HE.out _).mono ?_
   rintro e w2 ⟨rfl,hb2⟩
   have HB2:=Lib.hid (HB1.out.trans (hb2.mono HB1.out.size))
   clear hb2
   go_wp2
   go_ret
   exact ⟨ret_bool HR1.out,HB2.out⟩
 · have q1:(n == 0)=false:=by simpa using hn
   have q2:((n:Int) == 0)=false:=by first | (simp;omega) | simpa using hn
   have HR1:=Lib.hid (show false=R by have:=HR.out;rw [q1,Bool.false_and] at this;exact this)
   clear HR hn
   go_enter Tryd.func94,Tryd.ntmps94
   go_wp2_with fail
   refine (HIN.out _ HA.out).mono ?_
   rintro e w1 ⟨rfl,hb1⟩
   have HB1:=Lib.hid (HA.out.trans (hb1.mono HA.out.size))
   have Y0:=Lib.hid (keep_blk hb1 W2x.out.1);have Y1:=Lib.hid (keep_blk hb1 W2x.out.2)
   clear hb1 W2x HA HIN
   obtain ⟨n0,n1,n2,n3,n4,n5,n6,n7,n8,n9⟩:=allTen Y0.out
   obtain ⟨d0,d1,d2,d3,-,-,-,-⟩:=four Y1.out
   go_wp2
   go_ret
   exact ⟨ret_bool HR1.out,HB1.out⟩
theorem rkfits_2 (x:Sc) (b:Nat) (t:Tr) (q:Pa) (hk:t.kind=2) (hin:Rk.inSc x q=true) (hpk:q.pick=0) (h0:0 ≤ t.least) (hsz:x.t.size ≤ 4611686018427387904) (w:World) (hx:ScAt w b x) (B C:Nat→Prop) (v u:Value) (hv:NodeV w B v t) (hu:PaV w C u q) :
   Calls Tryd.prog 94 #[v,.pointer (some ⟨b,0,none⟩),u] w fun e w'=>e=.returned (.bool (Rk.fitK x t q))∧Below w.heap.size w w':=by
 have HV:=Lib.hid (fun w9 (h:Below w.heap.size w w9)=>hv.later h)
 have HU:=Lib.hid (fun w9 (h:Below w.heap.size w w9)=>hu.later h)
 obtain ⟨s,rfl,hs⟩:=hv
 obtain ⟨p,cap,rfl,hlt⟩:=hs.slice
 obtain ⟨z,rfl,hz⟩:=hu
 obtain ⟨pp,pc,rfl,hlq⟩:=hz.slice
 clear hs hz
 have HX:=Lib.hid (fun w9 (h:Below w.heap.size w w9)=>hx.below h)
 have HIN:=Lib.hid (fun w9 (h:Below w.heap.size w w9)=>rkinsc_any x b q.lo q.hi q.pick (.slice pp q.subs.length pc) w9 (hx.below h))
 rw [show (decide (0 ≤ q.lo) && (decide (q.lo ≤ q.hi) && decide (q.hi ≤ (x.t.size:Int))))=true from hin] at HIN
 have hb3:=hin
 unfold Rk.inSc at hb3
 simp only [Bool.and_eq_true,decide_eq_true_eq] at hb3
 obtain ⟨b1,b2,b3⟩:=hb3
 have hun:0 ≤ t.least∧x.t.size ≤ 4611686018427387904∧ScAt w b x:=⟨h0,hsz,hx⟩
 have hun2:=hpk
 clear hin hun hun2
 obtain ⟨R,hR⟩:∃ R,Rk.fitK x t q=R:=⟨_,rfl⟩
 rw [hR]
 rw [Rk.fit2 hk] at hR
 have HR:=Lib.hid hR
 clear hR
 have HE:=Lib.hid (fun w9 (h:Below w.heap.size w w9)=>rkbyte_any x b t.w0 t.w1 t.w2 t.w3 q.lo q.hi q.pick (.slice pp q.subs.length pc) b1 b2 b3 hsz w9 (hx.below h))
 clear hx
 unfold Tr.cells Pa.cells at *
 rw [hk] at HV ⊢
 clear hk h0 b1 b2 b3 hsz
 generalize t.subs.length=tl at *;generalize q.subs.length=n at *
 generalize (x.inn q.lo && (q.hi == q.lo+1 && Oc.mem t.w0 t.w1 t.w2 t.w3 (cb x.t q.lo.toNat)))=z at *
 generalize q.lo=lo at *;generalize q.hi=hi at *;generalize q.pick=pk at *
 have HA:=Lib.hid (show Below w.heap.size w ((w.alloc (.cells #[.int .i64 2,.int .u64 (Oc.U t.w0),.int .u64 (Oc.U t.w1),.int .u64 (Oc.U t.w2),.int .u64 (Oc.U t.w3),.slice p tl cap,.int .i64 t.num,.int .i64 t.least,.int .i64 t.most,.bool t.bare] 37)).alloc (.cells #[.int .i64 lo,.int .i64 hi,.int .i64 pk,.slice pp n pc] 57)) from by go_grown)
 have W2x:=Lib.hid (two_new w (.cells #[.int .i64 2,.int .u64 (Oc.U t.w0),.int .u64 (Oc.U t.w1),.int .u64 (Oc.U t.w2),.int .u64 (Oc.U t.w3),.slice p tl cap,.int .i64 t.num,.int .i64 t.least,.int .i64 t.most,.bool t.bare] 37) (.cells #[.int .i64 lo,.int .i64 hi,.int .i64 pk,.slice pp n pc] 57))
 have hp0:pk=0:=hpk
 subst hp0
 by_cases hn:n=0
 · subst hn
   have hx9:=HR.out
   rw [show ((0:Nat) == 0)=true from rfl,Bool.true_and] at hx9
   have HR1:=Lib.hid hx9
   clear hx9
   clear HR
   go_enter Tryd.func94,Tryd.ntmps94
   go_wp2_with fail
   refine (HIN.out _ HA.out).mono ?_
   rintro e w1 ⟨rfl,hb1⟩
   have HB1:=Lib.hid (HA.out.trans (hb1.mono HA.out.size))
   have Y0:=Lib.hid (keep_blk hb1 W2x.out.1);have Y1:=Lib.hid (keep_blk hb1 W2x.out.2)
   clear hb1 W2x HA HIN
   obtain ⟨n0,n1,n2,n3,n4,n5,n6,n7,n8,n9⟩:=allTen Y0.out
   obtain ⟨d0,d1,d2,d3,-,-,-,-⟩:=four Y1.out
   go_wp2_with fail
   refine (HE.out _ HB1.out).mono ?_
   rintro e w2 ⟨rfl,hb2⟩
   have HB2:=Lib.hid (HB1.out.trans (hb2.mono HB1.out.size))
   clear hb2
   go_wp2
   go_ret
   exact ⟨ret_bool HR1.out,HB2.out⟩
 · have q1:(n == 0)=false:=by simpa using hn
   have q2:((n:Int) == 0)=false:=by first | (simp;omega) | simpa using hn
   have HR1:=Lib.hid (show false=R by have:=HR.out;rw [q1,Bool.false_and] at this;exact this)
   clear HR hn
   go_enter Tryd.func94,Tryd.ntmps94
   go_wp2_with fail
   refine (HIN.out _ HA.out).mono ?_
   rintro e w1 ⟨rfl,hb1⟩
   have HB1:=Lib.hid (HA.out.trans (hb1.mono HA.out.size))
   have Y0:=Lib.hid (keep_blk hb1 W2x.out.1);have Y1:=Lib.hid (keep_blk hb1 W2x.out.2)
   clear hb1 W2x HA HIN
   obtain ⟨n0,n1,n2,n3,n4,n5,n6,n7,n8,n9⟩:=allTen Y0.out
   obtain ⟨d0,d1,d2,d3,-,-,-,-⟩:=four Y1.out
   go_wp2
   go_ret
   exact ⟨ret_bool HR1.out,HB1.out⟩
theorem rkfits_3 (x:Sc) (b:Nat) (t:Tr) (q:Pa) (hk:t.kind=3) (hin:Rk.inSc x q=true) (hpk:q.pick=0) (h0:0 ≤ t.least) (hsz:x.t.size ≤ 4611686018427387904) (w:World) (hx:ScAt w b x) (B C:Nat→Prop) (v u:Value) (hv:NodeV w B v t) (hu:PaV w C u q) :
   Calls Tryd.prog 94 #[v,.pointer (some ⟨b,0,none⟩),u] w fun e w'=>e=.returned (.bool (Rk.fitK x t q))∧Below w.heap.size w w':=by
 have HV:=Lib.hid (fun w9 (h:Below w.heap.size w w9)=>hv.later h)
 have HU:=Lib.hid (fun w9 (h:Below w.heap.size w w9)=>hu.later h)
 obtain ⟨s,rfl,hs⟩:=hv
 obtain ⟨p,cap,rfl,hlt⟩:=hs.slice
 obtain ⟨z,rfl,hz⟩:=hu
 obtain ⟨pp,pc,rfl,hlq⟩:=hz.slice
 clear hs hz
 have HX:=Lib.hid (fun w9 (h:Below w.heap.size w w9)=>hx.below h)
 have HIN:=Lib.hid (fun w9 (h:Below w.heap.size w w9)=>rkinsc_any x b q.lo q.hi q.pick (.slice pp q.subs.length pc) w9 (hx.below h))
 rw [show (decide (0 ≤ q.lo) && (decide (q.lo ≤ q.hi) && decide (q.hi ≤ (x.t.size:Int))))=true from hin] at HIN
 have hb3:=hin
 unfold Rk.inSc at hb3
 simp only [Bool.and_eq_true,decide_eq_true_eq] at hb3
 obtain ⟨b1,b2,b3⟩:=hb3
 have hun:0 ≤ t.least∧x.t.size ≤ 4611686018427387904∧ScAt w b x:=⟨h0,hsz,hx⟩
 have hun2:=hpk
 clear hin hun hun2
 obtain ⟨R,hR⟩:∃ R,Rk.fitK x t q=R:=⟨_,rfl⟩
 rw [hR]
 rw [Rk.fit3 hk] at hR
 have HR:=Lib.hid hR
 clear hR
 have HE:=Lib.hid (fun w9=>rkempty_any q.lo q.hi q.pick (.slice pp q.subs.length pc) w9)
 have HM:=Lib.hid (fun w9 (h:Below w.heap.size w w9)=>scbeg_any x b q.lo w9 (hx.below h) (by omega) hsz)
 clear hx
 unfold Tr.cells Pa.cells at *
 rw [hk] at HV ⊢
 clear hk h0 b1 b2 b3 hsz
 generalize t.subs.length=tl at *;generalize q.subs.length=n at *
 generalize x.beg q.lo=z at *
 generalize q.lo=lo at *;generalize q.hi=hi at *;generalize q.pick=pk at *
 have HA:=Lib.hid (show Below w.heap.size w ((w.alloc (.cells #[.int .i64 3,.int .u64 (Oc.U t.w0),.int .u64 (Oc.U t.w1),.int .u64 (Oc.U t.w2),.int .u64 (Oc.U t.w3),.slice p tl cap,.int .i64 t.num,.int .i64 t.least,.int .i64 t.most,.bool t.bare] 37)).alloc (.cells #[.int .i64 lo,.int .i64 hi,.int .i64 pk,.slice pp n pc] 57)) from by go_grown)
 have W2x:=Lib.hid (two_new w (.cells #[.int .i64 3,.int .u64 (Oc.U t.w0),.int .u64 (Oc.U t.w1),.int .u64 (Oc.U t.w2),.int .u64 (Oc.U t.w3),.slice p tl cap,.int .i64 t.num,.int .i64 t.least,.int .i64 t.most,.bool t.bare] 37) (.cells #[.int .i64 lo,.int .i64 hi,.int .i64 pk,.slice pp n pc] 57))
 have hp0:pk=0:=hpk
 subst hp0
 by_cases hn:n=0
 · subst hn
   have hx9:=HR.out
   rw [show ((0:Nat) == 0)=true from rfl,Bool.true_and] at hx9
   have HR1:=Lib.hid hx9
   clear hx9
   clear HR
   cases hz:(lo == hi) with
   | false =>
     have HR2:=Lib.hid (show false=R by have:=HR1.out;rw [hz,Bool.false_and] at this;exact this)
     rw [hz] at HE
     clear HR1 hz HM
     go_enter Tryd.func94,Tryd.ntmps94
     go_wp2_with fail
     refine (HIN.out _ HA.out).mono ?_
     rintro e w1 ⟨rfl,hb1⟩
     have HB1:=Lib.hid (HA.out.trans (hb1.mono HA.out.size))
     have Y0:=Lib.hid (keep_blk hb1 W2x.out.1);have Y1:=Lib.hid (keep_blk hb1 W2x.out.2)
     clear hb1 W2x HA HIN
     obtain ⟨n0,n1,n2,n3,n4,n5,n6,n7,n8,n9⟩:=allTen Y0.out
     obtain ⟨d0,d1,d2,d3,-,-,-,-⟩:=four Y1.out
     go_wp2_with fail
     refine (HE.out _).mono ?_
     rintro e w2 ⟨rfl,hb2⟩
     have HB2:=Lib.hid (HB1.out.trans (hb2.mono HB1.out.size))
     clear hb2
     go_wp2
     go_ret
     exact ⟨ret_bool HR2.out,HB2.out⟩
   | true =>
     have hx9:=HR1.out
     rw [hz,Bool.true_and] at hx9
     have HR2:=Lib.hid hx9
     clear hx9
     rw [hz] at HE
     clear HR1 hz
     go_enter Tryd.func94,Tryd.ntmps94
     go_wp2_with fail
     refine (HIN.out _ HA.out).mono ?_
     rintro e w1 ⟨rfl,hb1⟩
     have HB1:=Lib.hid (HA.out.trans (hb1.mono HA.out.size))
     have Y0:=Lib.hid (keep_blk hb1 W2x.out.1);have Y1:=Lib.hid (keep_blk hb1 W2x.out.2)
     clear hb1 W2x HA HIN
     obtain ⟨n0,n1,n2,n3,n4,n5,n6,n7,n8,n9⟩:=allTen Y0.out
     obtain ⟨d0,d1,d2,d3,-,-,-,-⟩:=four Y1.out
     go_wp2_with fail
     refine (HE.out _).mono ?_
     rintro e w2 ⟨rfl,hb2⟩
     have HB2:=Lib.hid (HB1.out.trans (hb2.mono HB1.out.size))
     have Z0:=Lib.hid (keep_blk hb2 Y0.out);have Z1:=Lib.hid (keep_blk hb2 Y1.out)
     clear hb2 n0 n1 n2 n3 n4 n5 n6 n7 n8 n9 d0 d1 d2 d3
     obtain ⟨n0,n1,n2,n3,n4,n5,n6,n7,n8,n9⟩:=allTen Z0.out
     obtain ⟨d0,d1,d2,d3,-,-,-,-⟩:=four Z1.out
     go_wp2_with fail
     refine (HM.out _ HB2.out).mono ?_
     rintro e w3 ⟨rfl,rfl⟩
     go_wp2
     go_ret
     exact ⟨ret_bool HR2.out,HB2.out⟩
 · have q1:(n == 0)=false:=by simpa using hn
   have q2:((n:Int) == 0)=false:=by first | (simp;omega) | simpa using hn
   have HR1:=Lib.hid (show false=R by have:=HR.out;rw [q1,Bool.false_and] at this;exact this)
   clear HR hn
   go_enter Tryd.func94,Tryd.ntmps94
   go_wp2_with fail
   refine (HIN.out _ HA.out).mono ?_
   rintro e w1 ⟨rfl,hb1⟩
   have HB1:=Lib.hid (HA.out.trans (hb1.mono HA.out.size))
   have Y0:=Lib.hid (keep_blk hb1 W2x.out.1);have Y1:=Lib.hid (keep_blk hb1 W2x.out.2)
   clear hb1 W2x HA HIN
   obtain ⟨n0,n1,n2,n3,n4,n5,n6,n7,n8,n9⟩:=allTen Y0.out
   obtain ⟨d0,d1,d2,d3,-,-,-,-⟩:=four Y1.out
   go_wp2
   go_ret
   exact ⟨ret_bool HR1.out,HB1.out⟩
theorem rkfits_4 (x:Sc) (b:Nat) (t:Tr) (q:Pa) (hk:t.kind=4) (hin:Rk.inSc x q=true) (hpk:q.pick=0) (h0:0 ≤ t.least) (hsz:x.t.size ≤ 4611686018427387904) (w:World) (hx:ScAt w b x) (B C:Nat→Prop) (v u:Value) (hv:NodeV w B v t) (hu:PaV w C u q) :
   Calls Tryd.prog 94 #[v,.pointer (some ⟨b,0,none⟩),u] w fun e w'=>e=.returned (.bool (Rk.fitK x t q))∧Below w.heap.size w w':=by
 have HV:=Lib.hid (fun w9 (h:Below w.heap.size w w9)=>hv.later h)
 have HU:=Lib.hid (fun w9 (h:Below w.heap.size w w9)=>hu.later h)
 obtain ⟨s,rfl,hs⟩:=hv
 obtain ⟨p,cap,rfl,hlt⟩:=hs.slice
 obtain ⟨z,rfl,hz⟩:=hu
 obtain ⟨pp,pc,rfl,hlq⟩:=hz.slice
 clear hs hz
 have HX:=Lib.hid (fun w9 (h:Below w.heap.size w w9)=>hx.below h)
 have HIN:=Lib.hid (fun w9 (h:Below w.heap.size w w9)=>rkinsc_any x b q.lo q.hi q.pick (.slice pp q.subs.length pc) w9 (hx.below h))
 rw [show (decide (0 ≤ q.lo) && (decide (q.lo ≤ q.hi) && decide (q.hi ≤ (x.t.size:Int))))=true from hin] at HIN
 have hb3:=hin
 unfold Rk.inSc at hb3
 simp only [Bool.and_eq_true,decide_eq_true_eq] at hb3
 obtain ⟨b1,b2,b3⟩:=hb3
 have hun:0 ≤ t.least∧x.t.size ≤ 4611686018427387904∧ScAt w b x:=⟨h0,hsz,hx⟩
 have hun2:=hpk
 clear hin hun hun2
 obtain ⟨R,hR⟩:∃ R,Rk.fitK x t q=R:=⟨_,rfl⟩
 rw [hR]
 rw [Rk.fit4 hk] at hR
 have HR:=Lib.hid hR
 clear hR
 have HE:=Lib.hid (fun w9=>rkempty_any q.lo q.hi q.pick (.slice pp q.subs.length pc) w9)
 have HM:=Lib.hid (fun w9 (h:Below w.heap.size w w9)=>scfin_any x b q.lo w9 (hx.below h))
 clear hx
 unfold Tr.cells Pa.cells at *
 rw [hk] at HV ⊢
 clear hk h0 b1 b2 b3 hsz
 generalize t.subs.length=tl at *;generalize q.subs.length=n at *
 generalize x.fin q.lo=z at *
 generalize q.lo=lo at *;generalize q.hi=hi at *;generalize q.pick=pk at *
 have HA:=Lib.hid (show Below w.heap.size w ((w.alloc (.cells #[.int .i64 4,.int .u64 (Oc.U t.w0),.int .u64 (Oc.U t.w1),.int .u64 (Oc.U t.w2),.int .u64 (Oc.U t.w3),.slice p tl cap,.int .i64 t.num,.int .i64 t.least,.int .i64 t.most,.bool t.bare] 37)).alloc (.cells #[.int .i64 lo,.int .i64 hi,.int .i64 pk,.slice pp n pc] 57)) from by go_grown)
 have W2x:=Lib.hid (two_new w (.cells #[.int .i64 4,.int .u64 (Oc.U t.w0),.int .u64 (Oc.U t.w1),.int .u64 (Oc.U t.w2),.int .u64 (Oc.U t.w3),.slice p tl cap,.int .i64 t.num,.int .i64 t.least,.int .i64 t.most,.bool t.bare] 37) (.cells #[.int .i64 lo,.int .i64 hi,.int .i64 pk,.slice pp n pc] 57))
 have hp0:pk=0:=hpk
 subst hp0
 by_cases hn:n=0
 · subst hn
   have hx9:=HR.out
   rw [show ((0:Nat) == 0)=true from rfl,Bool.true_and] at hx9
   have HR1:=Lib.hid hx9
   clear hx9
   clear HR
   cases hz:(lo == hi) with
   | false =>
     have HR2:=Lib.hid (show false=R by have:=HR1.out;rw [hz,Bool.false_and] at this;exact this)
     rw [hz] at HE
     clear HR1 hz HM
     go_enter Tryd.func94,Tryd.ntmps94
     go_wp2_with fail
     refine (HIN.out _ HA.out).mono ?_
     rintro e w1 ⟨rfl,hb1⟩
     have HB1:=Lib.hid (HA.out.trans (hb1.mono HA.out.size))
     have Y0:=Lib.hid (keep_blk hb1 W2x.out.1);have Y1:=Lib.hid (keep_blk hb1 W2x.out.2)
     clear hb1 W2x HA HIN
     obtain ⟨n0,n1,n2,n3,n4,n5,n6,n7,n8,n9⟩:=allTen Y0.out
     obtain ⟨d0,d1,d2,d3,-,-,-,-⟩:=four Y1.out
     go_wp2_with fail
     refine (HE.out _).mono ?_
     rintro e w2 ⟨rfl,hb2⟩
     have HB2:=Lib.hid (HB1.out.trans (hb2.mono HB1.out.size))
     clear hb2
     go_wp2
     go_ret
     exact ⟨ret_bool HR2.out,HB2.out⟩
   | true =>
     have hx9:=HR1.out
     rw [hz,Bool.true_and] at hx9
     have HR2:=Lib.hid hx9
     clear hx9
     rw [hz] at HE
     clear HR1 hz
     go_enter Tryd.func94,Tryd.ntmps94
     go_wp2_with fail
     refine (HIN.out _ HA.out).mono ?_
     rintro e w1 ⟨rfl,hb1⟩
     have HB1:=Lib.hid (HA.out.trans (hb1.mono HA.out.size))
     have Y0:=Lib.hid (keep_blk hb1 W2x.out.1);have Y1:=Lib.hid (keep_blk hb1 W2x.out.2)
     clear hb1 W2x HA HIN
     obtain ⟨n0,n1,n2,n3,n4,n5,n6,n7,n8,n9⟩:=allTen Y0.out
     obtain ⟨d0,d1,d2,d3,-,-,-,-⟩:=four Y1.out
     go_wp2_with fail
     refine (HE.out _).mono ?_
     rintro e w2 ⟨rfl,hb2⟩
     have HB2:=Lib.hid (HB1.out.trans (hb2.mono HB1.out.size))
     have Z0:=Lib.hid (keep_blk hb2 Y0.out);have Z1:=Lib.hid (keep_blk hb2 Y1.out)
     clear hb2 n0 n1 n2 n3 n4 n5 n6 n7 n8 n9 d0 d1 d2 d3
     obtain ⟨n0,n1,n2,n3,n4,n5,n6,n7,n8,n9⟩:=allTen Z0.out
     obtain ⟨d0,d1,d2,d3,-,-,-,-⟩:=four Z1.out
     go_wp2_with fail
     refine (HM.out _ HB2.out).mono ?_
     rintro e w3 ⟨rfl,rfl⟩
     go_wp2
     go_ret
     exact ⟨ret_bool HR2.out,HB2.out⟩
 · have q1:(n == 0)=false:=by simpa using hn
   have q2:((n:Int) == 0)=false:=by first | (simp;omega) | simpa using hn
   have HR1:=Lib.hid (show false=R by have:=HR.out;rw [q1,Bool.false_and] at this;exact this)
   clear HR hn
   go_enter Tryd.func94,Tryd.ntmps94
   go_wp2_with fail
   refine (HIN.out _ HA.out).mono ?_
   rintro e w1 ⟨rfl,hb1⟩
   have HB1:=Lib.hid (HA.out.trans (hb1.mono HA.out.size))
   have Y0:=Lib.hid (keep_blk hb1 W2x.out.1);have Y1:=Lib.hid (keep_blk hb1 W2x.out.2)
   clear hb1 W2x HA HIN
   obtain ⟨n0,n1,n2,n3,n4,n5,n6,n7,n8,n9⟩:=allTen Y0.out
   obtain ⟨d0,d1,d2,d3,-,-,-,-⟩:=four Y1.out
   go_wp2
   go_ret
   exact ⟨ret_bool HR1.out,HB1.out⟩
theorem rkfits_5 (x:Sc) (b:Nat) (t:Tr) (q:Pa) (hk:t.kind=5) (hin:Rk.inSc x q=true) (hpk:q.pick=0) (h0:0 ≤ t.least) (hsz:x.t.size ≤ 4611686018427387904) (w:World) (hx:ScAt w b x) (B C:Nat→Prop) (v u:Value) (hv:NodeV w B v t) (hu:PaV w C u q) :
   Calls Tryd.prog 94 #[v,.pointer (some ⟨b,0,none⟩),u] w fun e w'=>e=.returned (.bool (Rk.fitK x t q))∧Below w.heap.size w w':=by
 have HV:=Lib.hid (fun w9 (h:Below w.heap.size w w9)=>hv.later h)
 have HU:=Lib.hid (fun w9 (h:Below w.heap.size w w9)=>hu.later h)
 obtain ⟨s,rfl,hs⟩:=hv
 obtain ⟨p,cap,rfl,hlt⟩:=hs.slice
 obtain ⟨z,rfl,hz⟩:=hu
 obtain ⟨pp,pc,rfl,hlq⟩:=hz.slice
 clear hs hz
 have HX:=Lib.hid (fun w9 (h:Below w.heap.size w w9)=>hx.below h)
 have HIN:=Lib.hid (fun w9 (h:Below w.heap.size w w9)=>rkinsc_any x b q.lo q.hi q.pick (.slice pp q.subs.length pc) w9 (hx.below h))
 rw [show (decide (0 ≤ q.lo) && (decide (q.lo ≤ q.hi) && decide (q.hi ≤ (x.t.size:Int))))=true from hin] at HIN
 have hb3:=hin
 unfold Rk.inSc at hb3
 simp only [Bool.and_eq_true,decide_eq_true_eq] at hb3
 obtain ⟨b1,b2,b3⟩:=hb3
 have hun:0 ≤ t.least∧x.t.size ≤ 4611686018427387904∧ScAt w b x:=⟨h0,hsz,hx⟩
 have hun2:=hpk
 clear hin hun hun2
 obtain ⟨R,hR⟩:∃ R,Rk.fitK x t q=R:=⟨_,rfl⟩
 rw [hR]
 rw [Rk.fit5 hk] at hR
 have HR:=Lib.hid hR
 clear hR
 have HE:=Lib.hid (fun w9 (h:Below w.heap.size w w9)=>rkorder_any q w9 C (.agg (q.cells (.slice pp q.subs.length pc))) (HU.out w9 h))
 clear hx
 unfold Tr.cells Pa.cells at *
 rw [hk] at HV ⊢
 clear hk h0 b1 b2 b3 hsz
 generalize t.subs.length=tl at *;generalize q.subs.length=n at *
 generalize Rk.inOrd q.subs q.lo q.hi=z at *
 generalize q.lo=lo at *;generalize q.hi=hi at *;generalize q.pick=pk at *
 have HA:=Lib.hid (show Below w.heap.size w ((w.alloc (.cells #[.int .i64 5,.int .u64 (Oc.U t.w0),.int .u64 (Oc.U t.w1),.int .u64 (Oc.U t.w2),.int .u64 (Oc.U t.w3),.slice p tl cap,.int .i64 t.num,.int .i64 t.least,.int .i64 t.most,.bool t.bare] 37)).alloc (.cells #[.int .i64 lo,.int .i64 hi,.int .i64 pk,.slice pp n pc] 57)) from by go_grown)
 have W2x:=Lib.hid (two_new w (.cells #[.int .i64 5,.int .u64 (Oc.U t.w0),.int .u64 (Oc.U t.w1),.int .u64 (Oc.U t.w2),.int .u64 (Oc.U t.w3),.slice p tl cap,.int .i64 t.num,.int .i64 t.least,.int .i64 t.most,.bool t.bare] 37) (.cells #[.int .i64 lo,.int .i64 hi,.int .i64 pk,.slice pp n pc] 57))
 have hp0:pk=0:=hpk
 subst hp0
 by_cases hn:n=tl
 · subst hn
   have hx9:=HR.out
   rw [show (n == n)=true from by simp,Bool.true_and] at hx9
   have HR1:=Lib.hid hx9
   clear hx9
   have e1:(n == n)=true:=by simp
   have e2:((n:Int) == n)=true:=by simp
   clear HR
   go_enter Tryd.func94,Tryd.ntmps94
   go_wp2_with fail
   refine (HIN.out _ HA.out).mono ?_
   rintro e w1 ⟨rfl,hb1⟩
   have HB1:=Lib.hid (HA.out.trans (hb1.mono HA.out.size))
   have Y0:=Lib.hid (keep_blk hb1 W2x.out.1);have Y1:=Lib.hid (keep_blk hb1 W2x.out.2)
   clear hb1 W2x HA HIN
   obtain ⟨n0,n1,n2,n3,n4,n5,n6,n7,n8,n9⟩:=allTen Y0.out
   obtain ⟨d0,d1,d2,d3,-,-,-,-⟩:=four Y1.out
   go_wp2_with fail
   refine (HE.out _ HB1.out).mono ?_
   rintro e w2 ⟨rfl,hb2⟩
   have HB2:=Lib.hid (HB1.out.trans (hb2.mono HB1.out.size))
   clear hb2
   go_wp2
   go_ret
   exact ⟨ret_bool HR1.out,HB2.out⟩
 · have q1:(n == tl)=false:=by simpa using hn
   have q2:((n:Int) == tl)=false:=by first | (simp;omega) | simpa using hn
   have HR1:=Lib.hid (show false=R by have:=HR.out;rw [q1,Bool.false_and] at this;exact this)
   clear HR hn
   go_enter Tryd.func94,Tryd.ntmps94
   go_wp2_with fail
   refine (HIN.out _ HA.out).mono ?_
   rintro e w1 ⟨rfl,hb1⟩
   have HB1:=Lib.hid (HA.out.trans (hb1.mono HA.out.size))
   have Y0:=Lib.hid (keep_blk hb1 W2x.out.1);have Y1:=Lib.hid (keep_blk hb1 W2x.out.2)
   clear hb1 W2x HA HIN
   obtain ⟨n0,n1,n2,n3,n4,n5,n6,n7,n8,n9⟩:=allTen Y0.out
   obtain ⟨d0,d1,d2,d3,-,-,-,-⟩:=four Y1.out
   go_wp2
   go_ret
   exact ⟨ret_bool HR1.out,HB1.out⟩
theorem rkfits_6 (x:Sc) (b:Nat) (t:Tr) (q:Pa) (hk:t.kind=6) (hin:Rk.inSc x q=true) (hpk:True) (h0:0 ≤ t.least) (hsz:x.t.size ≤ 4611686018427387904) (w:World) (hx:ScAt w b x) (B C:Nat→Prop) (v u:Value) (hv:NodeV w B v t) (hu:PaV w C u q) :
   Calls Tryd.prog 94 #[v,.pointer (some ⟨b,0,none⟩),u] w fun e w'=>e=.returned (.bool (Rk.fitK x t q))∧Below w.heap.size w w':=by
 have HV:=Lib.hid (fun w9 (h:Below w.heap.size w w9)=>hv.later h)
 have HU:=Lib.hid (fun w9 (h:Below w.heap.size w w9)=>hu.later h)
 obtain ⟨s,rfl,hs⟩:=hv
 obtain ⟨p,cap,rfl,hlt⟩:=hs.slice
 obtain ⟨z,rfl,hz⟩:=hu
 obtain ⟨pp,pc,rfl,hlq⟩:=hz.slice
 clear hs hz
 have HX:=Lib.hid (fun w9 (h:Below w.heap.size w w9)=>hx.below h)
 have HIN:=Lib.hid (fun w9 (h:Below w.heap.size w w9)=>rkinsc_any x b q.lo q.hi q.pick (.slice pp q.subs.length pc) w9 (hx.below h))
 rw [show (decide (0 ≤ q.lo) && (decide (q.lo ≤ q.hi) && decide (q.hi ≤ (x.t.size:Int))))=true from hin] at HIN
 have hb3:=hin
 unfold Rk.inSc at hb3
 simp only [Bool.and_eq_true,decide_eq_true_eq] at hb3
 obtain ⟨b1,b2,b3⟩:=hb3
 have hun:0 ≤ t.least∧x.t.size ≤ 4611686018427387904∧ScAt w b x:=⟨h0,hsz,hx⟩
 have hun2:=hpk
 clear hin hun hun2
 obtain ⟨R,hR⟩:∃ R,Rk.fitK x t q=R:=⟨_,rfl⟩
 rw [hR]
 rw [Rk.fit6 hk] at hR
 have HR:=Lib.hid hR
 clear hR
 have HE:=Lib.hid (fun w9 (h:Below w.heap.size w w9)=>rkorder_any q w9 C (.agg (q.cells (.slice pp q.subs.length pc))) (HU.out w9 h))
 clear hx
 unfold Tr.cells Pa.cells at *
 rw [hk] at HV ⊢
 clear hk h0 b1 b2 b3 hsz
 generalize t.subs.length=tl at *;generalize q.subs.length=n at *
 generalize Rk.inOrd q.subs q.lo q.hi=z at *
 generalize q.lo=lo at *;generalize q.hi=hi at *;generalize q.pick=pk at *
 have HA:=Lib.hid (show Below w.heap.size w ((w.alloc (.cells #[.int .i64 6,.int .u64 (Oc.U t.w0),.int .u64 (Oc.U t.w1),.int .u64 (Oc.U t.w2),.int .u64 (Oc.U t.w3),.slice p tl cap,.int .i64 t.num,.int .i64 t.least,.int .i64 t.most,.bool t.bare] 37)).alloc (.cells #[.int .i64 lo,.int .i64 hi,.int .i64 pk,.slice pp n pc] 57)) from by go_grown)
 have W2x:=Lib.hid (two_new w (.cells #[.int .i64 6,.int .u64 (Oc.U t.w0),.int .u64 (Oc.U t.w1),.int .u64 (Oc.U t.w2),.int .u64 (Oc.U t.w3),.slice p tl cap,.int .i64 t.num,.int .i64 t.least,.int .i64 t.most,.bool t.bare] 37) (.cells #[.int .i64 lo,.int .i64 hi,.int .i64 pk,.slice pp n pc] 57))
 have hz:(pk != 0)=false ∨ (pk != 0)=true:=by cases (pk != 0) <;> simp
 clear hpk
 by_cases hn:n=1
 · subst hn
   have hx9:=HR.out
   rw [show ((1:Nat) == 1)=true from rfl,Bool.true_and] at hx9
   have HR1:=Lib.hid hx9
   clear hx9
   clear HR
   by_cases g1:0 ≤ pk
   · have f1:decide (0 ≤ pk)=true:=decide_eq_true g1
     by_cases g2:pk < (tl:Int)
     · have f2:decide (pk < (tl:Int))=true:=decide_eq_true g2
       have hx9:=HR1.out
       rw [f1,f2,Bool.true_and,Bool.true_and] at hx9
       have HR2:=Lib.hid hx9
       clear hx9
       clear HR1
       rcases hz with hz | hz
       all_goals
         clear g1 g2
         go_enter Tryd.func94,Tryd.ntmps94
         go_wp2_with fail
         refine (HIN.out _ HA.out).mono ?_
         rintro e w1 ⟨rfl,hb1⟩
         have HB1:=Lib.hid (HA.out.trans (hb1.mono HA.out.size))
         have Y0:=Lib.hid (keep_blk hb1 W2x.out.1);have Y1:=Lib.hid (keep_blk hb1 W2x.out.2)
         clear hb1 W2x HA HIN
         obtain ⟨n0,n1,n2,n3,n4,n5,n6,n7,n8,n9⟩:=allTen Y0.out
         obtain ⟨d0,d1,d2,d3,-,-,-,-⟩:=four Y1.out
         go_wp2_with fail
         refine (HE.out _ HB1.out).mono ?_
         rintro e w2 ⟨rfl,hb2⟩
         have HB2:=Lib.hid (HB1.out.trans (hb2.mono HB1.out.size))
         clear hb2
         go_wp2
         go_ret
         exact ⟨ret_bool HR2.out,HB2.out⟩
     · have f2:decide (pk < (tl:Int))=false:=decide_eq_false g2
       have HR2:=Lib.hid (show false=R by have:=HR1.out;rw [f2,Bool.false_and,Bool.and_false] at this;exact this)
       clear HR1
       rcases hz with hz | hz
       all_goals
         clear g1 g2
         go_enter Tryd.func94,Tryd.ntmps94
         go_wp2_with fail
         refine (HIN.out _ HA.out).mono ?_
         rintro e w1 ⟨rfl,hb1⟩
         have HB1:=Lib.hid (HA.out.trans (hb1.mono HA.out.size))
         have Y0:=Lib.hid (keep_blk hb1 W2x.out.1);have Y1:=Lib.hid (keep_blk hb1 W2x.out.2)
         clear hb1 W2x HA HIN
         obtain ⟨n0,n1,n2,n3,n4,n5,n6,n7,n8,n9⟩:=allTen Y0.out
         obtain ⟨d0,d1,d2,d3,-,-,-,-⟩:=four Y1.out
         go_wp2
         go_ret
         exact ⟨ret_bool HR2.out,HB1.out⟩
   · have f1:decide (0 ≤ pk)=false:=decide_eq_false g1
     have HR2:=Lib.hid (show false=R by have:=HR1.out;rw [f1,Bool.false_and] at this;exact this)
     clear HR1
     rcases hz with hz | hz
     all_goals
       clear g1
       go_enter Tryd.func94,Tryd.ntmps94
       go_wp2_with fail
       refine (HIN.out _ HA.out).mono ?_
       rintro e w1 ⟨rfl,hb1⟩
       have HB1:=Lib.hid (HA.out.trans (hb1.mono HA.out.size))
       have Y0:=Lib.hid (keep_blk hb1 W2x.out.1);have Y1:=Lib.hid (keep_blk hb1 W2x.out.2)
       clear hb1 W2x HA HIN
       obtain ⟨n0,n1,n2,n3,n4,n5,n6,n7,n8,n9⟩:=allTen Y0.out
       obtain ⟨d0,d1,d2,d3,-,-,-,-⟩:=four Y1.out
       go_wp2
       go_ret
       exact ⟨ret_bool HR2.out,HB1.out⟩
 · have q1:(n == 1)=false:=by simpa using hn
   have q2:((n:Int) == 1)=false:=by first | (simp;omega) | simpa using hn
   have HR1:=Lib.hid (show false=R by have:=HR.out;rw [q1,Bool.false_and] at this;exact this)
   clear HR hn
   rcases hz with hz | hz
   all_goals
     go_enter Tryd.func94,Tryd.ntmps94
     go_wp2_with fail
     refine (HIN.out _ HA.out).mono ?_
     rintro e w1 ⟨rfl,hb1⟩
     have HB1:=Lib.hid (HA.out.trans (hb1.mono HA.out.size))
     have Y0:=Lib.hid (keep_blk hb1 W2x.out.1);have Y1:=Lib.hid (keep_blk hb1 W2x.out.2)
     clear hb1 W2x HA HIN
     obtain ⟨n0,n1,n2,n3,n4,n5,n6,n7,n8,n9⟩:=allTen Y0.out
     obtain ⟨d0,d1,d2,d3,-,-,-,-⟩:=four Y1.out
     go_wp2
     go_ret
     exact ⟨ret_bool HR1.out,HB1.out⟩
theorem rkfits_7 (x:Sc) (b:Nat) (t:Tr) (q:Pa) (hk:t.kind=7) (hin:Rk.inSc x q=true) (hpk:q.pick=0) (h0:0 ≤ t.least) (hsz:x.t.size ≤ 4611686018427387904) (w:World) (hx:ScAt w b x) (B C:Nat→Prop) (v u:Value) (hv:NodeV w B v t) (hu:PaV w C u q) :
   Calls Tryd.prog 94 #[v,.pointer (some ⟨b,0,none⟩),u] w fun e w'=>e=.returned (.bool (Rk.fitK x t q))∧Below w.heap.size w w':=by
 have HV:=Lib.hid (fun w9 (h:Below w.heap.size w w9)=>hv.later h)
 have HU:=Lib.hid (fun w9 (h:Below w.heap.size w w9)=>hu.later h)
 obtain ⟨s,rfl,hs⟩:=hv
 obtain ⟨p,cap,rfl,hlt⟩:=hs.slice
 obtain ⟨z,rfl,hz⟩:=hu
 obtain ⟨pp,pc,rfl,hlq⟩:=hz.slice
 clear hs hz
 have HX:=Lib.hid (fun w9 (h:Below w.heap.size w w9)=>hx.below h)
 have HIN:=Lib.hid (fun w9 (h:Below w.heap.size w w9)=>rkinsc_any x b q.lo q.hi q.pick (.slice pp q.subs.length pc) w9 (hx.below h))
 rw [show (decide (0 ≤ q.lo) && (decide (q.lo ≤ q.hi) && decide (q.hi ≤ (x.t.size:Int))))=true from hin] at HIN
 have hb3:=hin
 unfold Rk.inSc at hb3
 simp only [Bool.and_eq_true,decide_eq_true_eq] at hb3
 obtain ⟨b1,b2,b3⟩:=hb3
 have hun:0 ≤ t.least∧x.t.size ≤ 4611686018427387904∧ScAt w b x:=⟨h0,hsz,hx⟩
 have hun2:=hpk
 clear hin hun hun2
 obtain ⟨R,hR⟩:∃ R,Rk.fitK x t q=R:=⟨_,rfl⟩
 rw [hR]
 rw [Rk.fit7 hk] at hR
 have HR:=Lib.hid hR
 clear hR
 have HE:=Lib.hid (fun w9 (h:Below w.heap.size w w9)=>rkorder_any q w9 C (.agg (q.cells (.slice pp q.subs.length pc))) (HU.out w9 h))
 clear hx
 unfold Tr.cells Pa.cells at *
 rw [hk] at HV ⊢
 clear hk h0 b1 b2 b3 hsz
 generalize t.subs.length=tl at *;generalize q.subs.length=n at *
 generalize Rk.inOrd q.subs q.lo q.hi=z at *
 generalize q.lo=lo at *;generalize q.hi=hi at *;generalize q.pick=pk at *
 have HA:=Lib.hid (show Below w.heap.size w ((w.alloc (.cells #[.int .i64 7,.int .u64 (Oc.U t.w0),.int .u64 (Oc.U t.w1),.int .u64 (Oc.U t.w2),.int .u64 (Oc.U t.w3),.slice p tl cap,.int .i64 t.num,.int .i64 t.least,.int .i64 t.most,.bool t.bare] 37)).alloc (.cells #[.int .i64 lo,.int .i64 hi,.int .i64 pk,.slice pp n pc] 57)) from by go_grown)
 have W2x:=Lib.hid (two_new w (.cells #[.int .i64 7,.int .u64 (Oc.U t.w0),.int .u64 (Oc.U t.w1),.int .u64 (Oc.U t.w2),.int .u64 (Oc.U t.w3),.slice p tl cap,.int .i64 t.num,.int .i64 t.least,.int .i64 t.most,.bool t.bare] 37) (.cells #[.int .i64 lo,.int .i64 hi,.int .i64 pk,.slice pp n pc] 57))
 have hp0:pk=0:=hpk
 subst hp0
 by_cases hn:n=1
 · subst hn
   have hx9:=HR.out
   rw [show ((1:Nat) == 1)=true from rfl,Bool.true_and] at hx9
   have HR1:=Lib.hid hx9
   clear hx9
   clear HR
   go_enter Tryd.func94,Tryd.ntmps94
   go_wp2_with fail
   refine (HIN.out _ HA.out).mono ?_
   rintro e w1 ⟨rfl,hb1⟩
   have HB1:=Lib.hid (HA.out.trans (hb1.mono HA.out.size))
   have Y0:=Lib.hid (keep_blk hb1 W2x.out.1);have Y1:=Lib.hid (keep_blk hb1 W2x.out.2)
   clear hb1 W2x HA HIN
   obtain ⟨n0,n1,n2,n3,n4,n5,n6,n7,n8,n9⟩:=allTen Y0.out
   obtain ⟨d0,d1,d2,d3,-,-,-,-⟩:=four Y1.out
   go_wp2_with fail
   refine (HE.out _ HB1.out).mono ?_
   rintro e w2 ⟨rfl,hb2⟩
   have HB2:=Lib.hid (HB1.out.trans (hb2.mono HB1.out.size))
   clear hb2
   go_wp2
   go_ret
   exact ⟨ret_bool HR1.out,HB2.out⟩
 · have q1:(n == 1)=false:=by simpa using hn
   have q2:((n:Int) == 1)=false:=by first | (simp;omega) | simpa using hn
   have HR1:=Lib.hid (show false=R by have:=HR.out;rw [q1,Bool.false_and] at this;exact this)
   clear HR hn
   go_enter Tryd.func94,Tryd.ntmps94
   go_wp2_with fail
   refine (HIN.out _ HA.out).mono ?_
   rintro e w1 ⟨rfl,hb1⟩
   have HB1:=Lib.hid (HA.out.trans (hb1.mono HA.out.size))
   have Y0:=Lib.hid (keep_blk hb1 W2x.out.1);have Y1:=Lib.hid (keep_blk hb1 W2x.out.2)
   clear hb1 W2x HA HIN
   obtain ⟨n0,n1,n2,n3,n4,n5,n6,n7,n8,n9⟩:=allTen Y0.out
   obtain ⟨d0,d1,d2,d3,-,-,-,-⟩:=four Y1.out
   go_wp2
   go_ret
   exact ⟨ret_bool HR1.out,HB1.out⟩
theorem rkfits_8 (x:Sc) (b:Nat) (t:Tr) (q:Pa) (hk:t.kind=8) (hin:Rk.inSc x q=true) (hpk:q.pick=0) (h0:0 ≤ t.least) (hsz:x.t.size ≤ 4611686018427387904) (w:World) (hx:ScAt w b x) (B C:Nat→Prop) (v u:Value) (hv:NodeV w B v t) (hu:PaV w C u q) :
   Calls Tryd.prog 94 #[v,.pointer (some ⟨b,0,none⟩),u] w fun e w'=>e=.returned (.bool (Rk.fitK x t q))∧Below w.heap.size w w':=by
 have HV:=Lib.hid (fun w9 (h:Below w.heap.size w w9)=>hv.later h)
 have HU:=Lib.hid (fun w9 (h:Below w.heap.size w w9)=>hu.later h)
 obtain ⟨s,rfl,hs⟩:=hv
 obtain ⟨p,cap,rfl,hlt⟩:=hs.slice
 obtain ⟨z,rfl,hz⟩:=hu
 obtain ⟨pp,pc,rfl,hlq⟩:=hz.slice
 clear hs hz
 have HX:=Lib.hid (fun w9 (h:Below w.heap.size w w9)=>hx.below h)
 have HIN:=Lib.hid (fun w9 (h:Below w.heap.size w w9)=>rkinsc_any x b q.lo q.hi q.pick (.slice pp q.subs.length pc) w9 (hx.below h))
 rw [show (decide (0 ≤ q.lo) && (decide (q.lo ≤ q.hi) && decide (q.hi ≤ (x.t.size:Int))))=true from hin] at HIN
 have hb3:=hin
 unfold Rk.inSc at hb3
 simp only [Bool.and_eq_true,decide_eq_true_eq] at hb3
 obtain ⟨b1,b2,b3⟩:=hb3
 have hun:0 ≤ t.least∧x.t.size ≤ 4611686018427387904∧ScAt w b x:=⟨h0,hsz,hx⟩
 have hun2:=hpk
 clear hin hun hun2
 obtain ⟨R,hR⟩:∃ R,Rk.fitK x t q=R:=⟨_,rfl⟩
 rw [hR]
 rw [Rk.fit8 hk] at hR
 have HR:=Lib.hid hR
 clear hR
 have HE:=Lib.hid (fun w9 (h:Below w.heap.size w w9)=>rkorder_any q w9 C (.agg (q.cells (.slice pp q.subs.length pc))) (HU.out w9 h))
 have HM:=Lib.hid (fun w9 (h:Below w.heap.size w w9)=>rkadmits_any t q h0 w9 B C (.agg (t.cells (.slice p t.subs.length cap))) (.agg (q.cells (.slice pp q.subs.length pc))) (HV.out w9 h) (HU.out w9 h))
 unfold Tr.cells at HM
 rw [hk] at HM
 clear hx
 unfold Tr.cells Pa.cells at *
 rw [hk] at HV ⊢
 clear hk h0 b1 b2 b3 hsz
 generalize t.subs.length=tl at *;generalize q.subs.length=n at *
 generalize Rk.inOrd q.subs q.lo q.hi=z at *
 generalize Rk.admits t.least t.most t.bare q=y at *
 generalize q.lo=lo at *;generalize q.hi=hi at *;generalize q.pick=pk at *
 have HA:=Lib.hid (show Below w.heap.size w ((w.alloc (.cells #[.int .i64 8,.int .u64 (Oc.U t.w0),.int .u64 (Oc.U t.w1),.int .u64 (Oc.U t.w2),.int .u64 (Oc.U t.w3),.slice p tl cap,.int .i64 t.num,.int .i64 t.least,.int .i64 t.most,.bool t.bare] 37)).alloc (.cells #[.int .i64 lo,.int .i64 hi,.int .i64 pk,.slice pp n pc] 57)) from by go_grown)
 have W2x:=Lib.hid (two_new w (.cells #[.int .i64 8,.int .u64 (Oc.U t.w0),.int .u64 (Oc.U t.w1),.int .u64 (Oc.U t.w2),.int .u64 (Oc.U t.w3),.slice p tl cap,.int .i64 t.num,.int .i64 t.least,.int .i64 t.most,.bool t.bare] 37) (.cells #[.int .i64 lo,.int .i64 hi,.int .i64 pk,.slice pp n pc] 57))
 have hp0:pk=0:=hpk
 subst hp0
 cases z with
 | false =>
   have HR2:=Lib.hid (show false=R by have:=HR.out;rw [Bool.false_and] at this;exact this)
   clear HR HM
   go_enter Tryd.func94,Tryd.ntmps94
   go_wp2_with fail
   refine (HIN.out _ HA.out).mono ?_
   rintro e w1 ⟨rfl,hb1⟩
   have HB1:=Lib.hid (HA.out.trans (hb1.mono HA.out.size))
   have Y0:=Lib.hid (keep_blk hb1 W2x.out.1);have Y1:=Lib.hid (keep_blk hb1 W2x.out.2)
   clear hb1 W2x HA HIN
   obtain ⟨n0,n1,n2,n3,n4,n5,n6,n7,n8,n9⟩:=allTen Y0.out
   obtain ⟨d0,d1,d2,d3,-,-,-,-⟩:=four Y1.out
   go_wp2_with fail
   refine (HE.out _ HB1.out).mono ?_
   rintro e w2 ⟨rfl,hb2⟩
   have HB2:=Lib.hid (HB1.out.trans (hb2.mono HB1.out.size))
   clear hb2
   go_wp2
   go_ret
   exact ⟨ret_bool HR2.out,HB2.out⟩
 | true =>
   have hx9:=HR.out
   rw [Bool.true_and] at hx9
   have HR2:=Lib.hid hx9
   clear hx9
   clear HR
   go_enter Tryd.func94,Tryd.ntmps94
   go_wp2_with fail
   refine (HIN.out _ HA.out).mono ?_
   rintro e w1 ⟨rfl,hb1⟩
   have HB1:=Lib.hid (HA.out.trans (hb1.mono HA.out.size))
   have Y0:=Lib.hid (keep_blk hb1 W2x.out.1);have Y1:=Lib.hid (keep_blk hb1 W2x.out.2)
   clear hb1 W2x HA HIN
   obtain ⟨n0,n1,n2,n3,n4,n5,n6,n7,n8,n9⟩:=allTen Y0.out
   obtain ⟨d0,d1,d2,d3,-,-,-,-⟩:=four Y1.out
   go_wp2_with fail
   refine (HE.out _ HB1.out).mono ?_
   rintro e w2 ⟨rfl,hb2⟩
   have HB2:=Lib.hid (HB1.out.trans (hb2.mono HB1.out.size))
   have Z0:=Lib.hid (keep_blk hb2 Y0.out);have Z1:=Lib.hid (keep_blk hb2 Y1.out)
   clear hb2 n0 n1 n2 n3 n4 n5 n6 n7 n8 n9 d0 d1 d2 d3
   obtain ⟨n0,n1,n2,n3,n4,n5,n6,n7,n8,n9⟩:=allTen Z0.out
   obtain ⟨d0,d1,d2,d3,-,-,-,-⟩:=four Z1.out
   go_wp2_with (first
     | (refine wpList_load_row rfl 37 (.tmp 3) rfl w.heap.size rfl 37 _ (0,0) _ Z0.out Tryd.underlying37 rfl (by kernel_rfl) ?_)
     | fail)
   refine (HM.out _ HB2.out).mono ?_
   rintro e w3 ⟨rfl,hb3⟩
   have HB3:=Lib.hid (HB2.out.trans (hb3.mono HB2.out.size))
   clear hb3
   go_wp2
   go_ret
   exact ⟨ret_bool HR2.out,HB3.out⟩
theorem rkfits_any (x:Sc) (b:Nat) (t:Tr) (q:Pa) (hf:t.InForm) (hsz:x.t.size ≤ 4611686018427387904) (w:World) (hx:ScAt w b x) (B C:Nat→Prop) (v u:Value) (hv:NodeV w B v t) (hu:PaV w C u q) :
   Calls Tryd.prog 94 #[v,.pointer (some ⟨b,0,none⟩),u] w fun e w'=>e=.returned (.bool (Rk.fits x t q))∧Below w.heap.size w w':=by
 unfold Rk.fits
 have hk:=hf.fields
 unfold Tr.fieldsOk at hk
 have h0:0 ≤ t.least:=by omega
 cases hin:Rk.inSc x q with
 | false =>
   rw [Bool.false_and]
   obtain ⟨s,rfl,hs⟩:=hv
   obtain ⟨p,cap,rfl,-⟩:=hs.slice
   obtain ⟨z,rfl,hz⟩:=hu
   obtain ⟨pp,pc,rfl,-⟩:=hz.slice
   have HIN:=Lib.hid (fun w9 (h:Below w.heap.size w w9)=>rkinsc_any x b q.lo q.hi q.pick (.slice pp q.subs.length pc) w9 (hx.below h))
   rw [show (decide (0 ≤ q.lo) && (decide (q.lo ≤ q.hi) && decide (q.hi ≤ (x.t.size:Int))))=false from hin] at HIN
   clear hs hz hf hk h0 hin hx hsz
   unfold Tr.cells Pa.cells at *
   go_enter Tryd.func94,Tryd.ntmps94
   go_wp2_with fail
   refine (HIN.out _ (by go_grown)).mono ?_
   rintro e w1 ⟨rfl,hb1⟩
   have HB1:=Lib.hid (show Below w.heap.size w w1 from Below.trans (by go_grown) (hb1.mono (by simp;omega)))
   clear hb1
   go_wp2
   go_ret
   exact ⟨rfl,HB1.out⟩
 | true =>
   rw [Bool.true_and]
   by_cases hpk:q.pick=0 ∨ t.kind=6
   · rw [show (q.pick == 0 || t.kind == 6)=true by simpa using hpk,Bool.true_and]
     by_cases h6:t.kind=6
     · exact rkfits_6 x b t q h6 hin trivial h0 hsz w hx B C v u hv hu
     · have hp:=hpk.resolve_right h6
       rcases hk with ⟨k | k | k,-⟩ | ⟨k,-⟩ | ⟨k | k,-⟩ | ⟨k,-⟩ | ⟨k,-⟩
       · exact rkfits_1 x b t q k hin hp h0 hsz w hx B C v u hv hu
       · exact rkfits_3 x b t q k hin hp h0 hsz w hx B C v u hv hu
       · exact rkfits_4 x b t q k hin hp h0 hsz w hx B C v u hv hu
       · exact rkfits_2 x b t q k hin hp h0 hsz w hx B C v u hv hu
       · exact rkfits_5 x b t q k hin hp h0 hsz w hx B C v u hv hu
       · exact absurd k h6
       · exact rkfits_7 x b t q k hin hp h0 hsz w hx B C v u hv hu
       · exact rkfits_8 x b t q k hin hp h0 hsz w hx B C v u hv hu
   · have h1:q.pick ≠ 0:=fun h=>hpk (.inl h)
     have h2:t.kind ≠ 6:=fun h=>hpk (.inr h)
     rw [show (q.pick == 0 || t.kind == 6)=false by simp [h1,h2],Bool.false_and]
     obtain ⟨s,rfl,hs⟩:=hv
     obtain ⟨p,cap,rfl,-⟩:=hs.slice
     obtain ⟨z,rfl,hz⟩:=hu
     obtain ⟨pp,pc,rfl,-⟩:=hz.slice
     have HIN:=Lib.hid (fun w9 (h:Below w.heap.size w w9)=>rkinsc_any x b q.lo q.hi q.pick (.slice pp q.subs.length pc) w9 (hx.below h))
     rw [show (decide (0 ≤ q.lo) && (decide (q.lo ≤ q.hi) && decide (q.hi ≤ (x.t.size:Int))))=true from hin] at HIN
     have e1:(q.pick != 0)=true:=by simpa using h1
     have e2:(t.kind != 6)=true:=by simpa using h2
     clear hs hz hf hk h0 hin hx hsz h1 h2 hpk
     unfold Tr.cells Pa.cells at *
     generalize t.kind=k at *;generalize q.pick=pk at *
     have W2x:=Lib.hid (two_new w (.cells #[.int .i64 k,.int .u64 (Oc.U t.w0),.int .u64 (Oc.U t.w1),.int .u64 (Oc.U t.w2),.int .u64 (Oc.U t.w3),.slice p t.subs.length cap,.int .i64 t.num,.int .i64 t.least,.int .i64 t.most,.bool t.bare] 37) (.cells #[.int .i64 q.lo,.int .i64 q.hi,.int .i64 pk,.slice pp q.subs.length pc] 57))
     go_enter Tryd.func94,Tryd.ntmps94
     go_wp2_with fail
     refine (HIN.out _ (by go_grown)).mono ?_
     rintro e w1 ⟨rfl,hb1⟩
     have HB1:=Lib.hid (show Below w.heap.size w w1 from Below.trans (by go_grown) (hb1.mono (by simp;omega)))
     have Y0:=Lib.hid (keep_blk hb1 W2x.out.1);have Y1:=Lib.hid (keep_blk hb1 W2x.out.2)
     clear hb1 W2x HIN
     obtain ⟨n0,n1,n2,n3,n4,n5,n6,n7,n8,n9⟩:=allTen Y0.out
     obtain ⟨d0,d1,d2,d3,-,-,-,-⟩:=four Y1.out
     go_wp2
     go_ret
     exact ⟨rfl,HB1.out⟩
end Go.Proofs.YtnaoiglbjkjogaaDoor
namespace Go.Proofs.YtnaoiglbjkjogaaDoor
open Go.RowKit
namespace Tr
def noSet (t:Tr):Bool:=Oc.U t.w0 == 0 && (Oc.U t.w1 == 0 && (Oc.U t.w2 == 0 && Oc.U t.w3 == 0))
def noCounts (t:Tr):Bool:=t.least == 0 && t.most == 0 && !t.bare
def countsV (lo hi:Int) (br:Bool):Bool:=!(decide (lo < 0) || decide (255 < lo) || (br && lo != 0)) && (hi == -1 || (decide (lo ≤ hi) && decide (hi ≤ 255)))
def countsB (t:Tr):Bool:=countsV t.least t.most t.bare
def fieldsB (t:Tr):Bool :=
 if t.kind=1 ∨ t.kind=3 ∨ t.kind=4 then t.noSet && (t.num == 0) && t.noCounts && (t.subs.length == 0)
 else if t.kind=2 then (t.num == 0) && t.noCounts && (t.subs.length == 0)
 else if t.kind=5 ∨ t.kind=6 then t.noSet && (t.num == 0) && t.noCounts && decide (2 ≤ t.subs.length)
 else if t.kind=7 then t.noSet && t.noCounts && (t.subs.length == 1) && decide (1 ≤ t.num) && decide (t.num ≤ 999)
 else if t.kind=8 then t.noSet && (t.num == 0) && (t.subs.length == 1) && t.countsB
 else false
mutual
def formB:Tr→Bool
 | .node k a b c d s n lo hi br=>fieldsB (.node k a b c d s n lo hi br) && formS s
def formS:List Tr→Bool
 | []=>true
 | t :: l=>formB t && formS l
end
theorem formB_eq (t:Tr):t.formB=(t.fieldsB && formS t.subs):=by cases t;rw [formB];rfl
theorem formS_append:∀ a b:List Tr,formS (a ++ b)=(formS a && formS b)
 | [],b=>by simp [formS]
 | t :: a,b=>by rw [List.cons_append,formS,formS,formS_append a b,Bool.and_assoc]
theorem formS_take (l:List Tr) (m:Nat) (x:Tr) (h:l[m]? = some x):formS (l.take (m+1))=(formS (l.take m) && x.formB):=by
 rw [List.take_add_one,h,Option.toList_some,formS_append,formS,formS];simp
theorem formS_no {l:List Tr} {m:Nat} (h:formS (l.take m)=false):formS l=false:=by
 have e:=congrArg formS (List.take_append_drop m l)
 rw [formS_append,h] at e
 rw [← e];rfl
theorem U_zero {x:BitVec 64} : (Oc.U x == 0)=true ↔ x=0#64:=by
 rw [beq_iff_eq]
 refine ⟨fun h=>Oc.U_inj (h.trans (by decide)),fun h=>by subst h;decide⟩
theorem noSet_iff (t:Tr):t.noSet=true ↔ t.w0=0#64∧t.w1=0#64∧t.w2=0#64∧t.w3=0#64:=by
 unfold noSet;rw [Bool.and_eq_true,Bool.and_eq_true,Bool.and_eq_true,U_zero,U_zero,U_zero,U_zero]
theorem fieldsB_iff (t:Tr):t.fieldsB=true ↔ t.fieldsOk:=by
 have hs:=noSet_iff t
 have hn:t.noCounts=true ↔ t.least=0∧t.most=0∧t.bare=false:=by
   unfold noCounts;simp [and_assoc]
 have hc:t.countsB=true ↔ 0 ≤ t.least∧t.least ≤ 255∧(t.most = -1 ∨ (t.least ≤ t.most∧t.most ≤ 255))∧(t.bare=true→t.least=0):=by
   unfold countsB countsV
   cases t.bare <;> simp <;> omega
 unfold fieldsB fieldsOk
 by_cases h1:t.kind=1 ∨ t.kind=3 ∨ t.kind=4
 · rw [if_pos h1]
   simp only [Bool.and_eq_true,hs,hn,beq_iff_eq,List.length_eq_zero_iff]
   constructor
   · rintro ⟨⟨⟨⟨a,b,c,d⟩,e⟩,f,g,h⟩,i⟩;exact .inl ⟨h1,a,b,c,d,i,e,f,g,h⟩
   · rintro (⟨-,a,b,c,d,i,e,f,g,h⟩ | ⟨h,-⟩ | ⟨h,-⟩ | ⟨h,-⟩ | ⟨h,-⟩)
     · exact ⟨⟨⟨⟨a,b,c,d⟩,e⟩,f,g,h⟩,i⟩
     all_goals omega
 rw [if_neg h1]
 by_cases h2:t.kind=2
 · rw [if_pos h2]
   simp only [Bool.and_eq_true,hn,beq_iff_eq,List.length_eq_zero_iff]
   constructor
   · rintro ⟨⟨e,f,g,h⟩,i⟩;exact .inr (.inl ⟨h2,i,e,f,g,h⟩)
   · rintro (⟨h,-⟩ | ⟨-,i,e,f,g,h⟩ | ⟨h,-⟩ | ⟨h,-⟩ | ⟨h,-⟩)
     · omega
     · exact ⟨⟨e,f,g,h⟩,i⟩
     all_goals omega
 rw [if_neg h2]
 by_cases h5:t.kind=5 ∨ t.kind=6
 · rw [if_pos h5]
   simp only [Bool.and_eq_true,hs,hn,beq_iff_eq,decide_eq_true_eq]
   constructor
   · rintro ⟨⟨⟨⟨a,b,c,d⟩,e⟩,f,g,h⟩,i⟩;exact .inr (.inr (.inl ⟨h5,a,b,c,d,i,e,f,g,h⟩))
   · rintro (⟨h,-⟩ | ⟨h,-⟩ | ⟨-,a,b,c,d,i,e,f,g,h⟩ | ⟨h,-⟩ | ⟨h,-⟩)
     · omega
     · omega
     · exact ⟨⟨⟨⟨a,b,c,d⟩,e⟩,f,g,h⟩,i⟩
     all_goals omega
 rw [if_neg h5]
 by_cases h7:t.kind=7
 · rw [if_pos h7]
   simp only [Bool.and_eq_true,hs,hn,beq_iff_eq,decide_eq_true_eq]
   constructor
   · rintro ⟨⟨⟨⟨⟨a,b,c,d⟩,f,g,h⟩,i⟩,j⟩,l⟩;exact .inr (.inr (.inr (.inl ⟨h7,a,b,c,d,i,j,l,f,g,h⟩)))
   · rintro (⟨h,-⟩ | ⟨h,-⟩ | ⟨h,-⟩ | ⟨-,a,b,c,d,i,j,l,f,g,h⟩ | ⟨h,-⟩)
     · omega
     · omega
     · omega
     · exact ⟨⟨⟨⟨⟨a,b,c,d⟩,f,g,h⟩,i⟩,j⟩,l⟩
     · omega
 rw [if_neg h7]
 by_cases h8:t.kind=8
 · rw [if_pos h8]
   simp only [Bool.and_eq_true,hs,hc,beq_iff_eq]
   constructor
   · rintro ⟨⟨⟨⟨a,b,c,d⟩,e⟩,i⟩,f,g,h,j⟩;exact .inr (.inr (.inr (.inr ⟨h8,a,b,c,d,i,e,f,g,h,j⟩)))
   · rintro (⟨h,-⟩ | ⟨h,-⟩ | ⟨h,-⟩ | ⟨h,-⟩ | ⟨-,a,b,c,d,i,e,f,g,h,j⟩)
     · omega
     · omega
     · omega
     · omega
     · exact ⟨⟨⟨⟨a,b,c,d⟩,e⟩,i⟩,f,g,h,j⟩
 rw [if_neg h8]
 constructor
 · intro h;cases h
 · rintro (⟨h,-⟩ | ⟨h,-⟩ | ⟨h,-⟩ | ⟨h,-⟩ | ⟨h,-⟩) <;> omega
theorem formS_all:∀ {l:List Tr},(∀ t,t ∈ l→(t.formB=true ↔ t.InForm))→(formS l=true ↔ ∀ t,t ∈ l→t.InForm)
 | [],_=>by simp [formS]
 | t :: l,h=>by
   rw [formS,Bool.and_eq_true,h t List.mem_cons_self,formS_all (fun u hu=>h u (List.mem_cons_of_mem _ hu))]
   constructor
   · rintro ⟨h1,h2⟩ u hu
     rcases List.mem_cons.1 hu with rfl | hu
     · exact h1
     · exact h2 u hu
   · intro h1;exact ⟨h1 t List.mem_cons_self,fun u hu=>h1 u (List.mem_cons_of_mem _ hu)⟩
theorem formB_iff (t:Tr):t.formB=true ↔ t.InForm:=by
 induction t using Tr.rec_subs with
 | h t ih =>
   rw [formB_eq,Bool.and_eq_true,fieldsB_iff,formS_all (fun u hu=>ih u hu)]
   exact ⟨fun h=>.mk t h.1 h.2,fun h=>⟨h.fields,fun u hu=>h.sub hu⟩⟩
end Tr
theorem counts_any (k:Int) (a b c d:BitVec 64) (us:List Tr) (n lo hi:Int) (br:Bool) (p:Option Addr) (l cap:Nat) (w:World) :
   Calls Tryd.prog 108 #[.agg #[.int .i64 k,.int .u64 (Oc.U a),.int .u64 (Oc.U b),.int .u64 (Oc.U c),.int .u64 (Oc.U d),.slice p l cap,.int .i64 n,.int .i64 lo,.int .i64 hi,.bool br]] w fun e w'=>e=.returned (.bool (Tr.countsB (.node k a b c d us n lo hi br)))∧Below w.heap.size w w':=by
 obtain ⟨R,hR⟩:∃ R,Tr.countsV lo hi br=R:=⟨_,rfl⟩
 rw [show Tr.countsB (.node k a b c d us n lo hi br)=Tr.countsV lo hi br from rfl,hR]
 unfold Tr.countsV at hR
 have c1:decide (lo < 0)=true ∨ decide (lo < 0)=false:=by cases decide (lo < 0) <;> simp
 have c2:decide (255 < lo)=true ∨ decide (255 < lo)=false:=by cases decide (255 < lo) <;> simp
 have c3:(lo != 0)=true ∨ (lo != 0)=false:=by cases (lo != 0) <;> simp
 have c4:(hi == -1)=true ∨ (hi == -1)=false:=by cases (hi == -1) <;> simp
 have c5:decide (lo ≤ hi)=true ∨ decide (lo ≤ hi)=false:=by cases decide (lo ≤ hi) <;> simp
 have c6:decide (hi ≤ 255)=true ∨ decide (hi ≤ 255)=false:=by cases decide (hi ≤ 255) <;> simp
 rcases c1 with c1 | c1 <;> rcases c2 with c2 | c2 <;> rcases c3 with c3 | c3 <;> rcases c4 with c4 | c4 <;> rcases c5 with c5 | c5 <;> rcases c6 with c6 | c6 <;> cases br <;> (
   rw [c1,c2,c3,c4,c5,c6] at hR
   subst hR
   go_enter Tryd.func108,Tryd.ntmps108
   go_wp2
   go_ret
   exact ⟨rfl,by go_grown⟩)
theorem bool_or (x:Bool):x=true ∨ x=false:=by cases x <;> simp
theorem treefields_any (k:Int) (a b c d:BitVec 64) (us:List Tr) (n lo hi:Int) (br:Bool) (p:Option Addr) (cap:Nat) (hlen:us.length * 96 ≤ 140737488351232) (w:World) :
   Calls Tryd.prog 77 #[.agg #[.int .i64 k,.int .u64 (Oc.U a),.int .u64 (Oc.U b),.int .u64 (Oc.U c),.int .u64 (Oc.U d),.slice p us.length cap,.int .i64 n,.int .i64 lo,.int .i64 hi,.bool br]] w fun e w'=>e=.returned (.bool (Tr.fieldsB (.node k a b c d us n lo hi br)))∧Below w.heap.size w w':=by
 have he:=eq4
 obtain ⟨S,hS⟩:∃ S,(Oc.U a == 0 && (Oc.U b == 0 && (Oc.U c == 0 && Oc.U d == 0)))=S:=⟨_,rfl⟩
 obtain ⟨NB,hN⟩:∃ NB,(n == 0)=NB:=⟨_,rfl⟩
 obtain ⟨C,hC⟩:∃ C,(lo == 0 && hi == 0 && !br)=C:=⟨_,rfl⟩
 obtain ⟨R,hR⟩:∃ R,Tr.fieldsB (.node k a b c d us n lo hi br)=R:=⟨_,rfl⟩
 have HCT:=Lib.hid (counts_any k a b c d us n lo hi br p us.length cap)
 rw [hR]
 have hR2:(if k=1 ∨ k=3 ∨ k=4 then S && NB && C && (us.length == 0) else if k=2 then NB && C && (us.length == 0) else if k=5 ∨ k=6 then S && NB && C && decide (2 ≤ us.length) else if k=7 then S && C && (us.length == 1) && decide (1 ≤ n) && decide (n ≤ 999) else if k=8 then S && NB && (us.length == 1) && Tr.countsB (.node k a b c d us n lo hi br) else false)=R:=by
   rw [← hR,← hS,← hN,← hC];rfl
 clear hR
 obtain ⟨Q,hQ⟩:∃ Q,Tr.countsB (.node k a b c d us n lo hi br)=Q:=⟨_,rfl⟩
 rw [hQ] at HCT hR2
 have hl0:((us.length:Int) == 0)=(us.length == 0):=by
   by_cases h:us.length=0
   · rw [h];rfl
   · have e1:(us.length == 0)=false:=by rw [beq_eq_false_iff_ne];exact h
     have e2:((us.length:Int) == 0)=false:=by rw [beq_eq_false_iff_ne];omega
     rw [e1,e2]
 have hl1:((us.length:Int) == 1)=(us.length == 1):=by
   by_cases h:us.length=1
   · rw [h];rfl
   · have e1:(us.length == 1)=false:=by simpa using h
     have e2:((us.length:Int) == 1)=false:=by simp;omega
     rw [e1,e2]
 have hl2:decide ((2:Int) ≤ us.length)=decide (2 ≤ us.length):=by
   by_cases h:2 ≤ us.length
   · have e1:decide (2 ≤ us.length)=true:=by simpa using h
     have e2:decide ((2:Int) ≤ us.length)=true:=by simp;omega
     rw [e1,e2]
   · have e1:decide (2 ≤ us.length)=false:=by simpa using h
     have e2:decide ((2:Int) ≤ us.length)=false:=by simp;omega
     rw [e1,e2]
 have HL0:=Lib.hid hl0;have HL1:=Lib.hid hl1;have HL2:=Lib.hid hl2;have HR:=Lib.hid hR2;have HC:=Lib.hid hC
 clear hl0 hl1 hl2 hR2 hC hQ hlen
 have Z0:=Lib.hid (heap_alloc_new w (.cells #[.int .i64 k,.int .u64 (Oc.U a),.int .u64 (Oc.U b),.int .u64 (Oc.U c),.int .u64 (Oc.U d),.slice p us.length cap,.int .i64 n,.int .i64 lo,.int .i64 hi,.bool br] 37))
 have HW:=Lib.hid (show Below w.heap.size w (w.alloc (.cells #[.int .i64 k,.int .u64 (Oc.U a),.int .u64 (Oc.U b),.int .u64 (Oc.U c),.int .u64 (Oc.U d),.slice p us.length cap,.int .i64 n,.int .i64 lo,.int .i64 hi,.bool br] 37)) from (Below.refl _ _).alloc (Nat.le_refl _) _)
 go_enter Tryd.func77,Tryd.ntmps77
 go_upto_region 4 with (fail)
 generalize w.alloc (.cells #[.int .i64 k,.int .u64 (Oc.U a),.int .u64 (Oc.U b),.int .u64 (Oc.U c),.int .u64 (Oc.U d),.slice p us.length cap,.int .i64 n,.int .i64 lo,.int .i64 hi,.bool br] 37)=W0 at *
 obtain ⟨d0,d1,d2,d3,d4,d5,d6,d7,d8,d9⟩:=allTen Z0.out
 go_cut [6] (fun u wx=>u=.bool C∧W0=wx)
 case first =>
   have hC:=HC.out
   rcases bool_or (lo == 0) with q1 | q1 <;> rcases bool_or (hi == 0) with q2 | q2 <;> cases br <;> (
     rw [q1,q2] at hC
     subst hC
     go_wp2
     go_meet
     exact ⟨rfl,rfl⟩)
 case rest =>
   obtain ⟨rfl,rfl⟩:=hcut
   clear HC
   have hR:=HR.out
   have hl0:=HL0.out;have hl1:=HL1.out;have hl2:=HL2.out
   clear HR HL0 HL1 HL2
   by_cases kk1:k=1
   · subst kk1
     rw [if_pos (by decide)] at hR
     clear hl1 hl2
     cases S <;> cases NB <;> cases C <;> rcases bool_or (us.length == 0) with q3 | q3 <;> (
       rw [q3] at hR
       rw [q3] at hl0
       subst hR
       go_wp2
       go_ret
       exact ⟨rfl,HW.out⟩)
   have n1:(k == 1)=false:=by simpa using kk1
   by_cases kk3:k=3
   · subst kk3
     rw [if_pos (by decide)] at hR
     clear hl1 hl2
     cases S <;> cases NB <;> cases C <;> rcases bool_or (us.length == 0) with q3 | q3 <;> (
       rw [q3] at hR
       rw [q3] at hl0
       subst hR
       go_wp2
       go_ret
       exact ⟨rfl,HW.out⟩)
   have n3:(k == 3)=false:=by simpa using kk3
   by_cases kk4:k=4
   · subst kk4
     rw [if_pos (by decide)] at hR
     clear hl1 hl2
     cases S <;> cases NB <;> cases C <;> rcases bool_or (us.length == 0) with q3 | q3 <;> (
       rw [q3] at hR
       rw [q3] at hl0
       subst hR
       go_wp2
       go_ret
       exact ⟨rfl,HW.out⟩)
   have n4:(k == 4)=false:=by simpa using kk4
   by_cases kk2:k=2
   · subst kk2
     rw [if_neg (by decide),if_pos rfl] at hR
     clear hl1 hl2
     cases NB <;> cases C <;> rcases bool_or (us.length == 0) with q2 | q2 <;> (
       rw [q2] at hR
       rw [q2] at hl0
       subst hR
       go_wp2
       go_ret
       exact ⟨rfl,HW.out⟩)
   have n2:(k == 2)=false:=by simpa using kk2
   by_cases kk5:k=5
   · subst kk5
     rw [if_neg (by decide),if_neg (by decide),if_pos (by decide)] at hR
     clear hl0 hl1
     cases S <;> cases NB <;> cases C <;> rcases bool_or (decide (2 ≤ us.length)) with q3 | q3 <;> (
       rw [q3] at hR
       rw [q3] at hl2
       subst hR
       go_wp2
       go_ret
       exact ⟨rfl,HW.out⟩)
   have n5:(k == 5)=false:=by simpa using kk5
   by_cases kk6:k=6
   · subst kk6
     rw [if_neg (by decide),if_neg (by decide),if_pos (by decide)] at hR
     clear hl0 hl1
     cases S <;> cases NB <;> cases C <;> rcases bool_or (decide (2 ≤ us.length)) with q3 | q3 <;> (
       rw [q3] at hR
       rw [q3] at hl2
       subst hR
       go_wp2
       go_ret
       exact ⟨rfl,HW.out⟩)
   have n6:(k == 6)=false:=by simpa using kk6
   by_cases kk7:k=7
   · subst kk7
     rw [if_neg (by decide),if_neg (by decide),if_neg (by decide),if_pos rfl] at hR
     clear hl0 hl2
     cases S <;> cases C <;> rcases bool_or (us.length == 1) with q2 | q2 <;> rcases bool_or (decide (1 ≤ n)) with q3 | q3 <;> rcases bool_or (decide (n ≤ 999)) with q4 | q4 <;> (
       rw [q2,q3,q4] at hR
       rw [q2] at hl1
       subst hR
       go_wp2
       go_ret
       exact ⟨rfl,HW.out⟩)
   have n7:(k == 7)=false:=by simpa using kk7
   by_cases kk8:k=8
   · subst kk8
     rw [if_neg (by decide),if_neg (by decide),if_neg (by decide),if_neg (by decide),if_pos rfl] at hR
     clear hl0 hl2
     rcases bool_or (us.length == 1) with q1 | q1
     · cases S with
       | true =>
         cases NB with
         | true =>
           rw [q1,Bool.true_and,Bool.true_and,Bool.true_and] at hR
           rw [q1] at hl1
           subst hR
           go_wp2_with fail
           refine (HCT.out _).mono ?_;rintro e w2 ⟨rfl,hb2⟩
           have HB2:=Lib.hid (HW.out.trans (hb2.mono HW.out.size))
           clear hb2
           go_wp2
           go_ret
           exact ⟨rfl,HB2.out⟩
         | false =>
           rw [q1] at hR hl1
           subst hR
           go_wp2
           go_ret
           exact ⟨rfl,HW.out⟩
       | false =>
         rw [q1] at hR hl1
         subst hR
         cases NB <;> (
           go_wp2
           go_ret
           exact ⟨rfl,HW.out⟩)
     · rw [q1] at hR hl1
       rw [Bool.and_false,Bool.false_and] at hR
       subst hR
       cases S <;> cases NB <;> (
         go_wp2
         go_ret
         exact ⟨rfl,HW.out⟩)
   have n8:(k == 8)=false:=by simpa using kk8
   rw [if_neg (by omega),if_neg kk2,if_neg (by omega),if_neg kk7,if_neg kk8] at hR
   subst hR
   clear hl0 hl1 hl2 kk1 kk2 kk3 kk4 kk5 kk6 kk7 kk8
   go_wp2
   go_ret
   exact ⟨rfl,HW.out⟩
theorem treeinform_any:∀ t:Tr,∀ (w:World) (B:Nat→Prop) (v:Value),NodeV w B v t→Calls Tryd.prog 46 #[v] w fun e w'=>e=.returned (.bool t.formB)∧Below w.heap.size w w':=by
 intro t
 induction t using Tr.rec_subs with
 | h t ih =>
   intro w B v hv
   obtain ⟨s,rfl,hs⟩:=hv
   obtain ⟨p,cap,rfl,hlen⟩:=hs.slice
   have hfl:=fun w=>treefields_any t.kind t.w0 t.w1 t.w2 t.w3 t.subs t.num t.least t.most t.bare p cap hlen w
   rw [← Tr.eta t] at hfl
   rw [Tr.formB_eq]
   have HF:=Lib.hid hfl
   clear hfl
   generalize hts:t.subs=ts at *
   have IH:=Lib.hid ih;have HS:=Lib.hid hs
   clear ih hs hts
   unfold Tr.cells at *
   generalize t.fieldsB=FB at *
   obtain ⟨R,hR⟩:∃ R,(FB && Tr.formS ts)=R:=⟨_,rfl⟩
   rw [hR]
   have HR:=Lib.hid hR
   clear hR
   have Z0:=Lib.hid (heap_alloc_new w (.cells #[.int .i64 t.kind,.int .u64 (Oc.U t.w0),.int .u64 (Oc.U t.w1),.int .u64 (Oc.U t.w2),.int .u64 (Oc.U t.w3),.slice p ts.length cap,.int .i64 t.num,.int .i64 t.least,.int .i64 t.most,.bool t.bare] 37))
   have HW:=Lib.hid (show Below w.heap.size w (w.alloc (.cells #[.int .i64 t.kind,.int .u64 (Oc.U t.w0),.int .u64 (Oc.U t.w1),.int .u64 (Oc.U t.w2),.int .u64 (Oc.U t.w3),.slice p ts.length cap,.int .i64 t.num,.int .i64 t.least,.int .i64 t.most,.bool t.bare] 37)) from (Below.refl _ _).alloc (Nat.le_refl _) _)
   go_enter Tryd.func46,Tryd.ntmps46
   go_wp2_with (first
     | (refine wpList_load_row rfl 37 (.tmp 1) rfl w.heap.size rfl 37 _ (0,0) _ Z0.out Tryd.underlying37 rfl (by kernel_rfl) ?_)
     | fail)
   refine (HF.out _).mono ?_
   rintro e W0 ⟨rfl,hb1⟩
   have Z1:=Lib.hid (keep_blk (hb1.mono (Nat.le_refl _)) Z0.out)
   have HB1:=Lib.hid (HW.out.trans (hb1.mono HW.out.size))
   obtain ⟨d0,d1,d2,d3,d4,d5,d6,d7,d8,d9⟩:=allTen Z1.out
   clear hb1 Z0 HW HF
   cases FB with
   | false =>
     have hr:=HR.out
     rw [Bool.false_and] at hr
     subst hr
     go_wp2
     go_ret
     exact ⟨rfl,HB1.out⟩
   | true =>
     have hr:=HR.out
     rw [Bool.true_and] at hr
     have HR2:=Lib.hid hr
     clear hr HR
     go_wp2
     clear d0 d1 d2 d3 d4 d5 d6 d7 d8 d9
     go_loopw [11] (fun iv wr=>∃ m:Nat,iv=.int .i64 m∧m ≤ ts.length∧Hid (Tr.formS (ts.take m)=true)∧Hid (Below w.heap.size w wr)) (fun iv _=>ts.length - (intOf iv).toNat)
     case atStart=>exact ⟨0,rfl,Nat.zero_le _,Lib.hid rfl,HB1⟩
     case round =>
       obtain ⟨m,rfl,hm,HT,HB⟩:=hrel
       have wm:IntKind.i64.wrap ((m:Int)+1)=(m:Int)+1:=IntWalk.i64_in _ (by omega)
       by_cases hlt:m < ts.length
       · obtain ⟨x,hx⟩:∃ x,ts[m]? = some x:=⟨_,List.getElem?_eq_getElem hlt⟩
         obtain ⟨b1,o1,s1,rfl,-,t1,sub1⟩:=HS.out.get hx
         obtain ⟨d0,d1,d2,d3,d4,d5,d6,d7,d8,d9⟩:=t1.keep (HB.out.block _ t1.lt)
         have hmem:=List.mem_of_getElem? hx
         obtain ⟨p1,c1,rfl,hl1⟩:=sub1.slice
         have HC:=Lib.hid (fun w9 hb=>IH.out x hmem w9 B (.agg (x.cells (.slice p1 x.subs.length c1))) ⟨_,rfl,sub1.later hb⟩)
         have hst:=Tr.formS_take ts m x hx
         rw [HT.out,Bool.true_and] at hst
         have HST:=Lib.hid hst
         clear t1 sub1 hmem hx hst
         unfold Tr.cells at HC
         have hbx:Below wr.heap.size wr (wr.alloc (.cells #[.int .i64 x.kind,.int .u64 (Oc.U x.w0),.int .u64 (Oc.U x.w1),.int .u64 (Oc.U x.w2),.int .u64 (Oc.U x.w3),.slice p1 x.subs.length c1,.int .i64 x.num,.int .i64 x.least,.int .i64 x.most,.bool x.bare] 37)):=(Below.refl _ _).alloc (Nat.le_refl _) _
         have HBX:=Lib.hid (HB.out.trans (hbx.mono HB.out.size))
         have ZX:=Lib.hid (heap_alloc_new wr (.cells #[.int .i64 x.kind,.int .u64 (Oc.U x.w0),.int .u64 (Oc.U x.w1),.int .u64 (Oc.U x.w2),.int .u64 (Oc.U x.w3),.slice p1 x.subs.length c1,.int .i64 x.num,.int .i64 x.least,.int .i64 x.most,.bool x.bare] 37))
         clear hbx
         go_upto_region 6 with (fail)
         generalize wr.alloc (.cells #[.int .i64 x.kind,.int .u64 (Oc.U x.w0),.int .u64 (Oc.U x.w1),.int .u64 (Oc.U x.w2),.int .u64 (Oc.U x.w3),.slice p1 x.subs.length c1,.int .i64 x.num,.int .i64 x.least,.int .i64 x.most,.bool x.bare] 37)=w1 at *
         clear d0 d1 d2 d3 d4 d5 d6 d7 d8 d9
         go_wp2_with (first
           | (refine wpList_load_row rfl 37 (.tmp 4) rfl wr.heap.size rfl 37 _ (0,0) _ ZX.out Tryd.underlying37 rfl (by kernel_rfl) ?_)
           | fail)
         refine (HC.out w1 HBX.out).mono ?_
         rintro e w2 ⟨rfl,hb2⟩
         have HB2:=Lib.hid (HBX.out.trans (hb2.mono HBX.out.size))
         clear hb2 HC ZX
         cases hxf:x.formB with
         | false =>
           rw [hxf] at HST
           have hr:=HR2.out
           rw [Tr.formS_no HST.out] at hr
           subst hr
           clear hxf
           go_wp2
           go_ret
           exact ⟨rfl,HB2.out⟩
         | true =>
           rw [hxf] at HST
           clear hxf
           go_wp2
           exact ⟨⟨m+1,by go_num,by omega,HST,HB2⟩,by simp [intOf];omega⟩
       · obtain rfl:m=ts.length:=by omega
         rw [List.take_length] at *
         have hr:=HR2.out
         rw [HT.out] at hr
         subst hr
         go_wp2
         go_ret
         exact ⟨rfl,HB.out⟩
end Go.Proofs.YtnaoiglbjkjogaaDoor
namespace Go.Proofs.YtnaoiglbjkjogaaDoor
open Go.ChangeShapes Go.WideShapes Go.ChangeAt Go.RowKit
def Sent (W:World) (g:Nat) (t:List UInt8) (a:Addr):Prop :=
 W.cell? ⟨g,0,none⟩=some (.iface 199 (.pointer (some a)))∧g < W.heap.size∧a.block < W.heap.size∧(∃ s,W.cell? a=some (.string s)∧s.data.toList=t∧s.size ≤ maxLen)∧∃ c ty,W.heap[a.block]? = some (.cells c ty (0,0))
theorem Sent.below {W W':World} {g:Nat} {t:List UInt8} {a:Addr} (h:Sent W g t a) (hb:Below W.heap.size W W'):Sent W' g t a:=by
 obtain ⟨h1,h2,h3,⟨s,h4,h5,h6⟩,c,ty,h7⟩:=h
 exact ⟨(hb.cell (p:=⟨g,0,none⟩) h2).trans h1,Nat.lt_of_lt_of_le h2 hb.size,Nat.lt_of_lt_of_le h3 hb.size,⟨s,(hb.cell h3).trans h4,h5,h6⟩,c,ty,(hb.block _ h3).trans h7⟩
def sentDatum (t : List UInt8) : DataW Unit := .iface "*errors.errorString" (.ptr (.agg [.lit (.string t)]))
theorem Tryd.starE : "*" ++ "errors.errorString" = "*errors.errorString" := by decide
theorem Tryd.rowE (u : TypeId) (h : Tryd.prog.typeName? 3 u = some "*errors.errorString") : u = 199 :=
 typeName_ptr_named (nm := "errors.errorString") (by rw [Tryd.starE]; kernel_rfl) (by kernel_rfl) (by decide) u (by rw [Tryd.starE]; exact h)
theorem Tryd.cellsE:Tryd.prog.cellsOf 216=1:=by kernel_rfl
theorem Tryd.cellsStr:Tryd.prog.cellsOf 9=1:=by kernel_rfl
theorem block_lt {W:World} {b:Nat} {o:Obj} (h:W.heap[b]? = some o):b < W.heap.size:=(Array.getElem?_eq_some_iff.1 h).1
theorem sent_head_any {P:Program} {n nm:String} {text:List UInt8} {r:List (String × DataW Unit)} {W:World} {g:Nat} {ti tp te ts:TypeId} {ms:Array (String × TypeId)} {f:Field}
   (h:laidMet P ((n,.iface nm (.ptr (.agg [.lit (.string text)]))) :: r) W)
   (hg:P.globalNamed n=some g) (ht:(P.globals[g]?).map (·.type)=some ti) (hi:P.underlying ti=some (.interface ms)) (hrow:∀ u,P.typeName? 3 u=some nm→u=tp)
   (hp:P.underlying tp=some (.pointer te)) (he:P.underlying te=some (.struct #[f])) (hft:f.type=ts) (hfo:f.offset=0) (hs:P.underlying ts=some .string) (hc:P.cellsOf te=1) (hcs:P.cellsOf ts=1) :
   ∃ (a:Addr) (s:ByteArray) (c0 c1:Array Value) (t0 t1:TypeId),W.cell? ⟨g,0,none⟩=some (.iface tp (.pointer (some a)))∧W.cell? a=some (.string s)∧s.data.toList=text∧s.size ≤ maxLen∧W.heap[a.block]? = some (.cells c0 t0 (0,0))∧W.heap[g]? = some (.cells c1 t1 (0,0)):=by
 obtain ⟨ps,⟨g0,t0,cs0,f0,p0,q0,hg0,ht0,hv0,hd0,_,e0⟩,_,hrows⟩:=h
 obtain rfl:=Option.some.inj (hg.symm.trans hg0)
 obtain rfl:=Option.some.inj (ht.symm.trans ht0)
 subst e0
 obtain ⟨l0⟩:=cs0
 have ok0:∀ u v,l0=[.iface u v]→Value.okWide P W .any 0 u v:=fun u v e=>by
   subst e
   exact (hrows g 0 (by simp [MemPlace.row])).2 u v (by simpa using World.var?_cell hg0 hv0 0)
 obtain ⟨a0,s0,rfl,hc0,hs0,hz0,rfl⟩:=errorString_of_trod hi hrow hp he hft hfo hs hc hcs hd0 ok0
 obtain ⟨c0,t1,hb0⟩:=(hrows a0.block a0.off (by simp [MemPlace.row])).1
 obtain ⟨c1,t2,hb1⟩:=(hrows g 0 (by simp [MemPlace.row])).1
 exact ⟨a0,s0,c0,c1,t1,t2,by simpa using World.var?_cell hg0 hv0 0,hc0,hs0,hz0,hb0,hb1⟩
theorem sent_head {n:String} {t:List UInt8} {r:List (String × DataW Unit)} {W:World} {g:Nat} (h:laidMet Tryd.prog ((n,sentDatum t) :: r) W) (hg:Tryd.prog.globalNamed n=some g) (ht:(Tryd.prog.globals[g]?).map (·.type)=some 42) :
   ∃ a,Sent W g t a:=by
 obtain ⟨a,s,c0,c1,t0,t1,h1,h2,h3,h4,h5,h6⟩:=sent_head_any h hg ht Tryd.underlying42 Tryd.rowE Tryd.underlying199 Tryd.underlying216 rfl rfl Tryd.underlying9 Tryd.cellsE Tryd.cellsStr
 exact ⟨a,h1,block_lt h6,block_lt h5,⟨s,h2,h3,h4⟩,c0,t0,h5⟩
theorem sent_of:∀ {l:List (String × DataW Unit)} {W:World},laidMet Tryd.prog l W→∀ {n t g},(n,sentDatum t) ∈ l→Tryd.prog.globalNamed n=some g→(Tryd.prog.globals[g]?).map (·.type)=some 42→∃ a,Sent W g t a
 | [],_,_,_,_,_,hm,_,_=>by cases hm
 | x :: l,W,h,n,t,g,hm,hg,ht=>by
   rcases List.mem_cons.1 hm with e | hm
   · subst e;exact sent_head h hg ht
   · exact sent_of h.tail hm hg ht
end Go.Proofs.YtnaoiglbjkjogaaDoor
namespace Go.Proofs.YtnaoiglbjkjogaaDoor
open Go.ChangeShapes Go.WideShapes Go.ChangeAt Go.RowKit
def errWords:List (List UInt8):=[[98,114,97,99,107,101,116],[112,97,114,101,110,116,104,101,115,105,115],[98,114,97,99,101],[99,111,117,110,116],[114,97,110,103,101],[99,108,97,115,115],[99,111,108,108,97,116,105,110,103],[101,115,99,97,112,101],[114,101,112,101,97,116],[116,111,111,32,98,105,103],[110,101,115,116,105,110,103],[108,111,110,103],[116,114,101,101],[100,101,101,112],[97,114,103,117,109,101,110,116],[110,111,32,109,97,116,99,104],[105,109,97,103,101],[109,97,110,121],[111,112,116,105,111,110],[99,111,109,109,97,110,100],[99,108,111,115,101,100]]
def errPre:List UInt8:=[116,114,97,119,108,58,32]
def errVars:List Nat:=[0,0,0,0,0,0,0,0,0,2,0,3,0,1,4,0,0,0,0,0,0]
end Go.Proofs.YtnaoiglbjkjogaaDoor
namespace Go.Proofs.YtnaoiglbjkjogaaDoor
open Go.RowKit
namespace Tr
def checkC (t:Tr):Nat:=if t.formB=false then 13 else if 200 < t.dpT then 14 else if 2000 < t.szT then 10 else 0
theorem checkC_zero {t:Tr} : t.checkC=0 ↔ t.InForm∧t.dpT ≤ 200∧t.szT ≤ 2000:=by
 unfold checkC
 rw [← formB_iff]
 cases t.formB with
 | false=>simp
 | true =>
   rw [if_neg (by decide)]
   split
   · simp;omega
   · split
     · simp;omega
     · simp;omega
end Tr
def sentV (A:Nat→Addr) (c:Nat):Value:=if c=0 then .nilIface else .iface 199 (.pointer (some (A (c - 1))))
def ErrsC (W:World) (A:Nat→Addr):Prop:=∀ k,k ∈ [9,12,13]→Sent W (errVars.getD k 0) (errPre ++ errWords.getD k []) (A k)
theorem ErrsC.below {W W':World} {A:Nat→Addr} (h:ErrsC W A) (hb:Below W.heap.size W W'):ErrsC W' A:=fun k hk=>(h k hk).below hb
theorem treecheckC_any (A:Nat→Addr) (t:Tr) (hd:t.dpT ≤ 1000000) (w:World) (hE:ErrsC w A) (B:Nat→Prop) (v:Value) (hv:NodeV w B v t):Calls Tryd.prog 20 #[v] w fun e w'=>e=.returned (sentV A t.checkC)∧Below w.heap.size w w':=by
 obtain ⟨s,rfl,hs⟩:=hv
 have H1:=Lib.hid (fun w' hb=>treeinform_any t w' B (.agg (t.cells s)) ⟨s,rfl,TreesAt.later (w':=w') hs hb⟩)
 have H2:=Lib.hid (fun w' hb=>treedepth_any t hd w' B (.agg (t.cells s)) ⟨s,rfl,TreesAt.later (w':=w') hs hb⟩)
 have H3:=Lib.hid (fun (hf:t.InForm) w' hb=>treesize_any t hf w' B (.agg (t.cells s)) ⟨s,rfl,TreesAt.later (w':=w') hs hb⟩)
 have HE:=Lib.hid (fun w' (hb:Below w.heap.size w w')=>hE.below hb)
 obtain ⟨p,cap,rfl,hlen⟩:=hs.slice
 have Z0:=Lib.hid (heap_alloc_new w (.cells (t.cells (.slice p t.subs.length cap)) 37))
 have hfi:=Tr.formB_iff t
 have HFI:=Lib.hid hfi
 have HCC:=Lib.hid (show t.checkC=if t.formB=false then 13 else if 200 < t.dpT then 14 else if 2000 < t.szT then 10 else 0 from rfl)
 clear hs hd hE hfi
 unfold Tr.cells at *
 go_enter Tryd.func20,Tryd.ntmps20
 go_wp2_with (first
   | (refine wpList_load_row rfl 37 (.tmp 1) rfl w.heap.size rfl 37 _ (0,0) _ Z0.out Tryd.underlying37 rfl (by kernel_rfl) ?_)
   | fail)
 refine (H1.out _ ((Below.refl _ _).alloc (Nat.le_refl _) _)).mono ?_
 rintro e w1 ⟨rfl,hb1⟩
 have Z1:=Lib.hid (keep_blk hb1 Z0.out)
 have HB1:=Lib.hid (((Below.refl w.heap.size w).alloc (Nat.le_refl _) _).trans (hb1.mono (by simp)))
 clear hb1 Z0
 cases hfb:t.formB with
 | false =>
   have hcc:=HCC.out
   rw [if_pos hfb] at hcc
   have HCV:=Lib.hid (show sentV A t.checkC=.iface 199 (.pointer (some (A 12))) by rw [hcc];rfl)
   have g:=((HE.out w1 HB1.out) 12 (by decide)).1
   have G:w1.cell? ⟨0,0,none⟩=some (.iface 199 (.pointer (some (A 12)))):=g
   clear hcc g HCC HFI hfb
   go_wp2
   go_ret
   exact ⟨congrArg Ending.returned HCV.out.symm,HB1.out⟩
 | true =>
   have hform:=HFI.out.1 hfb
   have H3':=Lib.hid (H3.out hform)
   have hcc:=HCC.out
   rw [if_neg (by rw [hfb];decide)] at hcc
   have HC2:=Lib.hid hcc
   clear hcc HCC HFI hfb hform H3
   go_wp2_with (first
     | (refine wpList_load_row rfl 37 (.tmp 1) rfl w.heap.size rfl 37 _ (0,0) _ Z1.out Tryd.underlying37 rfl (by kernel_rfl) ?_)
     | fail)
   refine (H2.out _ HB1.out).mono ?_
   rintro e w2 ⟨rfl,hb2⟩
   have Z2:=Lib.hid (keep_blk hb2 Z1.out)
   have HB2:=Lib.hid (HB1.out.trans (hb2.mono HB1.out.size))
   clear hb2 Z1
   by_cases hd:200 < t.dpT
   · have hcc:=HC2.out
     rw [if_pos hd] at hcc
     have HCV:=Lib.hid (show sentV A t.checkC=.iface 199 (.pointer (some (A 13))) by rw [hcc];rfl)
     have G:w2.cell? ⟨1,0,none⟩=some (.iface 199 (.pointer (some (A 13)))):=((HE.out w2 HB2.out) 13 (by decide)).1
     have e1:decide ((200:Int) < t.dpT)=true:=by simp;omega
     have e1':decide (200 < t.dpT)=true:=by simpa using hd
     clear hcc HC2 hd
     generalize t.dpT=D at *
     go_wp2
     go_ret
     exact ⟨congrArg Ending.returned HCV.out.symm,HB2.out⟩
   · have e1:decide ((200:Int) < t.dpT)=false:=by simp;omega
     have e1':decide (200 < t.dpT)=false:=by simpa using hd
     have hcc:=HC2.out
     rw [if_neg hd] at hcc
     have HC3:=Lib.hid hcc
     clear hcc HC2 hd
     generalize t.dpT=D at *
     go_wp2_with (first
       | (refine wpList_load_row rfl 37 (.tmp 1) rfl w.heap.size rfl 37 _ (0,0) _ Z2.out Tryd.underlying37 rfl (by kernel_rfl) ?_)
       | fail)
     refine (H3'.out _ HB2.out).mono ?_
     rintro e w3 ⟨rfl,hb3⟩
     have HB3:=Lib.hid (HB2.out.trans (hb3.mono HB2.out.size))
     clear hb3 Z2
     by_cases hz:2000 < t.szT
     · have hcc:=HC3.out
       rw [if_pos hz] at hcc
       have HCV:=Lib.hid (show sentV A t.checkC=.iface 199 (.pointer (some (A 9))) by rw [hcc];rfl)
       have G:w3.cell? ⟨2,0,none⟩=some (.iface 199 (.pointer (some (A 9)))):=((HE.out w3 HB3.out) 9 (by decide)).1
       have z1:decide ((2000:Int) < t.szT)=true:=by simp;omega
       have z1':decide (2000 < t.szT)=true:=by simpa using hz
       clear hcc HC3 hz
       generalize t.szT=ZT at *
       go_wp2
       go_ret
       exact ⟨congrArg Ending.returned HCV.out.symm,HB3.out⟩
     · have z1:decide ((2000:Int) < t.szT)=false:=by simp;omega
       have z1':decide (2000 < t.szT)=false:=by simpa using hz
       have hcc:=HC3.out
       rw [if_neg hz] at hcc
       have HCV:=Lib.hid (show sentV A t.checkC=.nilIface by rw [hcc];rfl)
       clear hcc HC3 hz
       generalize t.szT=ZT at *
       go_wp2
       go_ret
       exact ⟨congrArg Ending.returned HCV.out.symm,HB3.out⟩
end Go.Proofs.YtnaoiglbjkjogaaDoor
namespace Go.Proofs.YtnaoiglbjkjogaaDoor
open Go.RowKit
theorem rkis_any (x:Sc) (b:Nat) (hsz:x.t.size ≤ 4611686018427387904):∀ (q:Pa) (t:Tr),t.InForm→∀ (w:World),ScAt w b x→∀ (B C:Nat→Prop) (v vq:Value),NodeV w B v t→PaV w C vq q →
   Calls Tryd.prog 58 #[v,.pointer (some ⟨b,0,none⟩),vq] w fun e w'=>e=.returned (.bool (Rk.okT x q t))∧Below w.heap.size w w':=by
 intro q
 induction q using Pa.rec_subs with
 | h q ih =>
   intro t hf w hx B C v vq hv hq
   have HFI:=Lib.hid (fun w9 (h:Below w.heap.size w w9)=>rkfits_any x b t q hf hsz w9 (hx.below h) B C v vq (hv.later h) (hq.later h))
   have HAT:=Lib.hid (fun (h:Rk.fits x t q=true) i (hi:i < q.subs.length)=>Rk.fits_at hf h hi)
   obtain ⟨sv,rfl,hs⟩:=hv
   obtain ⟨p,cap,rfl,hlt⟩:=hs.slice
   obtain ⟨z,rfl,hz⟩:=hq
   obtain ⟨pp,pc,rfl,hlq⟩:=hz.slice
   have HTS:=Lib.hid hs;have HQS:=Lib.hid hz
   have HX:=Lib.hid hx
   have HF:=Lib.hid hf
   have HOK:=Lib.hid (Rk.okT_eq x q t)
   rw [Rk.okT_eq]
   have IH:=Lib.hid ih
   clear hs hz hx ih hf
   unfold Tr.cells Pa.cells at *
   generalize hts:t.subs=ts at *
   generalize hqs:q.subs=qs at *
   have HTE:=Lib.hid hts
   clear hts hqs HOK
   generalize q.lo=lo at *;generalize q.hi=hi at *;generalize q.pick=pk at *
   have HA:=Lib.hid (show Below w.heap.size w ((w.alloc (.cells #[.int .i64 t.kind,.int .u64 (Oc.U t.w0),.int .u64 (Oc.U t.w1),.int .u64 (Oc.U t.w2),.int .u64 (Oc.U t.w3),.slice p ts.length cap,.int .i64 t.num,.int .i64 t.least,.int .i64 t.most,.bool t.bare] 37)).alloc (.cells #[.int .i64 lo,.int .i64 hi,.int .i64 pk,.slice pp qs.length pc] 57)) from by go_grown)
   have W2x:=Lib.hid (two_new w (.cells #[.int .i64 t.kind,.int .u64 (Oc.U t.w0),.int .u64 (Oc.U t.w1),.int .u64 (Oc.U t.w2),.int .u64 (Oc.U t.w3),.slice p ts.length cap,.int .i64 t.num,.int .i64 t.least,.int .i64 t.most,.bool t.bare] 37) (.cells #[.int .i64 lo,.int .i64 hi,.int .i64 pk,.slice pp qs.length pc] 57))
   cases hfit:Rk.fits x t q with
   | false =>
     rw [Bool.false_and]
     rw [hfit] at HFI
     clear hfit HAT
     go_enter Tryd.func58,Tryd.ntmps58
     go_wp2_with (first
       | (refine wpList_load_row rfl 37 (.tmp 3) rfl w.heap.size rfl 37 _ (0,0) _ W2x.out.1 Tryd.underlying37 rfl (by kernel_rfl) ?_)
       | fail)
     refine (HFI.out _ HA.out).mono ?_
     rintro e w1 ⟨rfl,hb1⟩
     have HB1:=Lib.hid (HA.out.trans (hb1.mono HA.out.size))
     have Y0:=Lib.hid (keep_blk hb1 W2x.out.1);have Y1:=Lib.hid (keep_blk hb1 W2x.out.2)
     clear hb1 W2x HA HFI
     obtain ⟨d0,d1,d2,d3,-,-,-,-⟩:=four Y1.out
     go_wp2
     go_ret
     exact ⟨rfl,HB1.out⟩
   | true =>
     rw [Bool.true_and]
     rw [hfit] at HFI
     have HAT2:=Lib.hid (HAT.out hfit)
     clear hfit HAT
     obtain ⟨R,hR⟩:∃ R,Rk.okS x qs t pk 0=R:=⟨_,rfl⟩
     rw [hR]
     have HR:=Lib.hid hR
     clear hR
     go_enter Tryd.func58,Tryd.ntmps58
     go_wp2_with (first
       | (refine wpList_load_row rfl 37 (.tmp 3) rfl w.heap.size rfl 37 _ (0,0) _ W2x.out.1 Tryd.underlying37 rfl (by kernel_rfl) ?_)
       | fail)
     refine (HFI.out _ HA.out).mono ?_
     rintro e w1 ⟨rfl,hb1⟩
     have HB1:=Lib.hid (HA.out.trans (hb1.mono HA.out.size))
     have Y0:=Lib.hid (keep_blk hb1 W2x.out.1);have Y1:=Lib.hid (keep_blk hb1 W2x.out.2)
     clear hb1 W2x HA HFI
     obtain ⟨d0,d1,d2,d3,-,-,-,-⟩:=four Y1.out
     go_wp2
     clear d0 d1 d2 d3
     go_loopw [17] (fun iv wr=>∃ i:Nat,iv=.int .i64 i∧i ≤ qs.length∧Hid (Rk.okS x (qs.drop i) t pk i=R)∧Hid (Below w.heap.size w wr)∧Hid (wr.heap[w.heap.size]? = some (.cells #[.int .i64 t.kind,.int .u64 (Oc.U t.w0),.int .u64 (Oc.U t.w1),.int .u64 (Oc.U t.w2),.int .u64 (Oc.U t.w3),.slice p ts.length cap,.int .i64 t.num,.int .i64 t.least,.int .i64 t.most,.bool t.bare] 37))∧Hid (wr.heap[w.heap.size+1]? = some (.cells #[.int .i64 lo,.int .i64 hi,.int .i64 pk,.slice pp qs.length pc] 57))) (fun iv _=>qs.length - (intOf iv).toNat)
     case atStart=>exact ⟨0,rfl,Nat.zero_le _,by rw [List.drop_zero];exact HR,HB1,Y0,Y1⟩
     case round =>
       obtain ⟨i,rfl,hi0,HL,HB,Y2,Y3⟩:=hrel
       have wi:IntKind.i64.wrap ((i:Int)+1)=(i:Int)+1:=IntWalk.i64_in _ (by omega)
       by_cases hlt2:i < qs.length
       · obtain ⟨y,hy⟩:∃ y,qs[i]? = some y:=⟨_,List.getElem?_eq_getElem hlt2⟩
         obtain ⟨b2,o2,s2,rfl,-,t2,sub2⟩:=HQS.out.get hy
         obtain ⟨p2,c2,rfl,-⟩:=sub2.slice
         obtain ⟨u,hat,hu⟩:=HAT2.out i hlt2
         have hjj:∃ jn:Nat,Rk.taker t.kind pk i=(jn:Int)∧ts[jn]? = some u:=by
           unfold Rk.at? at hat
           split at hat
           · exact ⟨(Rk.taker t.kind pk i).toNat,by omega,hat⟩
           · cases hat
         obtain ⟨jn,hj,hju⟩:=hjj
         have hjl:jn < ts.length:=(List.getElem?_eq_some_iff.1 hju).1
         obtain ⟨bt,ot,s1,rfl,-,t1,sub1⟩:=HTS.out.get hju
         obtain ⟨p1,c1,rfl,-⟩:=sub1.slice
         have hdr:qs.drop i=y :: qs.drop (i+1):=by
           rw [List.drop_eq_getElem_cons hlt2,(List.getElem?_eq_some_iff.1 hy).2]
         have hl:=HL.out
         rw [hdr,Rk.okS_cons x y _ t pk i (by rw [HTE.out];exact hat)] at hl
         have HLL:=Lib.hid hl
         have HTA:=Lib.hid (fun w9=>rktaker_any t.kind pk i w9)
         rw [hj] at HTA
         obtain ⟨e0,e1,e2,e3⟩:=t2.keep (HB.out.block _ t2.lt)
         have T1:=Lib.hid t1
         have l1:=t1.lt
         have HS:=Lib.hid (fun w9 (hb:Below (wr.alloc (.cells #[.int .i64 y.lo,.int .i64 y.hi,.int .i64 y.pick,.slice p2 y.subs.length c2] 57)).heap.size (wr.alloc (.cells #[.int .i64 y.lo,.int .i64 y.hi,.int .i64 y.pick,.slice p2 y.subs.length c2] 57)) w9) =>
           have h9:Below w.heap.size w w9:=(HB.out.alloc HB.out.size _).trans (hb.mono (by have:=HB.out.size;simp;omega))
           IH.out y (List.mem_of_getElem? hy) u (HF.out.sub (by rw [HTE.out];exact hu)) w9 (HX.out.below h9) B C (.agg (u.cells (.slice p1 u.subs.length c1))) (.agg (y.cells (.slice p2 y.subs.length c2))) ⟨_,rfl,sub1.later h9⟩ ⟨_,rfl,sub2.later h9⟩)
         unfold Tr.cells Pa.cells at HS
         clear t1 sub1 t2 sub2 hat hu hju hj hy hdr hl HL
         cases hr:Rk.okT x y u with
         | true =>
           rw [hr] at HS
           have hx9:=HLL.out
           rw [hr,Bool.true_and] at hx9
           have HR2:=Lib.hid hx9
           clear hx9 HLL hr
           go_upto_region 6 with (fail)
           have Z4:=Lib.hid (heap_alloc_new wr (.cells #[.int .i64 y.lo,.int .i64 y.hi,.int .i64 y.pick,.slice p2 y.subs.length c2] 57))
           generalize hWA:World.alloc wr _=WA at *
           have HBA:=Lib.hid (show Below w.heap.size w WA from hWA ▸ HB.out.alloc HB.out.size _)
           have Z2:=Lib.hid (show WA.heap[w.heap.size]? = some (.cells #[.int .i64 t.kind,.int .u64 (Oc.U t.w0),.int .u64 (Oc.U t.w1),.int .u64 (Oc.U t.w2),.int .u64 (Oc.U t.w3),.slice (some ⟨bt,ot,none⟩) ts.length cap,.int .i64 t.num,.int .i64 t.least,.int .i64 t.most,.bool t.bare] 37) from hWA ▸ heap_alloc_lt Y2.out)
           have Z3:=Lib.hid (show WA.heap[w.heap.size+1]? = some (.cells #[.int .i64 lo,.int .i64 hi,.int .i64 pk,.slice (some ⟨b2,o2,none⟩) qs.length pc] 57) from hWA ▸ heap_alloc_lt Y3.out)
           have HZA:=Lib.hid (show w.heap.size+1 < WA.heap.size from (Array.getElem?_eq_some_iff.1 Z3.out).1)
           clear hWA
           go_wp2
           refine Ri.wp_region_frame (by kernel_rfl) (by kernel_rfl) (by kernel_rfl) (by kernel_rfl)
             (fun L v w'=>Below WA.heap.size WA w'∧(L 0=true→v 0=.pointer (some ⟨w.heap.size,5,none⟩))∧(L 1=true→v 1=.slice (some ⟨bt,ot,none⟩) ts.length cap)∧(L 2=true→v 2=.pointer (some ⟨w.heap.size,0,none⟩))∧(L 3=true→v 3=.int .i64 t.kind)∧(L 4=true→v 4=.pointer (some ⟨w.heap.size+1,2,none⟩))∧(L 5=true→v 5=.int .i64 pk)∧(L 6=true→v 6=.int .i64 (i:Int))∧(L 7=true→v 7=.int .i64 (jn:Int))∧(L 8=true→v 8=.pointer (some ⟨bt,ot+jn * 10,none⟩))∧(L 9=true→v 9=.agg #[.int .i64 u.kind,.int .u64 (Oc.U u.w0),.int .u64 (Oc.U u.w1),.int .u64 (Oc.U u.w2),.int .u64 (Oc.U u.w3),.slice p1 u.subs.length c1,.int .i64 u.num,.int .i64 u.least,.int .i64 u.most,.bool u.bare])∧(L 10=true→v 10=.pointer (some ⟨b,0,none⟩))∧(L 11=true→v 11=.agg #[.int .i64 y.lo,.int .i64 y.hi,.int .i64 y.pick,.slice p2 y.subs.length c2])∧(L 12=true→v 12=.bool true)∧(L 13=true→v 13=.bool false))
             ?_ ?_ ?_
           · exact ⟨(Below.refl _ _).drew,by simp,by simp,by simp,by simp,by simp,by simp,by simp,by simp,by simp,by simp,by simp,by simp,by simp,by simp⟩
           · intro i hi9 L v w9 xa hI hL hd hv ho
             have hi':i=0 ∨ i=1 ∨ i=2 ∨ i=3 ∨ i=4 ∨ i=5 ∨ i=6 ∨ i=7 ∨ i=8 ∨ i=9 ∨ i=10 ∨ i=11 ∨ i=12 ∨ i=13:=by simp at hi9;omega
             obtain ⟨hb,q0,q1,q2,q3,q4,q5,q6,q7,q8,q9,q10,q11,q12,q13⟩:=hI
             rcases hi' with rfl | rfl | rfl | rfl | rfl | rfl | rfl | rfl | rfl | rfl | rfl | rfl | rfl | rfl
             · have e3:xa.tmps.getD 3 undef=.pointer (some ⟨w.heap.size,0,none⟩):=ho 3 (by kernel_rfl)
               refine Ri.step_plain rfl rfl (fun K' hK=>?_)
               go_simp
               exact hK _ _ ⟨_,_,rfl,rfl,hb,fun _=>rfl,q1,q2,q3,q4,q5,q6,q7,q8,q9,q10,q11,q12,q13⟩
             · have l0:L 0=true:=by have:=hd _ rfl;simp [Region.binds] at this;simp [this]
               have f0:=(hv 0 22 rfl l0).trans (q0 l0)
               refine Ri.step_plain rfl rfl (fun K' hK=>?_)
               obtain ⟨n0,n1,n2,n3,n4,n5,n6,n7,n8,n9⟩:=allTen (keep_blk hb Z2.out)
               go_simp
               exact hK _ _ ⟨_,_,rfl,rfl,hb,q0,fun _=>rfl,q2,q3,q4,q5,q6,q7,q8,q9,q10,q11,q12,q13⟩
             · have e3:xa.tmps.getD 3 undef=.pointer (some ⟨w.heap.size,0,none⟩):=ho 3 (by kernel_rfl)
               refine Ri.step_plain rfl rfl (fun K' hK=>?_)
               go_simp
               exact hK _ _ ⟨_,_,rfl,rfl,hb,q0,q1,fun _=>rfl,q3,q4,q5,q6,q7,q8,q9,q10,q11,q12,q13⟩
             · have l0:L 2=true:=by have:=hd _ rfl;simp [Region.binds] at this;simp [this]
               have f2:=(hv 2 24 rfl l0).trans (q2 l0)
               refine Ri.step_plain rfl rfl (fun K' hK=>?_)
               obtain ⟨n0,n1,n2,n3,n4,n5,n6,n7,n8,n9⟩:=allTen (keep_blk hb Z2.out)
               go_simp
               exact hK _ _ ⟨_,_,rfl,rfl,hb,q0,q1,q2,fun _=>rfl,q4,q5,q6,q7,q8,q9,q10,q11,q12,q13⟩
             · have e5:xa.tmps.getD 5 undef=.pointer (some ⟨w.heap.size+1,0,none⟩):=ho 5 (by kernel_rfl)
               refine Ri.step_plain rfl rfl (fun K' hK=>?_)
               go_simp
               exact hK _ _ ⟨_,_,rfl,rfl,hb,q0,q1,q2,q3,fun _=>rfl,q5,q6,q7,q8,q9,q10,q11,q12,q13⟩
             · have l0:L 4=true:=by have:=hd _ rfl;simp [Region.binds] at this;simp [this]
               have f4:=(hv 4 26 rfl l0).trans (q4 l0)
               refine Ri.step_plain rfl rfl (fun K' hK=>?_)
               obtain ⟨d0,d1,d2,d3,-,-,-,-⟩:=four (keep_blk hb Z3.out)
               go_simp
               exact hK _ _ ⟨_,_,rfl,rfl,hb,q0,q1,q2,q3,q4,fun _=>rfl,q6,q7,q8,q9,q10,q11,q12,q13⟩
             · have e7:xa.tmps.getD 7 undef=.int .i64 (i:Int):=ho 7 (by kernel_rfl)
               refine Ri.step_plain rfl rfl (fun K' hK=>?_)
               go_simp
               exact hK _ _ ⟨_,_,rfl,rfl,hb,q0,q1,q2,q3,q4,q5,fun _=>rfl,q7,q8,q9,q10,q11,q12,q13⟩
             · have l0:L 3=true∧L 5=true∧L 6=true:=by have:=hd _ rfl;simp [Region.binds] at this;simp [this]
               have f3:=(hv 3 25 rfl l0.1).trans (q3 l0.1)
               have f5:=(hv 5 27 rfl l0.2.1).trans (q5 l0.2.1)
               have f6:=(hv 6 28 rfl l0.2.2).trans (q6 l0.2.2)
               refine Ri.step_plain rfl rfl (fun K' hK=>?_)
               go_simp
               refine (HTA.out _).mono ?_
               rintro e w8 ⟨rfl,rfl⟩
               exact hK _ _ ⟨_,_,rfl,rfl,hb,q0,q1,q2,q3,q4,q5,q6,fun _=>rfl,q8,q9,q10,q11,q12,q13⟩
             · have l0:L 1=true∧L 7=true:=by have:=hd _ rfl;simp [Region.binds] at this;simp [this]
               have f1:=(hv 1 23 rfl l0.1).trans (q1 l0.1)
               have f7:=(hv 7 29 rfl l0.2).trans (q7 l0.2)
               refine Ri.step_plain rfl rfl (fun K' hK=>?_)
               go_simp
               exact hK _ _ ⟨_,_,rfl,rfl,hb,q0,q1,q2,q3,q4,q5,q6,q7,fun _=>rfl,q9,q10,q11,q12,q13⟩
             · have l0:L 8=true:=by have:=hd _ rfl;simp [Region.binds] at this;simp [this]
               have f8:=(hv 8 30 rfl l0).trans (q8 l0)
               refine Ri.step_plain rfl rfl (fun K' hK=>?_)
               obtain ⟨n0,n1,n2,n3,n4,n5,n6,n7,n8,n9⟩:=(T1.out.keep ((HBA.out.trans (hb.mono HBA.out.size)).block _ l1))
               go_simp
               exact hK _ _ ⟨_,_,rfl,rfl,hb,q0,q1,q2,q3,q4,q5,q6,q7,q8,fun _=>rfl,q10,q11,q12,q13⟩
             · have e1:xa.tmps.getD 1 undef=.pointer (some ⟨b,0,none⟩):=ho 1 (by kernel_rfl)
               refine Ri.step_plain rfl rfl (fun K' hK=>?_)
               go_simp
               exact hK _ _ ⟨_,_,rfl,rfl,hb,q0,q1,q2,q3,q4,q5,q6,q7,q8,q9,fun _=>rfl,q11,q12,q13⟩
             · have e8:xa.tmps.getD 8 undef=.pointer (some ⟨wr.heap.size,0,none⟩):=ho 8 (by kernel_rfl)
               refine Ri.step_plain rfl rfl (fun K' hK=>?_)
               obtain ⟨d0,d1,d2,d3,-,-,-,-⟩:=four (keep_blk hb Z4.out)
               go_simp
               exact hK _ _ ⟨_,_,rfl,rfl,hb,q0,q1,q2,q3,q4,q5,q6,q7,q8,q9,q10,fun _=>rfl,q12,q13⟩
             · have l0:L 9=true∧L 10=true∧L 11=true:=by have:=hd _ rfl;simp [Region.binds] at this;simp [this]
               have f9:=(hv 9 31 rfl l0.1).trans (q9 l0.1)
               have f10:=(hv 10 32 rfl l0.2.1).trans (q10 l0.2.1)
               have f11:=(hv 11 33 rfl l0.2.2).trans (q11 l0.2.2)
               refine Ri.step_plain rfl rfl (fun K' hK=>?_)
               go_simp
               refine (HS.out _ hb).mono ?_
               rintro e w8 ⟨rfl,hb8⟩
               exact hK _ _ ⟨_,_,rfl,rfl,hb.trans (hb8.mono hb.size),q0,q1,q2,q3,q4,q5,q6,q7,q8,q9,q10,q11,fun _=>rfl,q13⟩
             · have l0:L 12=true:=by have:=hd _ rfl;simp [Region.binds] at this;simp [this]
               have f12:=(hv 12 34 rfl l0).trans (q12 l0)
               refine Ri.step_plain rfl rfl (fun K' hK=>?_)
               go_simp
               exact hK _ _ ⟨_,_,rfl,rfl,hb,q0,q1,q2,q3,q4,q5,q6,q7,q8,q9,q10,q11,q12,fun _=>rfl⟩
           · rintro v w9 ⟨hb,-,-,-,-,-,-,-,-,-,-,-,-,-,q13⟩
             have q13':v 13=.bool false:=q13 rfl
             simp only [Ri.frame,List.zipIdx,List.foldl_cons,List.foldl_nil,if_true,List.setIfInBounds_toArray,List.set_cons_zero,List.set_cons_succ,Nat.reduceAdd,q13']
             clear q13 q13'
             generalize v 0=y0;generalize v 1=y1;generalize v 2=y2;generalize v 3=y3;generalize v 4=y4;generalize v 5=y5;generalize v 6=y6;generalize v 7=y7;generalize v 8=y8;generalize v 9=y9;generalize v 10=y10;generalize v 11=y11;generalize v 12=y12
             have HB9:=Lib.hid (HBA.out.trans (hb.mono HBA.out.size))
             have X2:=Lib.hid (keep_blk hb Z2.out);have X3:=Lib.hid (keep_blk hb Z3.out)
             clear hb
             go_wp2
             exact ⟨⟨i+1,by go_num,by omega,HR2,HB9,X2,X3⟩,by simp [intOf];omega⟩
         | false =>
           rw [hr] at HS
           have hx9:=HLL.out
           rw [hr,Bool.false_and] at hx9
           have HR2:=Lib.hid hx9
           clear hx9 HLL hr
           go_upto_region 6 with (fail)
           have Z4:=Lib.hid (heap_alloc_new wr (.cells #[.int .i64 y.lo,.int .i64 y.hi,.int .i64 y.pick,.slice p2 y.subs.length c2] 57))
           generalize hWA:World.alloc wr _=WA at *
           have HBA:=Lib.hid (show Below w.heap.size w WA from hWA ▸ HB.out.alloc HB.out.size _)
           have Z2:=Lib.hid (show WA.heap[w.heap.size]? = some (.cells #[.int .i64 t.kind,.int .u64 (Oc.U t.w0),.int .u64 (Oc.U t.w1),.int .u64 (Oc.U t.w2),.int .u64 (Oc.U t.w3),.slice (some ⟨bt,ot,none⟩) ts.length cap,.int .i64 t.num,.int .i64 t.least,.int .i64 t.most,.bool t.bare] 37) from hWA ▸ heap_alloc_lt Y2.out)
           have Z3:=Lib.hid (show WA.heap[w.heap.size+1]? = some (.cells #[.int .i64 lo,.int .i64 hi,.int .i64 pk,.slice (some ⟨b2,o2,none⟩) qs.length pc] 57) from hWA ▸ heap_alloc_lt Y3.out)
           have HZA:=Lib.hid (show w.heap.size+1 < WA.heap.size from (Array.getElem?_eq_some_iff.1 Z3.out).1)
           clear hWA
           go_wp2
           refine Ri.wp_region_frame (by kernel_rfl) (by kernel_rfl) (by kernel_rfl) (by kernel_rfl)
             (fun L v w'=>Below WA.heap.size WA w'∧(L 0=true→v 0=.pointer (some ⟨w.heap.size,5,none⟩))∧(L 1=true→v 1=.slice (some ⟨bt,ot,none⟩) ts.length cap)∧(L 2=true→v 2=.pointer (some ⟨w.heap.size,0,none⟩))∧(L 3=true→v 3=.int .i64 t.kind)∧(L 4=true→v 4=.pointer (some ⟨w.heap.size+1,2,none⟩))∧(L 5=true→v 5=.int .i64 pk)∧(L 6=true→v 6=.int .i64 (i:Int))∧(L 7=true→v 7=.int .i64 (jn:Int))∧(L 8=true→v 8=.pointer (some ⟨bt,ot+jn * 10,none⟩))∧(L 9=true→v 9=.agg #[.int .i64 u.kind,.int .u64 (Oc.U u.w0),.int .u64 (Oc.U u.w1),.int .u64 (Oc.U u.w2),.int .u64 (Oc.U u.w3),.slice p1 u.subs.length c1,.int .i64 u.num,.int .i64 u.least,.int .i64 u.most,.bool u.bare])∧(L 10=true→v 10=.pointer (some ⟨b,0,none⟩))∧(L 11=true→v 11=.agg #[.int .i64 y.lo,.int .i64 y.hi,.int .i64 y.pick,.slice p2 y.subs.length c2])∧(L 12=true→v 12=.bool false)∧(L 13=true→v 13=.bool true))
             ?_ ?_ ?_
           · exact ⟨(Below.refl _ _).drew,by simp,by simp,by simp,by simp,by simp,by simp,by simp,by simp,by simp,by simp,by simp,by simp,by simp,by simp⟩
           · intro i hi9 L v w9 xa hI hL hd hv ho
             have hi':i=0 ∨ i=1 ∨ i=2 ∨ i=3 ∨ i=4 ∨ i=5 ∨ i=6 ∨ i=7 ∨ i=8 ∨ i=9 ∨ i=10 ∨ i=11 ∨ i=12 ∨ i=13:=by simp at hi9;omega
             obtain ⟨hb,q0,q1,q2,q3,q4,q5,q6,q7,q8,q9,q10,q11,q12,q13⟩:=hI
             rcases hi' with rfl | rfl | rfl | rfl | rfl | rfl | rfl | rfl | rfl | rfl | rfl | rfl | rfl | rfl
             · have e3:xa.tmps.getD 3 undef=.pointer (some ⟨w.heap.size,0,none⟩):=ho 3 (by kernel_rfl)
               refine Ri.step_plain rfl rfl (fun K' hK=>?_)
               go_simp
               exact hK _ _ ⟨_,_,rfl,rfl,hb,fun _=>rfl,q1,q2,q3,q4,q5,q6,q7,q8,q9,q10,q11,q12,q13⟩
             · have l0:L 0=true:=by have:=hd _ rfl;simp [Region.binds] at this;simp [this]
               have f0:=(hv 0 22 rfl l0).trans (q0 l0)
               refine Ri.step_plain rfl rfl (fun K' hK=>?_)
               obtain ⟨n0,n1,n2,n3,n4,n5,n6,n7,n8,n9⟩:=allTen (keep_blk hb Z2.out)
               go_simp
               exact hK _ _ ⟨_,_,rfl,rfl,hb,q0,fun _=>rfl,q2,q3,q4,q5,q6,q7,q8,q9,q10,q11,q12,q13⟩
             · have e3:xa.tmps.getD 3 undef=.pointer (some ⟨w.heap.size,0,none⟩):=ho 3 (by kernel_rfl)
               refine Ri.step_plain rfl rfl (fun K' hK=>?_)
               go_simp
               exact hK _ _ ⟨_,_,rfl,rfl,hb,q0,q1,fun _=>rfl,q3,q4,q5,q6,q7,q8,q9,q10,q11,q12,q13⟩
             · have l0:L 2=true:=by have:=hd _ rfl;simp [Region.binds] at this;simp [this]
               have f2:=(hv 2 24 rfl l0).trans (q2 l0)
               refine Ri.step_plain rfl rfl (fun K' hK=>?_)
               obtain ⟨n0,n1,n2,n3,n4,n5,n6,n7,n8,n9⟩:=allTen (keep_blk hb Z2.out)
               go_simp
               exact hK _ _ ⟨_,_,rfl,rfl,hb,q0,q1,q2,fun _=>rfl,q4,q5,q6,q7,q8,q9,q10,q11,q12,q13⟩
             · have e5:xa.tmps.getD 5 undef=.pointer (some ⟨w.heap.size+1,0,none⟩):=ho 5 (by kernel_rfl)
               refine Ri.step_plain rfl rfl (fun K' hK=>?_)
               go_simp
               exact hK _ _ ⟨_,_,rfl,rfl,hb,q0,q1,q2,q3,fun _=>rfl,q5,q6,q7,q8,q9,q10,q11,q12,q13⟩
             · have l0:L 4=true:=by have:=hd _ rfl;simp [Region.binds] at this;simp [this]
               have f4:=(hv 4 26 rfl l0).trans (q4 l0)
               refine Ri.step_plain rfl rfl (fun K' hK=>?_)
               obtain ⟨d0,d1,d2,d3,-,-,-,-⟩:=four (keep_blk hb Z3.out)
               go_simp
               exact hK _ _ ⟨_,_,rfl,rfl,hb,q0,q1,q2,q3,q4,fun _=>rfl,q6,q7,q8,q9,q10,q11,q12,q13⟩
             · have e7:xa.tmps.getD 7 undef=.int .i64 (i:Int):=ho 7 (by kernel_rfl)
               refine Ri.step_plain rfl rfl (fun K' hK=>?_)
               go_simp
               exact hK _ _ ⟨_,_,rfl,rfl,hb,q0,q1,q2,q3,q4,q5,fun _=>rfl,q7,q8,q9,q10,q11,q12,q13⟩
             · have l0:L 3=true∧L 5=true∧L 6=true:=by have:=hd _ rfl;simp [Region.binds] at this;simp [this]
               have f3:=(hv 3 25 rfl l0.1).trans (q3 l0.1)
               have f5:=(hv 5 27 rfl l0.2.1).trans (q5 l0.2.1)
               have f6:=(hv 6 28 rfl l0.2.2).trans (q6 l0.2.2)
               refine Ri.step_plain rfl rfl (fun K' hK=>?_)
               go_simp
               refine (HTA.out _).mono ?_
               rintro e w8 ⟨rfl,rfl⟩
               exact hK _ _ ⟨_,_,rfl,rfl,hb,q0,q1,q2,q3,q4,q5,q6,fun _=>rfl,q8,q9,q10,q11,q12,q13⟩
             · have l0:L 1=true∧L 7=true:=by have:=hd _ rfl;simp [Region.binds] at this;simp [this]
               have f1:=(hv 1 23 rfl l0.1).trans (q1 l0.1)
               have f7:=(hv 7 29 rfl l0.2).trans (q7 l0.2)
               refine Ri.step_plain rfl rfl (fun K' hK=>?_)
               go_simp
               exact hK _ _ ⟨_,_,rfl,rfl,hb,q0,q1,q2,q3,q4,q5,q6,q7,fun _=>rfl,q9,q10,q11,q12,q13⟩
             · have l0:L 8=true:=by have:=hd _ rfl;simp [Region.binds] at this;simp [this]
               have f8:=(hv 8 30 rfl l0).trans (q8 l0)
               refine Ri.step_plain rfl rfl (fun K' hK=>?_)
               obtain ⟨n0,n1,n2,n3,n4,n5,n6,n7,n8,n9⟩:=(T1.out.keep ((HBA.out.trans (hb.mono HBA.out.size)).block _ l1))
               go_simp
               exact hK _ _ ⟨_,_,rfl,rfl,hb,q0,q1,q2,q3,q4,q5,q6,q7,q8,fun _=>rfl,q10,q11,q12,q13⟩
             · have e1:xa.tmps.getD 1 undef=.pointer (some ⟨b,0,none⟩):=ho 1 (by kernel_rfl)
               refine Ri.step_plain rfl rfl (fun K' hK=>?_)
               go_simp
               exact hK _ _ ⟨_,_,rfl,rfl,hb,q0,q1,q2,q3,q4,q5,q6,q7,q8,q9,fun _=>rfl,q11,q12,q13⟩
             · have e8:xa.tmps.getD 8 undef=.pointer (some ⟨wr.heap.size,0,none⟩):=ho 8 (by kernel_rfl)
               refine Ri.step_plain rfl rfl (fun K' hK=>?_)
               obtain ⟨d0,d1,d2,d3,-,-,-,-⟩:=four (keep_blk hb Z4.out)
               go_simp
               exact hK _ _ ⟨_,_,rfl,rfl,hb,q0,q1,q2,q3,q4,q5,q6,q7,q8,q9,q10,fun _=>rfl,q12,q13⟩
             · have l0:L 9=true∧L 10=true∧L 11=true:=by have:=hd _ rfl;simp [Region.binds] at this;simp [this]
               have f9:=(hv 9 31 rfl l0.1).trans (q9 l0.1)
               have f10:=(hv 10 32 rfl l0.2.1).trans (q10 l0.2.1)
               have f11:=(hv 11 33 rfl l0.2.2).trans (q11 l0.2.2)
               refine Ri.step_plain rfl rfl (fun K' hK=>?_)
               go_simp
               refine (HS.out _ hb).mono ?_
               rintro e w8 ⟨rfl,hb8⟩
               exact hK _ _ ⟨_,_,rfl,rfl,hb.trans (hb8.mono hb.size),q0,q1,q2,q3,q4,q5,q6,q7,q8,q9,q10,q11,fun _=>rfl,q13⟩
             · have l0:L 12=true:=by have:=hd _ rfl;simp [Region.binds] at this;simp [this]
               have f12:=(hv 12 34 rfl l0).trans (q12 l0)
               refine Ri.step_plain rfl rfl (fun K' hK=>?_)
               go_simp
               exact hK _ _ ⟨_,_,rfl,rfl,hb,q0,q1,q2,q3,q4,q5,q6,q7,q8,q9,q10,q11,q12,fun _=>rfl⟩
           · rintro v w9 ⟨hb,-,-,-,-,-,-,-,-,-,-,-,-,-,q13⟩
             have q13':v 13=.bool true:=q13 rfl
             simp only [Ri.frame,List.zipIdx,List.foldl_cons,List.foldl_nil,if_true,List.setIfInBounds_toArray,List.set_cons_zero,List.set_cons_succ,Nat.reduceAdd,q13']
             clear q13 q13'
             generalize v 0=y0;generalize v 1=y1;generalize v 2=y2;generalize v 3=y3;generalize v 4=y4;generalize v 5=y5;generalize v 6=y6;generalize v 7=y7;generalize v 8=y8;generalize v 9=y9;generalize v 10=y10;generalize v 11=y11;generalize v 12=y12
             have HB9:=Lib.hid (HBA.out.trans (hb.mono HBA.out.size))
             clear hb
             go_wp2
             go_ret
             exact ⟨ret_bool HR2.out,HB9.out⟩
       · obtain rfl:i=qs.length:=by omega
         have hl:=HL.out
         rw [List.drop_length,Rk.okS_nil] at hl
         have HL2:=Lib.hid hl
         clear hl HL hlt2
         go_wp2
         go_ret
         exact ⟨ret_bool HL2.out,HB.out⟩
end Go.Proofs.YtnaoiglbjkjogaaDoor
namespace Go.Proofs.YtnaoiglbjkjogaaDoor
open Go.RowKit
def Rk.chk (x:Sc) (t:Tr) (q:Pa):Bool:=decide (t.checkC=0) && Rk.okT x q t
theorem rkcheck_any (A:Nat→Addr) (x:Sc) (b:Nat) (hsz:x.t.size ≤ 4611686018427387904) (t:Tr) (hd:t.dpT ≤ 1000000) (q:Pa) (w:World) (hE:ErrsC w A) (hx:ScAt w b x) (B C:Nat→Prop) (v vq:Value) (hv:NodeV w B v t) (hq:PaV w C vq q) :
   Calls Tryd.prog 30 #[v,.pointer (some ⟨b,0,none⟩),vq] w fun e w'=>e=.returned (.bool (Rk.chk x t q))∧Below w.heap.size w w':=by
 have HC:=Lib.hid (fun w9 (h:Below w.heap.size w w9)=>treecheckC_any A t hd w9 (hE.below h) B v (hv.later h))
 have HI:=Lib.hid (fun (hf:t.InForm) w9 (h:Below w.heap.size w w9)=>rkis_any x b hsz q t hf w9 (hx.below h) B C v vq (hv.later h) (hq.later h))
 have HZ:=Lib.hid (show t.checkC=0→t.InForm from fun h=>(Tr.checkC_zero.1 h).1)
 obtain ⟨sv,rfl,hs⟩:=hv
 obtain ⟨p,cap,rfl,hlt⟩:=hs.slice
 obtain ⟨z,rfl,hz⟩:=hq
 obtain ⟨pp,pc,rfl,hlq⟩:=hz.slice
 clear hs hz hx hE hd
 unfold Rk.chk
 unfold Tr.cells Pa.cells at *
 generalize t.checkC=c at *
 generalize Rk.okT x q t=r at *
 have HA:=Lib.hid (show Below w.heap.size w ((w.alloc (.cells #[.int .i64 t.kind,.int .u64 (Oc.U t.w0),.int .u64 (Oc.U t.w1),.int .u64 (Oc.U t.w2),.int .u64 (Oc.U t.w3),.slice p t.subs.length cap,.int .i64 t.num,.int .i64 t.least,.int .i64 t.most,.bool t.bare] 37)).alloc (.cells #[.int .i64 q.lo,.int .i64 q.hi,.int .i64 q.pick,.slice pp q.subs.length pc] 57)) from by go_grown)
 have W2x:=Lib.hid (two_new w (.cells #[.int .i64 t.kind,.int .u64 (Oc.U t.w0),.int .u64 (Oc.U t.w1),.int .u64 (Oc.U t.w2),.int .u64 (Oc.U t.w3),.slice p t.subs.length cap,.int .i64 t.num,.int .i64 t.least,.int .i64 t.most,.bool t.bare] 37) (.cells #[.int .i64 q.lo,.int .i64 q.hi,.int .i64 q.pick,.slice pp q.subs.length pc] 57))
 by_cases h0:c=0
 · have HI2:=Lib.hid (HI.out (HZ.out h0))
   subst h0
   rw [show decide ((0:Nat)=0)=true from rfl,Bool.true_and]
   rw [show sentV A 0=.nilIface from rfl] at HC
   clear HI HZ
   go_enter Tryd.func30,Tryd.ntmps30
   go_wp2_with (first
     | (refine wpList_load_row rfl 37 (.tmp 3) rfl w.heap.size rfl 37 _ (0,0) _ W2x.out.1 Tryd.underlying37 rfl (by kernel_rfl) ?_)
     | fail)
   refine (HC.out _ HA.out).mono ?_
   rintro e w1 ⟨rfl,hb1⟩
   have HB1:=Lib.hid (HA.out.trans (hb1.mono HA.out.size))
   have Y0:=Lib.hid (keep_blk hb1 W2x.out.1);have Y1:=Lib.hid (keep_blk hb1 W2x.out.2)
   clear hb1 W2x HA HC
   obtain ⟨d0,d1,d2,d3,-,-,-,-⟩:=four Y1.out
   obtain ⟨n0,n1,n2,n3,n4,n5,n6,n7,n8,n9⟩:=allTen Y0.out
   go_wp2_with fail
   refine (HI2.out _ HB1.out).mono ?_
   rintro e w2 ⟨rfl,hb2⟩
   have HB2:=Lib.hid (HB1.out.trans (hb2.mono HB1.out.size))
   clear hb2
   go_wp2
   go_ret
   exact ⟨rfl,HB2.out⟩
 · rw [show decide (c=0)=false from decide_eq_false h0,Bool.false_and]
   rw [show sentV A c=.iface 199 (.pointer (some (A (c - 1)))) from if_neg h0] at HC
   clear HI HZ h0
   go_enter Tryd.func30,Tryd.ntmps30
   go_wp2_with (first
     | (refine wpList_load_row rfl 37 (.tmp 3) rfl w.heap.size rfl 37 _ (0,0) _ W2x.out.1 Tryd.underlying37 rfl (by kernel_rfl) ?_)
     | fail)
   refine (HC.out _ HA.out).mono ?_
   rintro e w1 ⟨rfl,hb1⟩
   have HB1:=Lib.hid (HA.out.trans (hb1.mono HA.out.size))
   clear hb1 W2x HA HC
   go_wp2
   go_ret
   exact ⟨rfl,HB1.out⟩
end Go.Proofs.YtnaoiglbjkjogaaDoor
namespace Go.Proofs.YtnaoiglbjkjogaaDoor
open Go.RowKit
namespace Rk
def of (q:Pa) (t:Tr):Told:=bk q t (tell (fun _=>none) 0 (q.lo,q.hi))
def asks (x:Sc) (t:Tr) (q:Pa) (g:Int):Bool:=decide (0 ≤ g) && (decide (g ≤ 999) && chk x t q)
end Rk
def SpYes (n:Nat) (G:Nat→Int × Int) (w:World) (e:Ending) (w':World):Prop:=∃ g,e=.returned (.tuple #[.slice (some ⟨g,0,none⟩) n n,.bool true])∧w.heap.size ≤ g∧w'.heap[g]? = some (.cells (sp n G) 70)∧Below w.heap.size w w'
def SpNo (w:World) (e:Ending) (w':World):Prop:=e=.returned (.tuple #[.slice none 0 0,.bool false])∧Below w.heap.size w w'
theorem rkspans_no (A:Nat→Addr) (x:Sc) (b:Nat) (hsz:x.t.size ≤ 4611686018427387904) (t:Tr) (hd:t.dpT ≤ 1000000) (q:Pa) (g:Int) (hno:Rk.asks x t q g=false) (w:World) (hE:ErrsC w A) (hx:ScAt w b x) (B C:Nat→Prop) (v vq:Value) (hv:NodeV w B v t) (hq:PaV w C vq q) :
   Calls Tryd.prog 32 #[v,.pointer (some ⟨b,0,none⟩),vq,.int .i64 g] w (SpNo w):=by
 have HC:=Lib.hid (fun w9 (h:Below w.heap.size w w9)=>rkcheck_any A x b hsz t hd q w9 (hE.below h) (hx.below h) B C v vq (hv.later h) (hq.later h))
 obtain ⟨sv,rfl,hs⟩:=hv
 obtain ⟨p,cap,rfl,hlt⟩:=hs.slice
 obtain ⟨z,rfl,hz⟩:=hq
 obtain ⟨pp,pc,rfl,hlq⟩:=hz.slice
 clear hs hz hx hE hd
 unfold Rk.asks at hno
 unfold Tr.cells Pa.cells at *
 have HA:=Lib.hid (show Below w.heap.size w ((w.alloc (.cells #[.int .i64 t.kind,.int .u64 (Oc.U t.w0),.int .u64 (Oc.U t.w1),.int .u64 (Oc.U t.w2),.int .u64 (Oc.U t.w3),.slice p t.subs.length cap,.int .i64 t.num,.int .i64 t.least,.int .i64 t.most,.bool t.bare] 37)).alloc (.cells #[.int .i64 q.lo,.int .i64 q.hi,.int .i64 q.pick,.slice pp q.subs.length pc] 57)) from by go_grown)
 have W2x:=Lib.hid (two_new w (.cells #[.int .i64 t.kind,.int .u64 (Oc.U t.w0),.int .u64 (Oc.U t.w1),.int .u64 (Oc.U t.w2),.int .u64 (Oc.U t.w3),.slice p t.subs.length cap,.int .i64 t.num,.int .i64 t.least,.int .i64 t.most,.bool t.bare] 37) (.cells #[.int .i64 q.lo,.int .i64 q.hi,.int .i64 q.pick,.slice pp q.subs.length pc] 57))
 by_cases h0:0 ≤ g
 · have d0:decide (g < 0)=false:=decide_eq_false (by omega)
   by_cases h9:g ≤ 999
   · have d1:decide (999 < g)=false:=decide_eq_false (by omega)
     rw [decide_eq_true h0,decide_eq_true h9,Bool.true_and,Bool.true_and] at hno
     rw [hno] at HC
     clear hno h0 h9
     obtain ⟨n0,n1,n2,n3,n4,n5,n6,n7,n8,n9⟩:=allTen W2x.out.1
     go_enter Tryd.func32,Tryd.ntmps32
     go_wp2_with fail
     refine (HC.out _ HA.out).mono ?_
     rintro e w1 ⟨rfl,hb1⟩
     have HB1:=Lib.hid (HA.out.trans (hb1.mono HA.out.size))
     clear hb1 W2x HA HC n0 n1 n2 n3 n4 n5 n6 n7 n8 n9
     go_wp2
     go_ret2
     exact ⟨rfl,HB1.out⟩
   · have d1:decide (999 < g)=true:=decide_eq_true (by omega)
     clear hno h0 h9 HC W2x
     go_enter Tryd.func32,Tryd.ntmps32
     go_wp2
     go_ret2
     exact ⟨rfl,HA.out⟩
 · have d0:decide (g < 0)=true:=decide_eq_true (by omega)
   clear hno h0 HC W2x
   go_enter Tryd.func32,Tryd.ntmps32
   go_wp2
   go_ret2
   exact ⟨rfl,HA.out⟩
theorem rkspans_yes (A:Nat→Addr) (x:Sc) (b:Nat) (hsz:x.t.size ≤ 4611686018427387904) (t:Tr) (hd:t.dpT ≤ 1000000) (q:Pa) (g:Nat) (hg:g ≤ 999) (hyes:Rk.chk x t q=true) (w:World) (hE:ErrsC w A) (hx:ScAt w b x) (B C:Nat→Prop) (v vq:Value) (hv:NodeV w B v t) (hq:PaV w C vq q) :
   Calls Tryd.prog 32 #[v,.pointer (some ⟨b,0,none⟩),vq,.int .i64 (g:Int)] w (SpYes (g+1) (Rk.shown (Rk.of q t)) w):=by
 have HC:=Lib.hid (fun w9 (h:Below w.heap.size w w9)=>rkcheck_any A x b hsz t hd q w9 (hE.below h) (hx.below h) B C v vq (hv.later h) (hq.later h))
 rw [hyes] at HC
 have hok:=hyes
 unfold Rk.chk at hok
 rw [Bool.and_eq_true,decide_eq_true_eq] at hok
 have HFM:=Lib.hid (Tr.checkC_zero.1 hok.1).1;have HOK:=Lib.hid hok.2
 have HP:=Lib.hid (fun w9 (h:Below w.heap.size w w9)=>partof_any t w9 B v (hv.later h))
 have HPA:=Lib.hid (fun w9 (h:Below w.heap.size w w9)=>hq.later h)
 have HPL:=Lib.hid hq
 obtain ⟨sv,rfl,hs⟩:=hv
 obtain ⟨p,cap,rfl,hlt⟩:=hs.slice
 obtain ⟨z,rfl,hz⟩:=hq
 obtain ⟨pp,pc,rfl,hlq⟩:=hz.slice
 have HPZ:=Lib.hid hz
 clear hs hz hx hE hd hok hyes HPL
 have d0:decide ((g:Int) < 0)=false:=decide_eq_false (by omega)
 have d1:decide ((999:Int) < (g:Int))=false:=decide_eq_false (by omega)
 have d2:decide (999 < g)=false:=decide_eq_false (by omega)
 have HNT:=Lib.hid (fun w9=>newteller_any g hg w9)
 have HN9:=Lib.hid (show g+1 ≤ 1000 by omega)
 generalize g+1=n at *
 unfold Tr.cells Pa.cells at *
 have HA:=Lib.hid (show Below w.heap.size w ((w.alloc (.cells #[.int .i64 t.kind,.int .u64 (Oc.U t.w0),.int .u64 (Oc.U t.w1),.int .u64 (Oc.U t.w2),.int .u64 (Oc.U t.w3),.slice p t.subs.length cap,.int .i64 t.num,.int .i64 t.least,.int .i64 t.most,.bool t.bare] 37)).alloc (.cells #[.int .i64 q.lo,.int .i64 q.hi,.int .i64 q.pick,.slice pp q.subs.length pc] 57)) from by go_grown)
 have W2x:=Lib.hid (two_new w (.cells #[.int .i64 t.kind,.int .u64 (Oc.U t.w0),.int .u64 (Oc.U t.w1),.int .u64 (Oc.U t.w2),.int .u64 (Oc.U t.w3),.slice p t.subs.length cap,.int .i64 t.num,.int .i64 t.least,.int .i64 t.most,.bool t.bare] 37) (.cells #[.int .i64 q.lo,.int .i64 q.hi,.int .i64 q.pick,.slice pp q.subs.length pc] 57))
 obtain ⟨n0,n1,n2,n3,n4,n5,n6,n7,n8,n9⟩:=allTen W2x.out.1
 go_enter Tryd.func32,Tryd.ntmps32
 go_wp2_with fail
 refine (HC.out _ HA.out).mono ?_
 rintro e w1 ⟨rfl,hb1⟩
 have HB1:=Lib.hid (HA.out.trans (hb1.mono HA.out.size))
 have Y0:=Lib.hid (keep_blk hb1 W2x.out.1);have Y1:=Lib.hid (keep_blk hb1 W2x.out.2)
 clear hb1 W2x HA HC n0 n1 n2 n3 n4 n5 n6 n7 n8 n9
 go_wp2_with fail
 refine (HNT.out w1).mono ?_
 rintro e w2 ⟨sb,tb,rfl,hsb,htb,hs2,ht2,hb2⟩
 have HB2:=Lib.hid (HB1.out.trans (hb2.mono HB1.out.size))
 have Y02:=Lib.hid (keep_blk hb2 Y0.out);have Y12:=Lib.hid (keep_blk hb2 Y1.out)
 have HSB:=Lib.hid hsb;have HTB:=Lib.hid htb;have HS2:=Lib.hid hs2;have HT2:=Lib.hid ht2
 have HZ1:=Lib.hid (Array.getElem?_eq_some_iff.1 Y1.out).1
 clear hsb htb hs2 ht2 hb2 Y0 Y1 HB1 HNT d0 d1 d2
 go_upto_region 4 with (fail)
 have HBX:=Lib.hid (heap_alloc_new w2 (.cells #[.slice (some ⟨sb,0,none⟩) n n,.slice (some ⟨tb,0,none⟩) n n] 101))
 have HBA:=Lib.hid (show Below w2.heap.size w2 (w2.alloc (.cells #[.slice (some ⟨sb,0,none⟩) n n,.slice (some ⟨tb,0,none⟩) n n] 101)) from (Below.refl _ _).alloc (Nat.le_refl _) _)
 generalize w2.alloc (.cells #[.slice (some ⟨sb,0,none⟩) n n,.slice (some ⟨tb,0,none⟩) n n] 101)=w3 at *
 have HTL3:=Lib.hid (show TlAt w3 w2.heap.size sb tb n (fun _=>none) from ⟨HBX.out,keep_blk HBA.out HS2.out,keep_blk HBA.out HT2.out⟩)
 have HB3:=Lib.hid (HB2.out.trans (HBA.out.mono HB2.out.size))
 have Y03:=Lib.hid (keep_blk HBA.out Y02.out);have Y13:=Lib.hid (keep_blk HBA.out Y12.out)
 have HL2:=Lib.hid (show w.heap.size ≤ w2.heap.size∧sb < w2.heap.size∧tb < w2.heap.size∧w2.heap.size < w3.heap.size from ⟨HB2.out.size,(Array.getElem?_eq_some_iff.1 HS2.out).1,(Array.getElem?_eq_some_iff.1 HT2.out).1,(Array.getElem?_eq_some_iff.1 HBX.out).1⟩)
 clear HBX HBA HB2 Y02 Y12 HS2 HT2
 obtain ⟨a0,a1,a2,a3,-,-,-,-⟩:=four Y13.out
 have HSPN:=Lib.hid (fun w9=>rkspan_any q.lo q.hi q.pick pp q.subs.length pc w9)
 have HTELL:=Lib.hid (fun w9 (h:TlAt w9 w2.heap.size sb tb n (fun _=>none))=>tell_any w2.heap.size sb tb n (fun _=>none) 0 q.lo q.hi w9 h)
 rw [show ((0:Nat):Int)=0 from rfl] at HTELL
 go_wp2_with fail
 refine (HSPN.out w3).mono ?_
 rintro e w4 ⟨rfl,hb4⟩
 have HB4:=Lib.hid (HB3.out.trans (hb4.mono HB3.out.size));have HTL4:=Lib.hid (HTL3.out.later hb4)
 have Y04:=Lib.hid (keep_blk hb4 Y03.out);have Y14:=Lib.hid (keep_blk hb4 Y13.out)
 have HZ34:=Lib.hid hb4.size
 clear hb4 HB3 HTL3 Y03 Y13 a0 a1 a2 a3 HSPN
 go_wp2_with fail
 refine (HTELL.out w4 HTL4.out).mono ?_
 rintro e w5 ⟨rfl,htl5,hto5⟩
 have HLT:=Lib.hid (show w.heap.size+1 < sb∧w.heap.size+1 < tb∧w2.heap.size < w4.heap.size from ⟨by have:=HSB.out;have:=HZ1.out;omega,by have:=HTB.out;have:=HZ1.out;omega,by have:=HL2.out;have:=HZ34.out;omega⟩)
 have HB5:=Lib.hid (HB4.out.trans (hto5.below (B:=w.heap.size) (by intro k hk;have:=HLT.out;simp only [List.mem_cons,List.not_mem_nil,or_false] at hk;omega) HB4.out.size))
 have ny:=hto5.block w.heap.size (by have:=HL2.out;have:=HZ34.out;omega) (by have:=HLT.out;simp only [List.mem_cons,List.not_mem_nil,or_false];omega)
 have py:=hto5.block (w.heap.size+1) (by have:=HL2.out;have:=HZ34.out;have:=HLT.out;omega) (by have:=HLT.out;simp only [List.mem_cons,List.not_mem_nil,or_false];omega)
 have Y05:=Lib.hid (ny.trans Y04.out);have Y15:=Lib.hid (py.trans Y14.out)
 have HTL5:=Lib.hid htl5
 have HZ45:=Lib.hid hto5.size
 clear ny py htl5 hto5 HTL4 HB4 Y04 Y14 HTELL
 obtain ⟨n0,n1,n2,n3,n4,n5,n6,n7,n8,n9⟩:=allTen Y05.out
 go_wp2_with fail
 refine (HP.out w5 HB5.out).mono ?_
 intro e w6 he6
 obtain ⟨s6,f6,rfl,hpt6,hfn6,hb6⟩:=he6
 obtain ⟨p6,c6,rfl⟩:=hpt6.slice
 have HB6:=Lib.hid (HB5.out.trans (hb6.mono HB5.out.size));have HTL6:=Lib.hid (HTL5.out.later hb6);have Y16:=Lib.hid (keep_blk hb6 Y15.out)
 have HPT6:=Lib.hid hpt6;have HFN6:=Lib.hid hfn6;have HZ56:=Lib.hid hb6.size
 clear hpt6 hfn6 hb6 HB5 HTL5 Y05 Y15 n0 n1 n2 n3 n4 n5 n6 n7 n8 n9
 unfold ptC
 go_upto_region 6 with (fail)
 have HBX:=Lib.hid (heap_alloc_new w6 (.cells #[.int .i64 t.kind,.int .i64 t.num,.slice p6 t.subs.length c6,.bool f6] 107))
 have HBA:=Lib.hid (show Below w6.heap.size w6 (w6.alloc (.cells #[.int .i64 t.kind,.int .i64 t.num,.slice p6 t.subs.length c6,.bool f6] 107)) from (Below.refl _ _).alloc (Nat.le_refl _) _)
 generalize w6.alloc (.cells #[.int .i64 t.kind,.int .i64 t.num,.slice p6 t.subs.length c6,.bool f6] 107)=w7 at *
 have HB7:=Lib.hid (HB6.out.trans (HBA.out.mono HB6.out.size));have HTL7:=Lib.hid (HTL6.out.later HBA.out);have Y17:=Lib.hid (keep_blk HBA.out Y16.out)
 have HST:=Lib.hid (show StP w7 w5.heap.size w6.heap.size 0 t from by
   obtain ⟨c0,c1,c2,c3,-,-,-,f3⟩:=four HBX.out
   exact ⟨HZ56.out,rfl,f3,_,f6,⟨c0,c1,c2,c3⟩,HFN6.out,HPT6.out.later HBA.out⟩)
 have HPW:=Lib.hid (show PaV w7 (fun b=>b < w5.heap.size∧b ≠ sb∧b ≠ tb) (.agg #[.int .i64 q.lo,.int .i64 q.hi,.int .i64 q.pick,.slice pp q.subs.length pc]) q from ⟨_,rfl,by
   have h0:PasAt w (fun b=>C b∧b < w.heap.size) (.slice pp q.subs.length pc) q.subs:=HPZ.out.mono fun b hb hc=>⟨hc,hb⟩
   have h1:=h0.later HB7.out
   exact h1.mono fun b _ hb=>⟨by have:=HL2.out;have:=HZ34.out;have:=HZ45.out;omega,by have:=HLT.out;omega,by have:=HLT.out;omega⟩⟩)
 have HWALK:=Lib.hid (walk_any (LvOf w7 w6.heap.size 0 t) (lvof_fn HST.out) w5.heap.size w2.heap.size sb tb n (by have:=HLT.out;have:=HZ45.out;omega) (by have:=HL2.out;have:=HZ34.out;have:=HZ45.out;omega) (by have:=HL2.out;have:=HZ34.out;have:=HZ45.out;omega) x q t w6.heap.size 0 .top HFM.out HOK.out (Rk.tell (fun _=>none) ((0:Nat):Int) (q.lo,q.hi)) w7 (lvof_at HST.out) HTL7.out (lvof_ok HST.out _) (.agg #[.int .i64 q.lo,.int .i64 q.hi,.int .i64 q.pick,.slice pp q.subs.length pc]) HPW.out)
 clear HB6 HTL6 Y16 HBX HBA HPT6 HFN6 HP
 obtain ⟨a0,a1,a2,a3,-,-,-,-⟩:=four Y17.out
 go_wp2_with fail
 refine HWALK.out.mono ?_
 rintro e w8 ⟨rfl,hlv8,htl8,hfl8,htc8⟩
 have HB8:=Lib.hid (show Below w.heap.size w w8 from HB7.out.trans ⟨htc8.os,htc8.tape,htc8.output,htc8.size,fun k hk=>htc8.block k (by have:=HB7.out.size;omega) (fun o u h=>by have:=(HST.out.all h).1;have:=HL2.out;have:=HZ34.out;have:=HZ45.out;omega) (by have:=HLT.out;omega) (by have:=HLT.out;omega)⟩)
 have HTL8:=Lib.hid htl8
 have b0:w8.cell? ⟨w2.heap.size,0,none⟩=some (.slice (some ⟨sb,0,none⟩) n n):=by unfold World.cell?;rw [htl8.box];rfl
 clear hlv8 htl8 hfl8 htc8 a0 a1 a2 a3
 go_wp2
 go_ret2
 exact ⟨sb,rfl,by have:=HLT.out;omega,HTL8.out.spans,HB8.out⟩
end Go.Proofs.YtnaoiglbjkjogaaDoor
