/- Part 4 of what these proofs need. -/
import Derived.Deep.DeepCutAuto
import Derived.Recover
import Derived.Laws.IdiomStrings
import Derived.Test.YtfcilopifjddpaaGreatDoorBpR3
set_option maxRecDepth 100000
set_option maxHeartbeats 16000000
namespace Go.Proofs.YtfcilopifjddpaaGreatDoor
open Go.RowKit
theorem bqescaped_end (w0:World) (A:Nat→Addr) (w:World) (R:Nat) (s:ByteArray) (hs:s.size ≤ 4294967280) (fl:Int) (i g d:Nat) (hR:BqAt w0 A w R s fl i g d) (hi:i+1=s.size) :
   Calls Tryz.prog 164 #[.pointer (some ⟨R,0,none⟩)] w (BqEnd A R s fl d (.err 8 i) w):=by
 have hlt:=hR.lt
 have hb0:Below w.heap.size w (w.alloc (.cells noNode 28)):=(Below.refl _ _).alloc (Nat.le_refl _) _
 have HR1:=Lib.hid (hR.later hb0)
 have Z1:=Lib.hid (heap_alloc_new w (.cells noNode 28))
 have HB1:=Lib.hid hb0
 have hs1:w.heap.size < (w.alloc (.cells noNode 28)).heap.size:=by simp
 have hRw:R ≠ w.heap.size:=by omega
 have hw:IntKind.i64.wrap ((i:Int)+1)=(i:Int)+1:=IntWalk.i64_in _ (by omega)
 have he:((i:Int)+1 == (s.size:Int))=true:=by simp;omega
 have ce:(w.alloc (.cells noNode 28)).cell? ⟨7,0,none⟩=some (.iface 232 (.pointer (some (A 7)))):=(HR1.out.now.errs 7 (by omega)).1
 obtain ⟨c0,-,c2,-,-⟩:=bq5 HR1.out.cell
 clear hR hb0
 go_enter Tryz.func164,Tryz.ntmps164
 go_wp2_with fail
 generalize World.alloc _ _=W at *
 have hs3:=hs1
 clear c0 c2 ce
 refine (bqfails_any w0 A 7 (by omega) W R s fl _ g d HR1.out).mono ?_
 intro e w4 he4
 obtain ⟨v,rfl,hv,ht⟩:=he4.err rfl
 have HG:=Lib.hid (BqEnd.gave (w:=w) (fl:=fl) (s:=s) (d:=d) hv (Nat.le_of_lt hs3) ((Touch.of_below [R] HB1.out).trans ht))
 clear ht hv he4
 go_wp2
 exact ⟨rfl,HG.out⟩
theorem bqescaped_no (w0:World) (A:Nat→Addr) (w:World) (R:Nat) (s:ByteArray) (hs:s.size ≤ 4294967280) (fl:Int) (i g d:Nat) (hR:BqAt w0 A w R s fl i g d) (hi:i+1 < s.size) (hp:Cl.cls 8 (bt s (i+1))=false) :
   Calls Tryz.prog 164 #[.pointer (some ⟨R,0,none⟩)] w (BqEnd A R s fl d (.err 8 i) w):=by
 have hlt:=hR.lt
 have hb0:Below w.heap.size w (w.alloc (.cells noNode 28)):=(Below.refl _ _).alloc (Nat.le_refl _) _
 have HR1:=Lib.hid (hR.later hb0)
 have Z1:=Lib.hid (heap_alloc_new w (.cells noNode 28))
 have HB1:=Lib.hid hb0
 have hs1:w.heap.size < (w.alloc (.cells noNode 28)).heap.size:=by simp
 have hRw:R ≠ w.heap.size:=by omega
 have hw:IntKind.i64.wrap ((i:Int)+1)=(i:Int)+1:=IntWalk.i64_in _ (by omega)
 have he:((i:Int)+1 == (s.size:Int))=false:=by simp;omega
 have hi0:(0:Int) ≤ (i:Int)+1:=by omega
 have hi1:(i:Int)+1 < s.size:=by omega
 have hbt:bt s (i+1) < 256:=(bt_txt s).1 _ hi
 have HPU:Hid (∀ m:Nat,m=bt s (i+1)→∀ w,Calls Tryz.prog 184 #[.int .u8 (m:Int)] w fun e w'=>e=.returned (.bool false)∧Below w.heap.size w w'):=Lib.hid (fun m hm=>ptpunct_any m (by omega) _ (by rw [hm];exact hp))
 clear hp
 obtain ⟨c0,-,c2,-,-⟩:=bq5 HR1.out.cell
 clear hR hb0
 go_enter Tryz.func164,Tryz.ntmps164
 go_wp2_with fail
 generalize World.alloc _ _=W at *
 refine (HPU.out _ (bt_at hi) _).mono ?_
 rintro e w9 ⟨rfl,hb⟩
 have HR3:=Lib.hid (HR1.out.later hb)
 have Z3:=Lib.hid (keep_blk hb Z1.out)
 have HB3:=Lib.hid (HB1.out.trans (hb.mono HB1.out.size))
 have hs3:w.heap.size < w9.heap.size:=Nat.lt_of_lt_of_le hs1 hb.size
 clear hb HR1 Z1 HB1 c0 c2 hs1
 have ce:w9.cell? ⟨7,0,none⟩=some (.iface 232 (.pointer (some (A 7)))):=(HR3.out.now.errs 7 (by omega)).1
 go_wp2_with fail
 refine (bqfails_any w0 A 7 (by omega) w9 R s fl _ g d HR3.out).mono ?_
 intro e w4 he4
 obtain ⟨v,rfl,hv,ht⟩:=he4.err rfl
 have HG:=Lib.hid (BqEnd.gave (w:=w) (fl:=fl) (s:=s) (d:=d) hv (Nat.le_of_lt hs3) ((Touch.of_below [R] HB3.out).trans ht))
 clear ht hv he4
 go_wp2
 exact ⟨rfl,HG.out⟩
theorem bqescaped_ok (w0:World) (A:Nat→Addr) (w:World) (R:Nat) (s:ByteArray) (hs:s.size ≤ 4294967280) (fl:Int) (i g d:Nat) (hR:BqAt w0 A w R s fl i g d) (hi:i+1 < s.size) (hp:Cl.cls 8 (bt s (i+1))=true) :
   Calls Tryz.prog 164 #[.pointer (some ⟨R,0,none⟩)] w (BqEnd A R s fl d (.ok (Ep.one (icB fl) (bt s (i+1))) (i+2) g) w):=by
 have hlt:=hR.lt
 have hb0:Below w.heap.size w (w.alloc (.cells noNode 28)):=(Below.refl _ _).alloc (Nat.le_refl _) _
 have HR1:=Lib.hid (hR.later hb0)
 have Z1:=Lib.hid (heap_alloc_new w (.cells noNode 28))
 have HB1:=Lib.hid hb0
 have hs1:w.heap.size < (w.alloc (.cells noNode 28)).heap.size:=by simp
 have hRw:R ≠ w.heap.size:=by omega
 have hw:IntKind.i64.wrap ((i:Int)+1)=(i:Int)+1:=IntWalk.i64_in _ (by omega)
 have he:((i:Int)+1 == (s.size:Int))=false:=by simp;omega
 have hi0:(0:Int) ≤ (i:Int)+1:=by omega
 have hi1:(i:Int)+1 < s.size:=by omega
 have hbt:bt s (i+1) < 256:=(bt_txt s).1 _ hi
 have HPU:Hid (∀ m:Nat,m=bt s (i+1)→∀ w,Calls Tryz.prog 184 #[.int .u8 (m:Int)] w fun e w'=>e=.returned (.bool true)∧Below w.heap.size w w'):=Lib.hid (fun m hm=>ptpunct_any m (by omega) _ (by rw [hm];exact hp))
 clear hp
 obtain ⟨c0,-,c2,-,-⟩:=bq5 HR1.out.cell
 clear hR hb0
 go_enter Tryz.func164,Tryz.ntmps164
 go_wp2_with fail
 generalize World.alloc _ _=W at *
 refine (HPU.out _ (bt_at hi) _).mono ?_
 rintro e w9 ⟨rfl,hb⟩
 have HR3:=Lib.hid (HR1.out.later hb)
 have Z3:=Lib.hid (keep_blk hb Z1.out)
 have HB3:=Lib.hid (HB1.out.trans (hb.mono HB1.out.size))
 have hs3:w.heap.size < w9.heap.size:=Nat.lt_of_lt_of_le hs1 hb.size
 clear hb HR1 Z1 HB1 c0 c2 hs1
 obtain ⟨-,-,c2,-,-⟩:=bq5 HR3.out.cell
 obtain ⟨f2,-,-⟩:=bqf HR3.out.cell
 have hP:=bq_place HR3.out.cell (i+1) (v:=(i:Int)+1) (by omega)
 have hT:=(Touch.refl [R] w9).setCell List.mem_cons_self 2 (.int .i64 ((i:Int)+1))
 have HR4:=Lib.hid (HR3.out.next hT hP)
 have Z4:=Lib.hid ((Below.heap_setCell w9 ⟨R,2,none⟩ (.int .i64 ((i:Int)+1)) w.heap.size (Ne.symm hRw)).trans Z3.out)
 have HT4:=Lib.hid ((Touch.of_below [R] HB3.out).trans hT)
 clear hP hT HB3 Z3 HR3
 go_wp2_with fail
 have hs4:w.heap.size < (w9.setCell ⟨R,2,none⟩ (.int .i64 ((i:Int)+1))).heap.size:=by simpa using hs3
 generalize World.setCell w9 _ _=W4 at *
 refine (bqplain_any w0 A W4 R s hs fl (i+1) g d HR4.out hi).mono ?_
 rintro e w5 ⟨rfl,hr5,ht5⟩
 have Z5:=Lib.hid ((ht5.block w.heap.size hs4 (by simp;omega)).trans Z4.out)
 have HT5:=Lib.hid (HT4.out.trans ht5)
 have HR5:=Lib.hid hr5
 clear ht5 hr5 c2 f2
 have HTS:Hid ((Ep.one (icB fl) (bt s (i+1))).subs=[]):=Lib.hid rfl
 generalize Ep.one (icB fl) (bt s (i+1))=T at *
 unfold Tr.cells
 go_wp2_with (first
   | (refine wpList_store_row rfl 28 (.tmp 2) (.tmp 34) rfl w.heap.size #[.int .i64 T.kind,.int .u64 (Oc.U T.w0),.int .u64 (Oc.U T.w1),.int .u64 (Oc.U T.w2),.int .u64 (Oc.U T.w3),.slice none 0 0,.int .i64 T.num,.int .i64 T.least,.int .i64 T.most,.bool T.bare] rfl rfl 28 _ Z5.out (by kernel_rfl) rfl (by simp [Value.oneCell']) ?_)
   | fail)
 refine bodyPost_ret (results_cell_row rfl _ _ w.heap.size 28 #[.int .i64 T.kind,.int .u64 (Oc.U T.w0),.int .u64 (Oc.U T.w1),.int .u64 (Oc.U T.w2),.int .u64 (Oc.U T.w3),.slice none 0 0,.int .i64 T.num,.int .i64 T.least,.int .i64 T.most,.bool T.bare] (0,0) _ rfl (heap_setRow Z5.out) Tryz.underlying28 rfl (by kernel_rfl)) rfl ⟨⟨.slice none 0 0,[],rfl, ?_,fun b hb=>(by cases hb),(heap_setRow_other _ _ _ hRw).trans HR5.out⟩,HT5.out.setRow_new (Nat.le_refl _) _⟩
 rw [HTS.out];exact .nil _ _
theorem bqbracketed_ok (w0:World) (A:Nat→Addr) (w:World) (R:Nat) (s:ByteArray) (hs:s.size ≤ 4294967280) (fl:Int) (i g d:Nat) (hR:BqAt w0 A w R s fl i g d) (hi:bt s i=91) (P:Nat→Bool) (j:Nat) (hw:Br.whole (bt s) s.size i (icB fl) (nlB fl)=.ok P j) :
   Calls Tryz.prog 162 #[.pointer (some ⟨R,0,none⟩)] w (BqEnd A R s fl d (.ok (.bytes P) j g) w):=by
 have hlt:=hR.lt
 have hb0:Below w.heap.size w (w.alloc (.cells noNode 28)):=(Below.refl _ _).alloc (Nat.le_refl _) _
 have HR1:=Lib.hid (hR.later hb0)
 have Z1:=Lib.hid (heap_alloc_new w (.cells noNode 28))
 have HB1:=Lib.hid hb0
 have hs1:w.heap.size < (w.alloc (.cells noNode 28)).heap.size:=by simp
 have hRw:R ≠ w.heap.size:=by omega
 have HC:=Lib.hid (fun w hE=>whole_does A s hs i hi fl w hE)
 rw [hw] at HC
 clear hR hb0 hw hi
 go_enter Tryz.func162,Tryz.ntmps162
 go_wp2_with fail
 generalize World.alloc _ _=W at *
 refine Ri.wp_region_frame (by kernel_rfl) (by kernel_rfl) (by kernel_rfl) (by kernel_rfl)
   (fun L v w'=>Below W.heap.size W w'∧(L 18=true→L 17=true)∧(L 0=true→v 0=.pointer (some ⟨R,0,none⟩))∧(L 1=true→v 1=.pointer (some ⟨R,0,none⟩))∧(L 2=true→v 2=.pointer (some ⟨R,0,none⟩))∧(L 3=true→v 3=.string s)∧(L 4=true→v 4=.pointer (some ⟨R,0,none⟩))∧(L 5=true→v 5=.pointer (some ⟨R,0,none⟩))∧(L 6=true→v 6=.pointer (some ⟨R,2,none⟩))∧(L 7=true→v 7=.int .i64 i)∧(L 8=true→v 8=.pointer (some ⟨R,0,none⟩))∧(L 9=true→v 9=.pointer (some ⟨R,0,none⟩))∧(L 10=true→v 10=.pointer (some ⟨R,1,none⟩))∧(L 11=true→v 11=.int .i64 fl)∧(L 12=true→v 12=.tuple #[.agg #[.int .u64 (Oc.U (Oc.mk (P) 0)),.int .u64 (Oc.U (Oc.mk (P) 1)),.int .u64 (Oc.U (Oc.mk (P) 2)),.int .u64 (Oc.U (Oc.mk (P) 3))],.int .i64 j,.nilIface])∧(L 13=true→v 13=.tuple #[.agg #[.int .u64 (Oc.U (Oc.mk (P) 0)),.int .u64 (Oc.U (Oc.mk (P) 1)),.int .u64 (Oc.U (Oc.mk (P) 2)),.int .u64 (Oc.U (Oc.mk (P) 3))],.int .i64 j,.nilIface])∧(L 14=true→v 14=.agg #[.int .u64 (Oc.U (Oc.mk (P) 0)),.int .u64 (Oc.U (Oc.mk (P) 1)),.int .u64 (Oc.U (Oc.mk (P) 2)),.int .u64 (Oc.U (Oc.mk (P) 3))])∧(L 15=true→v 15=.int .i64 j)∧(L 16=true→v 16=.nilIface)∧(L 17=true→NewAt W.heap.size w' (v 17) (L 18) #[.int .u64 0,.int .u64 0,.int .u64 0,.int .u64 0] #[.int .u64 (Oc.U (Oc.mk (P) 0)),.int .u64 (Oc.U (Oc.mk (P) 1)),.int .u64 (Oc.U (Oc.mk (P) 2)),.int .u64 (Oc.U (Oc.mk (P) 3))] 25)∧(L 19=true→v 19=.int .i64 j)∧(L 20=true→v 20=.nilIface))
   ?_ ?_ ?_
 · exact ⟨(Below.refl _ _).drew,by simp,by simp,by simp,by simp,by simp,by simp,by simp,by simp,by simp,by simp,by simp,by simp,by simp,by simp,by simp,by simp,by simp,by simp,by simp,by simp,by simp⟩
 · intro i hi9 L v w9 xa hI hL hd hv ho
   have hi':i=0 ∨ i=1 ∨ i=2 ∨ i=3 ∨ i=4 ∨ i=5 ∨ i=6 ∨ i=7 ∨ i=8 ∨ i=9 ∨ i=10 ∨ i=11 ∨ i=12 ∨ i=13 ∨ i=14 ∨ i=15 ∨ i=16 ∨ i=17 ∨ i=18 ∨ i=19 ∨ i=20:=by simp at hi9;omega
   obtain ⟨hb,qd,q0,q1,q2,q3,q4,q5,q6,q7,q8,q9,q10,q11,q12,q13,q14,q15,q16,q17,q19,q20⟩:=hI
   rcases hi' with rfl | rfl | rfl | rfl | rfl | rfl | rfl | rfl | rfl | rfl | rfl | rfl | rfl | rfl | rfl | rfl | rfl | rfl | rfl | rfl | rfl
   · have e0:xa.tmps.getD 0 undef=.pointer (some ⟨R,0,none⟩):=ho 0 (by kernel_rfl)
     refine Ri.step_plain rfl rfl (fun K' hK=>?_)
     go_simp
     exact hK _ _ ⟨_,_,rfl,rfl,hb,qd,fun _=>rfl,q1,q2,q3,q4,q5,q6,q7,q8,q9,q10,q11,q12,q13,q14,q15,q16,q17,q19,q20⟩
   · have l0:L 0=true:=by have:=hd _ rfl;simp [Region.binds] at this;simp [this]
     have f0:=(hv 0 7 rfl l0).trans (q0 l0)
     refine Ri.step_plain rfl rfl (fun K' hK=>?_)
     go_simp
     exact hK _ _ ⟨_,_,rfl,rfl,hb,qd,q0,fun _=>rfl,q2,q3,q4,q5,q6,q7,q8,q9,q10,q11,q12,q13,q14,q15,q16,q17,q19,q20⟩
   · have l0:L 1=true:=by have:=hd _ rfl;simp [Region.binds] at this;simp [this]
     have f1:=(hv 1 8 rfl l0).trans (q1 l0)
     refine Ri.step_plain rfl rfl (fun K' hK=>?_)
     go_simp
     exact hK _ _ ⟨_,_,rfl,rfl,hb,qd,q0,q1,fun _=>rfl,q3,q4,q5,q6,q7,q8,q9,q10,q11,q12,q13,q14,q15,q16,q17,q19,q20⟩
   · have l0:L 2=true:=by have:=hd _ rfl;simp [Region.binds] at this;simp [this]
     have f2:=(hv 2 9 rfl l0).trans (q2 l0)
     refine Ri.step_plain rfl rfl (fun K' hK=>?_)
     obtain ⟨k0,_⟩:=bq5 (keep_blk hb HR1.out.cell)
     go_simp
     exact hK _ _ ⟨_,_,rfl,rfl,hb,qd,q0,q1,q2,fun _=>rfl,q4,q5,q6,q7,q8,q9,q10,q11,q12,q13,q14,q15,q16,q17,q19,q20⟩
   · have e0:xa.tmps.getD 0 undef=.pointer (some ⟨R,0,none⟩):=ho 0 (by kernel_rfl)
     refine Ri.step_plain rfl rfl (fun K' hK=>?_)
     go_simp
     exact hK _ _ ⟨_,_,rfl,rfl,hb,qd,q0,q1,q2,q3,fun _=>rfl,q5,q6,q7,q8,q9,q10,q11,q12,q13,q14,q15,q16,q17,q19,q20⟩
   · have l0:L 4=true:=by have:=hd _ rfl;simp [Region.binds] at this;simp [this]
     have f4:=(hv 4 11 rfl l0).trans (q4 l0)
     refine Ri.step_plain rfl rfl (fun K' hK=>?_)
     go_simp
     exact hK _ _ ⟨_,_,rfl,rfl,hb,qd,q0,q1,q2,q3,q4,fun _=>rfl,q6,q7,q8,q9,q10,q11,q12,q13,q14,q15,q16,q17,q19,q20⟩
   · have l0:L 5=true:=by have:=hd _ rfl;simp [Region.binds] at this;simp [this]
     have f5:=(hv 5 12 rfl l0).trans (q5 l0)
     refine Ri.step_plain rfl rfl (fun K' hK=>?_)
     go_simp
     exact hK _ _ ⟨_,_,rfl,rfl,hb,qd,q0,q1,q2,q3,q4,q5,fun _=>rfl,q7,q8,q9,q10,q11,q12,q13,q14,q15,q16,q17,q19,q20⟩
   · have l0:L 6=true:=by have:=hd _ rfl;simp [Region.binds] at this;simp [this]
     have f6:=(hv 6 13 rfl l0).trans (q6 l0)
     refine Ri.step_plain rfl rfl (fun K' hK=>?_)
     obtain ⟨_,_,k2,_,_⟩:=bq5 (keep_blk hb HR1.out.cell)
     go_simp
     exact hK _ _ ⟨_,_,rfl,rfl,hb,qd,q0,q1,q2,q3,q4,q5,q6,fun _=>rfl,q8,q9,q10,q11,q12,q13,q14,q15,q16,q17,q19,q20⟩
   · have e0:xa.tmps.getD 0 undef=.pointer (some ⟨R,0,none⟩):=ho 0 (by kernel_rfl)
     refine Ri.step_plain rfl rfl (fun K' hK=>?_)
     go_simp
     exact hK _ _ ⟨_,_,rfl,rfl,hb,qd,q0,q1,q2,q3,q4,q5,q6,q7,fun _=>rfl,q9,q10,q11,q12,q13,q14,q15,q16,q17,q19,q20⟩
   · have l0:L 8=true:=by have:=hd _ rfl;simp [Region.binds] at this;simp [this]
     have f8:=(hv 8 15 rfl l0).trans (q8 l0)
     refine Ri.step_plain rfl rfl (fun K' hK=>?_)
     go_simp
     exact hK _ _ ⟨_,_,rfl,rfl,hb,qd,q0,q1,q2,q3,q4,q5,q6,q7,q8,fun _=>rfl,q10,q11,q12,q13,q14,q15,q16,q17,q19,q20⟩
   · have l0:L 9=true:=by have:=hd _ rfl;simp [Region.binds] at this;simp [this]
     have f9:=(hv 9 16 rfl l0).trans (q9 l0)
     refine Ri.step_plain rfl rfl (fun K' hK=>?_)
     go_simp
     exact hK _ _ ⟨_,_,rfl,rfl,hb,qd,q0,q1,q2,q3,q4,q5,q6,q7,q8,q9,fun _=>rfl,q11,q12,q13,q14,q15,q16,q17,q19,q20⟩
   · have l0:L 10=true:=by have:=hd _ rfl;simp [Region.binds] at this;simp [this]
     have f10:=(hv 10 17 rfl l0).trans (q10 l0)
     refine Ri.step_plain rfl rfl (fun K' hK=>?_)
     obtain ⟨_,k1,_,_,_⟩:=bq5 (keep_blk hb HR1.out.cell)
     go_simp
     exact hK _ _ ⟨_,_,rfl,rfl,hb,qd,q0,q1,q2,q3,q4,q5,q6,q7,q8,q9,q10,fun _=>rfl,q12,q13,q14,q15,q16,q17,q19,q20⟩
   · have l0:L 3=true∧L 7=true∧L 11=true:=by have:=hd _ rfl;simp [Region.binds] at this;simp [this]
     have f3:=(hv 3 10 rfl l0.1).trans (q3 l0.1)
     have f7:=(hv 7 14 rfl l0.2.1).trans (q7 l0.2.1)
     have f11:=(hv 11 18 rfl l0.2.2).trans (q11 l0.2.2)
     refine Ri.step_plain rfl rfl (fun K' hK=>?_)
     go_simp
     refine (HC.out _ ((HR1.out.now).below hb)).mono ?_
     rintro e w8 ⟨rfl,hb8⟩
     exact hK _ _ ⟨_,_,rfl,rfl,hb.trans (hb8.mono hb.size),qd,q0,q1,q2,q3,q4,q5,q6,q7,q8,q9,q10,q11,fun _=>rfl,q13,q14,q15,q16,(fun l=>(q17 l).below hb8),q19,q20⟩
   · have l0:L 12=true:=by have:=hd _ rfl;simp [Region.binds] at this;simp [this]
     have f12:=(hv 12 19 rfl l0).trans (q12 l0)
     refine Ri.step_plain rfl rfl (fun K' hK=>?_)
     go_simp
     exact hK _ _ ⟨_,_,rfl,rfl,hb,qd,q0,q1,q2,q3,q4,q5,q6,q7,q8,q9,q10,q11,q12,fun _=>rfl,q14,q15,q16,q17,q19,q20⟩
   · have l0:L 13=true:=by have:=hd _ rfl;simp [Region.binds] at this;simp [this]
     have f13:=(hv 13 6 rfl l0).trans (q13 l0)
     refine Ri.step_plain rfl rfl (fun K' hK=>?_)
     go_simp
     exact hK _ _ ⟨_,_,rfl,rfl,hb,qd,q0,q1,q2,q3,q4,q5,q6,q7,q8,q9,q10,q11,q12,q13,fun _=>rfl,q15,q16,q17,q19,q20⟩
   · have l0:L 13=true:=by have:=hd _ rfl;simp [Region.binds] at this;simp [this]
     have f13:=(hv 13 6 rfl l0).trans (q13 l0)
     refine Ri.step_plain rfl rfl (fun K' hK=>?_)
     go_simp
     exact hK _ _ ⟨_,_,rfl,rfl,hb,qd,q0,q1,q2,q3,q4,q5,q6,q7,q8,q9,q10,q11,q12,q13,q14,fun _=>rfl,q16,q17,q19,q20⟩
   · have l0:L 13=true:=by have:=hd _ rfl;simp [Region.binds] at this;simp [this]
     have f13:=(hv 13 6 rfl l0).trans (q13 l0)
     refine Ri.step_plain rfl rfl (fun K' hK=>?_)
     go_simp
     exact hK _ _ ⟨_,_,rfl,rfl,hb,qd,q0,q1,q2,q3,q4,q5,q6,q7,q8,q9,q10,q11,q12,q13,q14,q15,fun _=>rfl,q17,q19,q20⟩
   · refine Ri.step_plain rfl rfl (fun K' hK=>?_)
     have hl9:L 18=false:=by cases h:L 18 with | false=>rfl | true=>rw [qd h] at hL;cases hL
     go_simp
     exact hK _ _ ⟨_,_,rfl,rfl,hb.alloc hb.size _,(fun l=>rfl),q0,q1,q2,q3,q4,q5,q6,q7,q8,q9,q10,q11,q12,q13,q14,q15,q16,(fun _=>NewAt.new hb.size hl9),q19,q20⟩
   · have l0:L 17=true∧L 14=true:=by have:=hd _ rfl;simp [Region.binds] at this;simp [this]
     have f17:=hv 17 3 rfl l0.1
     have f14:=(hv 14 20 rfl l0.2).trans (q14 l0.2)
     refine Ri.step_plain rfl rfl (fun K' hK=>?_)
     obtain ⟨g9,hg9,hv9,hzg⟩:=(q17 l0.1).before hL
     refine wp_store_row _ _ _ rfl g9 #[.int .u64 (Oc.U (Oc.mk (P) 0)),.int .u64 (Oc.U (Oc.mk (P) 1)),.int .u64 (Oc.U (Oc.mk (P) 2)),.int .u64 (Oc.U (Oc.mk (P) 3))] (f17.trans hv9) f14 25 _ hzg (by kernel_rfl) (by kernel_rfl) setC_one ?_
     exact hK _ _ ⟨_,undef,rfl,rfl,below_setRow hb hg9 _,(fun _=>l0.1),q0,q1,q2,q3,q4,q5,q6,q7,q8,q9,q10,q11,q12,q13,q14,q15,q16,(fun _=>⟨g9,hg9,hv9,heap_setRow hzg⟩),q19,q20⟩
   · have l0:L 15=true:=by have:=hd _ rfl;simp [Region.binds] at this;simp [this]
     have f15:=(hv 15 21 rfl l0).trans (q15 l0)
     refine Ri.step_plain rfl rfl (fun K' hK=>?_)
     go_simp
     exact hK _ _ ⟨_,_,rfl,rfl,hb,qd,q0,q1,q2,q3,q4,q5,q6,q7,q8,q9,q10,q11,q12,q13,q14,q15,q16,q17,fun _=>rfl,q20⟩
   · have l0:L 16=true:=by have:=hd _ rfl;simp [Region.binds] at this;simp [this]
     have f16:=(hv 16 22 rfl l0).trans (q16 l0)
     refine Ri.step_plain rfl rfl (fun K' hK=>?_)
     go_simp
     exact hK _ _ ⟨_,_,rfl,rfl,hb,qd,q0,q1,q2,q3,q4,q5,q6,q7,q8,q9,q10,q11,q12,q13,q14,q15,q16,q17,q19,fun _=>rfl⟩
 · rintro v w9 ⟨hb,-,-,-,-,-,-,-,-,-,-,-,-,-,-,-,-,-,-,q17,q19,q20⟩
   obtain ⟨g9,hg9,q17',hz9⟩:=q17 rfl
   have ZG:=Lib.hid hz9
   have q19':v 19=.int .i64 j:=q19 rfl
   have q20':v 20=.nilIface:=q20 rfl
   simp only [Ri.frame,List.zipIdx,List.foldl_cons,List.foldl_nil,if_true,List.setIfInBounds_toArray,List.set_cons_zero,List.set_cons_succ,Nat.reduceAdd,q19',q20',q17']
   clear q19 q19' q20 q20' q17 q17' hz9
   generalize v 0=y0;generalize v 1=y1;generalize v 2=y2;generalize v 3=y3;generalize v 4=y4;generalize v 5=y5;generalize v 6=y6;generalize v 7=y7;generalize v 8=y8;generalize v 9=y9;generalize v 10=y10;generalize v 11=y11;generalize v 12=y12;generalize v 13=y13;generalize v 14=y14;generalize v 15=y15;generalize v 16=y16
   have HR2:=Lib.hid (HR1.out.later hb)
   have Z2:=Lib.hid (keep_blk hb Z1.out)
   have HB:=Lib.hid (HB1.out.trans (hb.mono HB1.out.size))
   have hgR:g9 ≠ R:=by have:=HR1.out.lt;omega
   have hgw:g9 ≠ w.heap.size:=by omega
   clear hb Z1 HB1 HR1
   obtain ⟨-,-,c2,-,-⟩:=bq5 HR2.out.cell
   obtain ⟨f2,-,-⟩:=bqf HR2.out.cell
   have HP:=Lib.hid (bq_place HR2.out.cell j (v:=(j:Int)) rfl)
   have HT:=Lib.hid (((Touch.of_below [R] HB.out).setCell List.mem_cons_self 2 (.int .i64 (j:Int))))
   have G3:=Lib.hid (fun v=>(Below.heap_setCell w9 ⟨R,2,none⟩ v g9 hgR).trans ZG.out)
   have Z4:=Lib.hid (fun v=>(Below.heap_setCell w9 ⟨R,2,none⟩ v w.heap.size (Ne.symm hRw)).trans Z2.out)
   clear HR2 HB ZG Z2
   go_wp2_with (first
     | (refine wpList_load_row rfl 25 (.tmp 3) rfl g9 rfl 25 _ (0,0) _ (G3.out _) Tryz.underlying25 rfl (by kernel_rfl) ?_)
     | fail)
   refine (bytes_is _ _ _ _ _).mono ?_
   rintro e w5 ⟨rfl,hb5⟩
   have Z5:=Lib.hid (keep_blk hb5 (Z4.out _))
   have HP5:=Lib.hid (keep_blk hb5 HP.out)
   have HT5:=Lib.hid (HT.out.later hb5)
   clear c2 f2 hb5 Z4 HP HT
   go_wp2_with (first
     | (refine wpList_store_row rfl 28 (.tmp 2) (.tmp 32) rfl w.heap.size #[.int .i64 2,.int .u64 (Oc.U (Oc.mk (P) 0)),.int .u64 (Oc.U (Oc.mk (P) 1)),.int .u64 (Oc.U (Oc.mk (P) 2)),.int .u64 (Oc.U (Oc.mk (P) 3)),.slice none 0 0,.int .i64 0,.int .i64 0,.int .i64 0,.bool false] rfl rfl 28 _ Z5.out (by kernel_rfl) rfl (by simp [Value.oneCell']) ?_)
     | fail)
   exact bodyPost_ret (results_cell_row rfl _ _ w.heap.size 28 #[.int .i64 2,.int .u64 (Oc.U (Oc.mk (P) 0)),.int .u64 (Oc.U (Oc.mk (P) 1)),.int .u64 (Oc.U (Oc.mk (P) 2)),.int .u64 (Oc.U (Oc.mk (P) 3)),.slice none 0 0,.int .i64 0,.int .i64 0,.int .i64 0,.bool false] (0,0) _ rfl (heap_setRow Z5.out) Tryz.underlying28 rfl (by kernel_rfl)) rfl ⟨⟨.slice none 0 0,[],rfl,.nil _ _,fun b hb=>(by cases hb),(heap_setRow_other _ _ _ hRw).trans HP5.out⟩,HT5.out.setRow_new (Nat.le_refl _) _⟩
theorem bqbracketed_err (w0:World) (A:Nat→Addr) (w:World) (R:Nat) (s:ByteArray) (hs:s.size ≤ 4294967280) (fl:Int) (i g d:Nat) (hR:BqAt w0 A w R s fl i g d) (hi:bt s i=91) (c:Nat) (q:Int) (hw:Br.whole (bt s) s.size i (icB fl) (nlB fl)=.err c q) :
   Calls Tryz.prog 162 #[.pointer (some ⟨R,0,none⟩)] w (BqEnd A R s fl d (.err c q) w):=by
 have hlt:=hR.lt
 have hb0:Below w.heap.size w (w.alloc (.cells noNode 28)):=(Below.refl _ _).alloc (Nat.le_refl _) _
 have HR1:=Lib.hid (hR.later hb0)
 have Z1:=Lib.hid (heap_alloc_new w (.cells noNode 28))
 have HB1:=Lib.hid hb0
 have hs1:w.heap.size < (w.alloc (.cells noNode 28)).heap.size:=by simp
 have hRw:R ≠ w.heap.size:=by omega
 have HC:=Lib.hid (fun w hE=>whole_does A s hs i hi fl w hE)
 rw [hw] at HC
 clear hR hb0 hw hi
 go_enter Tryz.func162,Tryz.ntmps162
 go_wp2_with fail
 generalize World.alloc _ _=W at *
 refine Ri.wp_region_frame (by kernel_rfl) (by kernel_rfl) (by kernel_rfl) (by kernel_rfl)
   (fun L v w'=>Below W.heap.size W w'∧(L 18=true→L 17=true)∧(L 0=true→v 0=.pointer (some ⟨R,0,none⟩))∧(L 1=true→v 1=.pointer (some ⟨R,0,none⟩))∧(L 2=true→v 2=.pointer (some ⟨R,0,none⟩))∧(L 3=true→v 3=.string s)∧(L 4=true→v 4=.pointer (some ⟨R,0,none⟩))∧(L 5=true→v 5=.pointer (some ⟨R,0,none⟩))∧(L 6=true→v 6=.pointer (some ⟨R,2,none⟩))∧(L 7=true→v 7=.int .i64 i)∧(L 8=true→v 8=.pointer (some ⟨R,0,none⟩))∧(L 9=true→v 9=.pointer (some ⟨R,0,none⟩))∧(L 10=true→v 10=.pointer (some ⟨R,1,none⟩))∧(L 11=true→v 11=.int .i64 fl)∧(L 12=true→(∃ u,(v 12)=.tuple #[.agg #[.int .u64 0,.int .u64 0,.int .u64 0,.int .u64 0],.int .i64 0,u]∧ErrOne A W.heap.size w' u c q))∧(L 13=true→(∃ u,(v 13)=.tuple #[.agg #[.int .u64 0,.int .u64 0,.int .u64 0,.int .u64 0],.int .i64 0,u]∧ErrOne A W.heap.size w' u c q))∧(L 14=true→v 14=.agg #[.int .u64 0,.int .u64 0,.int .u64 0,.int .u64 0])∧(L 15=true→v 15=.int .i64 0)∧(L 16=true→ErrOne A W.heap.size w' (v 16) c q)∧(L 17=true→NewAt W.heap.size w' (v 17) (L 18) #[.int .u64 0,.int .u64 0,.int .u64 0,.int .u64 0] #[.int .u64 0,.int .u64 0,.int .u64 0,.int .u64 0] 25)∧(L 19=true→v 19=.int .i64 0)∧(L 20=true→ErrOne A W.heap.size w' (v 20) c q))
   ?_ ?_ ?_
 · exact ⟨(Below.refl _ _).drew,by simp,by simp,by simp,by simp,by simp,by simp,by simp,by simp,by simp,by simp,by simp,by simp,by simp,by simp,by simp,by simp,by simp,by simp,by simp,by simp,by simp⟩
 · intro i hi9 L v w9 xa hI hL hd hv ho
   have hi':i=0 ∨ i=1 ∨ i=2 ∨ i=3 ∨ i=4 ∨ i=5 ∨ i=6 ∨ i=7 ∨ i=8 ∨ i=9 ∨ i=10 ∨ i=11 ∨ i=12 ∨ i=13 ∨ i=14 ∨ i=15 ∨ i=16 ∨ i=17 ∨ i=18 ∨ i=19 ∨ i=20:=by simp at hi9;omega
   obtain ⟨hb,qd,q0,q1,q2,q3,q4,q5,q6,q7,q8,q9,q10,q11,q12,q13,q14,q15,q16,q17,q19,q20⟩:=hI
   rcases hi' with rfl | rfl | rfl | rfl | rfl | rfl | rfl | rfl | rfl | rfl | rfl | rfl | rfl | rfl | rfl | rfl | rfl | rfl | rfl | rfl | rfl
   · have e0:xa.tmps.getD 0 undef=.pointer (some ⟨R,0,none⟩):=ho 0 (by kernel_rfl)
     refine Ri.step_plain rfl rfl (fun K' hK=>?_)
     go_simp
     exact hK _ _ ⟨_,_,rfl,rfl,hb,qd,fun _=>rfl,q1,q2,q3,q4,q5,q6,q7,q8,q9,q10,q11,q12,q13,q14,q15,q16,q17,q19,q20⟩
   · have l0:L 0=true:=by have:=hd _ rfl;simp [Region.binds] at this;simp [this]
     have f0:=(hv 0 7 rfl l0).trans (q0 l0)
     refine Ri.step_plain rfl rfl (fun K' hK=>?_)
     go_simp
     exact hK _ _ ⟨_,_,rfl,rfl,hb,qd,q0,fun _=>rfl,q2,q3,q4,q5,q6,q7,q8,q9,q10,q11,q12,q13,q14,q15,q16,q17,q19,q20⟩
   · have l0:L 1=true:=by have:=hd _ rfl;simp [Region.binds] at this;simp [this]
     have f1:=(hv 1 8 rfl l0).trans (q1 l0)
     refine Ri.step_plain rfl rfl (fun K' hK=>?_)
     go_simp
     exact hK _ _ ⟨_,_,rfl,rfl,hb,qd,q0,q1,fun _=>rfl,q3,q4,q5,q6,q7,q8,q9,q10,q11,q12,q13,q14,q15,q16,q17,q19,q20⟩
   · have l0:L 2=true:=by have:=hd _ rfl;simp [Region.binds] at this;simp [this]
     have f2:=(hv 2 9 rfl l0).trans (q2 l0)
     refine Ri.step_plain rfl rfl (fun K' hK=>?_)
     obtain ⟨k0,_⟩:=bq5 (keep_blk hb HR1.out.cell)
     go_simp
     exact hK _ _ ⟨_,_,rfl,rfl,hb,qd,q0,q1,q2,fun _=>rfl,q4,q5,q6,q7,q8,q9,q10,q11,q12,q13,q14,q15,q16,q17,q19,q20⟩
   · have e0:xa.tmps.getD 0 undef=.pointer (some ⟨R,0,none⟩):=ho 0 (by kernel_rfl)
     refine Ri.step_plain rfl rfl (fun K' hK=>?_)
     go_simp
     exact hK _ _ ⟨_,_,rfl,rfl,hb,qd,q0,q1,q2,q3,fun _=>rfl,q5,q6,q7,q8,q9,q10,q11,q12,q13,q14,q15,q16,q17,q19,q20⟩
   · have l0:L 4=true:=by have:=hd _ rfl;simp [Region.binds] at this;simp [this]
     have f4:=(hv 4 11 rfl l0).trans (q4 l0)
     refine Ri.step_plain rfl rfl (fun K' hK=>?_)
     go_simp
     exact hK _ _ ⟨_,_,rfl,rfl,hb,qd,q0,q1,q2,q3,q4,fun _=>rfl,q6,q7,q8,q9,q10,q11,q12,q13,q14,q15,q16,q17,q19,q20⟩
   · have l0:L 5=true:=by have:=hd _ rfl;simp [Region.binds] at this;simp [this]
     have f5:=(hv 5 12 rfl l0).trans (q5 l0)
     refine Ri.step_plain rfl rfl (fun K' hK=>?_)
     go_simp
     exact hK _ _ ⟨_,_,rfl,rfl,hb,qd,q0,q1,q2,q3,q4,q5,fun _=>rfl,q7,q8,q9,q10,q11,q12,q13,q14,q15,q16,q17,q19,q20⟩
   · have l0:L 6=true:=by have:=hd _ rfl;simp [Region.binds] at this;simp [this]
     have f6:=(hv 6 13 rfl l0).trans (q6 l0)
     refine Ri.step_plain rfl rfl (fun K' hK=>?_)
     obtain ⟨_,_,k2,_,_⟩:=bq5 (keep_blk hb HR1.out.cell)
     go_simp
     exact hK _ _ ⟨_,_,rfl,rfl,hb,qd,q0,q1,q2,q3,q4,q5,q6,fun _=>rfl,q8,q9,q10,q11,q12,q13,q14,q15,q16,q17,q19,q20⟩
   · have e0:xa.tmps.getD 0 undef=.pointer (some ⟨R,0,none⟩):=ho 0 (by kernel_rfl)
     refine Ri.step_plain rfl rfl (fun K' hK=>?_)
     go_simp
     exact hK _ _ ⟨_,_,rfl,rfl,hb,qd,q0,q1,q2,q3,q4,q5,q6,q7,fun _=>rfl,q9,q10,q11,q12,q13,q14,q15,q16,q17,q19,q20⟩
   · have l0:L 8=true:=by have:=hd _ rfl;simp [Region.binds] at this;simp [this]
     have f8:=(hv 8 15 rfl l0).trans (q8 l0)
     refine Ri.step_plain rfl rfl (fun K' hK=>?_)
     go_simp
     exact hK _ _ ⟨_,_,rfl,rfl,hb,qd,q0,q1,q2,q3,q4,q5,q6,q7,q8,fun _=>rfl,q10,q11,q12,q13,q14,q15,q16,q17,q19,q20⟩
   · have l0:L 9=true:=by have:=hd _ rfl;simp [Region.binds] at this;simp [this]
     have f9:=(hv 9 16 rfl l0).trans (q9 l0)
     refine Ri.step_plain rfl rfl (fun K' hK=>?_)
     go_simp
     exact hK _ _ ⟨_,_,rfl,rfl,hb,qd,q0,q1,q2,q3,q4,q5,q6,q7,q8,q9,fun _=>rfl,q11,q12,q13,q14,q15,q16,q17,q19,q20⟩
   · have l0:L 10=true:=by have:=hd _ rfl;simp [Region.binds] at this;simp [this]
     have f10:=(hv 10 17 rfl l0).trans (q10 l0)
     refine Ri.step_plain rfl rfl (fun K' hK=>?_)
     obtain ⟨_,k1,_,_,_⟩:=bq5 (keep_blk hb HR1.out.cell)
     go_simp
     exact hK _ _ ⟨_,_,rfl,rfl,hb,qd,q0,q1,q2,q3,q4,q5,q6,q7,q8,q9,q10,fun _=>rfl,q12,q13,q14,q15,q16,q17,q19,q20⟩
   · have l0:L 3=true∧L 7=true∧L 11=true:=by have:=hd _ rfl;simp [Region.binds] at this;simp [this]
     have f3:=(hv 3 10 rfl l0.1).trans (q3 l0.1)
     have f7:=(hv 7 14 rfl l0.2.1).trans (q7 l0.2.1)
     have f11:=(hv 11 18 rfl l0.2.2).trans (q11 l0.2.2)
     refine Ri.step_plain rfl rfl (fun K' hK=>?_)
     go_simp
     refine (HC.out _ ((HR1.out.now).below hb)).mono ?_
     rintro e w8 ⟨⟨v8,rfl,hv8⟩,hb8⟩
     exact hK _ _ ⟨_,_,rfl,rfl,hb.trans (hb8.mono hb.size),qd,q0,q1,q2,q3,q4,q5,q6,q7,q8,q9,q10,q11,fun _=>⟨_,rfl,hv8.down hb.size⟩,(fun l=>(q13 l).elim fun u h=>⟨u,h.1,h.2.below hb8⟩),q14,q15,(fun l=>(q16 l).below hb8),(fun l=>(q17 l).below hb8),q19,(fun l=>(q20 l).below hb8)⟩
   · have l0:L 12=true:=by have:=hd _ rfl;simp [Region.binds] at this;simp [this]
     obtain ⟨u9,hu9,hE9⟩:=q12 l0
     have f12:=(hv 12 19 rfl l0).trans hu9
     refine Ri.step_plain rfl rfl (fun K' hK=>?_)
     go_simp
     exact hK _ _ ⟨_,_,rfl,rfl,hb,qd,q0,q1,q2,q3,q4,q5,q6,q7,q8,q9,q10,q11,q12,fun _=>⟨_,rfl,hE9⟩,q14,q15,q16,q17,q19,q20⟩
   · have l0:L 13=true:=by have:=hd _ rfl;simp [Region.binds] at this;simp [this]
     obtain ⟨u9,hu9,hE9⟩:=q13 l0
     have f13:=(hv 13 6 rfl l0).trans hu9
     refine Ri.step_plain rfl rfl (fun K' hK=>?_)
     go_simp
     exact hK _ _ ⟨_,_,rfl,rfl,hb,qd,q0,q1,q2,q3,q4,q5,q6,q7,q8,q9,q10,q11,q12,q13,fun _=>rfl,q15,q16,q17,q19,q20⟩
   · have l0:L 13=true:=by have:=hd _ rfl;simp [Region.binds] at this;simp [this]
     obtain ⟨u9,hu9,hE9⟩:=q13 l0
     have f13:=(hv 13 6 rfl l0).trans hu9
     refine Ri.step_plain rfl rfl (fun K' hK=>?_)
     go_simp
     exact hK _ _ ⟨_,_,rfl,rfl,hb,qd,q0,q1,q2,q3,q4,q5,q6,q7,q8,q9,q10,q11,q12,q13,q14,fun _=>rfl,q16,q17,q19,q20⟩
   · have l0:L 13=true:=by have:=hd _ rfl;simp [Region.binds] at this;simp [this]
     obtain ⟨u9,hu9,hE9⟩:=q13 l0
     have f13:=(hv 13 6 rfl l0).trans hu9
     refine Ri.step_plain rfl rfl (fun K' hK=>?_)
     go_simp
     exact hK _ _ ⟨_,_,rfl,rfl,hb,qd,q0,q1,q2,q3,q4,q5,q6,q7,q8,q9,q10,q11,q12,q13,q14,q15,fun _=>hE9,q17,q19,q20⟩
   · refine Ri.step_plain rfl rfl (fun K' hK=>?_)
     have hl9:L 18=false:=by cases h:L 18 with | false=>rfl | true=>rw [qd h] at hL;cases hL
     go_simp
     exact hK _ _ ⟨_,_,rfl,rfl,hb.alloc hb.size _,(fun l=>rfl),q0,q1,q2,q3,q4,q5,q6,q7,q8,q9,q10,q11,(fun l=>(q12 l).elim fun u h=>⟨u,h.1,h.2.below ((Below.refl _ _).alloc (Nat.le_refl _) _)⟩),(fun l=>(q13 l).elim fun u h=>⟨u,h.1,h.2.below ((Below.refl _ _).alloc (Nat.le_refl _) _)⟩),q14,q15,(fun l=>(q16 l).below ((Below.refl _ _).alloc (Nat.le_refl _) _)),(fun _=>NewAt.new hb.size hl9),q19,(fun l=>(q20 l).below ((Below.refl _ _).alloc (Nat.le_refl _) _))⟩
   · have l0:L 17=true∧L 14=true:=by have:=hd _ rfl;simp [Region.binds] at this;simp [this]
     have f17:=hv 17 3 rfl l0.1
     have f14:=(hv 14 20 rfl l0.2).trans (q14 l0.2)
     refine Ri.step_plain rfl rfl (fun K' hK=>?_)
     obtain ⟨g9,hg9,hv9,hzg⟩:=(q17 l0.1).before hL
     refine wp_store_row _ _ _ rfl g9 #[.int .u64 0,.int .u64 0,.int .u64 0,.int .u64 0] (f17.trans hv9) f14 25 _ hzg (by kernel_rfl) (by kernel_rfl) noSet_one ?_
     exact hK _ _ ⟨_,undef,rfl,rfl,below_setRow hb hg9 _,(fun _=>l0.1),q0,q1,q2,q3,q4,q5,q6,q7,q8,q9,q10,q11,(fun l=>(q12 l).elim fun u h=>⟨u,h.1,h.2.setRow_new hzg _⟩),(fun l=>(q13 l).elim fun u h=>⟨u,h.1,h.2.setRow_new hzg _⟩),q14,q15,(fun l=>(q16 l).setRow_new hzg _),(fun _=>⟨g9,hg9,hv9,heap_setRow hzg⟩),q19,(fun l=>(q20 l).setRow_new hzg _)⟩
   · have l0:L 15=true:=by have:=hd _ rfl;simp [Region.binds] at this;simp [this]
     have f15:=(hv 15 21 rfl l0).trans (q15 l0)
     refine Ri.step_plain rfl rfl (fun K' hK=>?_)
     go_simp
     exact hK _ _ ⟨_,_,rfl,rfl,hb,qd,q0,q1,q2,q3,q4,q5,q6,q7,q8,q9,q10,q11,q12,q13,q14,q15,q16,q17,fun _=>rfl,q20⟩
   · have l0:L 16=true:=by have:=hd _ rfl;simp [Region.binds] at this;simp [this]
     have f16:=hv 16 22 rfl l0
     refine Ri.step_plain rfl rfl (fun K' hK=>?_)
     go_simp
     exact hK _ _ ⟨_,_,rfl,rfl,hb,qd,q0,q1,q2,q3,q4,q5,q6,q7,q8,q9,q10,q11,q12,q13,q14,q15,q16,q17,q19,fun _=>q16 l0⟩
 · rintro v w9 ⟨hb,-,-,-,-,-,-,-,-,-,-,-,-,-,-,-,-,-,-,q17,q19,q20⟩
   obtain ⟨g9,hg9,q17',hz9⟩:=q17 rfl
   have ZG:=Lib.hid hz9
   have q19':v 19=.int .i64 0:=q19 rfl
   have E20:=Lib.hid (q20 rfl)
   simp only [Ri.frame,List.zipIdx,List.foldl_cons,List.foldl_nil,if_true,List.setIfInBounds_toArray,List.set_cons_zero,List.set_cons_succ,Nat.reduceAdd,q19',q17']
   clear q19 q19' q20 q17 q17' hz9
   generalize v 0=y0;generalize v 1=y1;generalize v 2=y2;generalize v 3=y3;generalize v 4=y4;generalize v 5=y5;generalize v 6=y6;generalize v 7=y7;generalize v 8=y8;generalize v 9=y9;generalize v 10=y10;generalize v 11=y11;generalize v 12=y12;generalize v 13=y13;generalize v 14=y14;generalize v 15=y15;generalize v 16=y16;generalize v 20=y20 at *
   have HR2:=Lib.hid (HR1.out.later hb)
   have Z2:=Lib.hid (keep_blk hb Z1.out)
   have HB:=Lib.hid (HB1.out.trans (hb.mono HB1.out.size))
   have hgR:g9 ≠ R:=by have:=HR1.out.lt;omega
   have hgw:g9 ≠ w.heap.size:=by omega
   clear hb Z1 HB1 HR1
   obtain ⟨x6,hx6⟩:=E20.out.iface
   subst hx6
   have HG:=Lib.hid (BqEnd.gave (R:=R) (w:=w) (fl:=fl) (s:=s) (d:=d) (E20.out) (Nat.le_of_lt hs1) (Touch.of_below [R] HB.out))
   go_wp2_with fail
   refine (giveup_any _ _).mono ?_
   rintro e w8 ⟨rfl,rfl⟩
   go_wp2
   exact ⟨rfl,HG.out⟩
def BqTm (A:Nat→Addr) (R:Nat) (s:ByteArray) (fl:Int) (i g d:Nat) (O:Option (Int × Int × Nat)) (c:Nat) (w:World) (e:Ending) (w':World):Prop :=
 (match O with
 | some (a,b,j)=>e=.returned (.agg #[.int .i64 a,.int .i64 b])∧w'.heap[R]? = some (.cells (rdC s fl j g d) 53)
 | none=>Gave A w.heap.size w' e c i)∧Touch [R] w w'
theorem BqTm.ok {A:Nat→Addr} {R:Nat} {s:ByteArray} {fl:Int} {i g d c:Nat} {O:Option (Int × Int × Nat)} {w:World} {e:Ending} {w':World} (h:BqTm A R s fl i g d O c w e w') {a b:Int} {j:Nat} (hO:O=some (a,b,j)) :
   e=.returned (.agg #[.int .i64 a,.int .i64 b])∧w'.heap[R]? = some (.cells (rdC s fl j g d) 53)∧Touch [R] w w':=by subst hO;exact ⟨h.1.1,h.1.2,h.2⟩
theorem BqTm.err {A:Nat→Addr} {R:Nat} {s:ByteArray} {fl:Int} {i g d c:Nat} {O:Option (Int × Int × Nat)} {w:World} {e:Ending} {w':World} (h:BqTm A R s fl i g d O c w e w') (hO:O=none) :
   ∃ v,e=.panicked [{ v:=.iface 93 (.agg #[v]),recovered:=false }]∧ErrOne A w.heap.size w' v c i∧Touch [R] w w':=by
 subst hO;obtain ⟨⟨v,h1,h2⟩,h3⟩:=h;exact ⟨v,h1,h2,h3⟩
theorem occ_two (s:ByteArray) (k j:Nat):Lib.occAt (s.extract k s.size).data.toList [92,125] j=Bp.two (bt s) 92 125 (k+j):=by
 unfold Lib.occAt
 rw [Lib.extract_to_end,List.drop_drop,two_prefix]
 unfold Bp.two
 rw [bt_list,bt_list]
 simp only [List.getElem?_drop]
 rfl
theorem index_close {s:ByteArray} {k e:Nat} (h:Bp.close (bt s) (s.size - k) k=some e):Lib.indexB (s.extract k s.size) ⟨#[92,125]⟩=((e - k:Nat):Int):=by
 obtain ⟨h1,h2,h3,h4⟩:=Bp.close_some h
 refine Lib.index_first (by rw [Lib.extract_to_end];simp;omega) ?_ ?_
 · show Lib.occAt (s.extract k s.size).data.toList [92,125] (e - k)=true
   rw [occ_two,show k+(e - k)=e by omega,h3]
 · intro j hj
   show Lib.occAt (s.extract k s.size).data.toList [92,125] j=false
   rw [occ_two]
   exact h4 (k+j) (by omega) (by omega)
theorem index_noclose {s:ByteArray} {k:Nat} (h:Bp.close (bt s) (s.size - k) k=none):Lib.indexB (s.extract k s.size) ⟨#[92,125]⟩ = -1:=by
 refine Lib.index_none fun j hj=>?_
 show Lib.occAt (s.extract k s.size).data.toList [92,125] j=false
 rw [occ_two]
 by_cases hl:k+j < s.size
 · exact Bp.close_none h (k+j) (by omega) (by omega)
 · unfold Bp.two;rw [bt_out (by omega)];rfl
theorem cut2_none {A:Nat→Addr} (s:ByteArray) (hs:s.size ≤ 4294967280) (k:Nat) (hc:Bp.close (bt s) (s.size - k) k=none) (w:World) (hE:BrEnv w A) :
   Calls Tryz.prog 157 #[.string (s.extract k s.size),.string ⟨#[92,125]⟩] w fun e w'=>e=.returned (.tuple #[.string (s.extract k s.size),.string ByteArray.empty,.bool false])∧∃ n,w'=w.drewN n:=by
 obtain ⟨m,hm⟩:=hE.idx
 have hz:(s.extract k s.size).size < 4294967281:=by simp;omega
 have h:=Tryz.strings_Cut (s.extract k s.size) ⟨#[92,125]⟩ m w hz hm
 obtain ⟨e1,e2,e3⟩:=Lib.cutB_miss _ _ (index_noclose hc)
 rw [e1,e2,e3] at h;exact h
theorem cut2_some {A:Nat→Addr} (s:ByteArray) (hs:s.size ≤ 4294967280) (k m:Nat) (hc:Bp.close (bt s) (s.size - k) k=some (k+m)) (w:World) (hE:BrEnv w A) :
   Calls Tryz.prog 157 #[.string (s.extract k s.size),.string ⟨#[92,125]⟩] w fun e w'=>e=.returned (.tuple #[.string (s.extract k (k+m)),.string ((s.extract k s.size).extract (m+2) (s.extract k s.size).size),.bool true])∧∃ n,w'=w.drewN n:=by
 obtain ⟨mx,hm⟩:=hE.idx
 have hz:(s.extract k s.size).size < 4294967281:=by simp;omega
 have h:=Tryz.strings_Cut (s.extract k s.size) ⟨#[92,125]⟩ mx w hz hm
 obtain ⟨g1,g2,g3,-⟩:=Bp.close_some hc
 have hlt:=Bp.two_lt (bt_txt s) g3 (by omega) (by omega)
 have hix:=index_close hc
 rw [show k+m - k=m by omega] at hix
 obtain ⟨e1,e2,e3⟩:=Lib.cutB_hit _ _ m hix
 rw [e1,e2,e3,ext_ext s k m (by omega)] at h
 exact h
theorem bqbraced_open (w0:World) (A:Nat→Addr) (w:World) (R:Nat) (s:ByteArray) (hs:s.size ≤ 4294967280) (fl:Int) (i g d:Nat) (hR:BqAt w0 A w R s fl i g d) (hi:i+1 < s.size) (hf:Bp.close (bt s) (s.size - (i+2)) (i+2)=none) :
   Calls Tryz.prog 131 #[.pointer (some ⟨R,0,none⟩)] w (BqTm A R s fl i g d none 3 w):=by
 have hlt:=hR.lt
 have hb0:Below w.heap.size w (w.alloc (.cells #[.int .i64 0,.int .i64 0] 163)):=(Below.refl _ _).alloc (Nat.le_refl _) _
 have HR1:=Lib.hid (hR.later hb0)
 have Z1:=Lib.hid (heap_alloc_new w (.cells #[.int .i64 0,.int .i64 0] 163))
 have HB1:=Lib.hid hb0
 have hs1:w.heap.size < (w.alloc (.cells #[.int .i64 0,.int .i64 0] 163)).heap.size:=by simp
 have hRw:R ≠ w.heap.size:=by omega
 have hz:(s.extract (i+2) s.size).size=s.size - (i+2):=by simp
 have hcut:=fun n=>cut2_none (A:=A) s hs (i+2) hf _ (HR1.out.now.below (drewN_below (Below.refl _ _) n))
 obtain ⟨c0,c1,c2,-,-⟩:=bq5 HR1.out.cell
 have hw:IntKind.i64.wrap ((i:Int)+2)=(i:Int)+2:=IntWalk.i64_in _ (by omega)
 have h1:(0:Int) ≤ (i:Int)+2:=by omega
 have h2:(i:Int)+2 ≤ s.size:=by omega
 have h3:((i:Int)+2).toNat=i+2:=by omega
 have HCUT:=Lib.hid hcut
 have hn1:=hs1
 clear hcut hR hz hb0 hf
 go_enter Tryz.func131,Tryz.ntmps131
 go_wp2
 go_quiet ((go_at_call 157;exact Calls.quiet_of (HCUT.out _)))
 have HR2:Hid (BqAt w0 A ((w.alloc (.cells #[.int .i64 0,.int .i64 0] 163)).drewN nq) R s fl i g d):=Lib.hid (HR1.out.later (drewN_below (Below.refl _ _) nq))
 have HB2:Hid (Below w.heap.size w ((w.alloc (.cells #[.int .i64 0,.int .i64 0] 163)).drewN nq)):=Lib.hid (drewN_below HB1.out nq)
 have Z2:Hid (((w.alloc (.cells #[.int .i64 0,.int .i64 0] 163)).drewN nq).heap[w.heap.size]? = some (.cells #[.int .i64 0,.int .i64 0] 163)):=Lib.hid Z1.out
 have hs2:w.heap.size < ((w.alloc (.cells #[.int .i64 0,.int .i64 0] 163)).drewN nq).heap.size:=hs1
 clear c0 c1 c2 HR1 HCUT Z1 HB1 hs1 hn1
 have hs3:=hs2
 generalize World.drewN _ nq=W at *
 have ce:W.cell? ⟨2,0,none⟩=some (.iface 232 (.pointer (some (A 2)))):=(HR2.out.now.errs 2 (by omega)).1
 go_wp2_with fail
 refine (bqfails_any w0 A 2 (by omega) W R s fl _ g d HR2.out).mono ?_
 intro e w4 he4
 obtain ⟨v,rfl,hv,ht⟩:=he4.err rfl
 have HG:=Lib.hid (BqEnd.gave (w:=w) (fl:=fl) (s:=s) (d:=d) hv (Nat.le_of_lt hs3) ((Touch.of_below [R] HB2.out).trans ht))
 clear ht hv he4
 go_wp2
 exact ⟨rfl,HG.out⟩
theorem bqbraced_bad (w0:World) (A:Nat→Addr) (w:World) (R:Nat) (s:ByteArray) (hs:s.size ≤ 4294967280) (fl:Int) (i g d:Nat) (hR:BqAt w0 A w R s fl i g d) (hi:i+1 < s.size) (m:Nat) (hf:Bp.close (bt s) (s.size - (i+2)) (i+2)=some (i+2+m)) (hn:Ep.counts (bt s) (i+2) (i+2+m)=none) :
   Calls Tryz.prog 131 #[.pointer (some ⟨R,0,none⟩)] w (BqTm A R s fl i g d none 4 w):=by
 have hlt:=hR.lt
 have hb0:Below w.heap.size w (w.alloc (.cells #[.int .i64 0,.int .i64 0] 163)):=(Below.refl _ _).alloc (Nat.le_refl _) _
 have HR1:=Lib.hid (hR.later hb0)
 have Z1:=Lib.hid (heap_alloc_new w (.cells #[.int .i64 0,.int .i64 0] 163))
 have HB1:=Lib.hid hb0
 have hs1:w.heap.size < (w.alloc (.cells #[.int .i64 0,.int .i64 0] 163)).heap.size:=by simp
 have hRw:R ≠ w.heap.size:=by omega
 obtain ⟨-,-,hf3,-⟩:=Bp.close_some hf
 have hm:=Bp.two_lt (bt_txt s) hf3 (by omega) (by omega)
 have hzx:(s.extract (i+2) (i+2+m)).size=m:=by simp;omega
 have HCN:Hid (∀ w,BrEnv w A→Calls Tryz.prog 158 #[.string (s.extract (i+2) (i+2+m))] w fun e w'=>e=.returned (cntsV none)∧Below w.heap.size w w'):=Lib.hid (fun w hE=>erecounts_any A (s.extract (i+2) (i+2+m)) (by omega) _ ((counts_mid s (i+2) (i+2+m) (by omega) (by omega)).trans hn) w hE)
 have hlt2:i+2+m+1 < s.size:=hm
 have hcut0:=fun w hE=>cut2_some (A:=A) s hs (i+2) m hf w hE
 generalize (s.extract (i+2) s.size).extract (m+2) (s.extract (i+2) s.size).size=tb at *
 clear hf3 hn hm hf
 generalize s.extract (i+2) (i+2+m)=ta at *
 subst hzx
 have hz:(s.extract (i+2) s.size).size=s.size - (i+2):=by simp
 have hcut:=fun n=>hcut0 _ (HR1.out.now.below (drewN_below (Below.refl _ _) n))
 obtain ⟨c0,c1,c2,-,-⟩:=bq5 HR1.out.cell
 have hw:IntKind.i64.wrap ((i:Int)+2)=(i:Int)+2:=IntWalk.i64_in _ (by omega)
 have h1:(0:Int) ≤ (i:Int)+2:=by omega
 have h2:(i:Int)+2 ≤ s.size:=by omega
 have h3:((i:Int)+2).toNat=i+2:=by omega
 have HCUT:=Lib.hid hcut
 have hn1:=hs1
 clear hcut hR hz hb0 hcut0
 go_enter Tryz.func131,Tryz.ntmps131
 go_wp2
 go_quiet ((go_at_call 157;exact Calls.quiet_of (HCUT.out _)))
 have HR2:Hid (BqAt w0 A ((w.alloc (.cells #[.int .i64 0,.int .i64 0] 163)).drewN nq) R s fl i g d):=Lib.hid (HR1.out.later (drewN_below (Below.refl _ _) nq))
 have HB2:Hid (Below w.heap.size w ((w.alloc (.cells #[.int .i64 0,.int .i64 0] 163)).drewN nq)):=Lib.hid (drewN_below HB1.out nq)
 have Z2:Hid (((w.alloc (.cells #[.int .i64 0,.int .i64 0] 163)).drewN nq).heap[w.heap.size]? = some (.cells #[.int .i64 0,.int .i64 0] 163)):=Lib.hid Z1.out
 have hs2:w.heap.size < ((w.alloc (.cells #[.int .i64 0,.int .i64 0] 163)).drewN nq).heap.size:=hs1
 clear c0 c1 c2 HR1 HCUT Z1 HB1 hs1 hn1
 have hs3:=hs2
 generalize World.drewN _ nq=W at *
 go_wp2_with fail
 refine (HCN.out _ HR2.out.now).mono ?_
 rintro e w5 ⟨rfl,hb5⟩
 have hb6:Below W.heap.size W (w5.alloc (.cells #[.int .i64 0,.int .i64 0] 163)):=hb5.alloc hb5.size _
 have HR6:=Lib.hid (HR2.out.later hb6)
 have Z6:=Lib.hid (keep_blk hb6 Z2.out)
 have HB6:=Lib.hid (HB2.out.trans (hb6.mono HB2.out.size))
 have hs6:w.heap.size < (w5.alloc (.cells #[.int .i64 0,.int .i64 0] 163)).heap.size:=Nat.lt_of_lt_of_le hs3 hb6.size
 have Y6:=Lib.hid (heap_alloc_new w5 (.cells #[.int .i64 0,.int .i64 0] 163))
 have hg6:w5.heap.size ≠ w.heap.size:=by have:=hb5.size;omega
 have hg6R:w5.heap.size ≠ R:=by have:=hb5.size;have:=HR2.out.lt;omega
 clear hb5 hb6 HR2 Z2 HB2 hs3 hs2 HCN
 unfold cntsV
 have hs3:=hs6
 have ce:(w5.alloc (.cells #[.int .i64 0,.int .i64 0] 163)).cell? ⟨3,0,none⟩=some (.iface 232 (.pointer (some (A 3)))):=(HR6.out.now.errs 3 (by omega)).1
 go_wp2_with fail
 refine (bqfails_any w0 A 3 (by omega) _ R s fl _ g d HR6.out).mono ?_
 intro e w4 he4
 obtain ⟨v,rfl,hv,ht⟩:=he4.err rfl
 have HG:=Lib.hid (BqEnd.gave (w:=w) (fl:=fl) (s:=s) (d:=d) hv (Nat.le_of_lt hs3) ((Touch.of_below [R] HB6.out).trans ht))
 clear ht hv he4
 go_wp2
 exact ⟨rfl,HG.out⟩
theorem bqbraced_ok (w0:World) (A:Nat→Addr) (w:World) (R:Nat) (s:ByteArray) (hs:s.size ≤ 4294967280) (fl:Int) (i g d:Nat) (hR:BqAt w0 A w R s fl i g d) (hi:i+1 < s.size) (m:Nat) (hf:Bp.close (bt s) (s.size - (i+2)) (i+2)=some (i+2+m)) (a b:Int) (hn:Ep.counts (bt s) (i+2) (i+2+m)=some (a,b)) :
   Calls Tryz.prog 131 #[.pointer (some ⟨R,0,none⟩)] w (BqTm A R s fl i g d (some (a,b,i+2+m+2)) 0 w):=by
 have hlt:=hR.lt
 have hb0:Below w.heap.size w (w.alloc (.cells #[.int .i64 0,.int .i64 0] 163)):=(Below.refl _ _).alloc (Nat.le_refl _) _
 have HR1:=Lib.hid (hR.later hb0)
 have Z1:=Lib.hid (heap_alloc_new w (.cells #[.int .i64 0,.int .i64 0] 163))
 have HB1:=Lib.hid hb0
 have hs1:w.heap.size < (w.alloc (.cells #[.int .i64 0,.int .i64 0] 163)).heap.size:=by simp
 have hRw:R ≠ w.heap.size:=by omega
 obtain ⟨-,-,hf3,-⟩:=Bp.close_some hf
 have hm:=Bp.two_lt (bt_txt s) hf3 (by omega) (by omega)
 have hzx:(s.extract (i+2) (i+2+m)).size=m:=by simp;omega
 have HCN:Hid (∀ w,BrEnv w A→Calls Tryz.prog 158 #[.string (s.extract (i+2) (i+2+m))] w fun e w'=>e=.returned (cntsV (some (a,b)))∧Below w.heap.size w w'):=Lib.hid (fun w hE=>erecounts_any A (s.extract (i+2) (i+2+m)) (by omega) _ ((counts_mid s (i+2) (i+2+m) (by omega) (by omega)).trans hn) w hE)
 have hlt2:i+2+m+1 < s.size:=hm
 have hcut0:=fun w hE=>cut2_some (A:=A) s hs (i+2) m hf w hE
 generalize (s.extract (i+2) s.size).extract (m+2) (s.extract (i+2) s.size).size=tb at *
 clear hf3 hn hm hf
 generalize s.extract (i+2) (i+2+m)=ta at *
 subst hzx
 have hz:(s.extract (i+2) s.size).size=s.size - (i+2):=by simp
 have hcut:=fun n=>hcut0 _ (HR1.out.now.below (drewN_below (Below.refl _ _) n))
 obtain ⟨c0,c1,c2,-,-⟩:=bq5 HR1.out.cell
 have hw:IntKind.i64.wrap ((i:Int)+2)=(i:Int)+2:=IntWalk.i64_in _ (by omega)
 have h1:(0:Int) ≤ (i:Int)+2:=by omega
 have h2:(i:Int)+2 ≤ s.size:=by omega
 have h3:((i:Int)+2).toNat=i+2:=by omega
 have HCUT:=Lib.hid hcut
 have hn1:=hs1
 clear hcut hR hz hb0 hcut0
 go_enter Tryz.func131,Tryz.ntmps131
 go_wp2
 go_quiet ((go_at_call 157;exact Calls.quiet_of (HCUT.out _)))
 have HR2:Hid (BqAt w0 A ((w.alloc (.cells #[.int .i64 0,.int .i64 0] 163)).drewN nq) R s fl i g d):=Lib.hid (HR1.out.later (drewN_below (Below.refl _ _) nq))
 have HB2:Hid (Below w.heap.size w ((w.alloc (.cells #[.int .i64 0,.int .i64 0] 163)).drewN nq)):=Lib.hid (drewN_below HB1.out nq)
 have Z2:Hid (((w.alloc (.cells #[.int .i64 0,.int .i64 0] 163)).drewN nq).heap[w.heap.size]? = some (.cells #[.int .i64 0,.int .i64 0] 163)):=Lib.hid Z1.out
 have hs2:w.heap.size < ((w.alloc (.cells #[.int .i64 0,.int .i64 0] 163)).drewN nq).heap.size:=hs1
 clear c0 c1 c2 HR1 HCUT Z1 HB1 hs1 hn1
 have hs3:=hs2
 generalize World.drewN _ nq=W at *
 go_wp2_with fail
 refine (HCN.out _ HR2.out.now).mono ?_
 rintro e w5 ⟨rfl,hb5⟩
 have hb6:Below W.heap.size W (w5.alloc (.cells #[.int .i64 a,.int .i64 b] 163)):=hb5.alloc hb5.size _
 have HR6:=Lib.hid (HR2.out.later hb6)
 have Z6:=Lib.hid (keep_blk hb6 Z2.out)
 have HB6:=Lib.hid (HB2.out.trans (hb6.mono HB2.out.size))
 have hs6:w.heap.size < (w5.alloc (.cells #[.int .i64 a,.int .i64 b] 163)).heap.size:=Nat.lt_of_lt_of_le hs3 hb6.size
 have Y6:=Lib.hid (heap_alloc_new w5 (.cells #[.int .i64 a,.int .i64 b] 163))
 have hg6:w5.heap.size ≠ w.heap.size:=by have:=hb5.size;omega
 have hg6R:w5.heap.size ≠ R:=by have:=hb5.size;have:=HR2.out.lt;omega
 clear hb5 hb6 HR2 Z2 HB2 hs3 hs2 HCN
 unfold cntsV
 obtain ⟨-,-,c2,-,-⟩:=bq5 HR6.out.cell
 obtain ⟨f2,-,-⟩:=bqf HR6.out.cell
 have hwa:IntKind.i64.wrap (2+(ta.size:Int))=2+(ta.size:Int):=IntWalk.i64_in _ (by omega)
 have hwb:IntKind.i64.wrap (2+(ta.size:Int)+2)=2+(ta.size:Int)+2:=IntWalk.i64_in _ (by omega)
 have hwc:IntKind.i64.wrap ((i:Int)+(2+(ta.size:Int)+2))=(i:Int)+(2+(ta.size:Int)+2):=IntWalk.i64_in _ (by omega)
 have HP:=Lib.hid (bq_place HR6.out.cell (i+2+ta.size+2) (v:=(i:Int)+(2+(ta.size:Int)+2)) (by omega))
 have HT:=Lib.hid ((Touch.of_below [R] HB6.out).setCell List.mem_cons_self 2 (.int .i64 ((i:Int)+(2+(ta.size:Int)+2))))
 have G9:=Lib.hid ((Below.heap_setCell (w5.alloc (.cells #[.int .i64 a,.int .i64 b] 163)) ⟨R,2,none⟩ (.int .i64 ((i:Int)+(2+(ta.size:Int)+2))) w5.heap.size hg6R).trans Y6.out)
 have Z9:=Lib.hid ((Below.heap_setCell (w5.alloc (.cells #[.int .i64 a,.int .i64 b] 163)) ⟨R,2,none⟩ (.int .i64 ((i:Int)+(2+(ta.size:Int)+2))) w.heap.size (Ne.symm hRw)).trans Z6.out)
 clear HR6 HB6 Z6 Y6
 go_upto_region 7 with (fail)
 generalize World.alloc w5 _=W5 at *
 go_wp2_with (first
   | (refine wpList_load_row rfl 163 (.tmp 6) rfl w5.heap.size rfl 163 _ (0,0) _ G9.out Tryz.underlying163 rfl (by kernel_rfl) ?_)
   | (refine wpList_store_row rfl 163 (.tmp 2) (.tmp 49) rfl w.heap.size #[.int .i64 a,.int .i64 b] rfl rfl 163 _ Z9.out (by kernel_rfl) rfl two_one ?_)
   | fail)
 exact bodyPost_ret (results_cell_row rfl _ _ w.heap.size 163 #[.int .i64 a,.int .i64 b] (0,0) _ rfl (heap_setRow Z9.out) Tryz.underlying163 rfl (by kernel_rfl)) rfl ⟨⟨rfl,(heap_setRow_other _ _ _ hRw).trans HP.out⟩,HT.out.setRow_new (Nat.le_refl _) _⟩
end Go.Proofs.YtfcilopifjddpaaGreatDoor
namespace Go.Proofs.YtfcilopifjddpaaGreatDoor
open Go.RowKit
def BqB (A:Nat→Addr) (R:Nat) (s:ByteArray) (fl:Int) (d:Nat) (O:Ep.Out) (B:Nat) (w:World) (e:Ending) (w':World):Prop :=
 (match O with
 | .ok t j g=>∃ v F,e=.returned (.agg (t.cells v))∧Owned w' v t.subs F∧(∀ b,b ∈ F→B ≤ b)∧w'.heap[R]? = some (.cells (rdC s fl j g d) 53)
 | .err c p=>Gave A B w' e c p)∧Touch [R] w w'
theorem BqB.ok {A:Nat→Addr} {R:Nat} {s:ByteArray} {fl:Int} {d B:Nat} {O:Ep.Out} {w:World} {e:Ending} {w':World} (h:BqB A R s fl d O B w e w') {t:Tr} {j g:Nat} (hO:O=.ok t j g) :
   ∃ v F,e=.returned (.agg (t.cells v))∧Owned w' v t.subs F∧(∀ b,b ∈ F→B ≤ b)∧w'.heap[R]? = some (.cells (rdC s fl j g d) 53)∧Touch [R] w w':=by
 subst hO;obtain ⟨⟨v,F,h1,h2,h3,h4⟩,h5⟩:=h;exact ⟨v,F,h1,h2,h3,h4,h5⟩
theorem BqB.err {A:Nat→Addr} {R:Nat} {s:ByteArray} {fl:Int} {d B:Nat} {O:Ep.Out} {w:World} {e:Ending} {w':World} (h:BqB A R s fl d O B w e w') {c:Nat} {p:Int} (hO:O=.err c p) :
   ∃ v,e=.panicked [{ v:=.iface 93 (.agg #[v]),recovered:=false }]∧ErrOne A B w' v c p∧Touch [R] w w':=by
 subst hO;obtain ⟨⟨v,h1,h2⟩,h5⟩:=h;exact ⟨v,h1,h2,h5⟩
theorem BqB.gave {A:Nat→Addr} {R:Nat} {s:ByteArray} {fl:Int} {d B B':Nat} {w w':World} {v:Value} {c:Nat} {p:Int} (hv:ErrOne A B' w' v c p) (hw:B ≤ B') (ht:Touch [R] w w') :
   BqB A R s fl d (.err c p) B w (.panicked [{ v:=.iface 93 (.agg #[v]),recovered:=false }]) w':=⟨⟨v,rfl,hv.down hw⟩,ht⟩
theorem bq_three (w:World) (x y z:Obj):(((w.alloc x).alloc y).alloc z).heap[w.heap.size]? = some x∧(((w.alloc x).alloc y).alloc z).heap[w.heap.size+1]? = some y∧(((w.alloc x).alloc y).alloc z).heap[w.heap.size+2]? = some z :=
 ⟨heap_alloc_lt (heap_alloc_lt (heap_alloc_new w x)),heap_alloc_lt (by have:=heap_alloc_new (w.alloc x) y;simpa using this),by have:=heap_alloc_new ((w.alloc x).alloc y) z;simpa using this⟩
theorem BqAt.setRow {w0:World} {A:Nat→Addr} {w:World} {R:Nat} {s:ByteArray} {fl:Int} {i g d:Nat} (h:BqAt w0 A w R s fl i g d) {k:Nat} (hk:R < k) (cs:Array Value):BqAt w0 A (w.setRow k cs) R s fl i g d :=
 ⟨h.env,h.old,below_setRow h.bel (by have:=h.old;omega) cs,(heap_setRow_other _ _ _ (by omega)).trans h.cell⟩
theorem two_cells {w:World} {b:Nat} {x0 x1:Value} {t:TypeId} (h:w.heap[b]? = some (.cells #[x0,x1] t)):w.cell? ⟨b,0,none⟩=some x0∧w.cell? ⟨b,1,none⟩=some x1:=by
 simp [World.cell?,h]
theorem bqrepeated_no (w0:World) (A:Nat→Addr) (w:World) (R:Nat) (s:ByteArray) (hs:s.size ≤ 4294967280) (fl:Int) (i g d:Nat) (hR:BqAt w0 A w R s fl i g d) (hi:i ≤ s.size) (t:Tr) (v:Value) (F:List Nat) (B:Nat) (ho:Owned w v t.subs F) (hF:∀ b,b ∈ F→B ≤ b) (_hRB:R < B) (_hB:B ≤ w.heap.size) (hm1:(bt s i == (42:UInt8).toNat)=false) (hm2:Bp.two (bt s) (92:UInt8).toNat (123:UInt8).toNat i=false) :
   Calls Tryz.prog 94 #[.pointer (some ⟨R,0,none⟩),.agg (t.cells v)] w (BqB A R s fl d (.ok t i g) B w):=by
 have hlt:=hR.lt
 obtain ⟨p,c,rfl,hl⟩:=ho.slice
 have hb0:Below w.heap.size w (((w.alloc (.cells (t.cells (.slice p t.subs.length c)) 28)).alloc (.cells noNode 28)).alloc (.cells #[.int .i64 0,.int .i64 0] 163)):=by go_grown
 have hR2:=hR.later (w':=(w.alloc (.cells (t.cells (.slice p t.subs.length c)) 28)).alloc (.cells noNode 28)) (by go_grown)
 have HR1:=Lib.hid (hR.later hb0)
 have hthree:=bq_three w (.cells (t.cells (.slice p t.subs.length c)) 28) (.cells noNode 28) (.cells #[.int .i64 0,.int .i64 0] 163)
 have Z0:=Lib.hid hthree.1;have Z1:=Lib.hid hthree.2.1;have ZB:=Lib.hid hthree.2.2
 have HB1:=Lib.hid hb0
 have HO1:=Lib.hid (ho.later hb0)
 have hs1:(((w.alloc (.cells (t.cells (.slice p t.subs.length c)) 28)).alloc (.cells noNode 28)).alloc (.cells #[.int .i64 0,.int .i64 0] 163)).heap.size=w.heap.size+3:=by simp
 have HF:=Lib.hid hF;have HFL:=Lib.hid ho.lt
 have HPS:Hid (Pre ⟨#[42]⟩ s i false):=Lib.hid (pre_one s i 42 false hm1)
 obtain ⟨-,-,c2,-,-⟩:=bq5 hR2.cell
 unfold Tr.cells at *
 clear hR hb0 ho hF hthree hR2 hm1
 go_enter Tryz.func94,Tryz.ntmps94
 go_wp2_with fail
 clear c2
 generalize World.alloc (World.alloc (World.alloc _ _) _) _=W at *
 refine (bqtakes_no ⟨#[42]⟩ w0 A W R s hs fl i g d HR1.out hi HPS.out).mono ?_
 rintro e w1 ⟨rfl,n,rfl⟩
 have hbn:Below W.heap.size W (W.drewN n):=drewN_below (Below.refl _ _) n
 have HR2:=Lib.hid (HR1.out.later hbn)
 have Y0:Hid ((W.drewN n).heap[w.heap.size]? = some (.cells #[.int .i64 (t).kind,.int .u64 (Oc.U (t).w0),.int .u64 (Oc.U (t).w1),.int .u64 (Oc.U (t).w2),.int .u64 (Oc.U (t).w3),.slice p t.subs.length c,.int .i64 (t).num,.int .i64 (t).least,.int .i64 (t).most,.bool (t).bare] 28)):=Lib.hid Z0.out
 have Y1:Hid ((W.drewN n).heap[w.heap.size+1]? = some (.cells noNode 28)):=Lib.hid Z1.out
 have YB:Hid ((W.drewN n).heap[w.heap.size+2]? = some (.cells #[.int .i64 0,.int .i64 0] 163)):=Lib.hid ZB.out
 have HB2:=Lib.hid (HB1.out.trans (hbn.mono HB1.out.size))
 have HO2:=Lib.hid (HO1.out.later hbn)
 have hs2:w.heap.size+2 < (W.drewN n).heap.size:=by show w.heap.size+2 < W.heap.size;omega
 clear hbn HR1 Z0 Z1 ZB HB1 HO1 hs1 HPS
 generalize World.drewN W n=W2 at *
 go_wp2_with fail
 refine (bqstands_any ⟨#[92,123]⟩ false w0 A W2 R s hs fl i g d HR2.out hi (pre_two s i 92 123 false hm2)).mono ?_
 rintro e w1 ⟨rfl,n,rfl⟩
 have hbn:Below W2.heap.size W2 (W2.drewN n):=drewN_below (Below.refl _ _) n
 have HR2:=Lib.hid (HR2.out.later hbn)
 have Y0:Hid ((W2.drewN n).heap[w.heap.size]? = some (.cells #[.int .i64 (t).kind,.int .u64 (Oc.U (t).w0),.int .u64 (Oc.U (t).w1),.int .u64 (Oc.U (t).w2),.int .u64 (Oc.U (t).w3),.slice p t.subs.length c,.int .i64 (t).num,.int .i64 (t).least,.int .i64 (t).most,.bool (t).bare] 28)):=Lib.hid Y0.out
 have Y1:Hid ((W2.drewN n).heap[w.heap.size+1]? = some (.cells noNode 28)):=Lib.hid Y1.out
 have YB:Hid ((W2.drewN n).heap[w.heap.size+2]? = some (.cells #[.int .i64 0,.int .i64 0] 163)):=Lib.hid YB.out
 have HB2:=Lib.hid (HB2.out.trans (hbn.mono HB2.out.size))
 have HO2:=Lib.hid (HO2.out.later hbn)
 have hs2:w.heap.size+2 < (W2.drewN n).heap.size:=hs2
 clear hbn
 generalize World.drewN W2 n=W3 at *
 have HT2:=Lib.hid (Touch.of_below [R] HB2.out)
 go_wp2_with (first
   | (refine wpList_load_row rfl 28 (.tmp 3) rfl w.heap.size rfl 28 _ (0,0) _ Y0.out Tryz.underlying28 rfl (by kernel_rfl) ?_)
   | (refine wpList_store_row rfl 28 (.tmp 4) (.tmp 12) rfl (w.heap.size+1) #[.int .i64 (t).kind,.int .u64 (Oc.U (t).w0),.int .u64 (Oc.U (t).w1),.int .u64 (Oc.U (t).w2),.int .u64 (Oc.U (t).w3),.slice p t.subs.length c,.int .i64 (t).num,.int .i64 (t).least,.int .i64 (t).most,.bool (t).bare] rfl rfl 28 _ Y1.out (by kernel_rfl) rfl (by simp [Value.oneCell']) ?_)
   | fail)
 exact bodyPost_ret (results_cell_row rfl _ _ (w.heap.size+1) 28 #[.int .i64 (t).kind,.int .u64 (Oc.U (t).w0),.int .u64 (Oc.U (t).w1),.int .u64 (Oc.U (t).w2),.int .u64 (Oc.U (t).w3),.slice p t.subs.length c,.int .i64 (t).num,.int .i64 (t).least,.int .i64 (t).most,.bool (t).bare] (0,0) _ rfl (heap_setRow Y1.out) Tryz.underlying28 rfl (by kernel_rfl)) rfl ⟨⟨.slice p t.subs.length c,F,rfl,HO2.out.keep fun b hb=>heap_setRow_other _ _ _ (by have:=HFL.out b hb;omega),HF.out,(heap_setRow_other _ _ _ (by omega)).trans HR2.out.cell⟩,HT2.out.setRow_new (Nat.le_succ _) _⟩
theorem bqrepeated_terr (w0:World) (A:Nat→Addr) (w:World) (R:Nat) (s:ByteArray) (hs:s.size ≤ 4294967280) (fl:Int) (i g d:Nat) (hR:BqAt w0 A w R s fl i g d) (hi:i ≤ s.size) (t:Tr) (v:Value) (F:List Nat) (B:Nat) (ho:Owned w v t.subs F) (hF:∀ b,b ∈ F→B ≤ b) (_hRB:R < B) (hB:B ≤ w.heap.size) (hm1:(bt s i == (42:UInt8).toNat)=false) (hm2:Bp.two (bt s) (92:UInt8).toNat (123:UInt8).toNat i=true) (k:Nat) (HC:∀ w,BqAt w0 A w R s fl i g d→Calls Tryz.prog 131 #[.pointer (some ⟨R,0,none⟩)] w (BqTm A R s fl i g d none k w)) :
   Calls Tryz.prog 94 #[.pointer (some ⟨R,0,none⟩),.agg (t.cells v)] w (BqB A R s fl d (.err k i) B w):=by
 have HC:=Lib.hid HC
 have hlt:=hR.lt
 obtain ⟨p,c,rfl,hl⟩:=ho.slice
 have hb0:Below w.heap.size w (((w.alloc (.cells (t.cells (.slice p t.subs.length c)) 28)).alloc (.cells noNode 28)).alloc (.cells #[.int .i64 0,.int .i64 0] 163)):=by go_grown
 have hR2:=hR.later (w':=(w.alloc (.cells (t.cells (.slice p t.subs.length c)) 28)).alloc (.cells noNode 28)) (by go_grown)
 have HR1:=Lib.hid (hR.later hb0)
 have hthree:=bq_three w (.cells (t.cells (.slice p t.subs.length c)) 28) (.cells noNode 28) (.cells #[.int .i64 0,.int .i64 0] 163)
 have Z0:=Lib.hid hthree.1;have Z1:=Lib.hid hthree.2.1;have ZB:=Lib.hid hthree.2.2
 have HB1:=Lib.hid hb0
 have HO1:=Lib.hid (ho.later hb0)
 have hs1:(((w.alloc (.cells (t.cells (.slice p t.subs.length c)) 28)).alloc (.cells noNode 28)).alloc (.cells #[.int .i64 0,.int .i64 0] 163)).heap.size=w.heap.size+3:=by simp
 have HF:=Lib.hid hF;have HFL:=Lib.hid ho.lt
 have HPS:Hid (Pre ⟨#[42]⟩ s i false):=Lib.hid (pre_one s i 42 false hm1)
 obtain ⟨-,-,c2,-,-⟩:=bq5 hR2.cell
 unfold Tr.cells at *
 clear hR hb0 ho hF hthree hR2 hm1
 go_enter Tryz.func94,Tryz.ntmps94
 go_wp2_with fail
 clear c2
 generalize World.alloc (World.alloc (World.alloc _ _) _) _=W at *
 refine (bqtakes_no ⟨#[42]⟩ w0 A W R s hs fl i g d HR1.out hi HPS.out).mono ?_
 rintro e w1 ⟨rfl,n,rfl⟩
 have hbn:Below W.heap.size W (W.drewN n):=drewN_below (Below.refl _ _) n
 have HR2:=Lib.hid (HR1.out.later hbn)
 have Y0:Hid ((W.drewN n).heap[w.heap.size]? = some (.cells #[.int .i64 (t).kind,.int .u64 (Oc.U (t).w0),.int .u64 (Oc.U (t).w1),.int .u64 (Oc.U (t).w2),.int .u64 (Oc.U (t).w3),.slice p t.subs.length c,.int .i64 (t).num,.int .i64 (t).least,.int .i64 (t).most,.bool (t).bare] 28)):=Lib.hid Z0.out
 have Y1:Hid ((W.drewN n).heap[w.heap.size+1]? = some (.cells noNode 28)):=Lib.hid Z1.out
 have YB:Hid ((W.drewN n).heap[w.heap.size+2]? = some (.cells #[.int .i64 0,.int .i64 0] 163)):=Lib.hid ZB.out
 have HB2:=Lib.hid (HB1.out.trans (hbn.mono HB1.out.size))
 have HO2:=Lib.hid (HO1.out.later hbn)
 have hs2:w.heap.size+2 < (W.drewN n).heap.size:=by show w.heap.size+2 < W.heap.size;omega
 clear hbn HR1 Z0 Z1 ZB HB1 HO1 hs1 HPS
 generalize World.drewN W n=W2 at *
 go_wp2_with fail
 refine (bqstands_any ⟨#[92,123]⟩ true w0 A W2 R s hs fl i g d HR2.out hi (pre_two s i 92 123 true hm2)).mono ?_
 rintro e w1 ⟨rfl,n,rfl⟩
 have hbn:Below W2.heap.size W2 (W2.drewN n):=drewN_below (Below.refl _ _) n
 have HR2:=Lib.hid (HR2.out.later hbn)
 have Y0:Hid ((W2.drewN n).heap[w.heap.size]? = some (.cells #[.int .i64 (t).kind,.int .u64 (Oc.U (t).w0),.int .u64 (Oc.U (t).w1),.int .u64 (Oc.U (t).w2),.int .u64 (Oc.U (t).w3),.slice p t.subs.length c,.int .i64 (t).num,.int .i64 (t).least,.int .i64 (t).most,.bool (t).bare] 28)):=Lib.hid Y0.out
 have Y1:Hid ((W2.drewN n).heap[w.heap.size+1]? = some (.cells noNode 28)):=Lib.hid Y1.out
 have YB:Hid ((W2.drewN n).heap[w.heap.size+2]? = some (.cells #[.int .i64 0,.int .i64 0] 163)):=Lib.hid YB.out
 have HB2:=Lib.hid (HB2.out.trans (hbn.mono HB2.out.size))
 have HO2:=Lib.hid (HO2.out.later hbn)
 have hs2:w.heap.size+2 < (W2.drewN n).heap.size:=hs2
 clear hbn
 generalize World.drewN W2 n=W3 at *
 have HT2:=Lib.hid (Touch.of_below [R] HB2.out)
 go_wp2_with fail
 refine (HC.out _ HR2.out).mono ?_
 intro e w4 he
 obtain ⟨v,rfl,hv,ht3⟩:=he.err rfl
 have HG:=Lib.hid (BqB.gave (R:=R) (B:=B) (fl:=fl) (s:=s) (d:=d) hv (by omega) (HT2.out.trans ht3))
 clear hv ht3 he
 go_wp2
 exact ⟨rfl,HG.out⟩
theorem bqrepeated_star_big (w0:World) (A:Nat→Addr) (w:World) (R:Nat) (s:ByteArray) (hs:s.size ≤ 4294967280) (fl:Int) (i g d:Nat) (hR:BqAt w0 A w R s fl i g d) (_hi:i ≤ s.size) (t:Tr) (v:Value) (F:List Nat) (B:Nat) (ho:Owned w v t.subs F) (hF:∀ b,b ∈ F→B ≤ b) (hRB:R < B) (hB:B ≤ w.heap.size) (hm1:(bt s i == (42:UInt8).toNat)=true) (hin:i+1 ≤ s.size) (T:Tr) (hT:Tr.rep 0 (-1) t=T) (hf:T.InForm) (hbig:2000 < T.szT) :
   Calls Tryz.prog 94 #[.pointer (some ⟨R,0,none⟩),.agg (t.cells v)] w (BqB A R s fl d (.err 10 i) B w):=by
 have hrep:=fun w B v hv=>rep_any t 0 (-1) w B v hv
 rw [hT] at hrep
 have HREP:=Lib.hid hrep
 clear hrep hT
 have hlt:=hR.lt
 obtain ⟨p,c,rfl,hl⟩:=ho.slice
 have hb0:Below w.heap.size w (((w.alloc (.cells (t.cells (.slice p t.subs.length c)) 28)).alloc (.cells noNode 28)).alloc (.cells #[.int .i64 0,.int .i64 0] 163)):=by go_grown
 have hR2:=hR.later (w':=(w.alloc (.cells (t.cells (.slice p t.subs.length c)) 28)).alloc (.cells noNode 28)) (by go_grown)
 have HR1:=Lib.hid (hR.later hb0)
 have hthree:=bq_three w (.cells (t.cells (.slice p t.subs.length c)) 28) (.cells noNode 28) (.cells #[.int .i64 0,.int .i64 0] 163)
 have Z0:=Lib.hid hthree.1;have Z1:=Lib.hid hthree.2.1;have ZB:=Lib.hid hthree.2.2
 have HB1:=Lib.hid hb0
 have HO1:=Lib.hid (ho.later hb0)
 have hs1:(((w.alloc (.cells (t.cells (.slice p t.subs.length c)) 28)).alloc (.cells noNode 28)).alloc (.cells #[.int .i64 0,.int .i64 0] 163)).heap.size=w.heap.size+3:=by simp
 have HF:=Lib.hid hF;have HFL:=Lib.hid ho.lt
 have HPS:Hid (Pre ⟨#[42]⟩ s i true):=Lib.hid (pre_one s i 42 true hm1)
 obtain ⟨-,-,c2,-,-⟩:=bq5 hR2.cell
 unfold Tr.cells at *
 clear hR hb0 ho hF hthree hR2 hm1
 go_enter Tryz.func94,Tryz.ntmps94
 go_wp2_with fail
 clear c2
 generalize World.alloc (World.alloc (World.alloc _ _) _) _=W at *
 refine (bqtakes_yes ⟨#[42]⟩ 1 rfl w0 A W R s hs fl i g d HR1.out hin HPS.out).mono ?_
 rintro e w1 ⟨rfl,hr1,ht1⟩
 have HR2:=Lib.hid (HR1.out.next ht1 hr1)
 have hsR:R < w.heap.size:=hlt
 have Y0:=Lib.hid ((ht1.block w.heap.size (by omega) (by simp;omega)).trans Z0.out)
 have Y1:=Lib.hid ((ht1.block (w.heap.size+1) (by omega) (by simp;omega)).trans Z1.out)
 have YB:=Lib.hid ((ht1.block (w.heap.size+2) (by omega) (by simp;omega)).trans ZB.out)
 have HT2:=Lib.hid ((Touch.of_below [R] HB1.out).trans ht1)
 have HO2:=Lib.hid (HO1.out.touch HF.out hRB ht1)
 have hs2:w.heap.size+2 < w1.heap.size:=by have:=ht1.size;omega
 clear hr1 ht1 HR1 Z0 Z1 ZB HB1 HO1 hs1 HPS
 go_upto_region 8 with (first
   | (refine wpList_store_row rfl 163 (.tmp 6) (.tmp 16) rfl (w.heap.size+2) #[.int .i64 0,.int .i64 (-1)] rfl rfl 163 _ YB.out (by kernel_rfl) rfl (by simp [Value.oneCell']) ?_)
   | fail)
 have V0:=Lib.hid ((heap_setRow_other w1 (w.heap.size+2) #[.int .i64 0,.int .i64 (-1)] (k:=w.heap.size) (by omega)).trans Y0.out)
 have V1:=Lib.hid ((heap_setRow_other w1 (w.heap.size+2) #[.int .i64 0,.int .i64 (-1)] (k:=w.heap.size+1) (by omega)).trans Y1.out)
 have VB:=heap_setRow (cs:=#[.int .i64 0,.int .i64 (-1)]) YB.out
 have HT3:=Lib.hid (HT2.out.setRow_new (g:=w.heap.size+2) (by omega) #[.int .i64 0,.int .i64 (-1)])
 have HO3:=Lib.hid (HO2.out.keep (w':=w1.setRow (w.heap.size+2) #[.int .i64 0,.int .i64 (-1)]) fun b hb=>heap_setRow_other _ _ _ (by have:=HFL.out b hb;omega))
 have HE3:=Lib.hid (HR2.out.setRow (k:=w.heap.size+2) (by omega) #[.int .i64 0,.int .i64 (-1)])
 have hs3:w.heap.size+2 < (w1.setRow (w.heap.size+2) #[.int .i64 0,.int .i64 (-1)]).heap.size:=by simpa using hs2
 clear Y0 Y1 YB HT2 HO2 HR2 hs2
 generalize World.setRow w1 _ _=w3 at *
 obtain ⟨b0,b1⟩:=two_cells VB
 clear VB
 go_wp2_with (first
   | (refine wpList_load_row rfl 28 (.tmp 3) rfl w.heap.size rfl 28 _ (0,0) _ V0.out Tryz.underlying28 rfl (by kernel_rfl) ?_)
   | fail)
 refine (HREP.out _ (fun b=>b ∈ F) _ ⟨_,rfl,HO3.out.trees⟩).mono ?_
 rintro e w4 ⟨s4,F4,rfl,ho4,hF4,hb4⟩
 obtain ⟨p4,c4,rfl,hl4⟩:=ho4.slice
 have hbB:Below w4.heap.size w4 (w4.alloc (.cells (T.cells (.slice p4 T.subs.length c4)) 28)):=(Below.refl _ _).alloc (Nat.le_refl _) _
 have U1:=Lib.hid (keep_blk hbB (keep_blk hb4 V1.out))
 have HT4:=Lib.hid ((HT3.out.later hb4).later hbB)
 have HO4:=Lib.hid (ho4.later hbB)
 have U9:=Lib.hid (heap_alloc_new w4 (.cells (T.cells (.slice p4 T.subs.length c4)) 28))
 have hs4:w.heap.size+2 < (w4.alloc (.cells (T.cells (.slice p4 T.subs.length c4)) 28)).heap.size:=Nat.lt_of_lt_of_le hs3 (Nat.le_trans hb4.size hbB.size)
 have HE4:=Lib.hid ((HE3.out.later hb4).later hbB)
 have HF4:Hid (∀ b,b ∈ F4→w.heap.size+2 < b):=Lib.hid fun b hb=>Nat.lt_of_lt_of_le hs3 (hF4 b hb)
 clear ho4 hF4 hb4 hbB V0 V1 HT3 HO3 HE3 hs3 b0 b1
 have hle:=Tr.szT_le T
 have HSZ:=Lib.hid (treeSize_any T hf _ (fun b=>b ∈ F4) _ ⟨_,rfl,HO4.out.trees⟩)
 have hd:decide ((2000:Int) < T.szT)=true:=by simp;omega
 have hd':decide (2000 < T.szT)=true:=by simp;omega
 generalize T.szT=N at *
 clear hf hbig hle
 unfold Tr.cells at *
 go_wp2_with (first
   | (refine wpList_load_row rfl 28 (.tmp 7) rfl w4.heap.size rfl 28 _ (0,0) _ U9.out Tryz.underlying28 rfl (by kernel_rfl) ?_)
   | fail)
 refine HSZ.out.mono ?_
 rintro e w5 ⟨rfl,hb5⟩
 have X1:=Lib.hid (keep_blk hb5 U1.out)
 have X9:=Lib.hid (keep_blk hb5 U9.out)
 have HT5:=Lib.hid (HT4.out.later hb5)
 have HO5:=Lib.hid (HO4.out.later hb5)
 have HE5:=Lib.hid (HE4.out.later hb5)
 have hs5:w.heap.size+2 < w5.heap.size:=Nat.lt_of_lt_of_le hs4 hb5.size
 clear hb5 U1 U9 HT4 HO4 HE4 hs4 HSZ
 have ce:w5.cell? ⟨9,0,none⟩=some (.iface 232 (.pointer (some (A 9)))):=(HE5.out.now.errs 9 (by omega)).1
 go_wp2_with fail
 refine (at_err A 9 (by omega) i _).mono ?_
 rintro e w6 ⟨v6,rfl,hv6,hb6⟩
 obtain ⟨q6,rfl⟩:=hv6.iface
 have HG:=Lib.hid (BqB.gave (R:=R) (B:=B) (fl:=fl) (s:=s) (d:=d) hv6 (by omega) (HT5.out.later hb6))
 clear hb6 hv6 ce
 go_wp2_with fail
 refine (giveup_any q6 _).mono ?_
 rintro e w8 ⟨rfl,rfl⟩
 go_wp2
 exact ⟨rfl,HG.out⟩
theorem bqrepeated_star_ok (w0:World) (A:Nat→Addr) (w:World) (R:Nat) (s:ByteArray) (hs:s.size ≤ 4294967280) (fl:Int) (i g d:Nat) (hR:BqAt w0 A w R s fl i g d) (_hi:i ≤ s.size) (t:Tr) (v:Value) (F:List Nat) (B:Nat) (ho:Owned w v t.subs F) (hF:∀ b,b ∈ F→B ≤ b) (hRB:R < B) (hB:B ≤ w.heap.size) (hm1:(bt s i == (42:UInt8).toNat)=true) (hin:i+1 ≤ s.size) (T:Tr) (hT:Tr.rep 0 (-1) t=T) (hf:T.InForm) (hbig:T.szT ≤ 2000) :
   Calls Tryz.prog 94 #[.pointer (some ⟨R,0,none⟩),.agg (t.cells v)] w (BqB A R s fl d (.ok T (i+1) g) B w):=by
 have hrep:=fun w B v hv=>rep_any t 0 (-1) w B v hv
 rw [hT] at hrep
 have HREP:=Lib.hid hrep
 clear hrep hT
 have hlt:=hR.lt
 obtain ⟨p,c,rfl,hl⟩:=ho.slice
 have hb0:Below w.heap.size w (((w.alloc (.cells (t.cells (.slice p t.subs.length c)) 28)).alloc (.cells noNode 28)).alloc (.cells #[.int .i64 0,.int .i64 0] 163)):=by go_grown
 have hR2:=hR.later (w':=(w.alloc (.cells (t.cells (.slice p t.subs.length c)) 28)).alloc (.cells noNode 28)) (by go_grown)
 have HR1:=Lib.hid (hR.later hb0)
 have hthree:=bq_three w (.cells (t.cells (.slice p t.subs.length c)) 28) (.cells noNode 28) (.cells #[.int .i64 0,.int .i64 0] 163)
 have Z0:=Lib.hid hthree.1;have Z1:=Lib.hid hthree.2.1;have ZB:=Lib.hid hthree.2.2
 have HB1:=Lib.hid hb0
 have HO1:=Lib.hid (ho.later hb0)
 have hs1:(((w.alloc (.cells (t.cells (.slice p t.subs.length c)) 28)).alloc (.cells noNode 28)).alloc (.cells #[.int .i64 0,.int .i64 0] 163)).heap.size=w.heap.size+3:=by simp
 have HF:=Lib.hid hF;have HFL:=Lib.hid ho.lt
 have HPS:Hid (Pre ⟨#[42]⟩ s i true):=Lib.hid (pre_one s i 42 true hm1)
 obtain ⟨-,-,c2,-,-⟩:=bq5 hR2.cell
 unfold Tr.cells at *
 clear hR hb0 ho hF hthree hR2 hm1
 go_enter Tryz.func94,Tryz.ntmps94
 go_wp2_with fail
 clear c2
 generalize World.alloc (World.alloc (World.alloc _ _) _) _=W at *
 refine (bqtakes_yes ⟨#[42]⟩ 1 rfl w0 A W R s hs fl i g d HR1.out hin HPS.out).mono ?_
 rintro e w1 ⟨rfl,hr1,ht1⟩
 have HR2:=Lib.hid (HR1.out.next ht1 hr1)
 have hsR:R < w.heap.size:=hlt
 have Y0:=Lib.hid ((ht1.block w.heap.size (by omega) (by simp;omega)).trans Z0.out)
 have Y1:=Lib.hid ((ht1.block (w.heap.size+1) (by omega) (by simp;omega)).trans Z1.out)
 have YB:=Lib.hid ((ht1.block (w.heap.size+2) (by omega) (by simp;omega)).trans ZB.out)
 have HT2:=Lib.hid ((Touch.of_below [R] HB1.out).trans ht1)
 have HO2:=Lib.hid (HO1.out.touch HF.out hRB ht1)
 have hs2:w.heap.size+2 < w1.heap.size:=by have:=ht1.size;omega
 clear hr1 ht1 HR1 Z0 Z1 ZB HB1 HO1 hs1 HPS
 go_upto_region 8 with (first
   | (refine wpList_store_row rfl 163 (.tmp 6) (.tmp 16) rfl (w.heap.size+2) #[.int .i64 0,.int .i64 (-1)] rfl rfl 163 _ YB.out (by kernel_rfl) rfl (by simp [Value.oneCell']) ?_)
   | fail)
 have V0:=Lib.hid ((heap_setRow_other w1 (w.heap.size+2) #[.int .i64 0,.int .i64 (-1)] (k:=w.heap.size) (by omega)).trans Y0.out)
 have V1:=Lib.hid ((heap_setRow_other w1 (w.heap.size+2) #[.int .i64 0,.int .i64 (-1)] (k:=w.heap.size+1) (by omega)).trans Y1.out)
 have VB:=heap_setRow (cs:=#[.int .i64 0,.int .i64 (-1)]) YB.out
 have HT3:=Lib.hid (HT2.out.setRow_new (g:=w.heap.size+2) (by omega) #[.int .i64 0,.int .i64 (-1)])
 have HO3:=Lib.hid (HO2.out.keep (w':=w1.setRow (w.heap.size+2) #[.int .i64 0,.int .i64 (-1)]) fun b hb=>heap_setRow_other _ _ _ (by have:=HFL.out b hb;omega))
 have HE3:=Lib.hid (HR2.out.setRow (k:=w.heap.size+2) (by omega) #[.int .i64 0,.int .i64 (-1)])
 have hs3:w.heap.size+2 < (w1.setRow (w.heap.size+2) #[.int .i64 0,.int .i64 (-1)]).heap.size:=by simpa using hs2
 clear Y0 Y1 YB HT2 HO2 HR2 hs2
 generalize World.setRow w1 _ _=w3 at *
 obtain ⟨b0,b1⟩:=two_cells VB
 clear VB
 go_wp2_with (first
   | (refine wpList_load_row rfl 28 (.tmp 3) rfl w.heap.size rfl 28 _ (0,0) _ V0.out Tryz.underlying28 rfl (by kernel_rfl) ?_)
   | fail)
 refine (HREP.out _ (fun b=>b ∈ F) _ ⟨_,rfl,HO3.out.trees⟩).mono ?_
 rintro e w4 ⟨s4,F4,rfl,ho4,hF4,hb4⟩
 obtain ⟨p4,c4,rfl,hl4⟩:=ho4.slice
 have hbB:Below w4.heap.size w4 (w4.alloc (.cells (T.cells (.slice p4 T.subs.length c4)) 28)):=(Below.refl _ _).alloc (Nat.le_refl _) _
 have U1:=Lib.hid (keep_blk hbB (keep_blk hb4 V1.out))
 have HT4:=Lib.hid ((HT3.out.later hb4).later hbB)
 have HO4:=Lib.hid (ho4.later hbB)
 have U9:=Lib.hid (heap_alloc_new w4 (.cells (T.cells (.slice p4 T.subs.length c4)) 28))
 have hs4:w.heap.size+2 < (w4.alloc (.cells (T.cells (.slice p4 T.subs.length c4)) 28)).heap.size:=Nat.lt_of_lt_of_le hs3 (Nat.le_trans hb4.size hbB.size)
 have HE4:=Lib.hid ((HE3.out.later hb4).later hbB)
 have HF4:Hid (∀ b,b ∈ F4→w.heap.size+2 < b):=Lib.hid fun b hb=>Nat.lt_of_lt_of_le hs3 (hF4 b hb)
 clear ho4 hF4 hb4 hbB V0 V1 HT3 HO3 HE3 hs3 b0 b1
 have hle:=Tr.szT_le T
 have HSZ:=Lib.hid (treeSize_any T hf _ (fun b=>b ∈ F4) _ ⟨_,rfl,HO4.out.trees⟩)
 have hd:decide ((2000:Int) < T.szT)=false:=by simp;omega
 have hd':decide (2000 < T.szT)=false:=by simp;omega
 generalize T.szT=N at *
 clear hf hbig hle
 unfold Tr.cells at *
 go_wp2_with (first
   | (refine wpList_load_row rfl 28 (.tmp 7) rfl w4.heap.size rfl 28 _ (0,0) _ U9.out Tryz.underlying28 rfl (by kernel_rfl) ?_)
   | fail)
 refine HSZ.out.mono ?_
 rintro e w5 ⟨rfl,hb5⟩
 have X1:=Lib.hid (keep_blk hb5 U1.out)
 have X9:=Lib.hid (keep_blk hb5 U9.out)
 have HT5:=Lib.hid (HT4.out.later hb5)
 have HO5:=Lib.hid (HO4.out.later hb5)
 have HE5:=Lib.hid (HE4.out.later hb5)
 have hs5:w.heap.size+2 < w5.heap.size:=Nat.lt_of_lt_of_le hs4 hb5.size
 clear hb5 U1 U9 HT4 HO4 HE4 hs4 HSZ
 go_wp2_with (first
   | (refine wpList_load_row rfl 28 (.tmp 7) rfl w4.heap.size rfl 28 _ (0,0) _ X9.out Tryz.underlying28 rfl (by kernel_rfl) ?_)
   | (refine wpList_store_row rfl 28 (.tmp 4) (.tmp 35) rfl (w.heap.size+1) #[.int .i64 (T).kind,.int .u64 (Oc.U (T).w0),.int .u64 (Oc.U (T).w1),.int .u64 (Oc.U (T).w2),.int .u64 (Oc.U (T).w3),.slice p4 T.subs.length c4,.int .i64 (T).num,.int .i64 (T).least,.int .i64 (T).most,.bool (T).bare] rfl rfl 28 _ X1.out (by kernel_rfl) rfl (by simp [Value.oneCell']) ?_)
   | fail)
 exact bodyPost_ret (results_cell_row rfl _ _ (w.heap.size+1) 28 #[.int .i64 (T).kind,.int .u64 (Oc.U (T).w0),.int .u64 (Oc.U (T).w1),.int .u64 (Oc.U (T).w2),.int .u64 (Oc.U (T).w3),.slice p4 T.subs.length c4,.int .i64 (T).num,.int .i64 (T).least,.int .i64 (T).most,.bool (T).bare] (0,0) _ rfl (heap_setRow X1.out) Tryz.underlying28 rfl (by kernel_rfl)) rfl ⟨⟨.slice p4 T.subs.length c4,F4,rfl,HO5.out.keep fun b hb=>heap_setRow_other _ _ _ (by have:=HF4.out b hb;omega),fun b hb=>by have:=HF4.out b hb;omega,(heap_setRow_other _ _ _ (by omega)).trans HE5.out.cell⟩,HT5.out.setRow_new (Nat.le_succ _) _⟩
theorem bqrepeated_braced_big (w0:World) (A:Nat→Addr) (w:World) (R:Nat) (s:ByteArray) (hs:s.size ≤ 4294967280) (fl:Int) (i g d:Nat) (hR:BqAt w0 A w R s fl i g d) (hi:i ≤ s.size) (t:Tr) (v:Value) (F:List Nat) (B:Nat) (ho:Owned w v t.subs F) (hF:∀ b,b ∈ F→B ≤ b) (hRB:R < B) (hB:B ≤ w.heap.size) (hm1:(bt s i == (42:UInt8).toNat)=false) (hm2:Bp.two (bt s) (92:UInt8).toNat (123:UInt8).toNat i=true) (a b:Int) (j k:Nat) (HC:∀ w,BqAt w0 A w R s fl i g d→Calls Tryz.prog 131 #[.pointer (some ⟨R,0,none⟩)] w (BqTm A R s fl i g d (some (a,b,j)) k w)) (T:Tr) (hT:Tr.rep a b t=T) (hf:T.InForm) (hbig:2000 < T.szT) :
   Calls Tryz.prog 94 #[.pointer (some ⟨R,0,none⟩),.agg (t.cells v)] w (BqB A R s fl d (.err 10 i) B w):=by
 have HC:=Lib.hid HC
 have hrep:=fun w B v hv=>rep_any t a b w B v hv
 rw [hT] at hrep
 have HREP:=Lib.hid hrep
 clear hrep hT
 have hlt:=hR.lt
 obtain ⟨p,c,rfl,hl⟩:=ho.slice
 have hb0:Below w.heap.size w (((w.alloc (.cells (t.cells (.slice p t.subs.length c)) 28)).alloc (.cells noNode 28)).alloc (.cells #[.int .i64 0,.int .i64 0] 163)):=by go_grown
 have hR2:=hR.later (w':=(w.alloc (.cells (t.cells (.slice p t.subs.length c)) 28)).alloc (.cells noNode 28)) (by go_grown)
 have HR1:=Lib.hid (hR.later hb0)
 have hthree:=bq_three w (.cells (t.cells (.slice p t.subs.length c)) 28) (.cells noNode 28) (.cells #[.int .i64 0,.int .i64 0] 163)
 have Z0:=Lib.hid hthree.1;have Z1:=Lib.hid hthree.2.1;have ZB:=Lib.hid hthree.2.2
 have HB1:=Lib.hid hb0
 have HO1:=Lib.hid (ho.later hb0)
 have hs1:(((w.alloc (.cells (t.cells (.slice p t.subs.length c)) 28)).alloc (.cells noNode 28)).alloc (.cells #[.int .i64 0,.int .i64 0] 163)).heap.size=w.heap.size+3:=by simp
 have HF:=Lib.hid hF;have HFL:=Lib.hid ho.lt
 have HPS:Hid (Pre ⟨#[42]⟩ s i false):=Lib.hid (pre_one s i 42 false hm1)
 obtain ⟨-,-,c2,-,-⟩:=bq5 hR2.cell
 unfold Tr.cells at *
 clear hR hb0 ho hF hthree hR2 hm1
 go_enter Tryz.func94,Tryz.ntmps94
 go_wp2_with fail
 clear c2
 generalize World.alloc (World.alloc (World.alloc _ _) _) _=W at *
 refine (bqtakes_no ⟨#[42]⟩ w0 A W R s hs fl i g d HR1.out hi HPS.out).mono ?_
 rintro e w1 ⟨rfl,n,rfl⟩
 have hbn:Below W.heap.size W (W.drewN n):=drewN_below (Below.refl _ _) n
 have HR2:=Lib.hid (HR1.out.later hbn)
 have Y0:Hid ((W.drewN n).heap[w.heap.size]? = some (.cells #[.int .i64 (t).kind,.int .u64 (Oc.U (t).w0),.int .u64 (Oc.U (t).w1),.int .u64 (Oc.U (t).w2),.int .u64 (Oc.U (t).w3),.slice p t.subs.length c,.int .i64 (t).num,.int .i64 (t).least,.int .i64 (t).most,.bool (t).bare] 28)):=Lib.hid Z0.out
 have Y1:Hid ((W.drewN n).heap[w.heap.size+1]? = some (.cells noNode 28)):=Lib.hid Z1.out
 have YB:Hid ((W.drewN n).heap[w.heap.size+2]? = some (.cells #[.int .i64 0,.int .i64 0] 163)):=Lib.hid ZB.out
 have HB2:=Lib.hid (HB1.out.trans (hbn.mono HB1.out.size))
 have HO2:=Lib.hid (HO1.out.later hbn)
 have hs2:w.heap.size+2 < (W.drewN n).heap.size:=by show w.heap.size+2 < W.heap.size;omega
 clear hbn HR1 Z0 Z1 ZB HB1 HO1 hs1 HPS
 generalize World.drewN W n=W2 at *
 go_wp2_with fail
 refine (bqstands_any ⟨#[92,123]⟩ true w0 A W2 R s hs fl i g d HR2.out hi (pre_two s i 92 123 true hm2)).mono ?_
 rintro e w1 ⟨rfl,n,rfl⟩
 have hbn:Below W2.heap.size W2 (W2.drewN n):=drewN_below (Below.refl _ _) n
 have HR2:=Lib.hid (HR2.out.later hbn)
 have Y0:Hid ((W2.drewN n).heap[w.heap.size]? = some (.cells #[.int .i64 (t).kind,.int .u64 (Oc.U (t).w0),.int .u64 (Oc.U (t).w1),.int .u64 (Oc.U (t).w2),.int .u64 (Oc.U (t).w3),.slice p t.subs.length c,.int .i64 (t).num,.int .i64 (t).least,.int .i64 (t).most,.bool (t).bare] 28)):=Lib.hid Y0.out
 have Y1:Hid ((W2.drewN n).heap[w.heap.size+1]? = some (.cells noNode 28)):=Lib.hid Y1.out
 have YB:Hid ((W2.drewN n).heap[w.heap.size+2]? = some (.cells #[.int .i64 0,.int .i64 0] 163)):=Lib.hid YB.out
 have HB2:=Lib.hid (HB2.out.trans (hbn.mono HB2.out.size))
 have HO2:=Lib.hid (HO2.out.later hbn)
 have hs2:w.heap.size+2 < (W2.drewN n).heap.size:=hs2
 clear hbn
 generalize World.drewN W2 n=W3 at *
 have HT2:=Lib.hid (Touch.of_below [R] HB2.out)
 go_wp2_with fail
 refine (HC.out _ HR2.out).mono ?_
 intro e w1 he
 obtain ⟨rfl,hr3,ht3⟩:=he.ok rfl
 have HR3:=Lib.hid (HR2.out.next ht3 hr3)
 have X0:=Lib.hid ((ht3.block w.heap.size (by omega) (by simp;omega)).trans Y0.out)
 have X1:=Lib.hid ((ht3.block (w.heap.size+1) (by omega) (by simp;omega)).trans Y1.out)
 have XB:=Lib.hid ((ht3.block (w.heap.size+2) (by omega) (by simp;omega)).trans YB.out)
 have HTX:=Lib.hid (HT2.out.trans ht3)
 have HOX:=Lib.hid (HO2.out.touch HF.out hRB ht3)
 have hsX:w.heap.size+2 < w1.heap.size:=by have:=ht3.size;omega
 clear hr3 ht3 he HR2 Y0 Y1 YB HT2 HO2 hs2
 go_upto_region 8 with (first
   | (refine wpList_store_row rfl 163 (.tmp 6) (.tmp 21) rfl (w.heap.size+2) #[.int .i64 a,.int .i64 b] rfl rfl 163 _ XB.out (by kernel_rfl) rfl (by simp [Value.oneCell']) ?_)
   | fail)
 have V0:=Lib.hid ((heap_setRow_other w1 (w.heap.size+2) #[.int .i64 a,.int .i64 b] (k:=w.heap.size) (by omega)).trans X0.out)
 have V1:=Lib.hid ((heap_setRow_other w1 (w.heap.size+2) #[.int .i64 a,.int .i64 b] (k:=w.heap.size+1) (by omega)).trans X1.out)
 have VB:=heap_setRow (cs:=#[.int .i64 a,.int .i64 b]) XB.out
 have HT3:=Lib.hid (HTX.out.setRow_new (g:=w.heap.size+2) (by omega) #[.int .i64 a,.int .i64 b])
 have HO3:=Lib.hid (HOX.out.keep (w':=w1.setRow (w.heap.size+2) #[.int .i64 a,.int .i64 b]) fun b hb=>heap_setRow_other _ _ _ (by have:=HFL.out b hb;omega))
 have HE3:=Lib.hid (HR3.out.setRow (k:=w.heap.size+2) (by omega) #[.int .i64 a,.int .i64 b])
 have hs3:w.heap.size+2 < (w1.setRow (w.heap.size+2) #[.int .i64 a,.int .i64 b]).heap.size:=by simpa using hsX
 clear X0 X1 XB HTX HOX HR3 hsX
 generalize World.setRow w1 _ _=w3 at *
 obtain ⟨b0,b1⟩:=two_cells VB
 clear VB
 go_wp2_with (first
   | (refine wpList_load_row rfl 28 (.tmp 3) rfl w.heap.size rfl 28 _ (0,0) _ V0.out Tryz.underlying28 rfl (by kernel_rfl) ?_)
   | fail)
 refine (HREP.out _ (fun b=>b ∈ F) _ ⟨_,rfl,HO3.out.trees⟩).mono ?_
 rintro e w4 ⟨s4,F4,rfl,ho4,hF4,hb4⟩
 obtain ⟨p4,c4,rfl,hl4⟩:=ho4.slice
 have hbB:Below w4.heap.size w4 (w4.alloc (.cells (T.cells (.slice p4 T.subs.length c4)) 28)):=(Below.refl _ _).alloc (Nat.le_refl _) _
 have U1:=Lib.hid (keep_blk hbB (keep_blk hb4 V1.out))
 have HT4:=Lib.hid ((HT3.out.later hb4).later hbB)
 have HO4:=Lib.hid (ho4.later hbB)
 have U9:=Lib.hid (heap_alloc_new w4 (.cells (T.cells (.slice p4 T.subs.length c4)) 28))
 have hs4:w.heap.size+2 < (w4.alloc (.cells (T.cells (.slice p4 T.subs.length c4)) 28)).heap.size:=Nat.lt_of_lt_of_le hs3 (Nat.le_trans hb4.size hbB.size)
 have HE4:=Lib.hid ((HE3.out.later hb4).later hbB)
 have HF4:Hid (∀ b,b ∈ F4→w.heap.size+2 < b):=Lib.hid fun b hb=>Nat.lt_of_lt_of_le hs3 (hF4 b hb)
 clear ho4 hF4 hb4 hbB V0 V1 HT3 HO3 HE3 hs3 b0 b1
 have hle:=Tr.szT_le T
 have HSZ:=Lib.hid (treeSize_any T hf _ (fun b=>b ∈ F4) _ ⟨_,rfl,HO4.out.trees⟩)
 have hd:decide ((2000:Int) < T.szT)=true:=by simp;omega
 have hd':decide (2000 < T.szT)=true:=by simp;omega
 generalize T.szT=N at *
 clear hf hbig hle
 unfold Tr.cells at *
 go_wp2_with (first
   | (refine wpList_load_row rfl 28 (.tmp 7) rfl w4.heap.size rfl 28 _ (0,0) _ U9.out Tryz.underlying28 rfl (by kernel_rfl) ?_)
   | fail)
 refine HSZ.out.mono ?_
 rintro e w5 ⟨rfl,hb5⟩
 have X1:=Lib.hid (keep_blk hb5 U1.out)
 have X9:=Lib.hid (keep_blk hb5 U9.out)
 have HT5:=Lib.hid (HT4.out.later hb5)
 have HO5:=Lib.hid (HO4.out.later hb5)
 have HE5:=Lib.hid (HE4.out.later hb5)
 have hs5:w.heap.size+2 < w5.heap.size:=Nat.lt_of_lt_of_le hs4 hb5.size
 clear hb5 U1 U9 HT4 HO4 HE4 hs4 HSZ
 have ce:w5.cell? ⟨9,0,none⟩=some (.iface 232 (.pointer (some (A 9)))):=(HE5.out.now.errs 9 (by omega)).1
 go_wp2_with fail
 refine (at_err A 9 (by omega) i _).mono ?_
 rintro e w6 ⟨v6,rfl,hv6,hb6⟩
 obtain ⟨q6,rfl⟩:=hv6.iface
 have HG:=Lib.hid (BqB.gave (R:=R) (B:=B) (fl:=fl) (s:=s) (d:=d) hv6 (by omega) (HT5.out.later hb6))
 clear hb6 hv6 ce
 go_wp2_with fail
 refine (giveup_any q6 _).mono ?_
 rintro e w8 ⟨rfl,rfl⟩
 go_wp2
 exact ⟨rfl,HG.out⟩
theorem bqrepeated_braced_ok (w0:World) (A:Nat→Addr) (w:World) (R:Nat) (s:ByteArray) (hs:s.size ≤ 4294967280) (fl:Int) (i g d:Nat) (hR:BqAt w0 A w R s fl i g d) (hi:i ≤ s.size) (t:Tr) (v:Value) (F:List Nat) (B:Nat) (ho:Owned w v t.subs F) (hF:∀ b,b ∈ F→B ≤ b) (hRB:R < B) (hB:B ≤ w.heap.size) (hm1:(bt s i == (42:UInt8).toNat)=false) (hm2:Bp.two (bt s) (92:UInt8).toNat (123:UInt8).toNat i=true) (a b:Int) (j k:Nat) (HC:∀ w,BqAt w0 A w R s fl i g d→Calls Tryz.prog 131 #[.pointer (some ⟨R,0,none⟩)] w (BqTm A R s fl i g d (some (a,b,j)) k w)) (T:Tr) (hT:Tr.rep a b t=T) (hf:T.InForm) (hbig:T.szT ≤ 2000) :
   Calls Tryz.prog 94 #[.pointer (some ⟨R,0,none⟩),.agg (t.cells v)] w (BqB A R s fl d (.ok T j g) B w):=by
 have HC:=Lib.hid HC
 have hrep:=fun w B v hv=>rep_any t a b w B v hv
 rw [hT] at hrep
 have HREP:=Lib.hid hrep
 clear hrep hT
 have hlt:=hR.lt
 obtain ⟨p,c,rfl,hl⟩:=ho.slice
 have hb0:Below w.heap.size w (((w.alloc (.cells (t.cells (.slice p t.subs.length c)) 28)).alloc (.cells noNode 28)).alloc (.cells #[.int .i64 0,.int .i64 0] 163)):=by go_grown
 have hR2:=hR.later (w':=(w.alloc (.cells (t.cells (.slice p t.subs.length c)) 28)).alloc (.cells noNode 28)) (by go_grown)
 have HR1:=Lib.hid (hR.later hb0)
 have hthree:=bq_three w (.cells (t.cells (.slice p t.subs.length c)) 28) (.cells noNode 28) (.cells #[.int .i64 0,.int .i64 0] 163)
 have Z0:=Lib.hid hthree.1;have Z1:=Lib.hid hthree.2.1;have ZB:=Lib.hid hthree.2.2
 have HB1:=Lib.hid hb0
 have HO1:=Lib.hid (ho.later hb0)
 have hs1:(((w.alloc (.cells (t.cells (.slice p t.subs.length c)) 28)).alloc (.cells noNode 28)).alloc (.cells #[.int .i64 0,.int .i64 0] 163)).heap.size=w.heap.size+3:=by simp
 have HF:=Lib.hid hF;have HFL:=Lib.hid ho.lt
 have HPS:Hid (Pre ⟨#[42]⟩ s i false):=Lib.hid (pre_one s i 42 false hm1)
 obtain ⟨-,-,c2,-,-⟩:=bq5 hR2.cell
 unfold Tr.cells at *
 clear hR hb0 ho hF hthree hR2 hm1
 go_enter Tryz.func94,Tryz.ntmps94
 go_wp2_with fail
 clear c2
 generalize World.alloc (World.alloc (World.alloc _ _) _) _=W at *
 refine (bqtakes_no ⟨#[42]⟩ w0 A W R s hs fl i g d HR1.out hi HPS.out).mono ?_
 rintro e w1 ⟨rfl,n,rfl⟩
 have hbn:Below W.heap.size W (W.drewN n):=drewN_below (Below.refl _ _) n
 have HR2:=Lib.hid (HR1.out.later hbn)
 have Y0:Hid ((W.drewN n).heap[w.heap.size]? = some (.cells #[.int .i64 (t).kind,.int .u64 (Oc.U (t).w0),.int .u64 (Oc.U (t).w1),.int .u64 (Oc.U (t).w2),.int .u64 (Oc.U (t).w3),.slice p t.subs.length c,.int .i64 (t).num,.int .i64 (t).least,.int .i64 (t).most,.bool (t).bare] 28)):=Lib.hid Z0.out
 have Y1:Hid ((W.drewN n).heap[w.heap.size+1]? = some (.cells noNode 28)):=Lib.hid Z1.out
 have YB:Hid ((W.drewN n).heap[w.heap.size+2]? = some (.cells #[.int .i64 0,.int .i64 0] 163)):=Lib.hid ZB.out
 have HB2:=Lib.hid (HB1.out.trans (hbn.mono HB1.out.size))
 have HO2:=Lib.hid (HO1.out.later hbn)
 have hs2:w.heap.size+2 < (W.drewN n).heap.size:=by show w.heap.size+2 < W.heap.size;omega
 clear hbn HR1 Z0 Z1 ZB HB1 HO1 hs1 HPS
 generalize World.drewN W n=W2 at *
 go_wp2_with fail
 refine (bqstands_any ⟨#[92,123]⟩ true w0 A W2 R s hs fl i g d HR2.out hi (pre_two s i 92 123 true hm2)).mono ?_
 rintro e w1 ⟨rfl,n,rfl⟩
 have hbn:Below W2.heap.size W2 (W2.drewN n):=drewN_below (Below.refl _ _) n
 have HR2:=Lib.hid (HR2.out.later hbn)
 have Y0:Hid ((W2.drewN n).heap[w.heap.size]? = some (.cells #[.int .i64 (t).kind,.int .u64 (Oc.U (t).w0),.int .u64 (Oc.U (t).w1),.int .u64 (Oc.U (t).w2),.int .u64 (Oc.U (t).w3),.slice p t.subs.length c,.int .i64 (t).num,.int .i64 (t).least,.int .i64 (t).most,.bool (t).bare] 28)):=Lib.hid Y0.out
 have Y1:Hid ((W2.drewN n).heap[w.heap.size+1]? = some (.cells noNode 28)):=Lib.hid Y1.out
 have YB:Hid ((W2.drewN n).heap[w.heap.size+2]? = some (.cells #[.int .i64 0,.int .i64 0] 163)):=Lib.hid YB.out
 have HB2:=Lib.hid (HB2.out.trans (hbn.mono HB2.out.size))
 have HO2:=Lib.hid (HO2.out.later hbn)
 have hs2:w.heap.size+2 < (W2.drewN n).heap.size:=hs2
 clear hbn
 generalize World.drewN W2 n=W3 at *
 have HT2:=Lib.hid (Touch.of_below [R] HB2.out)
 go_wp2_with fail
 refine (HC.out _ HR2.out).mono ?_
 intro e w1 he
 obtain ⟨rfl,hr3,ht3⟩:=he.ok rfl
 have HR3:=Lib.hid (HR2.out.next ht3 hr3)
 have X0:=Lib.hid ((ht3.block w.heap.size (by omega) (by simp;omega)).trans Y0.out)
 have X1:=Lib.hid ((ht3.block (w.heap.size+1) (by omega) (by simp;omega)).trans Y1.out)
 have XB:=Lib.hid ((ht3.block (w.heap.size+2) (by omega) (by simp;omega)).trans YB.out)
 have HTX:=Lib.hid (HT2.out.trans ht3)
 have HOX:=Lib.hid (HO2.out.touch HF.out hRB ht3)
 have hsX:w.heap.size+2 < w1.heap.size:=by have:=ht3.size;omega
 clear hr3 ht3 he HR2 Y0 Y1 YB HT2 HO2 hs2
 go_upto_region 8 with (first
   | (refine wpList_store_row rfl 163 (.tmp 6) (.tmp 21) rfl (w.heap.size+2) #[.int .i64 a,.int .i64 b] rfl rfl 163 _ XB.out (by kernel_rfl) rfl (by simp [Value.oneCell']) ?_)
   | fail)
 have V0:=Lib.hid ((heap_setRow_other w1 (w.heap.size+2) #[.int .i64 a,.int .i64 b] (k:=w.heap.size) (by omega)).trans X0.out)
 have V1:=Lib.hid ((heap_setRow_other w1 (w.heap.size+2) #[.int .i64 a,.int .i64 b] (k:=w.heap.size+1) (by omega)).trans X1.out)
 have VB:=heap_setRow (cs:=#[.int .i64 a,.int .i64 b]) XB.out
 have HT3:=Lib.hid (HTX.out.setRow_new (g:=w.heap.size+2) (by omega) #[.int .i64 a,.int .i64 b])
 have HO3:=Lib.hid (HOX.out.keep (w':=w1.setRow (w.heap.size+2) #[.int .i64 a,.int .i64 b]) fun b hb=>heap_setRow_other _ _ _ (by have:=HFL.out b hb;omega))
 have HE3:=Lib.hid (HR3.out.setRow (k:=w.heap.size+2) (by omega) #[.int .i64 a,.int .i64 b])
 have hs3:w.heap.size+2 < (w1.setRow (w.heap.size+2) #[.int .i64 a,.int .i64 b]).heap.size:=by simpa using hsX
 clear X0 X1 XB HTX HOX HR3 hsX
 generalize World.setRow w1 _ _=w3 at *
 obtain ⟨b0,b1⟩:=two_cells VB
 clear VB
 go_wp2_with (first
   | (refine wpList_load_row rfl 28 (.tmp 3) rfl w.heap.size rfl 28 _ (0,0) _ V0.out Tryz.underlying28 rfl (by kernel_rfl) ?_)
   | fail)
 refine (HREP.out _ (fun b=>b ∈ F) _ ⟨_,rfl,HO3.out.trees⟩).mono ?_
 rintro e w4 ⟨s4,F4,rfl,ho4,hF4,hb4⟩
 obtain ⟨p4,c4,rfl,hl4⟩:=ho4.slice
 have hbB:Below w4.heap.size w4 (w4.alloc (.cells (T.cells (.slice p4 T.subs.length c4)) 28)):=(Below.refl _ _).alloc (Nat.le_refl _) _
 have U1:=Lib.hid (keep_blk hbB (keep_blk hb4 V1.out))
 have HT4:=Lib.hid ((HT3.out.later hb4).later hbB)
 have HO4:=Lib.hid (ho4.later hbB)
 have U9:=Lib.hid (heap_alloc_new w4 (.cells (T.cells (.slice p4 T.subs.length c4)) 28))
 have hs4:w.heap.size+2 < (w4.alloc (.cells (T.cells (.slice p4 T.subs.length c4)) 28)).heap.size:=Nat.lt_of_lt_of_le hs3 (Nat.le_trans hb4.size hbB.size)
 have HE4:=Lib.hid ((HE3.out.later hb4).later hbB)
 have HF4:Hid (∀ b,b ∈ F4→w.heap.size+2 < b):=Lib.hid fun b hb=>Nat.lt_of_lt_of_le hs3 (hF4 b hb)
 clear ho4 hF4 hb4 hbB V0 V1 HT3 HO3 HE3 hs3 b0 b1
 have hle:=Tr.szT_le T
 have HSZ:=Lib.hid (treeSize_any T hf _ (fun b=>b ∈ F4) _ ⟨_,rfl,HO4.out.trees⟩)
 have hd:decide ((2000:Int) < T.szT)=false:=by simp;omega
 have hd':decide (2000 < T.szT)=false:=by simp;omega
 generalize T.szT=N at *
 clear hf hbig hle
 unfold Tr.cells at *
 go_wp2_with (first
   | (refine wpList_load_row rfl 28 (.tmp 7) rfl w4.heap.size rfl 28 _ (0,0) _ U9.out Tryz.underlying28 rfl (by kernel_rfl) ?_)
   | fail)
 refine HSZ.out.mono ?_
 rintro e w5 ⟨rfl,hb5⟩
 have X1:=Lib.hid (keep_blk hb5 U1.out)
 have X9:=Lib.hid (keep_blk hb5 U9.out)
 have HT5:=Lib.hid (HT4.out.later hb5)
 have HO5:=Lib.hid (HO4.out.later hb5)
 have HE5:=Lib.hid (HE4.out.later hb5)
 have hs5:w.heap.size+2 < w5.heap.size:=Nat.lt_of_lt_of_le hs4 hb5.size
 clear hb5 U1 U9 HT4 HO4 HE4 hs4 HSZ
 go_wp2_with (first
   | (refine wpList_load_row rfl 28 (.tmp 7) rfl w4.heap.size rfl 28 _ (0,0) _ X9.out Tryz.underlying28 rfl (by kernel_rfl) ?_)
   | (refine wpList_store_row rfl 28 (.tmp 4) (.tmp 35) rfl (w.heap.size+1) #[.int .i64 (T).kind,.int .u64 (Oc.U (T).w0),.int .u64 (Oc.U (T).w1),.int .u64 (Oc.U (T).w2),.int .u64 (Oc.U (T).w3),.slice p4 T.subs.length c4,.int .i64 (T).num,.int .i64 (T).least,.int .i64 (T).most,.bool (T).bare] rfl rfl 28 _ X1.out (by kernel_rfl) rfl (by simp [Value.oneCell']) ?_)
   | fail)
 exact bodyPost_ret (results_cell_row rfl _ _ (w.heap.size+1) 28 #[.int .i64 (T).kind,.int .u64 (Oc.U (T).w0),.int .u64 (Oc.U (T).w1),.int .u64 (Oc.U (T).w2),.int .u64 (Oc.U (T).w3),.slice p4 T.subs.length c4,.int .i64 (T).num,.int .i64 (T).least,.int .i64 (T).most,.bool (T).bare] (0,0) _ rfl (heap_setRow X1.out) Tryz.underlying28 rfl (by kernel_rfl)) rfl ⟨⟨.slice p4 T.subs.length c4,F4,rfl,HO5.out.keep fun b hb=>heap_setRow_other _ _ _ (by have:=HF4.out b hb;omega),fun b hb=>by have:=HF4.out b hb;omega,(heap_setRow_other _ _ _ (by omega)).trans HE5.out.cell⟩,HT5.out.setRow_new (Nat.le_succ _) _⟩
theorem bqrepeated_any (w0:World) (A:Nat→Addr) (w:World) (R:Nat) (s:ByteArray) (hs:s.size ≤ 4294967280) (fl:Int) (i g d:Nat) (hR:BqAt w0 A w R s fl i g d) (hi:i ≤ s.size) (t:Tr) (v:Value) (F:List Nat) (B:Nat) (ho:Owned w v t.subs F) (hF:∀ b,b ∈ F→B ≤ b) (hRB:R < B) (hB:B ≤ w.heap.size) (ht:t.InForm) :
   Calls Tryz.prog 94 #[.pointer (some ⟨R,0,none⟩),.agg (t.cells v)] w (BqB A R s fl d (Bp.rep (bt s) s.size t i g) B w):=by
 have e1:(42:UInt8).toNat=42:=rfl
 have e2:(92:UInt8).toNat=92:=rfl
 have e3:(123:UInt8).toNat=123:=rfl
 unfold Bp.rep
 by_cases h42:bt s i=42
 · rw [if_pos h42]
   have hin:=(bt_txt s).lt h42 (by omega)
   have hm:(bt s i == (42:UInt8).toNat)=true:=by rw [h42];rfl
   unfold Ep.counted
   by_cases hbig:2000 < (Tr.rep 0 (-1) t).szT
   · rw [if_pos hbig];exact bqrepeated_star_big w0 A w R s hs fl i g d hR hi t v F B ho hF hRB hB hm hin _ rfl (Ep.form_rep _ _ t (by omega) (by omega) (by omega) ht) hbig
   · rw [if_neg hbig];exact bqrepeated_star_ok w0 A w R s hs fl i g d hR hi t v F B ho hF hRB hB hm hin _ rfl (Ep.form_rep _ _ t (by omega) (by omega) (by omega) ht) (by omega)
 rw [if_neg h42]
 have hm1:(bt s i == (42:UInt8).toNat)=false:=by rw [e1];simpa using h42
 by_cases h2:Bp.two (bt s) 92 123 i=true
 · rw [if_pos h2]
   have hi2:=Bp.two_lt (bt_txt s) h2 (by omega) (by omega)
   cases hf:Bp.close (bt s) (s.size - (i+2)) (i+2) with
   | none=>exact bqrepeated_terr w0 A w R s hs fl i g d hR hi t v F B ho hF hRB hB hm1 h2 3 fun w hR=>bqbraced_open w0 A w R s hs fl i g d hR hi2 hf
   | some e =>
     obtain ⟨m,rfl⟩:∃ m,e=i+2+m:=⟨e - (i+2),by have:=(Bp.close_some hf).1;omega⟩
     cases hn:Ep.counts (bt s) (i+2) (i+2+m) with
     | none =>
       simp only [hn]
       exact bqrepeated_terr w0 A w R s hs fl i g d hR hi t v F B ho hF hRB hB hm1 h2 4 fun w hR=>bqbraced_bad w0 A w R s hs fl i g d hR hi2 m hf hn
     | some ab =>
       obtain ⟨a,b⟩:=ab
       obtain ⟨q1,q2,q3⟩:=Ep.counts_ok hn
       simp only [hn]
       unfold Ep.counted
       by_cases hbig:2000 < (Tr.rep a b t).szT
       · rw [if_pos hbig];exact bqrepeated_braced_big w0 A w R s hs fl i g d hR hi t v F B ho hF hRB hB hm1 h2 a b _ 0 (fun w hR=>bqbraced_ok w0 A w R s hs fl i g d hR hi2 m hf a b hn) _ rfl (Ep.form_rep a b t q1 q2 q3 ht) hbig
       · rw [if_neg hbig];exact bqrepeated_braced_ok w0 A w R s hs fl i g d hR hi t v F B ho hF hRB hB hm1 h2 a b _ 0 (fun w hR=>bqbraced_ok w0 A w R s hs fl i g d hR hi2 m hf a b hn) _ rfl (Ep.form_rep a b t q1 q2 q3 ht) (by omega)
 · rw [if_neg h2]
   exact bqrepeated_no w0 A w R s hs fl i g d hR hi t v F B ho hF hRB hB hm1 (by simpa using h2)
end Go.Proofs.YtfcilopifjddpaaGreatDoor
namespace Go.Proofs.YtfcilopifjddpaaGreatDoor
open Go.RowKit
theorem ba_ext {a b:ByteArray} (h:a.data.toList=b.data.toList):a=b:=by
 cases a;cases b;simp only at h;rw [Array.toList_inj.1 h]
theorem cutdollar_no (s:ByteArray) (i:Nat) (hb:bt s i ≠ 36) (w:World) :
   Calls Tryz.prog 160 #[.string (s.extract i s.size),.string ⟨#[36]⟩] w fun e w'=>e=.returned (.tuple #[.string (s.extract i s.size),.bool false])∧w'=w:=by
 refine (Tryz.strings_CutPrefix (s.extract i s.size) ⟨#[36]⟩ w).mono ?_
 rintro e w' ⟨rfl,rfl⟩
 have h0:Lib.hasPrefix (s.extract i s.size).data.toList (⟨#[36]⟩:ByteArray).data.toList=false:=by
   show [(36:UInt8)].isPrefixOf _=false
   rw [one_prefix,← bt_list,bt_ext]
   simpa using hb
 refine ⟨?_,rfl⟩
 unfold Lib.trimPrefix
 rw [h0]
 rfl
theorem cutdollar_yes (s:ByteArray) (i:Nat) (hb:bt s i=36) (w:World) :
   Calls Tryz.prog 160 #[.string (s.extract i s.size),.string ⟨#[36]⟩] w fun e w'=>e=.returned (.tuple #[.string (s.extract (i+1) s.size),.bool true])∧w'=w:=by
 refine (Tryz.strings_CutPrefix (s.extract i s.size) ⟨#[36]⟩ w).mono ?_
 rintro e w' ⟨rfl,rfl⟩
 have h0:Lib.hasPrefix (s.extract i s.size).data.toList (⟨#[36]⟩:ByteArray).data.toList=true:=by
   show [(36:UInt8)].isPrefixOf _=true
   rw [one_prefix,← bt_list,bt_ext]
   simpa using hb
 refine ⟨?_,rfl⟩
 unfold Lib.trimPrefix
 rw [h0]
 have:(⟨(List.drop 1 (s.extract i s.size).data.toList).toArray⟩:ByteArray)=s.extract (i+1) s.size:=by
   apply ba_ext
   simp only [Lib.extract_to_end,List.drop_drop]
 rw [← this]
 rfl
theorem isend_no (w0:World) (A:Nat→Addr) (w:World) (R:Nat) (s:ByteArray) (_hs:s.size ≤ 4294967280) (fl:Int) (i g d:Nat) (hR:BqAt w0 A w R s fl i g d) (hi:i ≤ s.size) (hb:bt s i ≠ 36) :
   Calls Tryz.prog 133 #[.pointer (some ⟨R,0,none⟩)] w fun e w'=>e=.returned (.bool false)∧∃ n,w'=w.drewN n:=by
 obtain ⟨c0,c1,c2,-,-⟩:=bq5 hR.cell
 have hi0:(0:Int) ≤ i:=by omega
 have hi1:(i:Int) ≤ s.size:=by omega
 have HI:=Lib.hid (cutdollar_no s i hb)
 clear hR hb
 go_enter Tryz.func133,Tryz.ntmps133
 go_wp2
 go_quiet ((go_at_call 160;exact Calls.quiet_of_same (HI.out _)))
 go_wp2
 go_ret
 exact ⟨rfl,_,rfl⟩
theorem isend_end (w0:World) (A:Nat→Addr) (w:World) (R:Nat) (s:ByteArray) (hs:s.size ≤ 4294967280) (fl:Int) (i g d:Nat) (hR:BqAt w0 A w R s fl i g d) (_hi:i ≤ s.size) (hb:bt s i=36) (hl:i+1=s.size) :
   Calls Tryz.prog 133 #[.pointer (some ⟨R,0,none⟩)] w fun e w'=>e=.returned (.bool true)∧∃ n,w'=w.drewN n:=by
 obtain ⟨c0,c1,c2,-,-⟩:=bq5 hR.cell
 have hi0:(0:Int) ≤ i:=by omega
 have hi1:(i:Int) ≤ s.size:=by omega
 have HI:=Lib.hid (cutdollar_yes s i hb)
 have hz:(s.extract (i+1) s.size).size=0:=by simp;omega
 obtain ⟨e1,e2⟩:=empty_yes hz
 generalize s.extract (i+1) s.size=ta at *
 clear hR hb hl hz
 go_enter Tryz.func133,Tryz.ntmps133
 go_wp2
 go_quiet ((go_at_call 160;exact Calls.quiet_of_same (HI.out _)))
 go_wp2
 go_ret
 exact ⟨rfl,_,rfl⟩
theorem isend_group (w0:World) (A:Nat→Addr) (w:World) (R:Nat) (s:ByteArray) (_hs:s.size ≤ 4294967280) (fl:Int) (i g d:Nat) (hR:BqAt w0 A w R s fl i g d) (_hi:i ≤ s.size) (hb:bt s i=36) (hl:i+1 < s.size) (b:Bool) (h2:Bp.two (bt s) (92:UInt8).toNat (41:UInt8).toNat (i+1)=b) :
   Calls Tryz.prog 133 #[.pointer (some ⟨R,0,none⟩)] w fun e w'=>e=.returned (.bool b)∧∃ n,w'=w.drewN n:=by
 obtain ⟨c0,c1,c2,-,-⟩:=bq5 hR.cell
 have hi0:(0:Int) ≤ i:=by omega
 have hi1:(i:Int) ≤ s.size:=by omega
 have HI:=Lib.hid (cutdollar_yes s i hb)
 have HJ:Hid (∀ w,Calls Tryz.prog 130 #[.string (s.extract (i+1) s.size),.string ⟨#[92,41]⟩] w fun e w'=>e=.returned (.bool b)∧w'=w):=Lib.hid (pre_two s (i+1) 92 41 b h2)
 have hz:0 < (s.extract (i+1) s.size).size:=by simp;omega
 have e1:=empty_no hz
 generalize s.extract (i+1) s.size=ta at *
 clear hR hb hl hz h2
 go_enter Tryz.func133,Tryz.ntmps133
 go_wp2
 go_quiet ((go_at_call 160;exact Calls.quiet_of_same (HI.out _)))
 go_wp2_with fail
 refine (HJ.out _).mono ?_
 rintro e w' ⟨rfl,rfl⟩
 go_wp2
 go_ret
 exact ⟨rfl,_,rfl⟩
theorem isend_any (w0:World) (A:Nat→Addr) (w:World) (R:Nat) (s:ByteArray) (hs:s.size ≤ 4294967280) (fl:Int) (i g d:Nat) (hR:BqAt w0 A w R s fl i g d) (hi:i ≤ s.size) (b:Bool) (hb:Bp.isEnd (bt s) s.size i=b) :
   Calls Tryz.prog 133 #[.pointer (some ⟨R,0,none⟩)] w fun e w'=>e=.returned (.bool b)∧∃ n,w'=w.drewN n:=by
 subst hb
 unfold Bp.isEnd
 by_cases h:bt s i=36
 · have hlt:=(bt_txt s).lt h (by omega)
   rw [show (bt s i == 36)=true by rw [h];rfl,Bool.true_and]
   by_cases hl:i+1=s.size
   · rw [show decide (s.size ≤ i+1)=true by simp;omega,Bool.true_or]
     exact isend_end w0 A w R s hs fl i g d hR hi h hl
   · rw [show decide (s.size ≤ i+1)=false by simp;omega,Bool.false_or]
     exact isend_group w0 A w R s hs fl i g d hR hi h (by omega) _ rfl
 · rw [show (bt s i == 36)=false by simpa using h,Bool.false_and]
   exact isend_no w0 A w R s hs fl i g d hR hi h
theorem BqPl.nd {A:Nat→Addr} {R:Nat} {s:ByteArray} {fl:Int} {g d:Nat} {t:Tr} {j:Nat} {w:World} {e:Ending} {w':World} (h:BqPl R s fl g d t j w e w') (ht:t.subs=[]):BqEnd A R s fl d (.ok t j g) w e w':=by
 obtain ⟨h1,h2,h3⟩:=h
 exact ⟨⟨.slice none 0 0,[],h1,by rw [ht];exact .nil _ _,fun b hb=>(by cases hb),h2⟩,h3⟩
theorem bqatom_dot (w0:World) (A:Nat→Addr) (w:World) (R:Nat) (s:ByteArray) (hs:s.size ≤ 4294967280) (fl:Int) (i g d:Nat) (hR:BqAt w0 A w R s fl i g d) (_hi:i ≤ s.size) (h0:(bt s i == (46:UInt8).toNat)=true) (hin:i+1 ≤ s.size) :
   Calls Tryz.prog 134 #[.pointer (some ⟨R,0,none⟩)] w (BqEnd A R s fl d (.ok (Ep.dot (nlB fl)) (i+1) g) w):=by
 have hlt:=hR.lt
 have hb0:Below w.heap.size w (w.alloc (.cells noNode 28)):=(Below.refl _ _).alloc (Nat.le_refl _) _
 have HR1:=Lib.hid (hR.later hb0)
 have Z1:=Lib.hid (heap_alloc_new w (.cells noNode 28))
 have HB1:=Lib.hid hb0
 have hs1:w.heap.size < (w.alloc (.cells noNode 28)).heap.size:=by simp
 have hRw:R ≠ w.heap.size:=by omega
 clear hR hb0
 go_enter Tryz.func134,Tryz.ntmps134
 go_wp2_with fail
 generalize World.alloc _ _=W at *
 refine (bqtakes_yes ⟨#[46]⟩ 1 rfl w0 A W R s hs fl i g d HR1.out hin (pre_one s i 46 true h0)).mono ?_
 rintro e w1 ⟨rfl,hr1,ht1⟩
 have Z2:=Lib.hid ((ht1.block w.heap.size hs1 (by simp;omega)).trans Z1.out)
 have HT2:=Lib.hid ((Touch.of_below [R] HB1.out).trans ht1)
 have HR2:=Lib.hid hr1
 obtain ⟨-,c1,-,-,-⟩:=bq5 hr1
 clear hr1 ht1 Z1 HB1 HR1
 go_wp2_with fail
 refine (ptdot_any fl _).mono ?_
 rintro e w5 ⟨rfl,hb5⟩
 have HP5:=Lib.hid (keep_blk hb5 HR2.out);have HT5:=Lib.hid (HT2.out.later hb5);have Z5:=Lib.hid (keep_blk hb5 Z2.out)
 clear c1 hb5 HR2 HT2 Z2
 have HTS:Hid ((Ep.dot (nlB fl)).subs=[]):=Lib.hid rfl
 generalize Ep.dot (nlB fl)=T at *
 unfold Tr.cells
 go_wp2_with (first
   | (refine wpList_store_row rfl 28 (.tmp 2) (.tmp 10) rfl w.heap.size #[.int .i64 (T).kind,.int .u64 (Oc.U (T).w0),.int .u64 (Oc.U (T).w1),.int .u64 (Oc.U (T).w2),.int .u64 (Oc.U (T).w3),.slice none 0 0,.int .i64 (T).num,.int .i64 (T).least,.int .i64 (T).most,.bool (T).bare] rfl rfl 28 _ Z5.out (by kernel_rfl) rfl (by simp [Value.oneCell']) ?_)
   | fail)
 refine bodyPost_ret (results_cell_row rfl _ _ w.heap.size 28 #[.int .i64 (T).kind,.int .u64 (Oc.U (T).w0),.int .u64 (Oc.U (T).w1),.int .u64 (Oc.U (T).w2),.int .u64 (Oc.U (T).w3),.slice none 0 0,.int .i64 (T).num,.int .i64 (T).least,.int .i64 (T).most,.bool (T).bare] (0,0) _ rfl (heap_setRow Z5.out) Tryz.underlying28 rfl (by kernel_rfl)) rfl ⟨⟨.slice none 0 0,[],rfl, ?_,fun b hb=>(by cases hb),(heap_setRow_other _ _ _ hRw).trans HP5.out⟩,HT5.out.setRow_new (Nat.le_refl _) _⟩
 rw [HTS.out];exact .nil _ _
theorem bqatom_brace (w0:World) (A:Nat→Addr) (w:World) (R:Nat) (s:ByteArray) (hs:s.size ≤ 4294967280) (fl:Int) (i g d:Nat) (hR:BqAt w0 A w R s fl i g d) (hi:i ≤ s.size) (h0:(bt s i == (46:UInt8).toNat)=false) (h1:(bt s i == (91:UInt8).toNat)=false) (h2:Bp.two (bt s) (92:UInt8).toNat (40:UInt8).toNat i=false) (h3:Bp.two (bt s) (92:UInt8).toNat (125:UInt8).toNat i=true) :
   Calls Tryz.prog 134 #[.pointer (some ⟨R,0,none⟩)] w (BqEnd A R s fl d (.err 3 i) w):=by
 have hlt:=hR.lt
 have hb0:Below w.heap.size w (w.alloc (.cells noNode 28)):=(Below.refl _ _).alloc (Nat.le_refl _) _
 have HR1:=Lib.hid (hR.later hb0)
 have Z1:=Lib.hid (heap_alloc_new w (.cells noNode 28))
 have HB1:=Lib.hid hb0
 have hs1:w.heap.size < (w.alloc (.cells noNode 28)).heap.size:=by simp
 have hRw:R ≠ w.heap.size:=by omega
 clear hR hb0
 go_enter Tryz.func134,Tryz.ntmps134
 go_wp2_with fail
 generalize World.alloc _ _=W at *
 refine (bqtakes_no ⟨#[46]⟩ w0 A W R s hs fl i g d HR1.out hi (pre_one s i 46 false h0)).mono ?_
 rintro e w1 ⟨rfl,n,rfl⟩
 have hbn:=drewN_below (Below.refl W.heap.size W) n
 have HR2:=Lib.hid (HR1.out.later hbn)
 have Z2:=Lib.hid (keep_blk hbn Z1.out)
 have HB2:=Lib.hid (HB1.out.trans (hbn.mono HB1.out.size))
 have hs2:=Nat.lt_of_lt_of_le hs1 hbn.size
 clear hbn HR1 Z1 HB1 hs1
 generalize World.drewN W n=W2 at *
 go_wp2_with fail
 refine (bqstands_any ⟨#[91]⟩ false w0 A W2 R s hs fl i g d HR2.out hi (pre_one s i 91 false h1)).mono ?_
 rintro e w1 ⟨rfl,n,rfl⟩
 have hbn:=drewN_below (Below.refl W2.heap.size W2) n
 have HR3:=Lib.hid (HR2.out.later hbn)
 have Z3:=Lib.hid (keep_blk hbn Z2.out)
 have HB3:=Lib.hid (HB2.out.trans (hbn.mono HB2.out.size))
 have hs3:=Nat.lt_of_lt_of_le hs2 hbn.size
 clear hbn HR2 Z2 HB2 hs2
 generalize World.drewN W2 n=W3 at *
 go_wp2_with fail
 refine (bqstands_any ⟨#[92,40]⟩ false w0 A W3 R s hs fl i g d HR3.out hi (pre_two s i 92 40 false h2)).mono ?_
 rintro e w1 ⟨rfl,n,rfl⟩
 have hbn:=drewN_below (Below.refl W3.heap.size W3) n
 have HR4:=Lib.hid (HR3.out.later hbn)
 have Z4:=Lib.hid (keep_blk hbn Z3.out)
 have HB4:=Lib.hid (HB3.out.trans (hbn.mono HB3.out.size))
 have hs4:=Nat.lt_of_lt_of_le hs3 hbn.size
 clear hbn HR3 Z3 HB3 hs3
 generalize World.drewN W3 n=W4 at *
 go_wp2_with fail
 refine (bqstands_any ⟨#[92,125]⟩ true w0 A W4 R s hs fl i g d HR4.out hi (pre_two s i 92 125 true h3)).mono ?_
 rintro e w1 ⟨rfl,n,rfl⟩
 have hbn:=drewN_below (Below.refl W4.heap.size W4) n
 have HR5:=Lib.hid (HR4.out.later hbn)
 have Z5:=Lib.hid (keep_blk hbn Z4.out)
 have HB5:=Lib.hid (HB4.out.trans (hbn.mono HB4.out.size))
 have hs5:=Nat.lt_of_lt_of_le hs4 hbn.size
 clear hbn HR4 Z4 HB4 hs4
 generalize World.drewN W4 n=W5 at *
 have ce:W5.cell? ⟨2,0,none⟩=some (.iface 232 (.pointer (some (A 2)))):=(HR5.out.now.errs 2 (by omega)).1
 go_wp2_with fail
 refine (bqfails_any w0 A 2 (by omega) W5 R s fl i g d HR5.out).mono ?_
 intro e w9 he4
 clear ce
 obtain ⟨v4,rfl,hv4,ht4⟩:=he4.err rfl
 have HG:=Lib.hid (BqEnd.gave (R:=R) (w:=w) (fl:=fl) (s:=s) (d:=d) hv4 (Nat.le_of_lt hs5) ((Touch.of_below [R] HB5.out).trans ht4))
 clear hv4 ht4 he4
 go_wp2
 exact ⟨rfl,HG.out⟩
theorem bqatom_set (w0:World) (A:Nat→Addr) (w:World) (R:Nat) (s:ByteArray) (hs:s.size ≤ 4294967280) (fl:Int) (i g d:Nat) (hR:BqAt w0 A w R s fl i g d) (hi:i ≤ s.size) (h0:(bt s i == (46:UInt8).toNat)=false) (h1:(bt s i == (91:UInt8).toNat)=true) (O:Ep.Out) (HC:∀ w,BqAt w0 A w R s fl i g d→Calls Tryz.prog 162 #[.pointer (some ⟨R,0,none⟩)] w (BqEnd A R s fl d O w)) :
   Calls Tryz.prog 134 #[.pointer (some ⟨R,0,none⟩)] w (BqEnd A R s fl d (O) w):=by
 have HC:=Lib.hid HC
 have hlt:=hR.lt
 have hb0:Below w.heap.size w (w.alloc (.cells noNode 28)):=(Below.refl _ _).alloc (Nat.le_refl _) _
 have HR1:=Lib.hid (hR.later hb0)
 have Z1:=Lib.hid (heap_alloc_new w (.cells noNode 28))
 have HB1:=Lib.hid hb0
 have hs1:w.heap.size < (w.alloc (.cells noNode 28)).heap.size:=by simp
 have hRw:R ≠ w.heap.size:=by omega
 clear hR hb0
 go_enter Tryz.func134,Tryz.ntmps134
 go_wp2_with fail
 generalize World.alloc _ _=W at *
 refine (bqtakes_no ⟨#[46]⟩ w0 A W R s hs fl i g d HR1.out hi (pre_one s i 46 false h0)).mono ?_
 rintro e w1 ⟨rfl,n,rfl⟩
 have hbn:=drewN_below (Below.refl W.heap.size W) n
 have HR2:=Lib.hid (HR1.out.later hbn)
 have Z2:=Lib.hid (keep_blk hbn Z1.out)
 have HB2:=Lib.hid (HB1.out.trans (hbn.mono HB1.out.size))
 have hs2:=Nat.lt_of_lt_of_le hs1 hbn.size
 clear hbn HR1 Z1 HB1 hs1
 generalize World.drewN W n=W2 at *
 go_wp2_with fail
 refine (bqstands_any ⟨#[91]⟩ true w0 A W2 R s hs fl i g d HR2.out hi (pre_one s i 91 true h1)).mono ?_
 rintro e w1 ⟨rfl,n,rfl⟩
 have hbn:=drewN_below (Below.refl W2.heap.size W2) n
 have HR3:=Lib.hid (HR2.out.later hbn)
 have Z3:=Lib.hid (keep_blk hbn Z2.out)
 have HB3:=Lib.hid (HB2.out.trans (hbn.mono HB2.out.size))
 have hs3:=Nat.lt_of_lt_of_le hs2 hbn.size
 clear hbn HR2 Z2 HB2 hs2
 generalize World.drewN W2 n=W3 at *
 go_wp2_with fail
 refine (HC.out _ HR3.out).mono ?_
 intro e w9 he4
 clear HC
 cases O with
 | err c q =>
   obtain ⟨v4,rfl,hv4,ht4⟩:=he4.err rfl
   have HG:=Lib.hid (BqEnd.gave (R:=R) (w:=w) (fl:=fl) (s:=s) (d:=d) hv4 (Nat.le_of_lt hs3) ((Touch.of_below [R] HB3.out).trans ht4))
   clear hv4 ht4 he4
   go_wp2
   exact ⟨rfl,HG.out⟩
 | ok t j g' =>
   obtain ⟨v4,F4,rfl,ho4,hF4,hr4,ht4⟩:=he4.ok rfl
   obtain ⟨p4,c4,rfl,hl4⟩:=ho4.slice
   have Z9:=Lib.hid ((ht4.block w.heap.size hs3 (by simp;omega)).trans Z3.out)
   have HO9:=Lib.hid ho4
   have HF9:Hid (∀ b,b ∈ F4→w.heap.size < b):=Lib.hid fun b hb=>Nat.lt_of_lt_of_le hs3 (hF4 b hb)
   have HRC:=Lib.hid hr4
   have HT9:=Lib.hid ((Touch.of_below [R] HB3.out).trans ht4)
   clear ho4 hF4 hr4 ht4 he4 HR3 Z3 HB3 hs3
   unfold Tr.cells at *
   go_wp2_with (first
     | (refine wpList_store_row rfl 28 (.tmp 2) (.tmp 15) rfl w.heap.size #[.int .i64 (t).kind,.int .u64 (Oc.U (t).w0),.int .u64 (Oc.U (t).w1),.int .u64 (Oc.U (t).w2),.int .u64 (Oc.U (t).w3),.slice p4 t.subs.length c4,.int .i64 (t).num,.int .i64 (t).least,.int .i64 (t).most,.bool (t).bare] rfl rfl 28 _ Z9.out (by kernel_rfl) rfl (by simp [Value.oneCell']) ?_)
     | fail)
   exact bodyPost_ret (results_cell_row rfl _ _ w.heap.size 28 #[.int .i64 (t).kind,.int .u64 (Oc.U (t).w0),.int .u64 (Oc.U (t).w1),.int .u64 (Oc.U (t).w2),.int .u64 (Oc.U (t).w3),.slice p4 t.subs.length c4,.int .i64 (t).num,.int .i64 (t).least,.int .i64 (t).most,.bool (t).bare] (0,0) _ rfl (heap_setRow Z9.out) Tryz.underlying28 rfl (by kernel_rfl)) rfl ⟨⟨.slice p4 t.subs.length c4,F4,rfl,HO9.out.keep fun b hb=>heap_setRow_other _ _ _ (by have:=HF9.out b hb;omega),fun b hb=>Nat.le_of_lt (HF9.out b hb),(heap_setRow_other _ _ _ hRw).trans HRC.out⟩,HT9.out.setRow_new (Nat.le_refl _) _⟩
theorem bqatom_group (w0:World) (A:Nat→Addr) (w:World) (R:Nat) (s:ByteArray) (hs:s.size ≤ 4294967280) (fl:Int) (i g d:Nat) (hR:BqAt w0 A w R s fl i g d) (hi:i ≤ s.size) (h0:(bt s i == (46:UInt8).toNat)=false) (h1:(bt s i == (91:UInt8).toNat)=false) (h2:Bp.two (bt s) (92:UInt8).toNat (40:UInt8).toNat i=true) (O:Ep.Out) (HC:∀ w,BqAt w0 A w R s fl i g d→Calls Tryz.prog 163 #[.pointer (some ⟨R,0,none⟩)] w (BqEnd A R s fl d O w)) :
   Calls Tryz.prog 134 #[.pointer (some ⟨R,0,none⟩)] w (BqEnd A R s fl d (O) w):=by
 have HC:=Lib.hid HC
 have hlt:=hR.lt
 have hb0:Below w.heap.size w (w.alloc (.cells noNode 28)):=(Below.refl _ _).alloc (Nat.le_refl _) _
 have HR1:=Lib.hid (hR.later hb0)
 have Z1:=Lib.hid (heap_alloc_new w (.cells noNode 28))
 have HB1:=Lib.hid hb0
 have hs1:w.heap.size < (w.alloc (.cells noNode 28)).heap.size:=by simp
 have hRw:R ≠ w.heap.size:=by omega
 clear hR hb0
 go_enter Tryz.func134,Tryz.ntmps134
 go_wp2_with fail
 generalize World.alloc _ _=W at *
 refine (bqtakes_no ⟨#[46]⟩ w0 A W R s hs fl i g d HR1.out hi (pre_one s i 46 false h0)).mono ?_
 rintro e w1 ⟨rfl,n,rfl⟩
 have hbn:=drewN_below (Below.refl W.heap.size W) n
 have HR2:=Lib.hid (HR1.out.later hbn)
 have Z2:=Lib.hid (keep_blk hbn Z1.out)
 have HB2:=Lib.hid (HB1.out.trans (hbn.mono HB1.out.size))
 have hs2:=Nat.lt_of_lt_of_le hs1 hbn.size
 clear hbn HR1 Z1 HB1 hs1
 generalize World.drewN W n=W2 at *
 go_wp2_with fail
 refine (bqstands_any ⟨#[91]⟩ false w0 A W2 R s hs fl i g d HR2.out hi (pre_one s i 91 false h1)).mono ?_
 rintro e w1 ⟨rfl,n,rfl⟩
 have hbn:=drewN_below (Below.refl W2.heap.size W2) n
 have HR3:=Lib.hid (HR2.out.later hbn)
 have Z3:=Lib.hid (keep_blk hbn Z2.out)
 have HB3:=Lib.hid (HB2.out.trans (hbn.mono HB2.out.size))
 have hs3:=Nat.lt_of_lt_of_le hs2 hbn.size
 clear hbn HR2 Z2 HB2 hs2
 generalize World.drewN W2 n=W3 at *
 go_wp2_with fail
 refine (bqstands_any ⟨#[92,40]⟩ true w0 A W3 R s hs fl i g d HR3.out hi (pre_two s i 92 40 true h2)).mono ?_
 rintro e w1 ⟨rfl,n,rfl⟩
 have hbn:=drewN_below (Below.refl W3.heap.size W3) n
 have HR4:=Lib.hid (HR3.out.later hbn)
 have Z4:=Lib.hid (keep_blk hbn Z3.out)
 have HB4:=Lib.hid (HB3.out.trans (hbn.mono HB3.out.size))
 have hs4:=Nat.lt_of_lt_of_le hs3 hbn.size
 clear hbn HR3 Z3 HB3 hs3
 generalize World.drewN W3 n=W4 at *
 go_wp2_with fail
 refine (HC.out _ HR4.out).mono ?_
 intro e w9 he4
 clear HC
 cases O with
 | err c q =>
   obtain ⟨v4,rfl,hv4,ht4⟩:=he4.err rfl
   have HG:=Lib.hid (BqEnd.gave (R:=R) (w:=w) (fl:=fl) (s:=s) (d:=d) hv4 (Nat.le_of_lt hs4) ((Touch.of_below [R] HB4.out).trans ht4))
   clear hv4 ht4 he4
   go_wp2
   exact ⟨rfl,HG.out⟩
 | ok t j g' =>
   obtain ⟨v4,F4,rfl,ho4,hF4,hr4,ht4⟩:=he4.ok rfl
   obtain ⟨p4,c4,rfl,hl4⟩:=ho4.slice
   have Z9:=Lib.hid ((ht4.block w.heap.size hs4 (by simp;omega)).trans Z4.out)
   have HO9:=Lib.hid ho4
   have HF9:Hid (∀ b,b ∈ F4→w.heap.size < b):=Lib.hid fun b hb=>Nat.lt_of_lt_of_le hs4 (hF4 b hb)
   have HRC:=Lib.hid hr4
   have HT9:=Lib.hid ((Touch.of_below [R] HB4.out).trans ht4)
   clear ho4 hF4 hr4 ht4 he4 HR4 Z4 HB4 hs4
   unfold Tr.cells at *
   go_wp2_with (first
     | (refine wpList_store_row rfl 28 (.tmp 2) (.tmp 20) rfl w.heap.size #[.int .i64 (t).kind,.int .u64 (Oc.U (t).w0),.int .u64 (Oc.U (t).w1),.int .u64 (Oc.U (t).w2),.int .u64 (Oc.U (t).w3),.slice p4 t.subs.length c4,.int .i64 (t).num,.int .i64 (t).least,.int .i64 (t).most,.bool (t).bare] rfl rfl 28 _ Z9.out (by kernel_rfl) rfl (by simp [Value.oneCell']) ?_)
     | fail)
   exact bodyPost_ret (results_cell_row rfl _ _ w.heap.size 28 #[.int .i64 (t).kind,.int .u64 (Oc.U (t).w0),.int .u64 (Oc.U (t).w1),.int .u64 (Oc.U (t).w2),.int .u64 (Oc.U (t).w3),.slice p4 t.subs.length c4,.int .i64 (t).num,.int .i64 (t).least,.int .i64 (t).most,.bool (t).bare] (0,0) _ rfl (heap_setRow Z9.out) Tryz.underlying28 rfl (by kernel_rfl)) rfl ⟨⟨.slice p4 t.subs.length c4,F4,rfl,HO9.out.keep fun b hb=>heap_setRow_other _ _ _ (by have:=HF9.out b hb;omega),fun b hb=>Nat.le_of_lt (HF9.out b hb),(heap_setRow_other _ _ _ hRw).trans HRC.out⟩,HT9.out.setRow_new (Nat.le_refl _) _⟩
theorem bqatom_esc (w0:World) (A:Nat→Addr) (w:World) (R:Nat) (s:ByteArray) (hs:s.size ≤ 4294967280) (fl:Int) (i g d:Nat) (hR:BqAt w0 A w R s fl i g d) (hi:i ≤ s.size) (h0:(bt s i == (46:UInt8).toNat)=false) (h1:(bt s i == (91:UInt8).toNat)=false) (h2:Bp.two (bt s) (92:UInt8).toNat (40:UInt8).toNat i=false) (h3:Bp.two (bt s) (92:UInt8).toNat (125:UInt8).toNat i=false) (h4:(bt s i == (92:UInt8).toNat)=true) (O:Ep.Out) (HC:∀ w,BqAt w0 A w R s fl i g d→Calls Tryz.prog 164 #[.pointer (some ⟨R,0,none⟩)] w (BqEnd A R s fl d O w)) :
   Calls Tryz.prog 134 #[.pointer (some ⟨R,0,none⟩)] w (BqEnd A R s fl d (O) w):=by
 have HC:=Lib.hid HC
 have hlt:=hR.lt
 have hb0:Below w.heap.size w (w.alloc (.cells noNode 28)):=(Below.refl _ _).alloc (Nat.le_refl _) _
 have HR1:=Lib.hid (hR.later hb0)
 have Z1:=Lib.hid (heap_alloc_new w (.cells noNode 28))
 have HB1:=Lib.hid hb0
 have hs1:w.heap.size < (w.alloc (.cells noNode 28)).heap.size:=by simp
 have hRw:R ≠ w.heap.size:=by omega
 clear hR hb0
 go_enter Tryz.func134,Tryz.ntmps134
 go_wp2_with fail
 generalize World.alloc _ _=W at *
 refine (bqtakes_no ⟨#[46]⟩ w0 A W R s hs fl i g d HR1.out hi (pre_one s i 46 false h0)).mono ?_
 rintro e w1 ⟨rfl,n,rfl⟩
 have hbn:=drewN_below (Below.refl W.heap.size W) n
 have HR2:=Lib.hid (HR1.out.later hbn)
 have Z2:=Lib.hid (keep_blk hbn Z1.out)
 have HB2:=Lib.hid (HB1.out.trans (hbn.mono HB1.out.size))
 have hs2:=Nat.lt_of_lt_of_le hs1 hbn.size
 clear hbn HR1 Z1 HB1 hs1
 generalize World.drewN W n=W2 at *
 go_wp2_with fail
 refine (bqstands_any ⟨#[91]⟩ false w0 A W2 R s hs fl i g d HR2.out hi (pre_one s i 91 false h1)).mono ?_
 rintro e w1 ⟨rfl,n,rfl⟩
 have hbn:=drewN_below (Below.refl W2.heap.size W2) n
 have HR3:=Lib.hid (HR2.out.later hbn)
 have Z3:=Lib.hid (keep_blk hbn Z2.out)
 have HB3:=Lib.hid (HB2.out.trans (hbn.mono HB2.out.size))
 have hs3:=Nat.lt_of_lt_of_le hs2 hbn.size
 clear hbn HR2 Z2 HB2 hs2
 generalize World.drewN W2 n=W3 at *
 go_wp2_with fail
 refine (bqstands_any ⟨#[92,40]⟩ false w0 A W3 R s hs fl i g d HR3.out hi (pre_two s i 92 40 false h2)).mono ?_
 rintro e w1 ⟨rfl,n,rfl⟩
 have hbn:=drewN_below (Below.refl W3.heap.size W3) n
 have HR4:=Lib.hid (HR3.out.later hbn)
 have Z4:=Lib.hid (keep_blk hbn Z3.out)
 have HB4:=Lib.hid (HB3.out.trans (hbn.mono HB3.out.size))
 have hs4:=Nat.lt_of_lt_of_le hs3 hbn.size
 clear hbn HR3 Z3 HB3 hs3
 generalize World.drewN W3 n=W4 at *
 go_wp2_with fail
 refine (bqstands_any ⟨#[92,125]⟩ false w0 A W4 R s hs fl i g d HR4.out hi (pre_two s i 92 125 false h3)).mono ?_
 rintro e w1 ⟨rfl,n,rfl⟩
 have hbn:=drewN_below (Below.refl W4.heap.size W4) n
 have HR5:=Lib.hid (HR4.out.later hbn)
 have Z5:=Lib.hid (keep_blk hbn Z4.out)
 have HB5:=Lib.hid (HB4.out.trans (hbn.mono HB4.out.size))
 have hs5:=Nat.lt_of_lt_of_le hs4 hbn.size
 clear hbn HR4 Z4 HB4 hs4
 generalize World.drewN W4 n=W5 at *
 go_wp2_with fail
 refine (bqstands_any ⟨#[92]⟩ true w0 A W5 R s hs fl i g d HR5.out hi (pre_one s i 92 true h4)).mono ?_
 rintro e w1 ⟨rfl,n,rfl⟩
 have hbn:=drewN_below (Below.refl W5.heap.size W5) n
 have HR6:=Lib.hid (HR5.out.later hbn)
 have Z6:=Lib.hid (keep_blk hbn Z5.out)
 have HB6:=Lib.hid (HB5.out.trans (hbn.mono HB5.out.size))
 have hs6:=Nat.lt_of_lt_of_le hs5 hbn.size
 clear hbn HR5 Z5 HB5 hs5
 generalize World.drewN W5 n=W6 at *
 go_wp2_with fail
 refine (HC.out _ HR6.out).mono ?_
 intro e w9 he4
 clear HC
 cases O with
 | err c q =>
   obtain ⟨v4,rfl,hv4,ht4⟩:=he4.err rfl
   have HG:=Lib.hid (BqEnd.gave (R:=R) (w:=w) (fl:=fl) (s:=s) (d:=d) hv4 (Nat.le_of_lt hs6) ((Touch.of_below [R] HB6.out).trans ht4))
   clear hv4 ht4 he4
   go_wp2
   exact ⟨rfl,HG.out⟩
 | ok t j g' =>
   obtain ⟨v4,F4,rfl,ho4,hF4,hr4,ht4⟩:=he4.ok rfl
   obtain ⟨p4,c4,rfl,hl4⟩:=ho4.slice
   have Z9:=Lib.hid ((ht4.block w.heap.size hs6 (by simp;omega)).trans Z6.out)
   have HO9:=Lib.hid ho4
   have HF9:Hid (∀ b,b ∈ F4→w.heap.size < b):=Lib.hid fun b hb=>Nat.lt_of_lt_of_le hs6 (hF4 b hb)
   have HRC:=Lib.hid hr4
   have HT9:=Lib.hid ((Touch.of_below [R] HB6.out).trans ht4)
   clear ho4 hF4 hr4 ht4 he4 HR6 Z6 HB6 hs6
   unfold Tr.cells at *
   go_wp2_with (first
     | (refine wpList_store_row rfl 28 (.tmp 2) (.tmp 31) rfl w.heap.size #[.int .i64 (t).kind,.int .u64 (Oc.U (t).w0),.int .u64 (Oc.U (t).w1),.int .u64 (Oc.U (t).w2),.int .u64 (Oc.U (t).w3),.slice p4 t.subs.length c4,.int .i64 (t).num,.int .i64 (t).least,.int .i64 (t).most,.bool (t).bare] rfl rfl 28 _ Z9.out (by kernel_rfl) rfl (by simp [Value.oneCell']) ?_)
     | fail)
   exact bodyPost_ret (results_cell_row rfl _ _ w.heap.size 28 #[.int .i64 (t).kind,.int .u64 (Oc.U (t).w0),.int .u64 (Oc.U (t).w1),.int .u64 (Oc.U (t).w2),.int .u64 (Oc.U (t).w3),.slice p4 t.subs.length c4,.int .i64 (t).num,.int .i64 (t).least,.int .i64 (t).most,.bool (t).bare] (0,0) _ rfl (heap_setRow Z9.out) Tryz.underlying28 rfl (by kernel_rfl)) rfl ⟨⟨.slice p4 t.subs.length c4,F4,rfl,HO9.out.keep fun b hb=>heap_setRow_other _ _ _ (by have:=HF9.out b hb;omega),fun b hb=>Nat.le_of_lt (HF9.out b hb),(heap_setRow_other _ _ _ hRw).trans HRC.out⟩,HT9.out.setRow_new (Nat.le_refl _) _⟩
theorem bqatom_plain (w0:World) (A:Nat→Addr) (w:World) (R:Nat) (s:ByteArray) (hs:s.size ≤ 4294967280) (fl:Int) (i g d:Nat) (hR:BqAt w0 A w R s fl i g d) (hi:i ≤ s.size) (h0:(bt s i == (46:UInt8).toNat)=false) (h1:(bt s i == (91:UInt8).toNat)=false) (h2:Bp.two (bt s) (92:UInt8).toNat (40:UInt8).toNat i=false) (h3:Bp.two (bt s) (92:UInt8).toNat (125:UInt8).toNat i=false) (h4:(bt s i == (92:UInt8).toNat)=false) (O:Ep.Out) (HC:∀ w,BqAt w0 A w R s fl i g d→Calls Tryz.prog 95 #[.pointer (some ⟨R,0,none⟩)] w (BqEnd A R s fl d O w)) :
   Calls Tryz.prog 134 #[.pointer (some ⟨R,0,none⟩)] w (BqEnd A R s fl d (O) w):=by
 have HC:=Lib.hid HC
 have hlt:=hR.lt
 have hb0:Below w.heap.size w (w.alloc (.cells noNode 28)):=(Below.refl _ _).alloc (Nat.le_refl _) _
 have HR1:=Lib.hid (hR.later hb0)
 have Z1:=Lib.hid (heap_alloc_new w (.cells noNode 28))
 have HB1:=Lib.hid hb0
 have hs1:w.heap.size < (w.alloc (.cells noNode 28)).heap.size:=by simp
 have hRw:R ≠ w.heap.size:=by omega
 clear hR hb0
 go_enter Tryz.func134,Tryz.ntmps134
 go_wp2_with fail
 generalize World.alloc _ _=W at *
 refine (bqtakes_no ⟨#[46]⟩ w0 A W R s hs fl i g d HR1.out hi (pre_one s i 46 false h0)).mono ?_
 rintro e w1 ⟨rfl,n,rfl⟩
 have hbn:=drewN_below (Below.refl W.heap.size W) n
 have HR2:=Lib.hid (HR1.out.later hbn)
 have Z2:=Lib.hid (keep_blk hbn Z1.out)
 have HB2:=Lib.hid (HB1.out.trans (hbn.mono HB1.out.size))
 have hs2:=Nat.lt_of_lt_of_le hs1 hbn.size
 clear hbn HR1 Z1 HB1 hs1
 generalize World.drewN W n=W2 at *
 go_wp2_with fail
 refine (bqstands_any ⟨#[91]⟩ false w0 A W2 R s hs fl i g d HR2.out hi (pre_one s i 91 false h1)).mono ?_
 rintro e w1 ⟨rfl,n,rfl⟩
 have hbn:=drewN_below (Below.refl W2.heap.size W2) n
 have HR3:=Lib.hid (HR2.out.later hbn)
 have Z3:=Lib.hid (keep_blk hbn Z2.out)
 have HB3:=Lib.hid (HB2.out.trans (hbn.mono HB2.out.size))
 have hs3:=Nat.lt_of_lt_of_le hs2 hbn.size
 clear hbn HR2 Z2 HB2 hs2
 generalize World.drewN W2 n=W3 at *
 go_wp2_with fail
 refine (bqstands_any ⟨#[92,40]⟩ false w0 A W3 R s hs fl i g d HR3.out hi (pre_two s i 92 40 false h2)).mono ?_
 rintro e w1 ⟨rfl,n,rfl⟩
 have hbn:=drewN_below (Below.refl W3.heap.size W3) n
 have HR4:=Lib.hid (HR3.out.later hbn)
 have Z4:=Lib.hid (keep_blk hbn Z3.out)
 have HB4:=Lib.hid (HB3.out.trans (hbn.mono HB3.out.size))
 have hs4:=Nat.lt_of_lt_of_le hs3 hbn.size
 clear hbn HR3 Z3 HB3 hs3
 generalize World.drewN W3 n=W4 at *
 go_wp2_with fail
 refine (bqstands_any ⟨#[92,125]⟩ false w0 A W4 R s hs fl i g d HR4.out hi (pre_two s i 92 125 false h3)).mono ?_
 rintro e w1 ⟨rfl,n,rfl⟩
 have hbn:=drewN_below (Below.refl W4.heap.size W4) n
 have HR5:=Lib.hid (HR4.out.later hbn)
 have Z5:=Lib.hid (keep_blk hbn Z4.out)
 have HB5:=Lib.hid (HB4.out.trans (hbn.mono HB4.out.size))
 have hs5:=Nat.lt_of_lt_of_le hs4 hbn.size
 clear hbn HR4 Z4 HB4 hs4
 generalize World.drewN W4 n=W5 at *
 go_wp2_with fail
 refine (bqstands_any ⟨#[92]⟩ false w0 A W5 R s hs fl i g d HR5.out hi (pre_one s i 92 false h4)).mono ?_
 rintro e w1 ⟨rfl,n,rfl⟩
 have hbn:=drewN_below (Below.refl W5.heap.size W5) n
 have HR6:=Lib.hid (HR5.out.later hbn)
 have Z6:=Lib.hid (keep_blk hbn Z5.out)
 have HB6:=Lib.hid (HB5.out.trans (hbn.mono HB5.out.size))
 have hs6:=Nat.lt_of_lt_of_le hs5 hbn.size
 clear hbn HR5 Z5 HB5 hs5
 generalize World.drewN W5 n=W6 at *
 go_wp2_with fail
 refine (HC.out _ HR6.out).mono ?_
 intro e w9 he4
 clear HC
 cases O with
 | err c q =>
   obtain ⟨v4,rfl,hv4,ht4⟩:=he4.err rfl
   have HG:=Lib.hid (BqEnd.gave (R:=R) (w:=w) (fl:=fl) (s:=s) (d:=d) hv4 (Nat.le_of_lt hs6) ((Touch.of_below [R] HB6.out).trans ht4))
   clear hv4 ht4 he4
   go_wp2
   exact ⟨rfl,HG.out⟩
 | ok t j g' =>
   obtain ⟨v4,F4,rfl,ho4,hF4,hr4,ht4⟩:=he4.ok rfl
   obtain ⟨p4,c4,rfl,hl4⟩:=ho4.slice
   have Z9:=Lib.hid ((ht4.block w.heap.size hs6 (by simp;omega)).trans Z6.out)
   have HO9:=Lib.hid ho4
   have HF9:Hid (∀ b,b ∈ F4→w.heap.size < b):=Lib.hid fun b hb=>Nat.lt_of_lt_of_le hs6 (hF4 b hb)
   have HRC:=Lib.hid hr4
   have HT9:=Lib.hid ((Touch.of_below [R] HB6.out).trans ht4)
   clear ho4 hF4 hr4 ht4 he4 HR6 Z6 HB6 hs6
   unfold Tr.cells at *
   go_wp2_with (first
     | (refine wpList_store_row rfl 28 (.tmp 2) (.tmp 33) rfl w.heap.size #[.int .i64 (t).kind,.int .u64 (Oc.U (t).w0),.int .u64 (Oc.U (t).w1),.int .u64 (Oc.U (t).w2),.int .u64 (Oc.U (t).w3),.slice p4 t.subs.length c4,.int .i64 (t).num,.int .i64 (t).least,.int .i64 (t).most,.bool (t).bare] rfl rfl 28 _ Z9.out (by kernel_rfl) rfl (by simp [Value.oneCell']) ?_)
     | fail)
   exact bodyPost_ret (results_cell_row rfl _ _ w.heap.size 28 #[.int .i64 (t).kind,.int .u64 (Oc.U (t).w0),.int .u64 (Oc.U (t).w1),.int .u64 (Oc.U (t).w2),.int .u64 (Oc.U (t).w3),.slice p4 t.subs.length c4,.int .i64 (t).num,.int .i64 (t).least,.int .i64 (t).most,.bool (t).bare] (0,0) _ rfl (heap_setRow Z9.out) Tryz.underlying28 rfl (by kernel_rfl)) rfl ⟨⟨.slice p4 t.subs.length c4,F4,rfl,HO9.out.keep fun b hb=>heap_setRow_other _ _ _ (by have:=HF9.out b hb;omega),fun b hb=>Nat.le_of_lt (HF9.out b hb),(heap_setRow_other _ _ _ hRw).trans HRC.out⟩,HT9.out.setRow_new (Nat.le_refl _) _⟩
theorem bqatom_any (w0:World) (A:Nat→Addr) (w:World) (R:Nat) (s:ByteArray) (hs:s.size ≤ 4294967280) (fl:Int) (i g d:Nat) (hR:BqAt w0 A w R s fl i g d) (hi:i < s.size) (H:Nat→Nat→Ep.Out)
   (HG:∀ w,BqAt w0 A w R s fl i g d→i+1 < s.size→Calls Tryz.prog 163 #[.pointer (some ⟨R,0,none⟩)] w (BqEnd A R s fl d (H i g) w)) :
   Calls Tryz.prog 134 #[.pointer (some ⟨R,0,none⟩)] w (BqEnd A R s fl d (Bp.atom (bt s) s.size (icB fl) (nlB fl) H i g) w):=by
 have hi':i ≤ s.size:=by omega
 have no:∀ n:UInt8,¬ bt s i=n.toNat→(bt s i == n.toNat)=false:=fun n h=>by simpa using h
 have yes:∀ n:UInt8,bt s i=n.toNat→(bt s i == n.toNat)=true:=fun n h=>by simpa using h
 unfold Bp.atom
 by_cases c0:bt s i=46
 · rw [if_pos c0];exact bqatom_dot w0 A w R s hs fl i g d hR hi' (yes 46 c0) (by omega)
 rw [if_neg c0]
 by_cases c1:bt s i=91
 · rw [if_pos c1]
   refine bqatom_set w0 A w R s hs fl i g d hR hi' (no 46 c0) (yes 91 c1) _ fun w hR=>?_
   cases hw:Br.whole (bt s) s.size i (icB fl) (nlB fl) with
   | ok P j=>exact bqbracketed_ok w0 A w R s hs fl i g d hR c1 P j hw
   | err c q=>exact bqbracketed_err w0 A w R s hs fl i g d hR c1 c q hw
 rw [if_neg c1]
 by_cases c2:Bp.two (bt s) 92 40 i=true
 · rw [if_pos c2]
   exact bqatom_group w0 A w R s hs fl i g d hR hi' (no 46 c0) (no 91 c1) c2 _ fun w hR=>HG w hR (Bp.two_lt (bt_txt s) c2 (by omega) (by omega))
 rw [if_neg c2]
 have c2':Bp.two (bt s) 92 40 i=false:=by simpa using c2
 by_cases c3:Bp.two (bt s) 92 125 i=true
 · rw [if_pos c3];exact bqatom_brace w0 A w R s hs fl i g d hR hi' (no 46 c0) (no 91 c1) c2' c3
 rw [if_neg c3]
 have c3':Bp.two (bt s) 92 125 i=false:=by simpa using c3
 by_cases c4:bt s i=92
 · rw [if_pos c4]
   refine bqatom_esc w0 A w R s hs fl i g d hR hi' (no 46 c0) (no 91 c1) c2' c3' (yes 92 c4) _ fun w hR=>?_
   by_cases hl:i+1=s.size
   · rw [if_neg (by rw [bt_out (by omega)];decide)]
     exact bqescaped_end w0 A w R s hs fl i g d hR hl
   · by_cases hp:Cl.cls 8 (bt s (i+1))=true
     · rw [if_pos hp];exact bqescaped_ok w0 A w R s hs fl i g d hR (by omega) hp
     · rw [if_neg hp];exact bqescaped_no w0 A w R s hs fl i g d hR (by omega) (by simpa using hp)
 · rw [if_neg c4]
   exact bqatom_plain w0 A w R s hs fl i g d hR hi' (no 46 c0) (no 91 c1) c2' c3' (no 92 c4) _ fun w hR=>(bqplain_any w0 A w R s hs fl i g d hR hi).mono fun e w' h=>h.nd rfl
theorem bqpiece_end (w0:World) (A:Nat→Addr) (w:World) (R:Nat) (s:ByteArray) (hs:s.size ≤ 4294967280) (fl:Int) (i g d:Nat) (hR:BqAt w0 A w R s fl i g d) (hi:i ≤ s.size) (hin:i+1 ≤ s.size) (he:Bp.isEnd (bt s) s.size i=true) :
   Calls Tryz.prog 96 #[.pointer (some ⟨R,0,none⟩)] w (BqEnd A R s fl d (.ok (.leaf 4) (i+1) g) w):=by
 have hlt:=hR.lt
 have hb0:Below w.heap.size w (w.alloc (.cells noNode 28)):=(Below.refl _ _).alloc (Nat.le_refl _) _
 have HR1:=Lib.hid (hR.later hb0)
 have Z1:=Lib.hid (heap_alloc_new w (.cells noNode 28))
 have HB1:=Lib.hid hb0
 have hs1:w.heap.size < (w.alloc (.cells noNode 28)).heap.size:=by simp
 have hRw:R ≠ w.heap.size:=by omega
 clear hR hb0
 go_enter Tryz.func96,Tryz.ntmps96
 go_wp2_with fail
 generalize World.alloc _ _=W at *
 refine (isend_any w0 A W R s hs fl i g d HR1.out hi true he).mono ?_
 rintro e w1 ⟨rfl,n,rfl⟩
 have hbn:=drewN_below (Below.refl W.heap.size W) n
 have HR2:=Lib.hid (HR1.out.later hbn)
 have Z2:=Lib.hid (keep_blk hbn Z1.out)
 have HB2:=Lib.hid (HB1.out.trans (hbn.mono HB1.out.size))
 have hs2:=Nat.lt_of_lt_of_le hs1 hbn.size
 clear hbn HR1 Z1 HB1 hs1
 generalize World.drewN W n=W2 at *
 have hw:IntKind.i64.wrap ((i:Int)+1)=(i:Int)+1:=IntWalk.i64_in _ (by omega)
 obtain ⟨-,-,c2,-,-⟩:=bq5 HR2.out.cell
 obtain ⟨f2,-,-⟩:=bqf HR2.out.cell
 have HP:=Lib.hid (bq_place HR2.out.cell (i+1) (v:=(i:Int)+1) (by omega))
 have HT:=Lib.hid ((Touch.of_below [R] HB2.out).setCell List.mem_cons_self 2 (.int .i64 ((i:Int)+1)))
 have Z5:=Lib.hid ((Below.heap_setCell W2 ⟨R,2,none⟩ (.int .i64 ((i:Int)+1)) w.heap.size (Ne.symm hRw)).trans Z2.out)
 clear HR2 HB2 Z2 he hin
 go_wp2_with (first
   | (refine wpList_store_row rfl 28 (.tmp 2) (.tmp 13) rfl w.heap.size #[.int .i64 4,.int .u64 0,.int .u64 0,.int .u64 0,.int .u64 0,.slice none 0 0,.int .i64 0,.int .i64 0,.int .i64 0,.bool false] rfl rfl 28 _ Z5.out (by kernel_rfl) rfl (by simp [Value.oneCell']) ?_)
   | fail)
 exact bodyPost_ret (results_cell_row rfl _ _ w.heap.size 28 #[.int .i64 4,.int .u64 0,.int .u64 0,.int .u64 0,.int .u64 0,.slice none 0 0,.int .i64 0,.int .i64 0,.int .i64 0,.bool false] (0,0) _ rfl (heap_setRow Z5.out) Tryz.underlying28 rfl (by kernel_rfl)) rfl ⟨⟨.slice none 0 0,[],rfl,.nil _ _,fun b hb=>(by cases hb),(heap_setRow_other _ _ _ hRw).trans HP.out⟩,HT.out.setRow_new (Nat.le_refl _) _⟩
theorem bqpiece_star (w0:World) (A:Nat→Addr) (w:World) (R:Nat) (s:ByteArray) (hs:s.size ≤ 4294967280) (fl:Int) (i g d:Nat) (hR:BqAt w0 A w R s fl i g d) (hi:i ≤ s.size) (he:Bp.isEnd (bt s) s.size i=false) (h0:(bt s i == (42:UInt8).toNat)=true) :
   Calls Tryz.prog 96 #[.pointer (some ⟨R,0,none⟩)] w (BqEnd A R s fl d (.err 9 i) w):=by
 have hlt:=hR.lt
 have hb0:Below w.heap.size w (w.alloc (.cells noNode 28)):=(Below.refl _ _).alloc (Nat.le_refl _) _
 have HR1:=Lib.hid (hR.later hb0)
 have Z1:=Lib.hid (heap_alloc_new w (.cells noNode 28))
 have HB1:=Lib.hid hb0
 have hs1:w.heap.size < (w.alloc (.cells noNode 28)).heap.size:=by simp
 have hRw:R ≠ w.heap.size:=by omega
 clear hR hb0
 go_enter Tryz.func96,Tryz.ntmps96
 go_wp2_with fail
 generalize World.alloc _ _=W at *
 refine (isend_any w0 A W R s hs fl i g d HR1.out hi false he).mono ?_
 rintro e w1 ⟨rfl,n,rfl⟩
 have hbn:=drewN_below (Below.refl W.heap.size W) n
 have HR2:=Lib.hid (HR1.out.later hbn)
 have Z2:=Lib.hid (keep_blk hbn Z1.out)
 have HB2:=Lib.hid (HB1.out.trans (hbn.mono HB1.out.size))
 have hs2:=Nat.lt_of_lt_of_le hs1 hbn.size
 clear hbn HR1 Z1 HB1 hs1
 generalize World.drewN W n=W2 at *
 go_wp2_with fail
 refine (bqstands_any ⟨#[42]⟩ true w0 A W2 R s hs fl i g d HR2.out hi (pre_one s i 42 true h0)).mono ?_
 rintro e w1 ⟨rfl,n,rfl⟩
 have hbn:=drewN_below (Below.refl W2.heap.size W2) n
 have HR3:=Lib.hid (HR2.out.later hbn)
 have Z3:=Lib.hid (keep_blk hbn Z2.out)
 have HB3:=Lib.hid (HB2.out.trans (hbn.mono HB2.out.size))
 have hs3:=Nat.lt_of_lt_of_le hs2 hbn.size
 clear hbn HR2 Z2 HB2 hs2
 generalize World.drewN W2 n=W3 at *
 have ce:W3.cell? ⟨8,0,none⟩=some (.iface 232 (.pointer (some (A 8)))):=(HR3.out.now.errs 8 (by omega)).1
 go_wp2_with fail
 refine (bqfails_any w0 A 8 (by omega) W3 R s fl i g d HR3.out).mono ?_
 intro e w9 he4
 clear ce
 obtain ⟨v4,rfl,hv4,ht4⟩:=he4.err rfl
 have HG:=Lib.hid (BqEnd.gave (R:=R) (w:=w) (fl:=fl) (s:=s) (d:=d) hv4 (Nat.le_of_lt hs3) ((Touch.of_below [R] HB3.out).trans ht4))
 clear hv4 ht4 he4
 go_wp2
 exact ⟨rfl,HG.out⟩
theorem bqpiece_brace (w0:World) (A:Nat→Addr) (w:World) (R:Nat) (s:ByteArray) (hs:s.size ≤ 4294967280) (fl:Int) (i g d:Nat) (hR:BqAt w0 A w R s fl i g d) (hi:i ≤ s.size) (he:Bp.isEnd (bt s) s.size i=false) (h0:(bt s i == (42:UInt8).toNat)=false) (h1:Bp.two (bt s) (92:UInt8).toNat (123:UInt8).toNat i=true) :
   Calls Tryz.prog 96 #[.pointer (some ⟨R,0,none⟩)] w (BqEnd A R s fl d (.err 9 i) w):=by
 have hlt:=hR.lt
 have hb0:Below w.heap.size w (w.alloc (.cells noNode 28)):=(Below.refl _ _).alloc (Nat.le_refl _) _
 have HR1:=Lib.hid (hR.later hb0)
 have Z1:=Lib.hid (heap_alloc_new w (.cells noNode 28))
 have HB1:=Lib.hid hb0
 have hs1:w.heap.size < (w.alloc (.cells noNode 28)).heap.size:=by simp
 have hRw:R ≠ w.heap.size:=by omega
 clear hR hb0
 go_enter Tryz.func96,Tryz.ntmps96
 go_wp2_with fail
 generalize World.alloc _ _=W at *
 refine (isend_any w0 A W R s hs fl i g d HR1.out hi false he).mono ?_
 rintro e w1 ⟨rfl,n,rfl⟩
 have hbn:=drewN_below (Below.refl W.heap.size W) n
 have HR2:=Lib.hid (HR1.out.later hbn)
 have Z2:=Lib.hid (keep_blk hbn Z1.out)
 have HB2:=Lib.hid (HB1.out.trans (hbn.mono HB1.out.size))
 have hs2:=Nat.lt_of_lt_of_le hs1 hbn.size
 clear hbn HR1 Z1 HB1 hs1
 generalize World.drewN W n=W2 at *
 go_wp2_with fail
 refine (bqstands_any ⟨#[42]⟩ false w0 A W2 R s hs fl i g d HR2.out hi (pre_one s i 42 false h0)).mono ?_
 rintro e w1 ⟨rfl,n,rfl⟩
 have hbn:=drewN_below (Below.refl W2.heap.size W2) n
 have HR3:=Lib.hid (HR2.out.later hbn)
 have Z3:=Lib.hid (keep_blk hbn Z2.out)
 have HB3:=Lib.hid (HB2.out.trans (hbn.mono HB2.out.size))
 have hs3:=Nat.lt_of_lt_of_le hs2 hbn.size
 clear hbn HR2 Z2 HB2 hs2
 generalize World.drewN W2 n=W3 at *
 go_wp2_with fail
 refine (bqstands_any ⟨#[92,123]⟩ true w0 A W3 R s hs fl i g d HR3.out hi (pre_two s i 92 123 true h1)).mono ?_
 rintro e w1 ⟨rfl,n,rfl⟩
 have hbn:=drewN_below (Below.refl W3.heap.size W3) n
 have HR4:=Lib.hid (HR3.out.later hbn)
 have Z4:=Lib.hid (keep_blk hbn Z3.out)
 have HB4:=Lib.hid (HB3.out.trans (hbn.mono HB3.out.size))
 have hs4:=Nat.lt_of_lt_of_le hs3 hbn.size
 clear hbn HR3 Z3 HB3 hs3
 generalize World.drewN W3 n=W4 at *
 have ce:W4.cell? ⟨8,0,none⟩=some (.iface 232 (.pointer (some (A 8)))):=(HR4.out.now.errs 8 (by omega)).1
 go_wp2_with fail
 refine (bqfails_any w0 A 8 (by omega) W4 R s fl i g d HR4.out).mono ?_
 intro e w9 he4
 clear ce
 obtain ⟨v4,rfl,hv4,ht4⟩:=he4.err rfl
 have HG:=Lib.hid (BqEnd.gave (R:=R) (w:=w) (fl:=fl) (s:=s) (d:=d) hv4 (Nat.le_of_lt hs4) ((Touch.of_below [R] HB4.out).trans ht4))
 clear hv4 ht4 he4
 go_wp2
 exact ⟨rfl,HG.out⟩
theorem bqpiece_atom (w0:World) (A:Nat→Addr) (w:World) (R:Nat) (s:ByteArray) (hs:s.size ≤ 4294967280) (fl:Int) (i g d:Nat) (hR:BqAt w0 A w R s fl i g d) (hi:i ≤ s.size) (he:Bp.isEnd (bt s) s.size i=false) (h0:(bt s i == (42:UInt8).toNat)=false) (h1:Bp.two (bt s) (92:UInt8).toNat (123:UInt8).toNat i=false) (O:Ep.Out) (hO:∀ t j g',O=.ok t j g'→j ≤ s.size∧t.InForm) (HC:∀ w,BqAt w0 A w R s fl i g d→Calls Tryz.prog 134 #[.pointer (some ⟨R,0,none⟩)] w (BqEnd A R s fl d O w)) :
   Calls Tryz.prog 96 #[.pointer (some ⟨R,0,none⟩)] w (BqEnd A R s fl d (Bp.more (bt s) s.size O) w):=by
 have HC:=Lib.hid HC
 have hlt:=hR.lt
 have hb0:Below w.heap.size w (w.alloc (.cells noNode 28)):=(Below.refl _ _).alloc (Nat.le_refl _) _
 have HR1:=Lib.hid (hR.later hb0)
 have Z1:=Lib.hid (heap_alloc_new w (.cells noNode 28))
 have HB1:=Lib.hid hb0
 have hs1:w.heap.size < (w.alloc (.cells noNode 28)).heap.size:=by simp
 have hRw:R ≠ w.heap.size:=by omega
 clear hR hb0
 go_enter Tryz.func96,Tryz.ntmps96
 go_wp2_with fail
 generalize World.alloc _ _=W at *
 refine (isend_any w0 A W R s hs fl i g d HR1.out hi false he).mono ?_
 rintro e w1 ⟨rfl,n,rfl⟩
 have hbn:=drewN_below (Below.refl W.heap.size W) n
 have HR2:=Lib.hid (HR1.out.later hbn)
 have Z2:=Lib.hid (keep_blk hbn Z1.out)
 have HB2:=Lib.hid (HB1.out.trans (hbn.mono HB1.out.size))
 have hs2:=Nat.lt_of_lt_of_le hs1 hbn.size
 clear hbn HR1 Z1 HB1 hs1
 generalize World.drewN W n=W2 at *
 go_wp2_with fail
 refine (bqstands_any ⟨#[42]⟩ false w0 A W2 R s hs fl i g d HR2.out hi (pre_one s i 42 false h0)).mono ?_
 rintro e w1 ⟨rfl,n,rfl⟩
 have hbn:=drewN_below (Below.refl W2.heap.size W2) n
 have HR3:=Lib.hid (HR2.out.later hbn)
 have Z3:=Lib.hid (keep_blk hbn Z2.out)
 have HB3:=Lib.hid (HB2.out.trans (hbn.mono HB2.out.size))
 have hs3:=Nat.lt_of_lt_of_le hs2 hbn.size
 clear hbn HR2 Z2 HB2 hs2
 generalize World.drewN W2 n=W3 at *
 go_wp2_with fail
 refine (bqstands_any ⟨#[92,123]⟩ false w0 A W3 R s hs fl i g d HR3.out hi (pre_two s i 92 123 false h1)).mono ?_
 rintro e w1 ⟨rfl,n,rfl⟩
 have hbn:=drewN_below (Below.refl W3.heap.size W3) n
 have HR4:=Lib.hid (HR3.out.later hbn)
 have Z4:=Lib.hid (keep_blk hbn Z3.out)
 have HB4:=Lib.hid (HB3.out.trans (hbn.mono HB3.out.size))
 have hs4:=Nat.lt_of_lt_of_le hs3 hbn.size
 clear hbn HR3 Z3 HB3 hs3
 generalize World.drewN W3 n=W4 at *
 go_wp2_with fail
 refine (HC.out _ HR4.out).mono ?_
 intro e w9 he4
 clear HC
 cases O with
 | err c q =>
   obtain ⟨v4,rfl,hv4,ht4⟩:=he4.err rfl
   have HG:=Lib.hid (BqEnd.gave (R:=R) (w:=w) (fl:=fl) (s:=s) (d:=d) hv4 (Nat.le_of_lt hs4) ((Touch.of_below [R] HB4.out).trans ht4))
   clear hv4 ht4 he4
   go_wp2
   exact ⟨rfl,HG.out⟩
 | ok t j g' =>
   obtain ⟨hj,hfm⟩:=hO t j g' rfl
   obtain ⟨v4,F4,rfl,ho4,hF4,hr4,ht4⟩:=he4.ok rfl
   have HR9:=Lib.hid (HR4.out.next ht4 hr4)
   have HREP:=Lib.hid (bqrepeated_any w0 A w9 R s hs fl j g' d HR9.out hj t v4 F4 W4.heap.size ho4 hF4 HR4.out.lt ht4.size hfm)
   have Z9:=Lib.hid ((ht4.block w.heap.size hs4 (by simp;omega)).trans Z4.out)
   have HT9:=Lib.hid ((Touch.of_below [R] HB4.out).trans ht4)
   have hs9:w.heap.size < w9.heap.size:=Nat.lt_of_lt_of_le hs4 ht4.size
   obtain ⟨p8,c8,rfl,hl8⟩:=ho4.slice
   clear ho4 hF4 hr4 ht4 he4 HR4 Z4 HB4
   unfold Tr.cells at HREP
   unfold Tr.cells
   go_wp2_with fail
   refine HREP.out.mono ?_
   intro e w10 he5
   clear HREP
   cases hQ:Bp.rep (bt s) s.size t j g' with
   | err c q =>
     rw [hQ] at he5
     obtain ⟨v5,rfl,hv5,ht5⟩:=he5.err rfl
     have HG:=Lib.hid (BqEnd.gave (R:=R) (w:=w) (fl:=fl) (s:=s) (d:=d) (W:=W4) hv5 (Nat.le_of_lt hs4) (HT9.out.trans ht5))
     clear hv5 ht5 he5
     go_wp2
     refine ⟨rfl, ?_⟩
     rw [show Bp.more (bt s) s.size (.ok t j g')=.err c q from hQ]
     exact HG.out
   | ok u k g5 =>
     rw [hQ] at he5
     obtain ⟨v5,F5,rfl,ho5,hF5,hr5,ht5⟩:=he5.ok rfl
     obtain ⟨p5,c5,rfl,hl5⟩:=ho5.slice
     have Z10:=Lib.hid ((ht5.block w.heap.size hs9 (by simp;omega)).trans Z9.out)
     have HO5:=Lib.hid ho5
     have HF5:Hid (∀ b,b ∈ F5→w.heap.size < b):=Lib.hid fun b hb=>Nat.lt_of_lt_of_le hs4 (hF5 b hb)
     have HRC:=Lib.hid hr5
     have HT5:=Lib.hid (HT9.out.trans ht5)
     clear ho5 hF5 hr5 ht5 he5 HR9 Z9 HT9 hs9 hs4

     unfold Tr.cells at *
     go_wp2_with (first
       | (refine wpList_store_row rfl 28 (.tmp 2) (.tmp 25) rfl w.heap.size #[.int .i64 (u).kind,.int .u64 (Oc.U (u).w0),.int .u64 (Oc.U (u).w1),.int .u64 (Oc.U (u).w2),.int .u64 (Oc.U (u).w3),.slice p5 u.subs.length c5,.int .i64 (u).num,.int .i64 (u).least,.int .i64 (u).most,.bool (u).bare] rfl rfl 28 _ Z10.out (by kernel_rfl) rfl (by simp [Value.oneCell']) ?_)
       | fail)
     exact bodyPost_ret (results_cell_row rfl _ _ w.heap.size 28 #[.int .i64 (u).kind,.int .u64 (Oc.U (u).w0),.int .u64 (Oc.U (u).w1),.int .u64 (Oc.U (u).w2),.int .u64 (Oc.U (u).w3),.slice p5 u.subs.length c5,.int .i64 (u).num,.int .i64 (u).least,.int .i64 (u).most,.bool (u).bare] (0,0) _ rfl (heap_setRow Z10.out) Tryz.underlying28 rfl (by kernel_rfl)) rfl (by rw [show Bp.more (bt s) s.size (.ok t j g')=.ok u k g5 from hQ];exact ⟨⟨.slice p5 u.subs.length c5,F5,rfl,HO5.out.keep fun b hb=>heap_setRow_other _ _ _ (by have:=HF5.out b hb;omega),fun b hb=>Nat.le_of_lt (HF5.out b hb),(heap_setRow_other _ _ _ hRw).trans HRC.out⟩,HT5.out.setRow_new (Nat.le_refl _) _⟩)
theorem bqpiece_any (w0:World) (A:Nat→Addr) (w:World) (R:Nat) (s:ByteArray) (hs:s.size ≤ 4294967280) (fl:Int) (i g d:Nat) (hR:BqAt w0 A w R s fl i g d) (hi:i < s.size) (H:Nat→Nat→Ep.Out) (hA:Bp.Ahead s.size H) (hH:Bp.Right s.size H) (hg:2 * g ≤ i)
   (HG:∀ w,BqAt w0 A w R s fl i g d→i+1 < s.size→Calls Tryz.prog 163 #[.pointer (some ⟨R,0,none⟩)] w (BqEnd A R s fl d (H i g) w)) :
   Calls Tryz.prog 96 #[.pointer (some ⟨R,0,none⟩)] w (BqEnd A R s fl d (Bp.piece (bt s) s.size (icB fl) (nlB fl) H i g) w):=by
 have hi':i ≤ s.size:=by omega
 unfold Bp.piece
 by_cases h0:Bp.isEnd (bt s) s.size i=true
 · rw [if_pos h0];exact bqpiece_end w0 A w R s hs fl i g d hR hi' (by omega) h0
 rw [if_neg h0]
 have h0':Bp.isEnd (bt s) s.size i=false:=by simpa using h0
 by_cases h1:bt s i=42
 · rw [if_pos h1];exact bqpiece_star w0 A w R s hs fl i g d hR hi' h0' (by rw [h1];rfl)
 rw [if_neg h1]
 have h1':(bt s i == (42:UInt8).toNat)=false:=by simpa using h1
 by_cases h2:Bp.two (bt s) 92 123 i=true
 · rw [if_pos h2];exact bqpiece_brace w0 A w R s hs fl i g d hR hi' h0' h1' h2
 rw [if_neg h2]
 refine (bqpiece_atom w0 A w R s hs fl i g d hR hi' h0' h1' (by simpa using h2) (Bp.atom (bt s) s.size (icB fl) (nlB fl) H i g) (fun t j g' hO=>⟨(Bp.atom_next (bt_txt s) hA hi hO).2,(Bp.atom_form (bt_txt s) hA hH hi hg hO).1⟩) fun w hR=>bqatom_any w0 A w R s hs fl i g d hR hi H HG).mono fun e w' h=>?_
 exact h
end Go.Proofs.YtfcilopifjddpaaGreatDoor
namespace Go.Proofs.YtfcilopifjddpaaGreatDoor
open Go.RowKit
theorem bqplace_of {w:World} {R:Nat} {s:ByteArray} {fl:Int} {i g d:Nat} (h:w.heap[R]? = some (.cells (rdC s fl i g d) 53)):placeOf R w=i:=by
 unfold placeOf;rw [(bq5 h).2.2.1];simp
structure PqAt (w0:World) (A:Nat→Addr) (w W:World) (R:Nat) (s:ByteArray) (fl:Int) (i g d:Nat) (v:Value) (ps:List (Tr × Value)):Prop where
 rd:BqAt w0 A W R s fl i g d
 tch:Touch [R] w W
 res:W.heap[w.heap.size]? = some (.cells noNode 28)
 lt:w.heap.size < W.heap.size
 rlt:R < w.heap.size
 row:RowAt W (w.heap.size+1) v ps
theorem PqAt.later {w0:World} {A:Nat→Addr} {w W W':World} {R:Nat} {s:ByteArray} {fl:Int} {i g d:Nat} {v:Value} {ps:List (Tr × Value)} (h:PqAt w0 A w W R s fl i g d v ps) (hb:Below W.heap.size W W'):PqAt w0 A w W' R s fl i g d v ps :=
 ⟨h.rd.later hb,h.tch.later hb,keep_blk hb h.res,Nat.lt_of_lt_of_le h.lt hb.size,h.rlt,h.row.later hb⟩
theorem PqAt.touch {w0:World} {A:Nat→Addr} {w W W':World} {R:Nat} {s:ByteArray} {fl:Int} {i g d j g':Nat} {v:Value} {ps:List (Tr × Value)} (h:PqAt w0 A w W R s fl i g d v ps) (ht:Touch [R] W W') (hc:W'.heap[R]? = some (.cells (rdC s fl j g' d) 53)):PqAt w0 A w W' R s fl j g' d v ps :=
 ⟨h.rd.next ht hc,h.tch.trans ht,(ht.block _ h.lt (by have:=h.rlt;simp;omega)).trans h.res,Nat.lt_of_lt_of_le h.lt ht.size,h.rlt,h.row.touch ht (by have:=h.rlt;omega)⟩
theorem PqAt.pre {w0:World} {A:Nat→Addr} {w W:World} {R:Nat} {s:ByteArray} {fl:Int} {i g d:Nat} {v:Value} {ps:List (Tr × Value)} (h:PqAt w0 A w W R s fl i g d v ps) (x:Tr) (sv:Value) :
   (W.alloc (.cells (x.cells sv) 28)).ownsRow (w.heap.size+1) 28 10 v ps.length (rowOf ps)∧(∀ (j:Nat) (u:Value),(x.cells sv).toList[j]? = some u→(W.alloc (.cells (x.cells sv) 28)).cell? ((⟨W.heap.size,0,none⟩:Addr).add j)=some u)∧w.heap.size+1 ≤ (W.alloc (.cells (x.cells sv) 28)).heap.size:=by
 refine ⟨(h.row.later ((Below.refl _ _).alloc (Nat.le_refl _) _)).own,fun j u hu=>?_,by have:=h.lt;simp;omega⟩
 have ea:(⟨W.heap.size,0,none⟩:Addr).add j=⟨W.heap.size,j,none⟩:=by unfold Addr.add;split <;> simp_all
 rw [ea,cell_new];simpa using hu
theorem PqAt.snoc {w0:World} {A:Nat→Addr} {w W w4:World} {R:Nat} {s:ByteArray} {fl:Int} {i g d:Nat} {v v':Value} {ps:List (Tr × Value)} {x:Tr} {sv:Value} (h:PqAt w0 A w W R s fl i g d v ps) (hx:TreesAt W (fun b=>w.heap.size+1 ≤ b∧v.ownBlock ≠ some b) sv x.subs)
   (ho:w4.ownsRow (w.heap.size+1) 28 10 v' (ps.length+1) (rowOf ps ++ (x.cells sv).toList)) (hg:(W.alloc (.cells (x.cells sv) 28)).grownBy w4 v.ownBlock) (hw:v'.ownBlock=v.ownBlock ∨ v'.ownBlock=some (W.alloc (.cells (x.cells sv) 28)).heap.size) :
   PqAt w0 A w w4 R s fl i g d v' (ps ++ [(x,sv)]):=by
 have hb:Below W.heap.size W (W.alloc (.cells (x.cells sv) 28)):=(Below.refl _ _).alloc (Nat.le_refl _) _
 have h2:=h.later hb
 have hrow:∀ k,Value.ownBlock v=some k→w.heap.size+1 ≤ k:=fun k e=>(h2.row.own.lt k e).1
 have hlt:=h.rlt
 have hcell:=(hg.block R h2.rd.lt (fun e=>by have:=hrow R e.symm;omega)).trans h2.rd.cell
 refine ⟨⟨h2.rd.env,h2.rd.old,h2.rd.bel.grown hg h2.rd.bel.size (fun k e=>by have:=hrow k e;have:=h2.rd.old;omega),hcell⟩,h2.tch.grown hg fun k e=>by have:=hrow k e;omega,(hg.block _ h2.lt (fun e=>by have:=hrow _ e.symm;omega)).trans h2.res,Nat.lt_of_lt_of_le h2.lt hg.size,hlt,h2.row.snoc (hx.later hb) ho hg hw⟩
theorem PqAt.apart {w0:World} {A:Nat→Addr} {w W W':World} {R:Nat} {s:ByteArray} {fl:Int} {i g d:Nat} {v:Value} {ps:List (Tr × Value)} (h:PqAt w0 A w W R s fl i g d v ps) {sv:Value} {ts:List Tr} {F:List Nat} (ho:Owned W' sv ts F) (hF:∀ b,b ∈ F→W.heap.size ≤ b):TreesAt W' (fun b=>w.heap.size+1 ≤ b∧v.ownBlock ≠ some b) sv ts :=
 ho.trees.mono fun b _ hb=>⟨by have:=hF b hb;have:=h.lt;omega,fun e=>by have:=(h.row.own.lt b e).2;have:=hF b hb;omega⟩
theorem bqtakes_any (p:ByteArray) (k:Nat) (hk:p.size=k) (b:Bool) (w0:World) (A:Nat→Addr) (w:World) (R:Nat) (s:ByteArray) (hs:s.size ≤ 4294967280) (fl:Int) (i g d:Nat) (hR:BqAt w0 A w R s fl i g d) (hi:i ≤ s.size) (hb:b=true→i+k ≤ s.size) (hp:Pre p s i b) :
   Calls Tryz.prog 92 #[.pointer (some ⟨R,0,none⟩),.string p] w fun e w'=>e=.returned (.bool b)∧w'.heap[R]? = some (.cells (rdC s fl (bif b then i+k else i) g d) 53)∧Touch [R] w w':=by
 cases b with
 | true=>exact bqtakes_yes p k hk w0 A w R s hs fl i g d hR (hb rfl) hp
 | false =>
   refine (bqtakes_no p w0 A w R s hs fl i g d hR hi hp).mono ?_
   rintro e w' ⟨rfl,n,rfl⟩
   exact ⟨rfl,(hR.later (drewN_below (Below.refl _ _) n)).cell,(Touch.refl _ _).drewN n⟩
theorem bqpieces_any (w0:World) (A:Nat→Addr) (w:World) (R:Nat) (s:ByteArray) (hs:s.size ≤ 4294967280) (fl:Int) (i0 g0 d:Nat) (hR:BqAt w0 A w R s fl i0 g0 d) (hi:i0 ≤ s.size) (H:Nat→Nat→Ep.Out) (hA:Bp.Ahead s.size H) (hH:Bp.Right s.size H) (hg:2 * g0 ≤ i0)
   (HG:∀ i g w,i+1 < s.size→2 * g ≤ i→BqAt w0 A w R s fl i g d→Calls Tryz.prog 163 #[.pointer (some ⟨R,0,none⟩)] w (BqEnd A R s fl d (H i g) w))
   (O:Ep.Out) (hO:Bp.seq (bt s) s.size (icB fl) (nlB fl) H i0 g0=O) :
   Calls Tryz.prog 55 #[.pointer (some ⟨R,0,none⟩)] w (BqEnd A R s fl d O w):=by
 have hlt:=hR.lt
 have hb0:Below w.heap.size w (w.alloc (.cells noNode 28)):=(Below.refl _ _).alloc (Nat.le_refl _) _
 have PQ0:Hid (PqAt w0 A w (w.alloc (.cells noNode 28)) R s fl i0 g0 d (.slice none 0 0) []):=Lib.hid ⟨hR.later hb0,Touch.of_below _ hb0,heap_alloc_new _ _,by simp,hlt,RowAt.nil _ _⟩
 have HAA:=Lib.hid hA;have HHH:=Lib.hid hH;have HGG:=Lib.hid HG
 unfold Bp.seq at hO
 have HO:=Lib.hid hO
 clear hR hb0 hO hA hH HG
 obtain ⟨ie,hi0,hz0,hz1,hz2⟩:=info_parts Tryz.infoNode
 have HI:=Lib.hid hi0;have HZ0:=Lib.hid hz0;have HZ1:=Lib.hid hz1;have HZ2:=Lib.hid hz2
 clear hi0 hz0 hz1 hz2
 obtain ⟨b0,hb0⟩:∃ b,(bt s i0 == (94:UInt8).toNat)=b:=⟨_,rfl⟩
 have hbi:b0=true→i0+1 ≤ s.size:=fun e=>by
   rw [e] at hb0
   exact (bt_txt s).lt (beq_iff_eq.1 hb0) (by decide)
 have HBE:=Lib.hid hb0;have HBI:=Lib.hid hbi
 clear hb0 hbi
 go_enter Tryz.func55,Tryz.ntmps55
 go_wp2_with fail
 generalize World.alloc _ _=W at *
 refine (bqtakes_any ⟨#[94]⟩ 1 rfl b0 w0 A W R s hs fl i0 g0 d PQ0.out.rd hi HBI.out (pre_one s i0 94 b0 HBE.out)).mono ?_
 rintro e w1 ⟨rfl,hr1,ht1⟩
 have PQ:=Lib.hid (PQ0.out.touch ht1 hr1)
 clear hr1 ht1 PQ0
 go_upto_if 5 with (fail)
 go_cut [3] (fun sv wx=>∃ (ps:List (Tr × Value)) (i:Nat),i ≤ s.size∧2 * g0 ≤ i∧ps.length ≤ i∧Hid (Bp.star (bt s) s.size (icB fl) (nlB fl) H (ps.map (·.1)) i g0=O)∧Hid (PqAt w0 A w wx R s fl i g0 d sv ps))
 case first =>
   cases b0 with
   | false =>
     have hO2:=HO.out
     rw [if_neg (by have:=HBE.out;simpa using this)] at hO2
     have HO2:=Lib.hid hO2
     clear hO2 HO HBE HBI
     go_wp2_with fail
     go_meet
     exact ⟨[],i0,hi,hg,Nat.zero_le _,HO2,PQ⟩
   | true =>
     have hO2:=HO.out
     rw [if_pos (by have:=HBE.out;simpa using this)] at hO2
     have HO2:=Lib.hid hO2
     have hi1:=HBI.out rfl
     clear hO2 HO HBE HBI
     have hpre:=PQ.out.pre (Tr.leaf 3) (.slice none 0 0)
     have HOWN:=Lib.hid hpre.1;have HNW:=Lib.hid hpre.2.1;have HBA:=Lib.hid hpre.2.2
     have hml:([]:List (Tr × Value)).length+1 ≤ maxLen:=by unfold maxLen;simp
     have hbyt:(([]:List (Tr × Value)).length+1) * 96 ≤ 140737488355328:=by simp
     clear hpre
     try unfold Tr.cells
     go_wp2_with (first
       | (refine wpList_node1 rfl (.tmp 7) (Tr.leaf 3) none 0 0 rfl rfl ?_)
       | (refine wpList_append_fresh _ rfl (.tmp 6) (.tmp 8) 26 rfl (w.heap.size+1) 28 ie _ 10 96 Tryz.underlying26 HI.out HZ0.out HZ1.out HZ2.out rfl (by decide) _ _ _ rfl HOWN.out ⟨w1.heap.size,0,none⟩ 1 1 ((Tr.leaf 3).cells (.slice none 0 0)).toList rfl rfl HNW.out (nodeC_one _ _ _ _) (by decide) hml hbyt HBA.out ?_;intro v' w4 hown4 hgrow4 hwhere)
       | fail)
     have PQ2:=Lib.hid (PQ.out.snoc (x:=Tr.leaf 3) (sv:=.slice none 0 0) .nil hown4 hgrow4 hwhere)
     clear hown4 hgrow4 hwhere PQ HOWN HNW HBA hml hbyt
     go_meet
     exact ⟨[] ++ [(Tr.leaf 3,Value.slice none 0 0)],i0+1,hi1,by omega,by simp,Lib.hid (by simpa using HO2.out),PQ2⟩
 case rest =>
   clear PQ HO HBE HBI
   obtain ⟨ps1,i1,hi1,hg1,hpl1,HO1,PQ1⟩:=hcut
   clear hi hg
   unfold Bp.star at HO1
   obtain ⟨b1,hb1⟩:∃ b,(bt s i1 == (42:UInt8).toNat)=b:=⟨_,rfl⟩
   have HBE:=Lib.hid hb1
   clear hb1
   go_wp2_with fail
   refine (bqstands_any ⟨#[42]⟩ b1 w0 A _ R s hs fl i1 g0 d PQ1.out.rd hi1 (pre_one s i1 42 b1 HBE.out)).mono ?_
   rintro e w2 ⟨rfl,n,rfl⟩
   have PQ:=Lib.hid (PQ1.out.later (drewN_below (Below.refl _ _) n))
   clear PQ1
   generalize World.drewN _ n=W2 at *
   go_upto_if 11 with (fail)
   go_cut [3] (fun sv wx=>∃ (ps:List (Tr × Value)) (i g:Nat),i ≤ s.size∧2 * g ≤ i∧ps.length ≤ i∧Hid (Bp.loop (bt s) s.size (icB fl) (nlB fl) H (s.size+1) (ps.map (·.1)) i g=O)∧Hid (PqAt w0 A w wx R s fl i g d sv ps))
   case first =>
     cases b1 with
     | false =>
       have hO2:=HO1.out
       rw [if_neg (by have:=HBE.out;simpa using this)] at hO2
       have HO2:=Lib.hid hO2
       clear hO2 HO1 HBE
       go_wp2_with fail
       go_meet
       exact ⟨ps1,i1,g0,hi1,hg1,hpl1,HO2,PQ⟩
     | true =>
       have h42:bt s i1=42:=by have:=HBE.out;simpa using this
       have hlt1:=(bt_txt s).lt h42 (by omega)
       have hO2:=HO1.out
       rw [if_pos h42] at hO2
       have HO2:=Lib.hid hO2
       have HPL:Hid (Calls Tryz.prog 95 #[.pointer (some ⟨R,0,none⟩)] W2 (BqPl R s fl g0 d (Ep.one (icB fl) 42) (i1+1) W2)):=Lib.hid (by
         have:=bqplain_any w0 A W2 R s hs fl i1 g0 d PQ.out.rd hlt1
         rw [h42] at this;exact this)
       clear hO2 HO1 HBE h42
       go_wp2_with fail
       refine HPL.out.mono ?_
       rintro e w3 ⟨rfl,hr3,ht3⟩
       have PQ3:=Lib.hid (PQ.out.touch ht3 hr3)
       have HREP:=Lib.hid (bqrepeated_any w0 A w3 R s hs fl (i1+1) g0 d PQ3.out.rd (by omega) (Ep.one (icB fl) 42) (.slice none 0 0) [] W2.heap.size (.nil _ _) (fun b hb=>by cases hb) (Nat.lt_trans PQ.out.rlt PQ.out.lt) ht3.size (Ep.form_bytes _))
       have hbse:W2.heap.size ≤ w3.heap.size:=ht3.size
       have hW2:=PQ.out.lt
       have HT3:=Lib.hid ht3
       clear hr3 ht3 HPL
       generalize Ep.one (icB fl) 42=T at *
       unfold Tr.cells at HREP ⊢
       go_wp2_with fail
       refine HREP.out.mono ?_
       intro e w5 he5
       clear HREP
       cases hQ:Bp.rep (bt s) s.size T (i1+1) g0 with
       | err c q =>
         rw [hQ] at he5
         have hO2:=HO2.out
         rw [hQ] at hO2
         simp only at hO2
         subst hO2
         obtain ⟨v5,rfl,hv5,ht5⟩:=he5.err rfl
         have HG:=Lib.hid (BqEnd.gave (R:=R) (w:=w) (fl:=fl) (s:=s) (d:=d) (W:=W2) hv5 (Nat.le_of_lt hW2) (PQ3.out.tch.trans ht5))
         clear hv5 ht5 he5 HO2
         go_wp2
         exact ⟨rfl,HG.out⟩
       | ok u k g5 =>
         rw [hQ] at he5
         have hO2:=HO2.out
         rw [hQ] at hO2
         simp only at hO2
         have HO5:=Lib.hid hO2
         obtain ⟨hk1,hk2,hk3,-⟩:=Bp.rep_ok hQ (bt_txt s) (by omega)
         obtain ⟨v5,F5,rfl,ho5,hF5,hr5,ht5⟩:=he5.ok rfl
         obtain ⟨p5,c5,rfl,hl5⟩:=ho5.slice
         have HX:=Lib.hid (PQ.out.apart ho5 hF5)
         have PQ:=Lib.hid (PQ3.out.touch ht5 hr5)
         clear ho5 hF5 hr5 ht5 he5 hO2 HO2 hQ PQ3 HT3
         have hpre:=PQ.out.pre (u) (.slice p5 u.subs.length c5)
         have HOWN:=Lib.hid hpre.1;have HNW:=Lib.hid hpre.2.1;have HBA:=Lib.hid hpre.2.2
         have hml:ps1.length+1 ≤ maxLen:=by unfold maxLen;omega
         have hbyt:(ps1.length+1) * 96 ≤ 140737488355328:=by omega
         clear hpre
         try unfold Tr.cells
         go_wp2_with (first
           | (refine wpList_node1 rfl (.tmp 16) (u) p5 u.subs.length c5 rfl rfl ?_)
           | (refine wpList_append_fresh _ rfl (.tmp 12) (.tmp 17) 26 rfl (w.heap.size+1) 28 ie _ 10 96 Tryz.underlying26 HI.out HZ0.out HZ1.out HZ2.out rfl (by decide) _ _ _ rfl HOWN.out ⟨w5.heap.size,0,none⟩ 1 1 ((u).cells (.slice p5 u.subs.length c5)).toList rfl rfl HNW.out (nodeC_one _ _ _ _) (by decide) hml hbyt HBA.out ?_;intro v' w4 hown4 hgrow4 hwhere)
           | fail)
         have PQ2:=Lib.hid (PQ.out.snoc HX.out hown4 hgrow4 hwhere)
         clear hown4 hgrow4 hwhere PQ HOWN HNW HBA hml hbyt
         go_meet
         exact ⟨_,k,g5,hk2,by omega,by simp;omega,by rw [List.map_append];exact HO5,PQ2⟩
   case rest =>
     clear PQ HO1 HBE
     obtain ⟨ps2,i2,g2,hi2,hg2,hpl2,HO2,PQ2⟩:=hcut
     clear hi1 hg1 hpl1
     go_wp2
     go_loopw [3] (fun sv wr=>∃ (k:Nat) (ps:List (Tr × Value)) (i g:Nat),s.size - i < k∧i ≤ s.size∧2 * g ≤ i∧ps.length ≤ i∧Hid (Bp.loop (bt s) s.size (icB fl) (nlB fl) H k (ps.map (·.1)) i g=O)∧Hid (PqAt w0 A w wr R s fl i g d sv ps)) (fun _ wr=>s.size - placeOf R wr)
     case atStart=>exact ⟨s.size+1,ps2,i2,g2,by omega,hi2,hg2,hpl2,HO2,PQ2⟩
     case round =>
       clear hi2 hg2 hpl2 HO2 PQ2
       obtain ⟨k,ps,i,g,hk,hil,hgl,hpl,HBR,PQ⟩:=hrel
       obtain ⟨k,rfl⟩:∃ m,k=m+1:=⟨k - 1,by omega⟩
       have hbr:=HBR.out
       unfold Bp.loop at hbr
       obtain ⟨c0,c1,c2,-,-⟩:=bq5 PQ.out.rd.cell
       have HPL:=Lib.hid (bqplace_of PQ.out.rd.cell)
       by_cases hge:s.size ≤ i
       · rw [if_pos (.inl hge)] at hbr
         subst hbr
         obtain ⟨q4,c4,hu4⟩:=PQ.out.row.len
         subst hu4
         have hd:decide ((i:Int) < s.size)=false:=by simp;omega
         have hd':decide (i < s.size)=false:=by simp;omega
         go_wp2
         go_quiet (fail)
         have HROW2:=Lib.hid ((PQ.out.row.later (drewN_below (Below.refl _ _) nq)).trees (by omega))
         have PQ2:=Lib.hid (PQ.out.later (drewN_below (Below.refl _ _) nq))
         clear c0 c1 c2 PQ HPL HBR
         generalize World.drewN _ _=W at *
         go_wp2_with fail
         have hlm:(ps.map (·.1)).length=ps.length:=List.length_map _
         rw [← hlm] at HROW2
         have hseq:=seq_any (ps.map (·.1)) W _ _ HROW2.out
         obtain ⟨T,hTE⟩:∃ T,Tr.several 5 (ps.map (·.1))=T:=⟨_,rfl⟩
         rw [hTE,hlm] at hseq
         have HTE:=Lib.hid hTE
         clear hTE hlm
         refine hseq.mono ?_
         rintro e w3 ⟨s3,F3,rfl,ho3,hF3,hb3⟩
         obtain ⟨p3,c3,rfl,hl3⟩:=ho3.slice
         have HO3:=Lib.hid ho3
         have PQ3:=Lib.hid (PQ2.out.later hb3)
         have Z3:=Lib.hid PQ3.out.res
         have hRne:R ≠ w.heap.size:=by have:=PQ2.out.rlt;omega
         have hlt3:=PQ2.out.lt
         have HK1:=Lib.hid (show ∀ b,b ∈ F3→b ≠ w.heap.size from fun b hb=>by have:=hF3 b hb;omega)
         have HK2:=Lib.hid (show ∀ b,b ∈ F3→w.heap.size ≤ b from fun b hb=>by have:=hF3 b hb;omega)
         clear hseq ho3 hF3 hb3 HROW2 PQ2
         unfold Tr.cells
         go_wp2_with (first
             | (refine wpList_store_row rfl 28 (.tmp 2) (.tmp 40) rfl w.heap.size #[.int .i64 (T).kind,.int .u64 (Oc.U (T).w0),.int .u64 (Oc.U (T).w1),.int .u64 (Oc.U (T).w2),.int .u64 (Oc.U (T).w3),.slice p3 T.subs.length c3,.int .i64 (T).num,.int .i64 (T).least,.int .i64 (T).most,.bool (T).bare] rfl rfl 28 _ Z3.out (by kernel_rfl) rfl (by simp [Value.oneCell']) ?_)
             | fail)
         refine bodyPost_ret (results_cell_row rfl _ _ w.heap.size 28 #[.int .i64 (T).kind,.int .u64 (Oc.U (T).w0),.int .u64 (Oc.U (T).w1),.int .u64 (Oc.U (T).w2),.int .u64 (Oc.U (T).w3),.slice p3 T.subs.length c3,.int .i64 (T).num,.int .i64 (T).least,.int .i64 (T).most,.bool (T).bare] (0,0) _ rfl (heap_setRow Z3.out) Tryz.underlying28 rfl (by kernel_rfl)) rfl ⟨⟨.slice p3 T.subs.length c3,F3, ?_, ?_,HK2.out,(heap_setRow_other _ _ _ hRne).trans PQ3.out.rd.cell⟩,PQ3.out.tch.setRow_new (Nat.le_refl _) _⟩
         · rw [HTE.out];rfl
         · rw [HTE.out];exact HO3.out.keep fun b hb=>heap_setRow_other _ _ _ (HK1.out b hb)
       · obtain ⟨b2,hb2⟩:∃ b,Bp.two (bt s) (92:UInt8).toNat (41:UInt8).toNat i=b:=⟨_,rfl⟩
         have hd:decide ((i:Int) < s.size)=true:=by simp;omega
         have hd':decide (i < s.size)=true:=by simp;omega
         have hlt2:i < s.size:=by omega
         have HST:=Lib.hid (fun n=>bqstands_any ⟨#[92,41]⟩ b2 w0 A (wr.drewN n) R s hs fl i g d (PQ.out.rd.later (drewN_below (Below.refl _ _) n)) hil (pre_two s i 92 41 b2 hb2))
         cases b2 with
         | true =>
           rw [if_pos (.inr hb2)] at hbr
           subst hbr
           obtain ⟨q4,c4,hu4⟩:=PQ.out.row.len
           subst hu4
           clear hb2
           go_wp2
           go_quiet ((go_at_call 93;exact Calls.quiet_of (HST.out _)))
           clear HST
           have HROW2:=Lib.hid ((PQ.out.row.later (drewN_below (Below.refl _ _) nq)).trees (by omega))
           have PQ2:=Lib.hid (PQ.out.later (drewN_below (Below.refl _ _) nq))
           clear c0 c1 c2 PQ HPL HBR
           generalize World.drewN _ _=W at *
           go_wp2_with fail
           have hlm:(ps.map (·.1)).length=ps.length:=List.length_map _
           rw [← hlm] at HROW2
           have hseq:=seq_any (ps.map (·.1)) W _ _ HROW2.out
           obtain ⟨T,hTE⟩:∃ T,Tr.several 5 (ps.map (·.1))=T:=⟨_,rfl⟩
           rw [hTE,hlm] at hseq
           have HTE:=Lib.hid hTE
           clear hTE hlm
           refine hseq.mono ?_
           rintro e w3 ⟨s3,F3,rfl,ho3,hF3,hb3⟩
           obtain ⟨p3,c3,rfl,hl3⟩:=ho3.slice
           have HO3:=Lib.hid ho3
           have PQ3:=Lib.hid (PQ2.out.later hb3)
           have Z3:=Lib.hid PQ3.out.res
           have hRne:R ≠ w.heap.size:=by have:=PQ2.out.rlt;omega
           have hlt3:=PQ2.out.lt
           have HK1:=Lib.hid (show ∀ b,b ∈ F3→b ≠ w.heap.size from fun b hb=>by have:=hF3 b hb;omega)
           have HK2:=Lib.hid (show ∀ b,b ∈ F3→w.heap.size ≤ b from fun b hb=>by have:=hF3 b hb;omega)
           clear hseq ho3 hF3 hb3 HROW2 PQ2
           unfold Tr.cells
           go_wp2_with (first
               | (refine wpList_store_row rfl 28 (.tmp 2) (.tmp 40) rfl w.heap.size #[.int .i64 (T).kind,.int .u64 (Oc.U (T).w0),.int .u64 (Oc.U (T).w1),.int .u64 (Oc.U (T).w2),.int .u64 (Oc.U (T).w3),.slice p3 T.subs.length c3,.int .i64 (T).num,.int .i64 (T).least,.int .i64 (T).most,.bool (T).bare] rfl rfl 28 _ Z3.out (by kernel_rfl) rfl (by simp [Value.oneCell']) ?_)
               | fail)
           refine bodyPost_ret (results_cell_row rfl _ _ w.heap.size 28 #[.int .i64 (T).kind,.int .u64 (Oc.U (T).w0),.int .u64 (Oc.U (T).w1),.int .u64 (Oc.U (T).w2),.int .u64 (Oc.U (T).w3),.slice p3 T.subs.length c3,.int .i64 (T).num,.int .i64 (T).least,.int .i64 (T).most,.bool (T).bare] (0,0) _ rfl (heap_setRow Z3.out) Tryz.underlying28 rfl (by kernel_rfl)) rfl ⟨⟨.slice p3 T.subs.length c3,F3, ?_, ?_,HK2.out,(heap_setRow_other _ _ _ hRne).trans PQ3.out.rd.cell⟩,PQ3.out.tch.setRow_new (Nat.le_refl _) _⟩
           · rw [HTE.out];rfl
           · rw [HTE.out];exact HO3.out.keep fun b hb=>heap_setRow_other _ _ _ (HK1.out b hb)
         | false =>
           rw [if_neg (by rintro (h | h);(exact hge h);(have h2:Bp.two (bt s) 92 41 i=false:=hb2;rw [h2] at h;cases h))] at hbr
           have HPC:=Lib.hid (fun w9 hR9=>bqpiece_any w0 A w9 R s hs fl i g d hR9 hlt2 H HAA.out HHH.out hgl (fun w8 hR8 h1=>HGG.out i g w8 h1 hgl hR8))
           have HBR2:=Lib.hid hbr
           clear hb2 hbr hge
           go_wp2
           go_quiet ((go_at_call 93;exact Calls.quiet_of (HST.out _)))
           have PQ3:=Lib.hid (PQ.out.later (drewN_below (Below.refl _ _) nq))
           clear c0 c1 c2 PQ HBR HST hd hd'
           generalize World.drewN _ nq=W3 at *
           go_wp2_with fail
           refine (HPC.out W3 PQ3.out.rd).mono ?_
           intro e w5 he5
           clear HPC
           cases hp:Bp.piece (bt s) s.size (icB fl) (nlB fl) H i g with
           | err c q =>
             rw [hp] at HBR2
             have hO2:=HBR2.out
             simp only at hO2
             subst hO2
             obtain ⟨v5,rfl,hv5,ht5⟩:=he5.err hp
             have HG:=Lib.hid (BqEnd.gave (R:=R) (w:=w) (fl:=fl) (s:=s) (d:=d) hv5 (Nat.le_of_lt PQ3.out.lt) (PQ3.out.tch.trans ht5))
             clear hv5 ht5 he5 HBR2 hp
             go_wp2
             exact ⟨rfl,HG.out⟩
           | ok x j g5 =>
             rw [hp] at HBR2
             have hO2:=HBR2.out
             simp only at hO2
             have HO5:=Lib.hid hO2
             obtain ⟨v5,F5,rfl,ho5,hF5,hr5,ht5⟩:=he5.ok hp
             obtain ⟨p5,c5,rfl,hl5⟩:=ho5.slice
             have hnx:=Bp.piece_next (bt_txt s) HAA.out hlt2 hp
             have hfm:=Bp.piece_form (bt_txt s) HAA.out HHH.out hlt2 hgl hp
             have HX:=Lib.hid (PQ3.out.apart ho5 hF5)
             have PQ:=Lib.hid (PQ3.out.touch ht5 hr5)
             have HNX:=Lib.hid hnx;have HFM:=Lib.hid hfm
             clear ho5 hF5 hr5 ht5 he5 hO2 HBR2 hp PQ3 hnx hfm
             have hpre:=PQ.out.pre (x) (.slice p5 x.subs.length c5)
             have HOWN:=Lib.hid hpre.1;have HNW:=Lib.hid hpre.2.1;have HBA:=Lib.hid hpre.2.2
             have hml:ps.length+1 ≤ maxLen:=by unfold maxLen;omega
             have hbyt:(ps.length+1) * 96 ≤ 140737488355328:=by omega
             clear hpre
             try unfold Tr.cells
             go_wp2_with (first
               | (refine wpList_node1 rfl (.tmp 36) (x) p5 x.subs.length c5 rfl rfl ?_)
               | (refine wpList_append_fresh _ rfl (.tmp 34) (.tmp 37) 26 rfl (w.heap.size+1) 28 ie _ 10 96 Tryz.underlying26 HI.out HZ0.out HZ1.out HZ2.out rfl (by decide) _ _ _ rfl HOWN.out ⟨w5.heap.size,0,none⟩ 1 1 ((x).cells (.slice p5 x.subs.length c5)).toList rfl rfl HNW.out (nodeC_one _ _ _ _) (by decide) hml hbyt HBA.out ?_;intro v' w4 hown4 hgrow4 hwhere)
               | fail)
             have PQ2:=Lib.hid (PQ.out.snoc HX.out hown4 hgrow4 hwhere)
             clear hown4 hgrow4 hwhere PQ HOWN HNW HBA hml hbyt
             have hnx:=HNX.out
             have hfm:=HFM.out
             refine ⟨⟨k,ps ++ [(x,.slice p5 x.subs.length c5)],j,g5,by omega,hnx.2,hfm.2,by simp;omega,Lib.hid ?_,PQ2⟩, ?_⟩
             · rw [List.map_append];exact HO5.out
             · rw [bqplace_of PQ2.out.rd.cell,HPL.out];omega
end Go.Proofs.YtfcilopifjddpaaGreatDoor
namespace Go.Proofs.YtfcilopifjddpaaGreatDoor
open Go.RowKit
theorem bqgroup_deep (w0:World) (A:Nat→Addr) (w:World) (R:Nat) (s:ByteArray) (_hs:s.size ≤ 1024) (fl:Int) (i g d:Nat) (hR:BqAt w0 A w R s fl i g d) (_hi:i+1 < s.size) (hd:d=32) :
   Calls Tryz.prog 163 #[.pointer (some ⟨R,0,none⟩)] w (BqEnd A R s fl d (.err 11 i) w):=by
 have hlt:=hR.lt
 have hb0:Below w.heap.size w (w.alloc (.cells noNode 28)):=(Below.refl _ _).alloc (Nat.le_refl _) _
 have HR:=Lib.hid (hR.later hb0)
 have Z1:=Lib.hid (heap_alloc_new w (.cells noNode 28))
 have HB0:=Lib.hid hb0
 have hsW:w.heap.size < (w.alloc (.cells noNode 28)).heap.size:=by simp
 clear hR hb0
 go_enter Tryz.func163,Tryz.ntmps163
 go_upto_region 1 with (fail)
 generalize World.alloc _ _=W at *
 have hRne:R ≠ w.heap.size:=by omega
 obtain ⟨-,-,-,-,c4⟩:=bq5 HR.out.cell
 have ce:W.cell? ⟨10,0,none⟩=some (.iface 232 (.pointer (some (A 10)))):=(HR.out.now.errs 10 (by omega)).1
 have e4:((d:Int) == 32)=true:=by simp;omega
 clear hd
 go_wp2_with fail
 refine (bqfails_any w0 A 10 (by omega) W R s fl i g d HR.out).mono ?_
 intro e w2 he
 obtain ⟨v,rfl,hv,ht2⟩:=he.err rfl
 have HG:=Lib.hid (BqEnd.gave (R:=R) (w:=w) (fl:=fl) (s:=s) (d:=d) hv (Nat.le_of_lt hsW) ((Touch.of_below [R] HB0.out).trans ht2))
 clear hv ht2 he ce
 go_wp2
 exact ⟨rfl,HG.out⟩
theorem bqgroup_err (w0:World) (A:Nat→Addr) (w:World) (R:Nat) (s:ByteArray) (hs:s.size ≤ 1024) (fl:Int) (i g d:Nat) (hR:BqAt w0 A w R s fl i g d) (hi:i+1 < s.size) (hd:d < 32) (hg:g ≤ 4294967280) (c:Nat) (q:Int) (HC:∀ w,BqAt w0 A w R s fl (i+2) (g+1) (d+1)→Calls Tryz.prog 55 #[.pointer (some ⟨R,0,none⟩)] w (BqEnd A R s fl (d+1) (.err c q) w)) :
   Calls Tryz.prog 163 #[.pointer (some ⟨R,0,none⟩)] w (BqEnd A R s fl d (.err c q) w):=by
 have HC:=Lib.hid HC
 have hlt:=hR.lt
 have hb0:Below w.heap.size w (w.alloc (.cells noNode 28)):=(Below.refl _ _).alloc (Nat.le_refl _) _
 have HR:=Lib.hid (hR.later hb0)
 have Z1:=Lib.hid (heap_alloc_new w (.cells noNode 28))
 have HB0:=Lib.hid hb0
 have hsW:w.heap.size < (w.alloc (.cells noNode 28)).heap.size:=by simp
 clear hR hb0
 go_enter Tryz.func163,Tryz.ntmps163
 go_upto_region 1 with (fail)
 generalize World.alloc _ _=W at *
 have hRne:R ≠ w.heap.size:=by omega
 obtain ⟨-,-,c2,c3,c4⟩:=bq5 HR.out.cell
 obtain ⟨f2,f3,f4⟩:=bqf HR.out.cell
 have e4:((d:Int) == 32)=false:=by rw [beq_eq_false_iff_ne];omega
 have wg:IntKind.i64.wrap ((g:Int)+1)=(g:Int)+1:=IntWalk.i64_in _ (by omega)
 have wd:IntKind.i64.wrap ((d:Int)+1)=(d:Int)+1:=IntWalk.i64_in _ (by omega)
 have wi:IntKind.i64.wrap ((i:Int)+2)=(i:Int)+2:=IntWalk.i64_in _ (by omega)
 go_upto_region 5 with (fail)
 have hP1:=bq_groups HR.out.cell (g+1) (v:=(g:Int)+1) (by omega)
 have HR1:=Lib.hid (HR.out.next ((Touch.refl [R] W).setCell List.mem_cons_self 3 (.int .i64 ((g:Int)+1))) hP1)
 have HT1:=Lib.hid ((Touch.of_below [R] HB0.out).setCell List.mem_cons_self 3 (.int .i64 ((g:Int)+1)))
 have Z2:=Lib.hid ((Below.heap_setCell W ⟨R,3,none⟩ (.int .i64 ((g:Int)+1)) w.heap.size (Ne.symm hRne)).trans Z1.out)
 have hs1:w.heap.size < (W.setCell ⟨R,3,none⟩ (.int .i64 ((g:Int)+1))).heap.size:=by simpa using hsW
 clear hP1 c2 c3 c4 f2 f3 f4 HB0 Z1 HR
 generalize World.setCell W _ _=W1 at *
 obtain ⟨-,-,c2,c3,c4⟩:=bq5 HR1.out.cell
 obtain ⟨f2,f3,f4⟩:=bqf HR1.out.cell
 go_upto_region 6 with (fail)
 have hP2:=bq_open HR1.out.cell (d+1) (v:=(d:Int)+1) (by omega)
 have HR2:=Lib.hid (HR1.out.next ((Touch.refl [R] W1).setCell List.mem_cons_self 4 (.int .i64 ((d:Int)+1))) hP2)
 have HT2:=Lib.hid (HT1.out.setCell List.mem_cons_self 4 (.int .i64 ((d:Int)+1)))
 have Z3:=Lib.hid ((Below.heap_setCell W1 ⟨R,4,none⟩ (.int .i64 ((d:Int)+1)) w.heap.size (Ne.symm hRne)).trans Z2.out)
 have hs2:w.heap.size < (W1.setCell ⟨R,4,none⟩ (.int .i64 ((d:Int)+1))).heap.size:=by simpa using hs1
 clear hP2 c2 c3 c4 f2 f3 f4 HT1 Z2 HR1
 generalize World.setCell W1 _ _=W2 at *
 obtain ⟨-,-,c2,c3,c4⟩:=bq5 HR2.out.cell
 obtain ⟨f2,f3,f4⟩:=bqf HR2.out.cell
 have c3':W2.cell? ⟨R,3,none⟩=some (.int .i64 ((g:Int)+1)):=c3
 clear c3
 go_upto_region 8 with (fail)
 have hP3:=bq_place HR2.out.cell (i+2) (v:=(i:Int)+2) (by omega)
 have HR3:=Lib.hid (HR2.out.next ((Touch.refl [R] W2).setCell List.mem_cons_self 2 (.int .i64 ((i:Int)+2))) hP3)
 have HT3:=Lib.hid (HT2.out.setCell List.mem_cons_self 2 (.int .i64 ((i:Int)+2)))
 have Z4:=Lib.hid ((Below.heap_setCell W2 ⟨R,2,none⟩ (.int .i64 ((i:Int)+2)) w.heap.size (Ne.symm hRne)).trans Z3.out)
 have hs3:w.heap.size < (W2.setCell ⟨R,2,none⟩ (.int .i64 ((i:Int)+2))).heap.size:=by simpa using hs2
 clear hP3 c2 c3' c4 f2 f3 f4 HT2 Z3 HR2
 generalize World.setCell W2 _ _=W3 at *
 go_wp2_with fail
 refine (HC.out W3 HR3.out).mono ?_
 intro e w4 he
 obtain ⟨v,rfl,hv,ht4⟩:=he.err rfl
 have HG:=Lib.hid (BqEnd.gave (R:=R) (w:=w) (fl:=fl) (s:=s) (d:=d) hv (Nat.le_of_lt hs3) (HT3.out.trans ht4))
 clear hv ht4 he
 go_wp2
 exact ⟨rfl,HG.out⟩
theorem blk_lt2 {w:World} {b:Nat} {x:Obj} (h:w.heap[b]? = some x):b < w.heap.size:=(Array.getElem?_eq_some_iff.1 h).1
theorem bqgroup_open (w0:World) (A:Nat→Addr) (w:World) (R:Nat) (s:ByteArray) (hs:s.size ≤ 1024) (fl:Int) (i g d:Nat) (hR:BqAt w0 A w R s fl i g d) (hi:i+1 < s.size) (hd:d < 32) (hg:g ≤ 4294967280) (x:Tr) (j g':Nat) (hj:j ≤ s.size) (hb:Bp.two (bt s) (92:UInt8).toNat (41:UInt8).toNat j=false) (HC:∀ w,BqAt w0 A w R s fl (i+2) (g+1) (d+1)→Calls Tryz.prog 55 #[.pointer (some ⟨R,0,none⟩)] w (BqEnd A R s fl (d+1) (.ok x j g') w)) :
   Calls Tryz.prog 163 #[.pointer (some ⟨R,0,none⟩)] w (BqEnd A R s fl d (.err 2 i) w):=by
 have HC:=Lib.hid HC
 have hlt:=hR.lt
 have hb0:Below w.heap.size w (w.alloc (.cells noNode 28)):=(Below.refl _ _).alloc (Nat.le_refl _) _
 have HR:=Lib.hid (hR.later hb0)
 have Z1:=Lib.hid (heap_alloc_new w (.cells noNode 28))
 have HB0:=Lib.hid hb0
 have hsW:w.heap.size < (w.alloc (.cells noNode 28)).heap.size:=by simp
 clear hR hb0
 go_enter Tryz.func163,Tryz.ntmps163
 go_upto_region 1 with (fail)
 generalize World.alloc _ _=W at *
 have hRne:R ≠ w.heap.size:=by omega
 obtain ⟨-,-,c2,c3,c4⟩:=bq5 HR.out.cell
 obtain ⟨f2,f3,f4⟩:=bqf HR.out.cell
 have e4:((d:Int) == 32)=false:=by rw [beq_eq_false_iff_ne];omega
 have wg:IntKind.i64.wrap ((g:Int)+1)=(g:Int)+1:=IntWalk.i64_in _ (by omega)
 have wd:IntKind.i64.wrap ((d:Int)+1)=(d:Int)+1:=IntWalk.i64_in _ (by omega)
 have wi:IntKind.i64.wrap ((i:Int)+2)=(i:Int)+2:=IntWalk.i64_in _ (by omega)
 go_upto_region 5 with (fail)
 have hP1:=bq_groups HR.out.cell (g+1) (v:=(g:Int)+1) (by omega)
 have HR1:=Lib.hid (HR.out.next ((Touch.refl [R] W).setCell List.mem_cons_self 3 (.int .i64 ((g:Int)+1))) hP1)
 have HT1:=Lib.hid ((Touch.of_below [R] HB0.out).setCell List.mem_cons_self 3 (.int .i64 ((g:Int)+1)))
 have Z2:=Lib.hid ((Below.heap_setCell W ⟨R,3,none⟩ (.int .i64 ((g:Int)+1)) w.heap.size (Ne.symm hRne)).trans Z1.out)
 have hs1:w.heap.size < (W.setCell ⟨R,3,none⟩ (.int .i64 ((g:Int)+1))).heap.size:=by simpa using hsW
 clear hP1 c2 c3 c4 f2 f3 f4 HB0 Z1 HR
 generalize World.setCell W _ _=W1 at *
 obtain ⟨-,-,c2,c3,c4⟩:=bq5 HR1.out.cell
 obtain ⟨f2,f3,f4⟩:=bqf HR1.out.cell
 go_upto_region 6 with (fail)
 have hP2:=bq_open HR1.out.cell (d+1) (v:=(d:Int)+1) (by omega)
 have HR2:=Lib.hid (HR1.out.next ((Touch.refl [R] W1).setCell List.mem_cons_self 4 (.int .i64 ((d:Int)+1))) hP2)
 have HT2:=Lib.hid (HT1.out.setCell List.mem_cons_self 4 (.int .i64 ((d:Int)+1)))
 have Z3:=Lib.hid ((Below.heap_setCell W1 ⟨R,4,none⟩ (.int .i64 ((d:Int)+1)) w.heap.size (Ne.symm hRne)).trans Z2.out)
 have hs2:w.heap.size < (W1.setCell ⟨R,4,none⟩ (.int .i64 ((d:Int)+1))).heap.size:=by simpa using hs1
 clear hP2 c2 c3 c4 f2 f3 f4 HT1 Z2 HR1
 generalize World.setCell W1 _ _=W2 at *
 obtain ⟨-,-,c2,c3,c4⟩:=bq5 HR2.out.cell
 obtain ⟨f2,f3,f4⟩:=bqf HR2.out.cell
 have c3':W2.cell? ⟨R,3,none⟩=some (.int .i64 ((g:Int)+1)):=c3
 clear c3
 go_upto_region 8 with (fail)
 have hP3:=bq_place HR2.out.cell (i+2) (v:=(i:Int)+2) (by omega)
 have HR3:=Lib.hid (HR2.out.next ((Touch.refl [R] W2).setCell List.mem_cons_self 2 (.int .i64 ((i:Int)+2))) hP3)
 have HT3:=Lib.hid (HT2.out.setCell List.mem_cons_self 2 (.int .i64 ((i:Int)+2)))
 have Z4:=Lib.hid ((Below.heap_setCell W2 ⟨R,2,none⟩ (.int .i64 ((i:Int)+2)) w.heap.size (Ne.symm hRne)).trans Z3.out)
 have hs3:w.heap.size < (W2.setCell ⟨R,2,none⟩ (.int .i64 ((i:Int)+2))).heap.size:=by simpa using hs2
 clear hP3 c2 c3' c4 f2 f3 f4 HT2 Z3 HR2
 generalize World.setCell W2 _ _=W3 at *
 go_wp2_with fail
 refine (HC.out W3 HR3.out).mono ?_
 intro e w4 he
 obtain ⟨v,F,rfl,ho,hF,hr4,ht4⟩:=he.ok rfl
 obtain ⟨p,c,rfl,hl⟩:=ho.slice
 have hw4:w.heap.size < w4.heap.size:=Nat.lt_of_lt_of_le hs3 ht4.size
 have hbA:Below w4.heap.size w4 (w4.alloc (.cells (x.cells (.slice p x.subs.length c)) 28)):=(Below.refl _ _).alloc (Nat.le_refl _) _
 have HO5:=Lib.hid (ho.later hbA)
 have HF5:=Lib.hid hF
 have Z5:=Lib.hid (keep_blk hbA ((ht4.block w.heap.size hs3 (by simp;omega)).trans Z4.out))
 have HT5:=Lib.hid ((HT3.out.trans ht4).later hbA)
 have HR5:=Lib.hid ((HR3.out.next ht4 hr4).later hbA)
 have Y5:=Lib.hid (heap_alloc_new w4 (.cells (x.cells (.slice p x.subs.length c)) 28))
 have hs5:w.heap.size < (w4.alloc (.cells (x.cells (.slice p x.subs.length c)) 28)).heap.size:=Nat.lt_of_lt_of_le hs3 (Nat.le_trans ht4.size hbA.size)
 clear ho hF hr4 ht4 he hbA Z4 HT3 HR3
 unfold Tr.cells at *
 go_wp2_with fail
 generalize hW5:World.alloc w4 _=W5 at *
 clear hW5
 refine (bqtakes_any ⟨#[92,41]⟩ 2 rfl false w0 A W5 R s (by omega) fl j g' (d+1) HR5.out hj (fun h=>by cases h) (pre_two s j 92 41 false hb)).mono ?_
 rintro e w6 ⟨rfl,hr6,ht6⟩
 have HR6:=Lib.hid (HR5.out.next ht6 hr6)
 have HT6:=Lib.hid (HT5.out.trans ht6)
 have Z6:=Lib.hid ((ht6.block w.heap.size hs5 (by simp;omega)).trans Z5.out)
 have Y6:=Lib.hid ((ht6.block w4.heap.size (blk_lt2 Y5.out) (by simp;omega)).trans Y5.out)
 have HO6:=Lib.hid (HO5.out.touch HF5.out (by omega) ht6)
 have hs6:w.heap.size < w6.heap.size:=Nat.lt_of_lt_of_le hs5 ht6.size
 clear hr6 ht6 HR5 HT5 Z5 Y5 HO5 hs5
 have ce:w6.cell? ⟨1,0,none⟩=some (.iface 232 (.pointer (some (A 1)))):=(HR6.out.now.errs 1 (by omega)).1
 go_wp2_with fail
 refine (at_err A 1 (by omega) i _).mono ?_
 rintro e w7 ⟨v7,rfl,hv7,hb7⟩
 obtain ⟨q7,rfl⟩:=hv7.iface
 have HG:=Lib.hid (BqEnd.gave (R:=R) (w:=w) (fl:=fl) (s:=s) (d:=d) hv7 (Nat.le_of_lt hs6) (HT6.out.later hb7))
 clear hv7 hb7 ce
 go_wp2_with fail
 refine (giveup_any q7 _).mono ?_
 rintro e w8 ⟨rfl,rfl⟩
 go_wp2
 exact ⟨rfl,HG.out⟩
theorem bqgroup_ok (w0:World) (A:Nat→Addr) (w:World) (R:Nat) (s:ByteArray) (hs:s.size ≤ 1024) (fl:Int) (i g d:Nat) (hR:BqAt w0 A w R s fl i g d) (hi:i+1 < s.size) (hd:d < 32) (hg:g ≤ 4294967280) (x:Tr) (j g':Nat) (hj:j ≤ s.size) (hb:Bp.two (bt s) (92:UInt8).toNat (41:UInt8).toNat j=true) (HC:∀ w,BqAt w0 A w R s fl (i+2) (g+1) (d+1)→Calls Tryz.prog 55 #[.pointer (some ⟨R,0,none⟩)] w (BqEnd A R s fl (d+1) (.ok x j g') w)) :
   Calls Tryz.prog 163 #[.pointer (some ⟨R,0,none⟩)] w (BqEnd A R s fl d (.ok (.grp (g+1:Nat) x) (j+2) g') w):=by
 have hjl:j+2 ≤ s.size:=Bp.two_lt (bt_txt s) hb (by decide) (by decide)
 have HC:=Lib.hid HC
 have hlt:=hR.lt
 have hb0:Below w.heap.size w (w.alloc (.cells noNode 28)):=(Below.refl _ _).alloc (Nat.le_refl _) _
 have HR:=Lib.hid (hR.later hb0)
 have Z1:=Lib.hid (heap_alloc_new w (.cells noNode 28))
 have HB0:=Lib.hid hb0
 have hsW:w.heap.size < (w.alloc (.cells noNode 28)).heap.size:=by simp
 clear hR hb0
 go_enter Tryz.func163,Tryz.ntmps163
 go_upto_region 1 with (fail)
 generalize World.alloc _ _=W at *
 have hRne:R ≠ w.heap.size:=by omega
 obtain ⟨-,-,c2,c3,c4⟩:=bq5 HR.out.cell
 obtain ⟨f2,f3,f4⟩:=bqf HR.out.cell
 have e4:((d:Int) == 32)=false:=by rw [beq_eq_false_iff_ne];omega
 have wg:IntKind.i64.wrap ((g:Int)+1)=(g:Int)+1:=IntWalk.i64_in _ (by omega)
 have wd:IntKind.i64.wrap ((d:Int)+1)=(d:Int)+1:=IntWalk.i64_in _ (by omega)
 have wi:IntKind.i64.wrap ((i:Int)+2)=(i:Int)+2:=IntWalk.i64_in _ (by omega)
 go_upto_region 5 with (fail)
 have hP1:=bq_groups HR.out.cell (g+1) (v:=(g:Int)+1) (by omega)
 have HR1:=Lib.hid (HR.out.next ((Touch.refl [R] W).setCell List.mem_cons_self 3 (.int .i64 ((g:Int)+1))) hP1)
 have HT1:=Lib.hid ((Touch.of_below [R] HB0.out).setCell List.mem_cons_self 3 (.int .i64 ((g:Int)+1)))
 have Z2:=Lib.hid ((Below.heap_setCell W ⟨R,3,none⟩ (.int .i64 ((g:Int)+1)) w.heap.size (Ne.symm hRne)).trans Z1.out)
 have hs1:w.heap.size < (W.setCell ⟨R,3,none⟩ (.int .i64 ((g:Int)+1))).heap.size:=by simpa using hsW
 clear hP1 c2 c3 c4 f2 f3 f4 HB0 Z1 HR
 generalize World.setCell W _ _=W1 at *
 obtain ⟨-,-,c2,c3,c4⟩:=bq5 HR1.out.cell
 obtain ⟨f2,f3,f4⟩:=bqf HR1.out.cell
 go_upto_region 6 with (fail)
 have hP2:=bq_open HR1.out.cell (d+1) (v:=(d:Int)+1) (by omega)
 have HR2:=Lib.hid (HR1.out.next ((Touch.refl [R] W1).setCell List.mem_cons_self 4 (.int .i64 ((d:Int)+1))) hP2)
 have HT2:=Lib.hid (HT1.out.setCell List.mem_cons_self 4 (.int .i64 ((d:Int)+1)))
 have Z3:=Lib.hid ((Below.heap_setCell W1 ⟨R,4,none⟩ (.int .i64 ((d:Int)+1)) w.heap.size (Ne.symm hRne)).trans Z2.out)
 have hs2:w.heap.size < (W1.setCell ⟨R,4,none⟩ (.int .i64 ((d:Int)+1))).heap.size:=by simpa using hs1
 clear hP2 c2 c3 c4 f2 f3 f4 HT1 Z2 HR1
 generalize World.setCell W1 _ _=W2 at *
 obtain ⟨-,-,c2,c3,c4⟩:=bq5 HR2.out.cell
 obtain ⟨f2,f3,f4⟩:=bqf HR2.out.cell
 have c3':W2.cell? ⟨R,3,none⟩=some (.int .i64 ((g:Int)+1)):=c3
 clear c3
 go_upto_region 8 with (fail)
 have hP3:=bq_place HR2.out.cell (i+2) (v:=(i:Int)+2) (by omega)
 have HR3:=Lib.hid (HR2.out.next ((Touch.refl [R] W2).setCell List.mem_cons_self 2 (.int .i64 ((i:Int)+2))) hP3)
 have HT3:=Lib.hid (HT2.out.setCell List.mem_cons_self 2 (.int .i64 ((i:Int)+2)))
 have Z4:=Lib.hid ((Below.heap_setCell W2 ⟨R,2,none⟩ (.int .i64 ((i:Int)+2)) w.heap.size (Ne.symm hRne)).trans Z3.out)
 have hs3:w.heap.size < (W2.setCell ⟨R,2,none⟩ (.int .i64 ((i:Int)+2))).heap.size:=by simpa using hs2
 clear hP3 c2 c3' c4 f2 f3 f4 HT2 Z3 HR2
 generalize World.setCell W2 _ _=W3 at *
 go_wp2_with fail
 refine (HC.out W3 HR3.out).mono ?_
 intro e w4 he
 obtain ⟨v,F,rfl,ho,hF,hr4,ht4⟩:=he.ok rfl
 obtain ⟨p,c,rfl,hl⟩:=ho.slice
 have hw4:w.heap.size < w4.heap.size:=Nat.lt_of_lt_of_le hs3 ht4.size
 have hbA:Below w4.heap.size w4 (w4.alloc (.cells (x.cells (.slice p x.subs.length c)) 28)):=(Below.refl _ _).alloc (Nat.le_refl _) _
 have HO5:=Lib.hid (ho.later hbA)
 have HF5:=Lib.hid hF
 have Z5:=Lib.hid (keep_blk hbA ((ht4.block w.heap.size hs3 (by simp;omega)).trans Z4.out))
 have HT5:=Lib.hid ((HT3.out.trans ht4).later hbA)
 have HR5:=Lib.hid ((HR3.out.next ht4 hr4).later hbA)
 have Y5:=Lib.hid (heap_alloc_new w4 (.cells (x.cells (.slice p x.subs.length c)) 28))
 have hs5:w.heap.size < (w4.alloc (.cells (x.cells (.slice p x.subs.length c)) 28)).heap.size:=Nat.lt_of_lt_of_le hs3 (Nat.le_trans ht4.size hbA.size)
 clear ho hF hr4 ht4 he hbA Z4 HT3 HR3
 unfold Tr.cells at *
 go_wp2_with fail
 generalize hW5:World.alloc w4 _=W5 at *
 clear hW5
 refine (bqtakes_any ⟨#[92,41]⟩ 2 rfl true w0 A W5 R s (by omega) fl j g' (d+1) HR5.out hj (fun _=>hjl) (pre_two s j 92 41 true hb)).mono ?_
 rintro e w6 ⟨rfl,hr6,ht6⟩
 have HR6:=Lib.hid (HR5.out.next ht6 hr6)
 have HT6:=Lib.hid (HT5.out.trans ht6)
 have Z6:=Lib.hid ((ht6.block w.heap.size hs5 (by simp;omega)).trans Z5.out)
 have Y6:=Lib.hid ((ht6.block w4.heap.size (blk_lt2 Y5.out) (by simp;omega)).trans Y5.out)
 have HO6:=Lib.hid (HO5.out.touch HF5.out (by omega) ht6)
 have hs6:w.heap.size < w6.heap.size:=Nat.lt_of_lt_of_le hs5 ht6.size
 clear hr6 ht6 HR5 HT5 Z5 Y5 HO5 hs5
 have HR6:Hid (BqAt w0 A w6 R s fl (j+2) g' (d+1)):=Lib.hid HR6.out
 obtain ⟨-,-,c2,c3,c4⟩:=bq5 HR6.out.cell
 obtain ⟨f2,f3,f4⟩:=bqf HR6.out.cell
 have c4':w6.cell? ⟨R,4,none⟩=some (.int .i64 ((d:Int)+1)):=c4
 have wd2:IntKind.i64.wrap ((d:Int)+1 - 1)=(d:Int):=by rw [show (d:Int)+1 - 1=d by omega];exact IntWalk.i64_in _ (by omega)
 clear c4 c3 hb
 go_upto_region 12 with (fail)
 have hP7:=bq_open HR6.out.cell d (v:=(d:Int)) rfl
 have HT7:=Lib.hid (HT6.out.setCell List.mem_cons_self 4 (.int .i64 (d:Int)))
 have HR7:=Lib.hid (HR6.out.next ((Touch.refl [R] w6).setCell List.mem_cons_self 4 (.int .i64 (d:Int))) hP7)
 have Z7:=Lib.hid ((Below.heap_setCell w6 ⟨R,4,none⟩ (.int .i64 (d:Int)) w.heap.size (Ne.symm hRne)).trans Z6.out)
 have hs7:w.heap.size < (w6.setCell ⟨R,4,none⟩ (.int .i64 (d:Int))).heap.size:=by simpa using hs6
 have HO7:=Lib.hid (HO6.out.touch HF5.out (by omega) ((Touch.refl [R] w6).setCell List.mem_cons_self 4 (.int .i64 (d:Int))))
 have h4w:w4.heap.size ≠ R:=by omega
 have Y7:=Lib.hid ((Below.heap_setCell w6 ⟨R,4,none⟩ (.int .i64 (d:Int)) w4.heap.size h4w).trans Y6.out)
 clear hP7 c2 c4' f2 f3 f4 HT6 HR6 Z6 Y6 HO6 hs6
 generalize World.setCell w6 _ _=W7 at *
 obtain ⟨T,hT⟩:∃ T,Tr.grp ((g+1:Nat):Int) x=T:=⟨_,rfl⟩
 have hT2:Tr.grp ((g:Int)+1) x=T:=by rw [← hT,Int.natCast_add];rfl
 have hgr:=fun w B v hv=>group_any x ((g:Int)+1) w B v hv
 rw [hT2] at hgr
 have HGR:=Lib.hid hgr;have HT9:=Lib.hid hT
 clear hgr hT hT2
 go_wp2_with (first
   | (refine wpList_load_row rfl 28 (.tmp 5) rfl w4.heap.size rfl 28 _ (0,0) _ Y7.out Tryz.underlying28 rfl (by kernel_rfl) ?_)
   | fail)
 refine (HGR.out _ (fun b=>b ∈ F) _ ⟨_,rfl,HO7.out.trees⟩).mono ?_
 rintro e w9 ⟨s8,F8,rfl,ho8,hF8,hb8⟩
 obtain ⟨p8,c8,rfl,hl8⟩:=ho8.slice
 have HO9:=Lib.hid ho8
 have Z9:=Lib.hid (keep_blk hb8 Z7.out)
 have HP9:=Lib.hid (HR7.out.later hb8).cell
 have HTT:=Lib.hid (HT7.out.later hb8)
 have hk1:∀ b,b ∈ F8→b ≠ w.heap.size:=fun b hb=>by have:=hF8 b hb;omega
 have hk2:∀ b,b ∈ F8→w.heap.size ≤ b:=fun b hb=>by have:=hF8 b hb;omega
 have HK1:=Lib.hid hk1;have HK2:=Lib.hid hk2
 clear hk1 hk2 ho8 hF8 hb8 Z7 HR7 HT7 HO7 Y7
 unfold Tr.cells at *
 go_wp2_with (first
   | (refine wpList_store_row rfl 28 (.tmp 2) (.tmp 61) rfl w.heap.size #[.int .i64 (T).kind,.int .u64 (Oc.U (T).w0),.int .u64 (Oc.U (T).w1),.int .u64 (Oc.U (T).w2),.int .u64 (Oc.U (T).w3),.slice p8 T.subs.length c8,.int .i64 (T).num,.int .i64 (T).least,.int .i64 (T).most,.bool (T).bare] rfl rfl 28 _ Z9.out (by kernel_rfl) rfl (by simp [Value.oneCell']) ?_)
   | fail)
 refine bodyPost_ret (results_cell_row rfl _ _ w.heap.size 28 #[.int .i64 (T).kind,.int .u64 (Oc.U (T).w0),.int .u64 (Oc.U (T).w1),.int .u64 (Oc.U (T).w2),.int .u64 (Oc.U (T).w3),.slice p8 T.subs.length c8,.int .i64 (T).num,.int .i64 (T).least,.int .i64 (T).most,.bool (T).bare] (0,0) _ rfl (heap_setRow Z9.out) Tryz.underlying28 rfl (by kernel_rfl)) rfl ⟨⟨.slice p8 T.subs.length c8,F8, ?_, ?_,HK2.out,(heap_setRow_other _ _ _ hRne).trans HP9.out⟩,HTT.out.setRow_new (Nat.le_refl _) _⟩
 · rw [HT9.out];rfl
 · rw [HT9.out];exact HO9.out.keep fun b hb=>heap_setRow_other _ _ _ (HK1.out b hb)
theorem bqgroup_any (w0:World) (A:Nat→Addr) (R:Nat) (s:ByteArray) (hs:s.size ≤ 1024) (fl:Int):∀ (r d:Nat),r+d=32→∀ (i g:Nat) (w:World),i+1 < s.size→2 * g ≤ i→BqAt w0 A w R s fl i g d →
   Calls Tryz.prog 163 #[.pointer (some ⟨R,0,none⟩)] w (BqEnd A R s fl d (Bp.group (bt s) s.size (icB fl) (nlB fl) r i g) w):=by
 intro r
 induction r with
 | zero =>
   intro d hd i g w hi _ hR
   exact bqgroup_deep w0 A w R s hs fl i g d hR hi (by omega)
 | succ r ih =>
   intro d hd i g w hi hg hR
   have hpat:∀ O,Bp.seq (bt s) s.size (icB fl) (nlB fl) (Bp.group (bt s) s.size (icB fl) (nlB fl) r) (i+2) (g+1)=O→∀ w,BqAt w0 A w R s fl (i+2) (g+1) (d+1)→Calls Tryz.prog 55 #[.pointer (some ⟨R,0,none⟩)] w (BqEnd A R s fl (d+1) O w):=fun O hO w hR =>
     bqpieces_any w0 A w R s (by omega) fl (i+2) (g+1) (d+1) hR (by omega) _ (Bp.group_next (bt_txt s) r) (Bp.group_right (bt_txt s) hs r) (by omega) (fun i' g' w' hi' hg' hR'=>ih (d+1) (by omega) i' g' w' hi' hg' hR') O hO
   unfold Bp.group
   cases hO:Bp.seq (bt s) s.size (icB fl) (nlB fl) (Bp.group (bt s) s.size (icB fl) (nlB fl) r) (i+2) (g+1) with
   | err c q=>exact bqgroup_err w0 A w R s hs fl i g d hR hi (by omega) (by omega) c q (hpat _ hO)
   | ok x j g' =>
     have hn:=Bp.seq_next (bt_txt s) (Bp.group_next (bt_txt s) r) (by omega) hO
     by_cases hb:Bp.two (bt s) 92 41 j=true
     · simp only [hb,if_true]
       exact bqgroup_ok w0 A w R s hs fl i g d hR hi (by omega) (by omega) x j g' hn.2 hb (hpat _ hO)
     · have hb':Bp.two (bt s) 92 41 j=false:=by simpa using hb
       simp only [hb',Bool.false_eq_true,if_false]
       exact bqgroup_open w0 A w R s hs fl i g d hR hi (by omega) (by omega) x j g' hn.2 hb' (hpat _ hO)
theorem bqpat_any (w0:World) (A:Nat→Addr) (w:World) (R:Nat) (s:ByteArray) (hs:s.size ≤ 1024) (fl:Int) (hR:BqAt w0 A w R s fl 0 0 0) (O:Ep.Out) (hO:Bp.pat (bt s) s.size (icB fl) (nlB fl) 32 0 0=O) :
   Calls Tryz.prog 55 #[.pointer (some ⟨R,0,none⟩)] w (BqEnd A R s fl 0 O w) :=
 bqpieces_any w0 A w R s (by omega) fl 0 0 0 hR (by omega) _ (Bp.group_next (bt_txt s) 32) (Bp.group_right (bt_txt s) hs 32) (by omega) (fun i g w hi hg hR=>bqgroup_any w0 A R s hs fl 32 0 (by omega) i g w hi hg hR) O hO
theorem bqwhole_long (w0:World) (A:Nat→Addr) (w:World) (R:Nat) (s:ByteArray) (fl:Int) (hR:BqAt w0 A w R s fl 0 0 0) (hl:1024 < s.size) :
   Calls Tryz.prog 28 #[.pointer (some ⟨R,0,none⟩)] w (BqEnd A R s fl 0 (.err 12 1024) w):=by
 have hlt:=hR.lt
 have hb0:Below w.heap.size w (w.alloc (.cells noNode 28)):=(Below.refl _ _).alloc (Nat.le_refl _) _
 have HR:=Lib.hid (hR.later hb0)
 have Z1:=Lib.hid (heap_alloc_new w (.cells noNode 28))
 have HB0:=Lib.hid hb0
 have hsW:w.heap.size < (w.alloc (.cells noNode 28)).heap.size:=by simp
 have hRne:R ≠ w.heap.size:=by omega
 have hd:decide ((1024:Int) < s.size)=true:=by simp;omega
 have hd':decide (1024 < s.size)=true:=by simp;omega
 obtain ⟨c0,-,-,-,-⟩:=bq5 HR.out.cell
 have ce:(w.alloc (.cells noNode 28)).cell? ⟨11,0,none⟩=some (.iface 232 (.pointer (some (A 11)))):=(HR.out.now.errs 11 (by omega)).1
 clear hR hb0
 go_enter Tryz.func28,Tryz.ntmps28
 go_wp2_with fail
 generalize World.alloc _ _=W at *
 refine (at_err A 11 (by omega) 1024 _).mono ?_
 rintro e w2 ⟨v,rfl,hv,hb⟩
 obtain ⟨q,rfl⟩:=hv.iface
 have HG:=Lib.hid (BqEnd.gave (R:=R) (w:=w) (fl:=fl) (s:=s) (d:=0) hv (Nat.le_of_lt hsW) ((Touch.of_below [R] HB0.out).later hb))
 clear hv hb ce c0
 go_wp2_with fail
 refine (giveup_any q _).mono ?_
 rintro e w8 ⟨rfl,rfl⟩
 go_wp2
 exact ⟨rfl,HG.out⟩
theorem bqwhole_err (w0:World) (A:Nat→Addr) (w:World) (R:Nat) (s:ByteArray) (fl:Int) (hR:BqAt w0 A w R s fl 0 0 0) (c:Nat) (q:Int) (hl:s.size ≤ 1024) (HC:∀ w,BqAt w0 A w R s fl 0 0 0→Calls Tryz.prog 55 #[.pointer (some ⟨R,0,none⟩)] w (BqEnd A R s fl 0 (.err c q) w)) :
   Calls Tryz.prog 28 #[.pointer (some ⟨R,0,none⟩)] w (BqEnd A R s fl 0 (.err c q) w):=by
 have HC:=Lib.hid HC
 have hlt:=hR.lt
 have hb0:Below w.heap.size w (w.alloc (.cells noNode 28)):=(Below.refl _ _).alloc (Nat.le_refl _) _
 have HR:=Lib.hid (hR.later hb0)
 have Z1:=Lib.hid (heap_alloc_new w (.cells noNode 28))
 have HB0:=Lib.hid hb0
 have hsW:w.heap.size < (w.alloc (.cells noNode 28)).heap.size:=by simp
 have hRne:R ≠ w.heap.size:=by omega
 have hd:decide ((1024:Int) < s.size)=false:=by simp;omega
 have hd':decide (1024 < s.size)=false:=by simp;omega
 obtain ⟨c0,-,-,-,-⟩:=bq5 HR.out.cell
 clear hR hb0
 go_enter Tryz.func28,Tryz.ntmps28
 go_wp2_with fail
 clear c0 hd hd'
 generalize World.alloc _ _=W at *
 refine (HC.out W HR.out).mono ?_
 intro e w2 he
 obtain ⟨v,rfl,hv,ht2⟩:=he.err rfl
 have HG:=Lib.hid (BqEnd.gave (R:=R) (w:=w) (fl:=fl) (s:=s) (d:=0) hv (Nat.le_of_lt hsW) ((Touch.of_below [R] HB0.out).trans ht2))
 clear hv ht2 he
 go_wp2
 exact ⟨rfl,HG.out⟩
theorem bqwhole_paren (w0:World) (A:Nat→Addr) (w:World) (R:Nat) (s:ByteArray) (fl:Int) (hR:BqAt w0 A w R s fl 0 0 0) (x:Tr) (j g:Nat) (hj:j < s.size) (hl:s.size ≤ 1024) (HC:∀ w,BqAt w0 A w R s fl 0 0 0→Calls Tryz.prog 55 #[.pointer (some ⟨R,0,none⟩)] w (BqEnd A R s fl 0 (.ok x j g) w)) :
   Calls Tryz.prog 28 #[.pointer (some ⟨R,0,none⟩)] w (BqEnd A R s fl 0 (.err 2 j) w):=by
 have HC:=Lib.hid HC
 have HJ:=Lib.hid hj
 clear hj
 have hlt:=hR.lt
 have hb0:Below w.heap.size w (w.alloc (.cells noNode 28)):=(Below.refl _ _).alloc (Nat.le_refl _) _
 have HR:=Lib.hid (hR.later hb0)
 have Z1:=Lib.hid (heap_alloc_new w (.cells noNode 28))
 have HB0:=Lib.hid hb0
 have hsW:w.heap.size < (w.alloc (.cells noNode 28)).heap.size:=by simp
 have hRne:R ≠ w.heap.size:=by omega
 have hd:decide ((1024:Int) < s.size)=false:=by simp;omega
 have hd':decide (1024 < s.size)=false:=by simp;omega
 obtain ⟨c0,-,-,-,-⟩:=bq5 HR.out.cell
 clear hR hb0
 go_enter Tryz.func28,Tryz.ntmps28
 go_wp2_with fail
 clear c0 hd hd'
 generalize World.alloc _ _=W at *
 refine (HC.out W HR.out).mono ?_
 intro e w2 he
 obtain ⟨v,F,rfl,ho,hF,hr2,ht2⟩:=he.ok rfl
 obtain ⟨p,c,rfl,hl2⟩:=ho.slice
 have hbA:Below w2.heap.size w2 (w2.alloc (.cells (x.cells (.slice p x.subs.length c)) 28)):=(Below.refl _ _).alloc (Nat.le_refl _) _
 have HO3:=Lib.hid (ho.later hbA)
 have HF3:=Lib.hid hF
 have Z3:=Lib.hid (keep_blk hbA ((ht2.block w.heap.size hsW (by simp;omega)).trans Z1.out))
 have HT3:=Lib.hid (((Touch.of_below [R] HB0.out).trans ht2).later hbA)
 have HR3:=Lib.hid ((HR.out.next ht2 hr2).later hbA)
 have Y3:=Lib.hid (heap_alloc_new w2 (.cells (x.cells (.slice p x.subs.length c)) 28))
 have hs3:w.heap.size < (w2.alloc (.cells (x.cells (.slice p x.subs.length c)) 28)).heap.size:=Nat.lt_of_lt_of_le hsW (Nat.le_trans ht2.size hbA.size)
 clear ho hF hr2 ht2 he hbA HR Z1 HB0
 unfold Tr.cells at *
 go_upto_region 4 with (fail)
 generalize World.alloc w2 _=W3 at *
 obtain ⟨c0,c1,c2,-,-⟩:=bq5 HR3.out.cell
 have hj:=HJ.out
 have dj:decide ((j:Int) < s.size)=true:=by simp;omega
 have dj':decide (j < s.size)=true:=by simp;omega
 clear hj
 go_quiet (fail)
 have hbn:Below W3.heap.size W3 (W3.drewN nq):=drewN_below (Below.refl _ _) nq
 have HO4:=Lib.hid (HO3.out.later hbn)
 have Z4:Hid ((W3.drewN nq).heap[w.heap.size]? = some (.cells noNode 28)):=Lib.hid Z3.out
 have Y4:Hid ((W3.drewN nq).heap[w2.heap.size]? = some (.cells #[.int .i64 (x).kind,.int .u64 (Oc.U (x).w0),.int .u64 (Oc.U (x).w1),.int .u64 (Oc.U (x).w2),.int .u64 (Oc.U (x).w3),.slice p x.subs.length c,.int .i64 (x).num,.int .i64 (x).least,.int .i64 (x).most,.bool (x).bare] 28)):=Lib.hid Y3.out
 have HT4:=Lib.hid (HT3.out.drewN nq)
 have HR4:=Lib.hid (HR3.out.later hbn)
 have hs4:w.heap.size < (W3.drewN nq).heap.size:=hs3
 clear hbn HO3 Z3 Y3 HT3 HR3 hs3 c0 c1 c2
 generalize World.drewN W3 nq=W4 at *
 have ce:W4.cell? ⟨1,0,none⟩=some (.iface 232 (.pointer (some (A 1)))):=(HR4.out.now.errs 1 (by omega)).1
 go_wp2_with fail
 refine (bqfails_any w0 A 1 (by omega) W4 R s fl j g 0 HR4.out).mono ?_
 intro e w7 he
 obtain ⟨v,rfl,hv,ht7⟩:=he.err rfl
 have HG:=Lib.hid (BqEnd.gave (R:=R) (w:=w) (fl:=fl) (s:=s) (d:=0) hv (Nat.le_of_lt hs4) (HT4.out.trans ht7))
 clear hv ht7 he ce
 go_wp2
 exact ⟨rfl,HG.out⟩
theorem bqwhole_big (w0:World) (A:Nat→Addr) (w:World) (R:Nat) (s:ByteArray) (fl:Int) (hR:BqAt w0 A w R s fl 0 0 0) (x:Tr) (j g:Nat) (hj:j=s.size) (hf:x.InForm) (hbig:2000 < x.szT) (hl:s.size ≤ 1024) (HC:∀ w,BqAt w0 A w R s fl 0 0 0→Calls Tryz.prog 55 #[.pointer (some ⟨R,0,none⟩)] w (BqEnd A R s fl 0 (.ok x j g) w)) :
   Calls Tryz.prog 28 #[.pointer (some ⟨R,0,none⟩)] w (BqEnd A R s fl 0 (.err 10 j) w):=by
 have HC:=Lib.hid HC
 have HJ:=Lib.hid hj
 clear hj
 have hlt:=hR.lt
 have hb0:Below w.heap.size w (w.alloc (.cells noNode 28)):=(Below.refl _ _).alloc (Nat.le_refl _) _
 have HR:=Lib.hid (hR.later hb0)
 have Z1:=Lib.hid (heap_alloc_new w (.cells noNode 28))
 have HB0:=Lib.hid hb0
 have hsW:w.heap.size < (w.alloc (.cells noNode 28)).heap.size:=by simp
 have hRne:R ≠ w.heap.size:=by omega
 have hd:decide ((1024:Int) < s.size)=false:=by simp;omega
 have hd':decide (1024 < s.size)=false:=by simp;omega
 obtain ⟨c0,-,-,-,-⟩:=bq5 HR.out.cell
 clear hR hb0
 go_enter Tryz.func28,Tryz.ntmps28
 go_wp2_with fail
 clear c0 hd hd'
 generalize World.alloc _ _=W at *
 refine (HC.out W HR.out).mono ?_
 intro e w2 he
 obtain ⟨v,F,rfl,ho,hF,hr2,ht2⟩:=he.ok rfl
 obtain ⟨p,c,rfl,hl2⟩:=ho.slice
 have hbA:Below w2.heap.size w2 (w2.alloc (.cells (x.cells (.slice p x.subs.length c)) 28)):=(Below.refl _ _).alloc (Nat.le_refl _) _
 have HO3:=Lib.hid (ho.later hbA)
 have HF3:=Lib.hid hF
 have Z3:=Lib.hid (keep_blk hbA ((ht2.block w.heap.size hsW (by simp;omega)).trans Z1.out))
 have HT3:=Lib.hid (((Touch.of_below [R] HB0.out).trans ht2).later hbA)
 have HR3:=Lib.hid ((HR.out.next ht2 hr2).later hbA)
 have Y3:=Lib.hid (heap_alloc_new w2 (.cells (x.cells (.slice p x.subs.length c)) 28))
 have hs3:w.heap.size < (w2.alloc (.cells (x.cells (.slice p x.subs.length c)) 28)).heap.size:=Nat.lt_of_lt_of_le hsW (Nat.le_trans ht2.size hbA.size)
 clear ho hF hr2 ht2 he hbA HR Z1 HB0
 unfold Tr.cells at *
 go_upto_region 4 with (fail)
 generalize World.alloc w2 _=W3 at *
 obtain ⟨c0,c1,c2,-,-⟩:=bq5 HR3.out.cell
 have hj:=HJ.out
 have dj:decide ((j:Int) < s.size)=false:=by simp;omega
 have dj':decide (j < s.size)=false:=by simp;omega
 clear hj
 go_quiet (fail)
 have hbn:Below W3.heap.size W3 (W3.drewN nq):=drewN_below (Below.refl _ _) nq
 have HO4:=Lib.hid (HO3.out.later hbn)
 have Z4:Hid ((W3.drewN nq).heap[w.heap.size]? = some (.cells noNode 28)):=Lib.hid Z3.out
 have Y4:Hid ((W3.drewN nq).heap[w2.heap.size]? = some (.cells #[.int .i64 (x).kind,.int .u64 (Oc.U (x).w0),.int .u64 (Oc.U (x).w1),.int .u64 (Oc.U (x).w2),.int .u64 (Oc.U (x).w3),.slice p x.subs.length c,.int .i64 (x).num,.int .i64 (x).least,.int .i64 (x).most,.bool (x).bare] 28)):=Lib.hid Y3.out
 have HT4:=Lib.hid (HT3.out.drewN nq)
 have HR4:=Lib.hid (HR3.out.later hbn)
 have hs4:w.heap.size < (W3.drewN nq).heap.size:=hs3
 clear hbn HO3 Z3 Y3 HT3 HR3 hs3 c0 c1 c2
 generalize World.drewN W3 nq=W4 at *
 have HSZ:=Lib.hid (treeSize_any x hf W4 (fun b=>b ∈ F) _ ⟨_,rfl,HO4.out.trees⟩)
 have hle:=Tr.szT_le x
 have hd:decide ((2000:Int) < x.szT)=true:=by simp;omega
 have hd':decide (2000 < x.szT)=true:=by simp;omega
 generalize x.szT=N at *
 clear hf hbig hle
 unfold Tr.cells at *
 go_wp2_with (first
   | (refine wpList_load_row rfl 28 (.tmp 3) rfl w2.heap.size rfl 28 _ (0,0) _ Y4.out Tryz.underlying28 rfl (by kernel_rfl) ?_)
   | fail)
 refine HSZ.out.mono ?_
 rintro e w5 ⟨rfl,hb5⟩
 have HO5:=Lib.hid (HO4.out.later hb5)
 have Z5:=Lib.hid (keep_blk hb5 Z4.out)
 have Y5:=Lib.hid (keep_blk hb5 Y4.out)
 have HT5:=Lib.hid (HT4.out.later hb5)
 have HRx:=Lib.hid (HR4.out.later hb5)
 have hs5:w.heap.size < w5.heap.size:=Nat.lt_of_lt_of_le hs4 hb5.size
 clear hb5 HO4 Z4 Y4 HT4 HR4 HSZ
 have ce:w5.cell? ⟨9,0,none⟩=some (.iface 232 (.pointer (some (A 9)))):=(HRx.out.now.errs 9 (by omega)).1
 go_wp2_with fail
 refine (bqfails_any w0 A 9 (by omega) w5 R s fl j g 0 HRx.out).mono ?_
 intro e w7 he
 obtain ⟨v,rfl,hv,ht7⟩:=he.err rfl
 have HG:=Lib.hid (BqEnd.gave (R:=R) (w:=w) (fl:=fl) (s:=s) (d:=0) hv (Nat.le_of_lt hs5) (HT5.out.trans ht7))
 clear hv ht7 he ce
 go_wp2
 exact ⟨rfl,HG.out⟩
theorem bqwhole_ok (w0:World) (A:Nat→Addr) (w:World) (R:Nat) (s:ByteArray) (fl:Int) (hR:BqAt w0 A w R s fl 0 0 0) (x:Tr) (j g:Nat) (hj:j=s.size) (hf:x.InForm) (hbig:x.szT ≤ 2000) (hl:s.size ≤ 1024) (HC:∀ w,BqAt w0 A w R s fl 0 0 0→Calls Tryz.prog 55 #[.pointer (some ⟨R,0,none⟩)] w (BqEnd A R s fl 0 (.ok x j g) w)) :
   Calls Tryz.prog 28 #[.pointer (some ⟨R,0,none⟩)] w (BqEnd A R s fl 0 (.ok x j g) w):=by
 have HC:=Lib.hid HC
 have HJ:=Lib.hid hj
 clear hj
 have hlt:=hR.lt
 have hb0:Below w.heap.size w (w.alloc (.cells noNode 28)):=(Below.refl _ _).alloc (Nat.le_refl _) _
 have HR:=Lib.hid (hR.later hb0)
 have Z1:=Lib.hid (heap_alloc_new w (.cells noNode 28))
 have HB0:=Lib.hid hb0
 have hsW:w.heap.size < (w.alloc (.cells noNode 28)).heap.size:=by simp
 have hRne:R ≠ w.heap.size:=by omega
 have hd:decide ((1024:Int) < s.size)=false:=by simp;omega
 have hd':decide (1024 < s.size)=false:=by simp;omega
 obtain ⟨c0,-,-,-,-⟩:=bq5 HR.out.cell
 clear hR hb0
 go_enter Tryz.func28,Tryz.ntmps28
 go_wp2_with fail
 clear c0 hd hd'
 generalize World.alloc _ _=W at *
 refine (HC.out W HR.out).mono ?_
 intro e w2 he
 obtain ⟨v,F,rfl,ho,hF,hr2,ht2⟩:=he.ok rfl
 obtain ⟨p,c,rfl,hl2⟩:=ho.slice
 have hbA:Below w2.heap.size w2 (w2.alloc (.cells (x.cells (.slice p x.subs.length c)) 28)):=(Below.refl _ _).alloc (Nat.le_refl _) _
 have HO3:=Lib.hid (ho.later hbA)
 have HF3:=Lib.hid hF
 have Z3:=Lib.hid (keep_blk hbA ((ht2.block w.heap.size hsW (by simp;omega)).trans Z1.out))
 have HT3:=Lib.hid (((Touch.of_below [R] HB0.out).trans ht2).later hbA)
 have HR3:=Lib.hid ((HR.out.next ht2 hr2).later hbA)
 have Y3:=Lib.hid (heap_alloc_new w2 (.cells (x.cells (.slice p x.subs.length c)) 28))
 have hs3:w.heap.size < (w2.alloc (.cells (x.cells (.slice p x.subs.length c)) 28)).heap.size:=Nat.lt_of_lt_of_le hsW (Nat.le_trans ht2.size hbA.size)
 clear ho hF hr2 ht2 he hbA HR Z1 HB0
 unfold Tr.cells at *
 go_upto_region 4 with (fail)
 generalize World.alloc w2 _=W3 at *
 obtain ⟨c0,c1,c2,-,-⟩:=bq5 HR3.out.cell
 have hj:=HJ.out
 have dj:decide ((j:Int) < s.size)=false:=by simp;omega
 have dj':decide (j < s.size)=false:=by simp;omega
 clear hj
 go_quiet (fail)
 have hbn:Below W3.heap.size W3 (W3.drewN nq):=drewN_below (Below.refl _ _) nq
 have HO4:=Lib.hid (HO3.out.later hbn)
 have Z4:Hid ((W3.drewN nq).heap[w.heap.size]? = some (.cells noNode 28)):=Lib.hid Z3.out
 have Y4:Hid ((W3.drewN nq).heap[w2.heap.size]? = some (.cells #[.int .i64 (x).kind,.int .u64 (Oc.U (x).w0),.int .u64 (Oc.U (x).w1),.int .u64 (Oc.U (x).w2),.int .u64 (Oc.U (x).w3),.slice p x.subs.length c,.int .i64 (x).num,.int .i64 (x).least,.int .i64 (x).most,.bool (x).bare] 28)):=Lib.hid Y3.out
 have HT4:=Lib.hid (HT3.out.drewN nq)
 have HR4:=Lib.hid (HR3.out.later hbn)
 have hs4:w.heap.size < (W3.drewN nq).heap.size:=hs3
 clear hbn HO3 Z3 Y3 HT3 HR3 hs3 c0 c1 c2
 generalize World.drewN W3 nq=W4 at *
 have HSZ:=Lib.hid (treeSize_any x hf W4 (fun b=>b ∈ F) _ ⟨_,rfl,HO4.out.trees⟩)
 have hle:=Tr.szT_le x
 have hd:decide ((2000:Int) < x.szT)=false:=by simp;omega
 have hd':decide (2000 < x.szT)=false:=by simp;omega
 generalize x.szT=N at *
 clear hf hbig hle
 unfold Tr.cells at *
 go_wp2_with (first
   | (refine wpList_load_row rfl 28 (.tmp 3) rfl w2.heap.size rfl 28 _ (0,0) _ Y4.out Tryz.underlying28 rfl (by kernel_rfl) ?_)
   | fail)
 refine HSZ.out.mono ?_
 rintro e w5 ⟨rfl,hb5⟩
 have HO5:=Lib.hid (HO4.out.later hb5)
 have Z5:=Lib.hid (keep_blk hb5 Z4.out)
 have Y5:=Lib.hid (keep_blk hb5 Y4.out)
 have HT5:=Lib.hid (HT4.out.later hb5)
 have HRx:=Lib.hid (HR4.out.later hb5)
 have hs5:w.heap.size < w5.heap.size:=Nat.lt_of_lt_of_le hs4 hb5.size
 clear hb5 HO4 Z4 Y4 HT4 HR4 HSZ
 have hk1:∀ b,b ∈ F→b ≠ w.heap.size:=fun b hb=>by have:=HF3.out b hb;omega
 have hk2:∀ b,b ∈ F→w.heap.size ≤ b:=fun b hb=>by have:=HF3.out b hb;omega
 have HK1:=Lib.hid hk1;have HK2:=Lib.hid hk2
 clear hk1 hk2
 go_wp2_with (first
   | (refine wpList_load_row rfl 28 (.tmp 3) rfl w2.heap.size rfl 28 _ (0,0) _ Y5.out Tryz.underlying28 rfl (by kernel_rfl) ?_)
   | (refine wpList_store_row rfl 28 (.tmp 2) (.tmp 34) rfl w.heap.size #[.int .i64 (x).kind,.int .u64 (Oc.U (x).w0),.int .u64 (Oc.U (x).w1),.int .u64 (Oc.U (x).w2),.int .u64 (Oc.U (x).w3),.slice p x.subs.length c,.int .i64 (x).num,.int .i64 (x).least,.int .i64 (x).most,.bool (x).bare] rfl rfl 28 _ Z5.out (by kernel_rfl) rfl (by simp [Value.oneCell']) ?_)
   | fail)
 exact bodyPost_ret (results_cell_row rfl _ _ w.heap.size 28 #[.int .i64 (x).kind,.int .u64 (Oc.U (x).w0),.int .u64 (Oc.U (x).w1),.int .u64 (Oc.U (x).w2),.int .u64 (Oc.U (x).w3),.slice p x.subs.length c,.int .i64 (x).num,.int .i64 (x).least,.int .i64 (x).most,.bool (x).bare] (0,0) _ rfl (heap_setRow Z5.out) Tryz.underlying28 rfl (by kernel_rfl)) rfl ⟨⟨.slice p x.subs.length c,F,rfl,HO5.out.keep fun b hb=>heap_setRow_other _ _ _ (HK1.out b hb),HK2.out,(heap_setRow_other _ _ _ hRne).trans HRx.out.cell⟩,HT5.out.setRow_new (Nat.le_refl _) _⟩
theorem bqwhole_any (w0:World) (A:Nat→Addr) (w:World) (R:Nat) (s:ByteArray) (fl:Int) (hR:BqAt w0 A w R s fl 0 0 0) :
   Calls Tryz.prog 28 #[.pointer (some ⟨R,0,none⟩)] w (BqEnd A R s fl 0 (Bp.parse (bt s) s.size (icB fl) (nlB fl)) w):=by
 unfold Bp.parse
 by_cases hl:1024 < s.size
 · rw [if_pos hl];exact bqwhole_long w0 A w R s fl hR hl
 rw [if_neg hl]
 have hs:s.size ≤ 1024:=by omega
 have hp:∀ O,Bp.pat (bt s) s.size (icB fl) (nlB fl) 32 0 0=O→∀ w,BqAt w0 A w R s fl 0 0 0→Calls Tryz.prog 55 #[.pointer (some ⟨R,0,none⟩)] w (BqEnd A R s fl 0 O w):=fun O hO w hR=>bqpat_any w0 A w R s hs fl hR O hO
 unfold Bp.whole
 cases hO:Bp.pat (bt s) s.size (icB fl) (nlB fl) 32 0 0 with
 | err c q=>exact bqwhole_err w0 A w R s fl hR c q hs (hp _ hO)
 | ok x j g =>
   have hn:=Bp.seq_next (bt_txt s) (Bp.group_next (bt_txt s) 32) (by omega) hO
   have hf:=Bp.seq_form (bt_txt s) (Bp.group_next (bt_txt s) 32) (Bp.group_right (bt_txt s) hs 32) (by omega) (by omega) hO
   by_cases hj:j < s.size
   · simp only [hj,if_true];exact bqwhole_paren w0 A w R s fl hR x j g hj hs (hp _ hO)
   · simp only [hj,if_false]
     have hjs:j=s.size:=by omega
     by_cases hb:2000 < x.szT
     · simp only [hb,if_true];rw [← hjs];exact bqwhole_big w0 A w R s fl hR x j g hjs hf.1 hb hs (hp _ hO)
     · simp only [hb,if_false];exact bqwhole_ok w0 A w R s fl hR x j g hjs hf.1 (by omega) hs (hp _ hO)
end Go.Proofs.YtfcilopifjddpaaGreatDoor
namespace Go.Proofs.YtfcilopifjddpaaGreatDoor
open Go.RowKit
theorem Touch.setRow {F:List Nat} {a w:World} {b:Nat} (h:Touch F a w) (hb:b ∈ F) (cs:Array Value):Touch F a (w.setRow b cs) :=
 h.trans ⟨rfl,rfl,rfl,by simp,fun k _ hn=>heap_setRow_other _ _ _ (fun e=>hn (e ▸ hb))⟩
theorem one_blk {w:World} {b:Nat} {x:Value} {t:TypeId} (h:w.heap[b]? = some (.cells #[x] t)):w.cell? ⟨b,0,none⟩=some x∧w.frozen? ⟨b,0,none⟩=false:=by
 constructor
 · unfold World.cell?;rw [h];rfl
 · unfold World.frozen?;rw [h];simp
theorem bq_one_set {w:World} {b:Nat} {x:Value} {t:TypeId} (h:w.heap[b]? = some (.cells #[x] t)) (v:Value):(w.setCell ⟨b,0,none⟩ v).heap[b]? = some (.cells #[v] t):=by
 simp [World.setCell,Array.getElem?_modify,h]
theorem faultof_any (q:Value) (w:World) :
   Calls Tryz.prog 27 #[.iface 93 (.agg #[.iface 63 q])] w fun e w'=>e=.returned (.iface 63 q)∧Below w.heap.size w w':=by
 have hta:∀ w,(Instr.typeAssert (.iface 93 (.agg #[.iface 63 q])) 20 93 true).run Tryz.prog w=.ok (.tuple #[.agg #[.iface 63 q],.bool true]) w:=fun _=>rfl
 go_enter Tryz.func27,Tryz.ntmps27
 go_wp2
 go_ret
 exact ⟨rfl,(Below.refl _ _).alloc (Nat.le_refl _) _⟩
theorem bqcaught_idle (p q r:Addr) (w:World) :
   CallsD Tryz.prog 26 #[.pointer (some p),.pointer (some q),.pointer (some r)] .returning w fun e u' w'=>e=.returned (.tuple #[])∧u'=.returning∧w'=w:=by
 refine callsD_of_wpS Tryz.func26 rfl fun c₀ cs hu=>?_
 apply wpS_seq
 apply wpS_region
 simp [wpOpsS,go_sem,recoverD,hu,Tryz.ntmps26,Exit.thenS]
 refine wpS_of_wp ?_
 go_wp2
 refine ⟨rfl,.returning, ?_,.tuple #[],by simp [results,Tryz.results26],rfl,rfl,rfl⟩
 cases c₀
 simp_all
theorem bqcaught_gave (b0 b1 b2:Nat) (h01:b0 ≠ b1) (h02:b0 ≠ b2) (h12:b1 ≠ b2) (q:Value) (w:World) (z0:w.heap[b0]? = some (.cells noNode 28)) (z1:w.heap[b1]? = some (.cells #[.int .i64 0] 3)) (z2:w.heap[b2]? = some (.cells #[.nilIface] 30)) :
   CallsD Tryz.prog 26 #[.pointer (some ⟨b0,0,none⟩),.pointer (some ⟨b1,0,none⟩),.pointer (some ⟨b2,0,none⟩)] (.panicking [{ v:=.iface 93 (.agg #[.iface 63 q]),recovered:=false }]) w fun e u' w' =>
     e=.returned (.tuple #[])∧u'=.panicking [{ v:=.iface 93 (.agg #[.iface 63 q]),recovered:=true }]∧w'.heap[b0]? = some (.cells noNode 28)∧w'.heap[b1]? = some (.cells #[.int .i64 0] 3)∧w'.heap[b2]? = some (.cells #[.iface 63 q] 30)∧Touch [b0,b1,b2] w w':=by
 have Z0:=Lib.hid z0;have Z1:=Lib.hid z1;have Z2:=Lib.hid z2
 clear z0 z1 z2
 refine callsD_of_wpS Tryz.func26 rfl fun c₀ cs hu=>?_
 apply wpS_seq
 apply wpS_region
 simp [wpOpsS,go_sem,recoverD,hu,Tryz.ntmps26,Exit.thenS]
 refine wpS_of_wp ?_
 have hfr:(#[Value.pointer (some ⟨b0,0,none⟩),.pointer (some ⟨b1,0,none⟩),.pointer (some ⟨b2,0,none⟩)] ++ ((Array.replicate 7 undef).setIfInBounds 1 (.iface 93 (.agg #[.iface 63 q]))).setIfInBounds 0 (.iface 93 (.agg #[.iface 63 q]))) =
   #[Value.pointer (some ⟨b0,0,none⟩),.pointer (some ⟨b1,0,none⟩),.pointer (some ⟨b2,0,none⟩),.iface 93 (.agg #[.iface 63 q]),.iface 93 (.agg #[.iface 63 q]),undef,undef,undef,undef,undef]:=rfl
 rw [hfr]
 clear hfr
 go_wp2_with fail
 refine (faultof_any q w).mono ?_
 rintro e w1 ⟨rfl,hb⟩
 have Y0:=Lib.hid (keep_blk hb Z0.out);have Y1:=Lib.hid (keep_blk hb Z1.out);have Y2:=Lib.hid (keep_blk hb Z2.out)
 have HT:=Lib.hid (Touch.of_below [b0,b1,b2] hb)
 clear hb Z0 Z1 Z2
 have X0:=Lib.hid (heap_setRow (cs:=noNode) Y0.out)
 have X1:=Lib.hid ((heap_setRow_other w1 b0 noNode (Ne.symm h01)).trans Y1.out)
 have X2:=Lib.hid ((heap_setRow_other w1 b0 noNode (Ne.symm h02)).trans Y2.out)
 have V0:=Lib.hid ((Below.heap_setCell (w1.setRow b0 noNode) ⟨b1,0,none⟩ (.int .i64 0) b0 h01).trans X0.out)
 have V1:=Lib.hid (bq_one_set X1.out (.int .i64 0))
 have V2:=Lib.hid ((Below.heap_setCell (w1.setRow b0 noNode) ⟨b1,0,none⟩ (.int .i64 0) b2 (Ne.symm h12)).trans X2.out)
 have HT2:=Lib.hid (Touch.setRow (HT.out) (b:=b0) (by simp) noNode)
 have HT3:=Lib.hid ((HT2.out.setCell (b:=b1) (by simp) 0 (.int .i64 0)).setCell (b:=b2) (by simp) 0 (.iface 63 q))
 obtain ⟨c1,f1⟩:=one_blk X1.out
 obtain ⟨c2,f2⟩:=one_blk V2.out
 go_wp2_with (first
   | (refine wpList_store_row rfl 28 (.tmp 0) (.tmp 7) rfl b0 noNode rfl rfl 28 _ Y0.out (by kernel_rfl) rfl (by simp [Value.oneCell']) ?_)
   | fail)
 refine ⟨rfl,_,rfl,.tuple #[],by simp [results,Tryz.results26],rfl,rfl, ?_, ?_, ?_,HT3.out⟩
 · exact (Below.heap_setCell _ ⟨b2,0,none⟩ _ b0 h02).trans V0.out
 · exact (Below.heap_setCell _ ⟨b2,0,none⟩ _ b1 h12).trans V1.out
 · exact bq_one_set V2.out _
theorem ErrOne.touch {A:Nat→Addr} {B:Nat} {w w':World} {v:Value} {c:Nat} {n:Int} (h:ErrOne A B w v c n) {F:List Nat} (ht:Touch F w w') (hF:∀ k,k ∈ F→k < B):ErrOne A B w' v c n:=by
 obtain ⟨k,p,hk,hc,hv,hp,c0,c1⟩:=h
 have hb:=ht.block p (block_lt_of_cell c0) (fun hm=>by have:=hF p hm;omega)
 refine ⟨k,p,hk,hc,hv,hp, ?_, ?_⟩
 · unfold World.cell? at c0 ⊢;rw [hb];exact c0
 · unfold World.cell? at c1 ⊢;rw [hb];exact c1
theorem four_new (w:World) (x y z u:Obj):((((w.alloc x).alloc y).alloc z).alloc u).heap[w.heap.size]? = some x∧((((w.alloc x).alloc y).alloc z).alloc u).heap[w.heap.size+1]? = some y∧((((w.alloc x).alloc y).alloc z).alloc u).heap[w.heap.size+2]? = some z∧((((w.alloc x).alloc y).alloc z).alloc u).heap[w.heap.size+3]? = some u:=by
 obtain ⟨h0,h1,h2⟩:=bq_three w x y z
 exact ⟨heap_alloc_lt h0,heap_alloc_lt h1,heap_alloc_lt h2,by have:=heap_alloc_new (((w.alloc x).alloc y).alloc z) u;simpa using this⟩
theorem results_cells3 {P:Program} {fn:Func} {p q r:Tmp} {ty t2 t3:TypeId} (h:fn.results=#[.cell p ty,.cell q t2,.cell r t3]) (tmps:Array Value) (w:World) (g0 g1 g2:Nat) (t:TypeId) (cs:Array Value) (d:TypeDesc) (y z:Value)
   (hp:tmps.getD p undef=.pointer (some ⟨g0,0,none⟩)) (hq:tmps.getD q undef=.pointer (some ⟨g1,0,none⟩)) (hr:tmps.getD r undef=.pointer (some ⟨g2,0,none⟩))
   (hg:w.heap[g0]? = some (.cells cs t (0,0))) (c1:w.cell? ⟨g1,0,none⟩=some y) (c2:w.cell? ⟨g2,0,none⟩=some z)
   (hu:P.underlying ty=some d) (hd:(match d with | .struct _ | .array _ _=>true | _=>false)=true) (hi:(P.info? ty).map (·.size)=some cs.size)
   (h2:∀ w:World,w.cell? ⟨g1,0,none⟩=some y→(loadVar t2 ⟨g1,0,none⟩).run P w=.ok y w) (h3:∀ w:World,w.cell? ⟨g2,0,none⟩=some z→(loadVar t3 ⟨g2,0,none⟩).run P w=.ok z w) :
   (results fn tmps).run P w=.ok (.tuple #[.agg cs,y,z]) w:=by
 have hp':tmps[p]?.getD undef=.pointer (some ⟨g0,0,none⟩):=by simpa using hp
 have hq':tmps[q]?.getD undef=.pointer (some ⟨g1,0,none⟩):=by simpa using hq
 have hr':tmps[r]?.getD undef=.pointer (some ⟨g2,0,none⟩):=by simpa using hr
 simp [results,h,hp',hq',hr',asAddr,run_loadVar_row w g0 t ty cs (0,0) d hg hu hd hi,h2 w c1,h3 w c2]
theorem load_int1 (g:Nat) (v:Value) (w:World) (h:w.cell? ⟨g,0,none⟩=some v):(loadVar 3 ⟨g,0,none⟩).run Tryz.prog w=.ok v w:=by simp [go_sem,h]
theorem load_err1 (g:Nat) (v:Value) (w:World) (h:w.cell? ⟨g,0,none⟩=some v):(loadVar 30 ⟨g,0,none⟩).run Tryz.prog w=.ok v w:=by simp [go_sem,h]
abbrev bqW (w:World) (s:ByteArray) (fl:Int):World:=(((w.alloc (.cells noNode 28)).alloc (.cells #[.int .i64 0] 3)).alloc (.cells #[.nilIface] 30)).alloc (.cells (rdC s fl 0 0 0) 53)
theorem bqparse_err (A:Nat→Addr) (w:World) (s:ByteArray) (fl:Int) (hE:BrEnv w A) (c:Nat) (n:Int) (hW:Bp.parse (bt s) s.size (icB fl) (nlB fl)=.err c n) :
   Calls Tryz.prog 8 #[.string s,.int .i64 fl] w (PaEnd A (.err c n) w):=by
 have hb0:Below w.heap.size w (bqW w s fl):=by go_grown
 obtain ⟨z0,z1,z2,z3⟩:=four_new w (.cells noNode 28) (.cells #[.int .i64 0] 3) (.cells #[.nilIface] 30) (.cells (rdC s fl 0 0 0) 53)
 have hs1:(bqW w s fl).heap.size=w.heap.size+4:=by simp
 have HWH:=bqwhole_any w A (bqW w s fl) (w.heap.size+3) s fl ⟨hE,by omega,hb0,z3⟩
 rw [hW] at HWH
 have HWH:=Lib.hid HWH
 have Z0:=Lib.hid z0;have Z1:=Lib.hid z1;have Z2:=Lib.hid z2;have HB0:=Lib.hid hb0
 have hmf:∀ (fn:Fn) (first cap:Array Value) (w:World),(Instr.makeFunc fn first cap).run Tryz.prog w=.ok (.func fn first cap) w:=fun _ _ _ _=>rfl
 clear z0 z1 z2 z3 hb0 hW hE
 unfold bqW at *
 go_enter_defers Tryz.func8,Tryz.ntmps8
 go_wp2_with fail
 refine HWH.out.mono ?_
 generalize World.alloc (World.alloc (World.alloc (World.alloc _ _) _) _) _=W at *
 intro e w2 he
 obtain ⟨v,rfl,hv,ht⟩:=he.err rfl
 obtain ⟨q,rfl⟩:=hv.iface
 have Y0:=Lib.hid ((ht.block w.heap.size (by omega) (by simp)).trans Z0.out)
 have Y1:=Lib.hid ((ht.block (w.heap.size+1) (by omega) (by simp)).trans Z1.out)
 have Y2:=Lib.hid ((ht.block (w.heap.size+2) (by omega) (by simp)).trans Z2.out)
 have HV:=Lib.hid hv;have HT:=Lib.hid ht
 clear hv ht he HWH Z0 Z1 Z2
 go_wp2
 refine leaves_cons (f:=26) (args:=#[.pointer (some ⟨w.heap.size,0,none⟩),.pointer (some ⟨w.heap.size+1,0,none⟩),.pointer (some ⟨w.heap.size+2,0,none⟩)]) (by simp) (by simp [go_sem]) ?_
 refine (bqcaught_gave w.heap.size (w.heap.size+1) (w.heap.size+2) (by omega) (by omega) (by omega) q w2 Y0.out Y1.out Y2.out).mono ?_
 rintro e u' w3 ⟨rfl,rfl,x0,x1,x2,ht3⟩
 refine ⟨.tuple #[.agg noNode,.int .i64 0,.iface 63 q], ?_,⟨_,rfl, ?_⟩, ?_⟩
 · exact results_cells3 rfl _ _ w.heap.size (w.heap.size+1) (w.heap.size+2) _ noNode _ _ _ rfl rfl rfl x0 (one_blk x1).1 (one_blk x2).1 Tryz.underlying28 rfl (by kernel_rfl) (load_int1 _ _) (load_err1 _ _)
 · exact (HV.out.touch ht3 (fun k hk=>by simp at hk;omega)).down (by omega)
 · refine (HB0.out.trans (HT.out.below (fun k hk=>by rw [List.mem_singleton.1 hk];omega) HB0.out.size)).trans (ht3.below (fun k hk=>by simp at hk;omega) (by have:=HT.out.size;omega))
theorem bqparse_ok (A:Nat→Addr) (w:World) (s:ByteArray) (fl:Int) (hE:BrEnv w A) (T:Tr) (j g:Nat) (hW:Bp.parse (bt s) s.size (icB fl) (nlB fl)=.ok T j g) :
   Calls Tryz.prog 8 #[.string s,.int .i64 fl] w (PaEnd A (.ok T j g) w):=by
 have hb0:Below w.heap.size w (bqW w s fl):=by go_grown
 obtain ⟨z0,z1,z2,z3⟩:=four_new w (.cells noNode 28) (.cells #[.int .i64 0] 3) (.cells #[.nilIface] 30) (.cells (rdC s fl 0 0 0) 53)
 have hs1:(bqW w s fl).heap.size=w.heap.size+4:=by simp
 have HWH:=bqwhole_any w A (bqW w s fl) (w.heap.size+3) s fl ⟨hE,by omega,hb0,z3⟩
 rw [hW] at HWH
 have HWH:=Lib.hid HWH
 have Z0:=Lib.hid z0;have Z1:=Lib.hid z1;have Z2:=Lib.hid z2;have HB0:=Lib.hid hb0
 have hmf:∀ (fn:Fn) (first cap:Array Value) (w:World),(Instr.makeFunc fn first cap).run Tryz.prog w=.ok (.func fn first cap) w:=fun _ _ _ _=>rfl
 clear z0 z1 z2 z3 hb0 hW hE
 unfold bqW at *
 go_enter_defers Tryz.func8,Tryz.ntmps8
 go_wp2_with fail
 refine HWH.out.mono ?_
 generalize World.alloc (World.alloc (World.alloc (World.alloc _ _) _) _) _=W at *
 intro e w2 he
 obtain ⟨v,F,rfl,ho,hF,hr2,ht⟩:=he.ok rfl
 obtain ⟨p,c,rfl,hl⟩:=ho.slice
 have hs2:w.heap.size+4 ≤ w2.heap.size:=by have:=ht.size;omega
 have Y0:=Lib.hid ((ht.block w.heap.size (by omega) (by simp)).trans Z0.out)
 have Y1:=Lib.hid ((ht.block (w.heap.size+1) (by omega) (by simp)).trans Z1.out)
 have Y2:=Lib.hid ((ht.block (w.heap.size+2) (by omega) (by simp)).trans Z2.out)
 have HT:=Lib.hid (HB0.out.trans (ht.below (fun k hk=>by rw [List.mem_singleton.1 hk];omega) HB0.out.size))
 have HO:=Lib.hid ho
 have HF:Hid (∀ b,b ∈ F→w.heap.size+4 ≤ b):=Lib.hid fun b hb=>by have:=hF b hb;omega
 have HR2:=Lib.hid hr2
 clear ho hF hr2 ht he HWH Z0 Z1 Z2 HB0
 unfold Tr.cells
 go_upto_region 4 with (first
   | (refine wpList_store_row rfl 28 (.tmp 4) (.tmp 12) rfl w.heap.size #[.int .i64 T.kind,.int .u64 (Oc.U T.w0),.int .u64 (Oc.U T.w1),.int .u64 (Oc.U T.w2),.int .u64 (Oc.U T.w3),.slice p T.subs.length c,.int .i64 T.num,.int .i64 T.least,.int .i64 T.most,.bool T.bare] rfl rfl 28 _ Y0.out (by kernel_rfl) rfl (by simp [Value.oneCell']) ?_)
   | fail)
 have X0:=Lib.hid (heap_setRow (cs:=#[.int .i64 T.kind,.int .u64 (Oc.U T.w0),.int .u64 (Oc.U T.w1),.int .u64 (Oc.U T.w2),.int .u64 (Oc.U T.w3),.slice p T.subs.length c,.int .i64 T.num,.int .i64 T.least,.int .i64 T.most,.bool T.bare]) Y0.out)
 have X1:=Lib.hid ((heap_setRow_other w2 w.heap.size #[.int .i64 T.kind,.int .u64 (Oc.U T.w0),.int .u64 (Oc.U T.w1),.int .u64 (Oc.U T.w2),.int .u64 (Oc.U T.w3),.slice p T.subs.length c,.int .i64 T.num,.int .i64 T.least,.int .i64 T.most,.bool T.bare] (k:=w.heap.size+1) (by omega)).trans Y1.out)
 have X2:=Lib.hid ((heap_setRow_other w2 w.heap.size #[.int .i64 T.kind,.int .u64 (Oc.U T.w0),.int .u64 (Oc.U T.w1),.int .u64 (Oc.U T.w2),.int .u64 (Oc.U T.w3),.slice p T.subs.length c,.int .i64 T.num,.int .i64 T.least,.int .i64 T.most,.bool T.bare] (k:=w.heap.size+2) (by omega)).trans Y2.out)
 have XR:=Lib.hid ((heap_setRow_other w2 w.heap.size #[.int .i64 T.kind,.int .u64 (Oc.U T.w0),.int .u64 (Oc.U T.w1),.int .u64 (Oc.U T.w2),.int .u64 (Oc.U T.w3),.slice p T.subs.length c,.int .i64 T.num,.int .i64 T.least,.int .i64 T.most,.bool T.bare] (k:=w.heap.size+3) (by omega)).trans HR2.out)
 have HT3:=Lib.hid (below_setRow HT.out (Nat.le_refl _) #[.int .i64 T.kind,.int .u64 (Oc.U T.w0),.int .u64 (Oc.U T.w1),.int .u64 (Oc.U T.w2),.int .u64 (Oc.U T.w3),.slice p T.subs.length c,.int .i64 T.num,.int .i64 T.least,.int .i64 T.most,.bool T.bare])
 have HO3:=Lib.hid (HO.out.keep (w':=w2.setRow w.heap.size #[.int .i64 T.kind,.int .u64 (Oc.U T.w0),.int .u64 (Oc.U T.w1),.int .u64 (Oc.U T.w2),.int .u64 (Oc.U T.w3),.slice p T.subs.length c,.int .i64 T.num,.int .i64 T.least,.int .i64 T.most,.bool T.bare]) fun b hb=>heap_setRow_other _ _ _ (by have:=HF.out b hb;omega))
 have hs3:w.heap.size+4 ≤ (w2.setRow w.heap.size #[.int .i64 T.kind,.int .u64 (Oc.U T.w0),.int .u64 (Oc.U T.w1),.int .u64 (Oc.U T.w2),.int .u64 (Oc.U T.w3),.slice p T.subs.length c,.int .i64 T.num,.int .i64 T.least,.int .i64 T.most,.bool T.bare]).heap.size:=by simpa using hs2
 clear Y0 Y1 Y2 HT HO HR2 hs2
 generalize World.setRow w2 _ _=W3 at *
 refine Ri.wp_region_frame (by kernel_rfl) (by kernel_rfl) (by kernel_rfl) (by kernel_rfl)
   (fun L v w'=>Touch [w.heap.size,w.heap.size+1,w.heap.size+2] W3 w'∧w'.heap[w.heap.size]? = some (.cells #[.int .i64 T.kind,.int .u64 (Oc.U T.w0),.int .u64 (Oc.U T.w1),.int .u64 (Oc.U T.w2),.int .u64 (Oc.U T.w3),.slice p T.subs.length c,.int .i64 T.num,.int .i64 T.least,.int .i64 T.most,.bool T.bare] 28)∧(L 4=true→w'.heap[w.heap.size+1]? = some (.cells #[.int .i64 g] 3))∧(L 4=false→w'.heap[w.heap.size+1]? = some (.cells #[.int .i64 0] 3))∧w'.heap[w.heap.size+2]? = some (.cells #[.nilIface] 30)∧(L 0=true→v 0=.agg #[.int .i64 T.kind,.int .u64 (Oc.U T.w0),.int .u64 (Oc.U T.w1),.int .u64 (Oc.U T.w2),.int .u64 (Oc.U T.w3),.slice p T.subs.length c,.int .i64 T.num,.int .i64 T.least,.int .i64 T.most,.bool T.bare])∧(L 1=true→v 1=.pointer (some ⟨w.heap.size+3,3,none⟩))∧(L 2=true→v 2=.int .i64 g))
   ?_ ?_ ?_
 · exact ⟨⟨rfl,rfl,rfl,Nat.le_refl _,fun _ _ _=>rfl⟩,X0.out,by simp,fun _=>X1.out,X2.out,by simp,by simp,by simp⟩
 · intro i hi9 L v w9 xa hI hL hd hv ho
   have hi':i=0 ∨ i=1 ∨ i=2 ∨ i=3 ∨ i=4 ∨ i=5:=by simp at hi9;omega
   obtain ⟨ht,h0,h4t,h4f,h2,q0,q1,q2⟩:=hI
   rcases hi' with rfl | rfl | rfl | rfl | rfl | rfl
   · have e4:xa.tmps.getD 4 undef=.pointer (some ⟨w.heap.size,0,none⟩):=ho 4 (by kernel_rfl)
     refine Ri.step_plain rfl rfl (fun K' hK=>?_)
     refine wp_load_row _ _ rfl _ e4 _ _ _ _ h0 Tryz.underlying28 rfl (by kernel_rfl) ?_
     exact hK _ _ ⟨_,_,rfl,rfl,ht,h0,h4t,h4f,h2,fun _=>rfl,q1,q2⟩
   · have e7:xa.tmps.getD 7 undef=.pointer (some ⟨w.heap.size+3,0,none⟩):=ho 7 (by kernel_rfl)
     refine Ri.step_plain rfl rfl (fun K' hK=>?_)
     go_simp
     exact hK _ _ ⟨_,_,rfl,rfl,ht,h0,h4t,h4f,h2,q0,fun _=>rfl,q2⟩
   · have l0:L 1=true:=by have:=hd _ rfl;simp [Region.binds] at this;simp [this]
     have f1:=(hv 1 14 rfl l0).trans (q1 l0)
     refine Ri.step_plain rfl rfl (fun K' hK=>?_)
     obtain ⟨-,-,-,c3,-⟩:=bq5 ((ht.block (w.heap.size+3) (by omega) (by simp)).trans XR.out)
     go_simp
     exact hK _ _ ⟨_,_,rfl,rfl,ht,h0,h4t,h4f,h2,q0,q1,fun _=>rfl⟩
   · have l0:L 0=true:=by have:=hd _ rfl;simp [Region.binds] at this;simp [this]
     have f0:=(hv 0 13 rfl l0).trans (q0 l0)
     have e4:xa.tmps.getD 4 undef=.pointer (some ⟨w.heap.size,0,none⟩):=ho 4 (by kernel_rfl)
     refine Ri.step_plain rfl rfl (fun K' hK=>?_)
     refine wp_store_row _ _ _ rfl w.heap.size #[.int .i64 T.kind,.int .u64 (Oc.U T.w0),.int .u64 (Oc.U T.w1),.int .u64 (Oc.U T.w2),.int .u64 (Oc.U T.w3),.slice p T.subs.length c,.int .i64 T.num,.int .i64 T.least,.int .i64 T.most,.bool T.bare] e4 f0 28 _ h0 (by kernel_rfl) (by kernel_rfl) (by simp [Value.oneCell']) ?_
     exact hK _ _ ⟨_,undef,rfl,rfl,ht.setRow (by simp) _,heap_setRow h0,fun l=>(heap_setRow_other _ _ _ (by omega)).trans (h4t l),fun l=>(heap_setRow_other _ _ _ (by omega)).trans (h4f l),(heap_setRow_other _ _ _ (by omega)).trans h2,q0,q1,q2⟩
   · have l0:L 2=true:=by have:=hd _ rfl;simp [Region.binds] at this;simp [this]
     have f2:=(hv 2 15 rfl l0).trans (q2 l0)
     have e5:xa.tmps.getD 5 undef=.pointer (some ⟨w.heap.size+1,0,none⟩):=ho 5 (by kernel_rfl)
     have hz:=h4f hL
     obtain ⟨c1,g1⟩:=one_blk hz
     refine Ri.step_plain rfl rfl (fun K' hK=>?_)
     go_simp
     exact hK _ _ ⟨_,undef,rfl,rfl,ht.setCell (by simp) 0 _,(Below.heap_setCell _ ⟨w.heap.size+1,0,none⟩ _ w.heap.size (by simp)).trans h0,fun _=>bq_one_set hz _,fun l=>(by cases l),(Below.heap_setCell _ ⟨w.heap.size+1,0,none⟩ _ (w.heap.size+2) (by simp)).trans h2,q0,q1,q2⟩
   · have e6:xa.tmps.getD 6 undef=.pointer (some ⟨w.heap.size+2,0,none⟩):=ho 6 (by kernel_rfl)
     obtain ⟨c2,g2⟩:=one_blk h2
     refine Ri.step_plain rfl rfl (fun K' hK=>?_)
     go_simp
     exact hK _ _ ⟨_,undef,rfl,rfl,ht.setCell (by simp) 0 _,(Below.heap_setCell _ ⟨w.heap.size+2,0,none⟩ _ w.heap.size (by simp)).trans h0,fun l=>(Below.heap_setCell _ ⟨w.heap.size+2,0,none⟩ _ (w.heap.size+1) (by simp)).trans (h4t l),fun l=>(Below.heap_setCell _ ⟨w.heap.size+2,0,none⟩ _ (w.heap.size+1) (by simp)).trans (h4f l),bq_one_set h2 _,q0,q1,q2⟩
 · rintro v w9 ⟨ht,h0,h4t,-,h2,-,-,-⟩
   have V0:=Lib.hid h0;have V1:=Lib.hid (h4t rfl);have V2:=Lib.hid h2;have VT:=Lib.hid ht
   clear ht h0 h4t h2
   simp only [Ri.frame,List.zipIdx,List.foldl_cons,List.foldl_nil,if_true,Nat.reduceAdd]
   generalize v 0=y0;generalize v 1=y1;generalize v 2=y2
   go_wp2
   refine leaves_cons (f:=26) (args:=#[.pointer (some ⟨w.heap.size,0,none⟩),.pointer (some ⟨w.heap.size+1,0,none⟩),.pointer (some ⟨w.heap.size+2,0,none⟩)]) (by simp) (by simp [go_sem]) ?_
   refine (bqcaught_idle ⟨w.heap.size,0,none⟩ ⟨w.heap.size+1,0,none⟩ ⟨w.heap.size+2,0,none⟩ w9).mono ?_
   rintro e u' w10 ⟨rfl,rfl,rfl⟩
   refine ⟨.tuple #[.agg #[.int .i64 T.kind,.int .u64 (Oc.U T.w0),.int .u64 (Oc.U T.w1),.int .u64 (Oc.U T.w2),.int .u64 (Oc.U T.w3),.slice p T.subs.length c,.int .i64 T.num,.int .i64 T.least,.int .i64 T.most,.bool T.bare],.int .i64 g,.nilIface], ?_,⟨_,F,rfl, ?_, ?_⟩, ?_⟩
   · exact results_cells3 rfl _ _ w.heap.size (w.heap.size+1) (w.heap.size+2) _ #[.int .i64 T.kind,.int .u64 (Oc.U T.w0),.int .u64 (Oc.U T.w1),.int .u64 (Oc.U T.w2),.int .u64 (Oc.U T.w3),.slice p T.subs.length c,.int .i64 T.num,.int .i64 T.least,.int .i64 T.most,.bool T.bare] _ _ _ rfl rfl rfl V0.out (one_blk V1.out).1 (one_blk V2.out).1 Tryz.underlying28 rfl (by kernel_rfl) (load_int1 _ _) (load_err1 _ _)
   · exact HO3.out.keep fun b hb=>VT.out.block b (HO3.out.lt b hb) (by have:=HF.out b hb;simp;omega)
   · intro b hb;have:=HF.out b hb;omega
   · exact HT3.out.trans (VT.out.below (fun k hk=>by simp at hk;omega) (by omega))
theorem bqparse_does (A:Nat→Addr) (w:World) (s:ByteArray) (fl:Int) (hE:BrEnv w A) :
   Calls Tryz.prog 8 #[.string s,.int .i64 fl] w (PaEnd A (Bp.parse (bt s) s.size (icB fl) (nlB fl)) w):=by
 cases h:Bp.parse (bt s) s.size (icB fl) (nlB fl) with
 | ok t j g=>exact bqparse_ok A w s fl hE t j g h
 | err c p=>exact bqparse_err A w s fl hE c p h
end Go.Proofs.YtfcilopifjddpaaGreatDoor
namespace Go.Proofs.YtfcilopifjddpaaGreatDoor
open Go.RowKit
def bqT1:ByteArray:=⟨#[92,40,42,97,92,41,92,123,50,44,51,92,125]⟩
def bqT2:ByteArray:=⟨#[97,42,42]⟩
def bqR1:Tr:=.rep 2 3 (.grp (1:Nat) (.many 5 [Ep.one false 42,Ep.one false 97]))
theorem bq1:Bp.parse (bt bqT1) bqT1.size (icB 0) (nlB 0)=.ok bqR1 13 1:=by
 rw [ic0,nl0]
 rfl
theorem bq2:Bp.parse (bt bqT2) bqT2.size (icB 0) (nlB 0)=.err 9 2:=by
 rw [ic0,nl0]
 rfl
theorem bqlives_any (A:Nat→Addr) (w:World) (hE:BrEnv w A) (hT:ErrType w):Calls Tryz.prog 7 #[] w fun e w'=>e=.returned (.bool true)∧Below w.heap.size w w':=by
 have HE:=Lib.hid hE;have HT:=Lib.hid hT
 have HD:=Lib.hid bqparse_does
 clear hE hT
 go_enter Tryz.func7,Tryz.ntmps7
 go_wp2_with fail
 refine (HD.out A _ bqT1 0 HE.out).mono ?_
 intro e w1 he
 obtain ⟨v1,F1,rfl,ho1,-,hb1⟩:=he.ok bq1
 obtain ⟨p1,c1,rfl,hl1⟩:=ho1.slice
 have hbA:=hb1.alloc hb1.size (.cells (bqR1.cells (.slice p1 bqR1.subs.length c1)) 28)
 have Z1:=Lib.hid (heap_alloc_new w1 (.cells (bqR1.cells (.slice p1 bqR1.subs.length c1)) 28))
 have HB1:=Lib.hid hbA
 clear he ho1 hb1 hbA hl1
 unfold Tr.cells at *
 have k1:bqR1.kind=8:=rfl
 have k2:bqR1.least=2:=rfl
 have k3:bqR1.most=3:=rfl
 rw [k1,k2,k3] at *
 clear k1 k2 k3
 generalize bqR1.w0=x0 at *
 generalize bqR1.w1=x1 at *
 generalize bqR1.w2=x2 at *
 generalize bqR1.w3=x3 at *
 generalize bqR1.subs.length=xl at *
 generalize bqR1.num=xn at *
 generalize bqR1.bare=xb at *
 go_wp2_with fail
 refine (HD.out A _ bqT2 0 (HE.out.below HB1.out)).mono ?_
 intro e w2 he
 obtain ⟨v,rfl,hv,hb2⟩:=he.err bq2
 obtain ⟨q2,rfl⟩:=hv.iface
 have hbB:Below _ _ (w2.alloc (.cells noNode 28)):=hb2.alloc hb2.size _
 have Z2:=Lib.hid (keep_blk hbB Z1.out)
 have HB2:=Lib.hid (HB1.out.trans (hbB.mono HB1.out.size))
 have HV:=Lib.hid (hv.at.later ((Below.refl w2.heap.size w2).alloc (Nat.le_refl _) (.cells noNode 28)))
 have HE2:=Lib.hid (HE.out.below HB2.out);have HT2:=Lib.hid (HT.out.later HB2.out)
 obtain ⟨d0,d7,d8⟩:=ten3 Z2.out
 clear he hb2 hbB hv
 go_wp2_with fail
 refine (HV.out.num HE2.out).mono ?_;rintro e w6 ⟨rfl,hb6⟩
 have HB6:=Lib.hid (HB2.out.trans (hb6.mono HB2.out.size));have HT6:=Lib.hid (HT2.out.later hb6);have HV6:=Lib.hid (HV.out.later hb6)
 clear hb6 d0 d7 d8
 go_wp2_with fail
 refine (HV6.out.place HT6.out).mono ?_;rintro e w7 ⟨rfl,hb7⟩
 have HB7:=Lib.hid (HB6.out.trans (hb7.mono HB6.out.size))
 clear hb7
 go_wp2
 go_ret
 exact ⟨rfl,HB7.out⟩
end Go.Proofs.YtfcilopifjddpaaGreatDoor
namespace Go.Proofs.YtfcilopifjddpaaGreatDoor
open Go.RowKit
theorem used_form (t:Tr) (s:Value) (hs:∃ p l c,s=.slice p l c) (hf:t.fieldsOk) (w:World):Calls Tryz.prog 117 #[.agg (t.cells s)] w fun e w'=>e=.returned (.agg (t.cells (.slice none 0 0)))∧Below w.heap.size w w':=by
 obtain ⟨p,l,c,rfl⟩:=hs
 cases t with | node k a b c d ts n lo hi br =>
 unfold Tr.fieldsOk at hf
 simp only [Tr.cells,Tr.kind,Tr.w0,Tr.w1,Tr.w2,Tr.w3,Tr.num,Tr.least,Tr.most,Tr.bare,Tr.subs] at *
 rcases hf with ⟨h | h | h,rfl,rfl,rfl,rfl,-,rfl,rfl,rfl,rfl⟩ | ⟨h,-,rfl,rfl,rfl,rfl⟩ | ⟨h | h,rfl,rfl,rfl,rfl,-,rfl,rfl,rfl,rfl⟩ | ⟨h,rfl,rfl,rfl,rfl,-,-,-,rfl,rfl,rfl⟩ | ⟨h,rfl,rfl,rfl,rfl,-,rfl,-,-,-,-⟩
 all_goals
   subst h
   have u0:Oc.U 0#64=0:=by decide
   try simp only [u0]
   clear u0
   go_enter Tryz.func117,Tryz.ntmps117
   go_wp2
   exact bodyPost_ret (results_cell_row rfl _ _ (w.heap.size+1) 28 _ (0,0) _ rfl (three_new _ _ _ _).2.1 Tryz.underlying28 rfl (by kernel_rfl)) rfl ⟨rfl,by go_grown⟩
theorem ten {w:World} {b:Nat} {x0 x1 x2 x3 x4 x5 x6 x7 x8 x9:Value} {t:TypeId} (h:w.heap[b]? = some (.cells #[x0,x1,x2,x3,x4,x5,x6,x7,x8,x9] t)):w.cell? ⟨b,0,none⟩=some x0∧w.cell? ⟨b,1,none⟩=some x1∧w.cell? ⟨b,2,none⟩=some x2∧w.cell? ⟨b,3,none⟩=some x3∧w.cell? ⟨b,4,none⟩=some x4∧w.cell? ⟨b,5,none⟩=some x5∧w.cell? ⟨b,6,none⟩=some x6∧w.cell? ⟨b,7,none⟩=some x7∧w.cell? ⟨b,8,none⟩=some x8∧w.cell? ⟨b,9,none⟩=some x9:=by
 simp [World.cell?,h]
theorem refform_yes:∀ t:Tr,t.InForm→∀ (w:World) (B:Nat→Prop) (v:Value),NodeV w B v t→Calls Tryz.prog 82 #[v] w fun e w'=>e=.returned (.bool true)∧Below w.heap.size w w':=by
 intro t
 induction t using Tr.rec_subs with
 | h t ih =>
   intro hf w B v hv
   obtain ⟨s,rfl,hs⟩:=hv
   obtain ⟨p,cap,rfl,hlen⟩:=hs.slice
   have he:=eq4
   have hfl:=hf.fields
   have HU:=Lib.hid (used_form t (.slice p t.subs.length cap) ⟨_,_,_,rfl⟩ hfl)
   have IH:=Lib.hid ih;have HF:=Lib.hid hf;have HS:=Lib.hid hs
   clear ih hf hs
   generalize hts:t.subs=ts at *
   have HTS:=Lib.hid hts
   cases t with | node k a b c d us n lo hi br =>
   unfold Tr.fieldsOk at hfl
   simp only [Tr.cells,Tr.kind,Tr.w0,Tr.w1,Tr.w2,Tr.w3,Tr.num,Tr.least,Tr.most,Tr.bare,Tr.subs] at *
   subst hts
   rcases hfl with ⟨h | h | h,rfl,rfl,rfl,rfl,hl,rfl,rfl,rfl,rfl⟩ | ⟨h,hl,rfl,rfl,rfl,rfl⟩ | ⟨h | h,rfl,rfl,rfl,rfl,hl,rfl,rfl,rfl,rfl⟩ | ⟨h,rfl,rfl,rfl,rfl,hl,hn1,hn2,rfl,rfl,rfl⟩ | ⟨h,rfl,rfl,rfl,rfl,hl,rfl,h1,h2,h3,h4⟩
   · subst h
     have g1:((us.length:Int) != 0)=false:=by rw [hl];rfl
     clear hl
     go_enter Tryz.func82,Tryz.ntmps82
     go_wp2_with fail
     refine (HU.out _).mono ?_
     rintro e w1 ⟨rfl,hb1⟩
     have Z1:=Lib.hid (keep_blk hb1 (heap_alloc_new w _))
     have HB1:=Lib.hid (((Below.refl _ _).alloc (Nat.le_refl _) _).trans (hb1.mono (by simp)))
     have hs1:w.heap.size < w1.heap.size:=by have:=hb1.size;simp at this;omega
     clear hb1
     have Z2:=fun o=>Lib.hid (heap_alloc_lt (o:=o) Z1.out)
     have f0:=fun o=>(ten (Z2 o).out).1
     have f1:=fun o=>(ten (Z2 o).out).2.1
     have f2:=fun o=>(ten (Z2 o).out).2.2.1
     have f3:=fun o=>(ten (Z2 o).out).2.2.2.1
     have f4:=fun o=>(ten (Z2 o).out).2.2.2.2.1
     have f5:=fun o=>(ten (Z2 o).out).2.2.2.2.2.1
     have f6:=fun o=>(ten (Z2 o).out).2.2.2.2.2.2.1
     have f7:=fun o=>(ten (Z2 o).out).2.2.2.2.2.2.2.1
     have f8:=fun o=>(ten (Z2 o).out).2.2.2.2.2.2.2.2.1
     have f9:=fun o=>(ten (Z2 o).out).2.2.2.2.2.2.2.2.2
     go_wp2
     go_loopw [5] (fun iv wr=>∃ m:Nat,iv=.int .i64 m∧m ≤ us.length∧Hid (Below w.heap.size w wr)∧w.heap.size < wr.heap.size∧Hid (wr.cell? ⟨w.heap.size,5,none⟩=some (.slice p us.length cap))) (fun iv _=>us.length - (intOf iv).toNat)
     case atStart=>exact ⟨0,rfl,Nat.zero_le _,Lib.hid (HB1.out.alloc HB1.out.size _),by simp;omega,Lib.hid (f5 _)⟩
     case round =>
       obtain ⟨m,rfl,hm,HB,hsz,Z0⟩:=hrel
       clear f0 f1 f2 f3 f4 f5 f6 f7 f8 f9
       have wm:IntKind.i64.wrap ((m:Int)+1)=(m:Int)+1:=IntWalk.i64_in _ (by omega)
       by_cases hlt:m < us.length
       · obtain ⟨x,hx⟩:∃ x,us[m]? = some x:=⟨_,List.getElem?_eq_getElem hlt⟩
         obtain ⟨b1,o1,s1,rfl,-,t1,sub1⟩:=HS.out.get hx
         obtain ⟨d0,d1,d2,d3,d4,d5,d6,d7,d8,d9⟩:=t1.keep (HB.out.block _ t1.lt)
         have hmem:=List.mem_of_getElem? hx
         have HC:=Lib.hid (IH.out x hmem (HF.out.sub hmem) wr B (.agg (x.cells s1)) ⟨_,rfl,sub1.later HB.out⟩)
         have z5:=Z0.out
         clear t1 sub1 hmem hx
         unfold Tr.cells at HC
         go_wp2_with fail
         refine HC.out.mono ?_
         rintro e w2 ⟨rfl,hb2⟩
         have HB2:=Lib.hid (HB.out.trans (hb2.mono HB.out.size));have Y2:=Lib.hid ((hb2.cell (p:=⟨w.heap.size,5,none⟩) hsz).trans z5)
         have hsz2:w.heap.size < w2.heap.size:=Nat.lt_of_lt_of_le hsz hb2.size
         clear d0 d1 d2 d3 d4 d5 d6 d7 d8 d9 z5 hb2 HC
         go_wp2
         exact ⟨⟨m+1,by go_num,by omega,HB2,hsz2,Y2⟩,by simp [intOf];omega⟩
       · obtain rfl:m=us.length:=by omega
         go_wp2
         go_ret
         exact ⟨rfl,HB.out⟩
   · subst h
     have g1:((us.length:Int) != 0)=false:=by rw [hl];rfl
     clear hl
     go_enter Tryz.func82,Tryz.ntmps82
     go_wp2_with fail
     refine (HU.out _).mono ?_
     rintro e w1 ⟨rfl,hb1⟩
     have Z1:=Lib.hid (keep_blk hb1 (heap_alloc_new w _))
     have HB1:=Lib.hid (((Below.refl _ _).alloc (Nat.le_refl _) _).trans (hb1.mono (by simp)))
     have hs1:w.heap.size < w1.heap.size:=by have:=hb1.size;simp at this;omega
     clear hb1
     have Z2:=fun o=>Lib.hid (heap_alloc_lt (o:=o) Z1.out)
     have f0:=fun o=>(ten (Z2 o).out).1
     have f1:=fun o=>(ten (Z2 o).out).2.1
     have f2:=fun o=>(ten (Z2 o).out).2.2.1
     have f3:=fun o=>(ten (Z2 o).out).2.2.2.1
     have f4:=fun o=>(ten (Z2 o).out).2.2.2.2.1
     have f5:=fun o=>(ten (Z2 o).out).2.2.2.2.2.1
     have f6:=fun o=>(ten (Z2 o).out).2.2.2.2.2.2.1
     have f7:=fun o=>(ten (Z2 o).out).2.2.2.2.2.2.2.1
     have f8:=fun o=>(ten (Z2 o).out).2.2.2.2.2.2.2.2.1
     have f9:=fun o=>(ten (Z2 o).out).2.2.2.2.2.2.2.2.2
     go_wp2
     go_loopw [5] (fun iv wr=>∃ m:Nat,iv=.int .i64 m∧m ≤ us.length∧Hid (Below w.heap.size w wr)∧w.heap.size < wr.heap.size∧Hid (wr.cell? ⟨w.heap.size,5,none⟩=some (.slice p us.length cap))) (fun iv _=>us.length - (intOf iv).toNat)
     case atStart=>exact ⟨0,rfl,Nat.zero_le _,Lib.hid (HB1.out.alloc HB1.out.size _),by simp;omega,Lib.hid (f5 _)⟩
     case round =>
       obtain ⟨m,rfl,hm,HB,hsz,Z0⟩:=hrel
       clear f0 f1 f2 f3 f4 f5 f6 f7 f8 f9
       have wm:IntKind.i64.wrap ((m:Int)+1)=(m:Int)+1:=IntWalk.i64_in _ (by omega)
       by_cases hlt:m < us.length
       · obtain ⟨x,hx⟩:∃ x,us[m]? = some x:=⟨_,List.getElem?_eq_getElem hlt⟩
         obtain ⟨b1,o1,s1,rfl,-,t1,sub1⟩:=HS.out.get hx
         obtain ⟨d0,d1,d2,d3,d4,d5,d6,d7,d8,d9⟩:=t1.keep (HB.out.block _ t1.lt)
         have hmem:=List.mem_of_getElem? hx
         have HC:=Lib.hid (IH.out x hmem (HF.out.sub hmem) wr B (.agg (x.cells s1)) ⟨_,rfl,sub1.later HB.out⟩)
         have z5:=Z0.out
         clear t1 sub1 hmem hx
         unfold Tr.cells at HC
         go_wp2_with fail
         refine HC.out.mono ?_
         rintro e w2 ⟨rfl,hb2⟩
         have HB2:=Lib.hid (HB.out.trans (hb2.mono HB.out.size));have Y2:=Lib.hid ((hb2.cell (p:=⟨w.heap.size,5,none⟩) hsz).trans z5)
         have hsz2:w.heap.size < w2.heap.size:=Nat.lt_of_lt_of_le hsz hb2.size
         clear d0 d1 d2 d3 d4 d5 d6 d7 d8 d9 z5 hb2 HC
         go_wp2
         exact ⟨⟨m+1,by go_num,by omega,HB2,hsz2,Y2⟩,by simp [intOf];omega⟩
       · obtain rfl:m=us.length:=by omega
         go_wp2
         go_ret
         exact ⟨rfl,HB.out⟩
   · subst h
     have g1:((us.length:Int) != 0)=false:=by rw [hl];rfl
     clear hl
     go_enter Tryz.func82,Tryz.ntmps82
     go_wp2_with fail
     refine (HU.out _).mono ?_
     rintro e w1 ⟨rfl,hb1⟩
     have Z1:=Lib.hid (keep_blk hb1 (heap_alloc_new w _))
     have HB1:=Lib.hid (((Below.refl _ _).alloc (Nat.le_refl _) _).trans (hb1.mono (by simp)))
     have hs1:w.heap.size < w1.heap.size:=by have:=hb1.size;simp at this;omega
     clear hb1
     have Z2:=fun o=>Lib.hid (heap_alloc_lt (o:=o) Z1.out)
     have f0:=fun o=>(ten (Z2 o).out).1
     have f1:=fun o=>(ten (Z2 o).out).2.1
     have f2:=fun o=>(ten (Z2 o).out).2.2.1
     have f3:=fun o=>(ten (Z2 o).out).2.2.2.1
     have f4:=fun o=>(ten (Z2 o).out).2.2.2.2.1
     have f5:=fun o=>(ten (Z2 o).out).2.2.2.2.2.1
     have f6:=fun o=>(ten (Z2 o).out).2.2.2.2.2.2.1
     have f7:=fun o=>(ten (Z2 o).out).2.2.2.2.2.2.2.1
     have f8:=fun o=>(ten (Z2 o).out).2.2.2.2.2.2.2.2.1
     have f9:=fun o=>(ten (Z2 o).out).2.2.2.2.2.2.2.2.2
     go_wp2
     go_loopw [5] (fun iv wr=>∃ m:Nat,iv=.int .i64 m∧m ≤ us.length∧Hid (Below w.heap.size w wr)∧w.heap.size < wr.heap.size∧Hid (wr.cell? ⟨w.heap.size,5,none⟩=some (.slice p us.length cap))) (fun iv _=>us.length - (intOf iv).toNat)
     case atStart=>exact ⟨0,rfl,Nat.zero_le _,Lib.hid (HB1.out.alloc HB1.out.size _),by simp;omega,Lib.hid (f5 _)⟩
     case round =>
       obtain ⟨m,rfl,hm,HB,hsz,Z0⟩:=hrel
       clear f0 f1 f2 f3 f4 f5 f6 f7 f8 f9
       have wm:IntKind.i64.wrap ((m:Int)+1)=(m:Int)+1:=IntWalk.i64_in _ (by omega)
       by_cases hlt:m < us.length
       · obtain ⟨x,hx⟩:∃ x,us[m]? = some x:=⟨_,List.getElem?_eq_getElem hlt⟩
         obtain ⟨b1,o1,s1,rfl,-,t1,sub1⟩:=HS.out.get hx
         obtain ⟨d0,d1,d2,d3,d4,d5,d6,d7,d8,d9⟩:=t1.keep (HB.out.block _ t1.lt)
         have hmem:=List.mem_of_getElem? hx
         have HC:=Lib.hid (IH.out x hmem (HF.out.sub hmem) wr B (.agg (x.cells s1)) ⟨_,rfl,sub1.later HB.out⟩)
         have z5:=Z0.out
         clear t1 sub1 hmem hx
         unfold Tr.cells at HC
         go_wp2_with fail
         refine HC.out.mono ?_
         rintro e w2 ⟨rfl,hb2⟩
         have HB2:=Lib.hid (HB.out.trans (hb2.mono HB.out.size));have Y2:=Lib.hid ((hb2.cell (p:=⟨w.heap.size,5,none⟩) hsz).trans z5)
         have hsz2:w.heap.size < w2.heap.size:=Nat.lt_of_lt_of_le hsz hb2.size
         clear d0 d1 d2 d3 d4 d5 d6 d7 d8 d9 z5 hb2 HC
         go_wp2
         exact ⟨⟨m+1,by go_num,by omega,HB2,hsz2,Y2⟩,by simp [intOf];omega⟩
       · obtain rfl:m=us.length:=by omega
         go_wp2
         go_ret
         exact ⟨rfl,HB.out⟩
   · subst h
     have g1:((us.length:Int) != 0)=false:=by rw [hl];rfl
     clear hl
     go_enter Tryz.func82,Tryz.ntmps82
     go_wp2_with fail
     refine (HU.out _).mono ?_
     rintro e w1 ⟨rfl,hb1⟩
     have Z1:=Lib.hid (keep_blk hb1 (heap_alloc_new w _))
     have HB1:=Lib.hid (((Below.refl _ _).alloc (Nat.le_refl _) _).trans (hb1.mono (by simp)))
     have hs1:w.heap.size < w1.heap.size:=by have:=hb1.size;simp at this;omega
     clear hb1
     have Z2:=fun o=>Lib.hid (heap_alloc_lt (o:=o) Z1.out)
     have f0:=fun o=>(ten (Z2 o).out).1
     have f1:=fun o=>(ten (Z2 o).out).2.1
     have f2:=fun o=>(ten (Z2 o).out).2.2.1
     have f3:=fun o=>(ten (Z2 o).out).2.2.2.1
     have f4:=fun o=>(ten (Z2 o).out).2.2.2.2.1
     have f5:=fun o=>(ten (Z2 o).out).2.2.2.2.2.1
     have f6:=fun o=>(ten (Z2 o).out).2.2.2.2.2.2.1
     have f7:=fun o=>(ten (Z2 o).out).2.2.2.2.2.2.2.1
     have f8:=fun o=>(ten (Z2 o).out).2.2.2.2.2.2.2.2.1
     have f9:=fun o=>(ten (Z2 o).out).2.2.2.2.2.2.2.2.2
     go_wp2
     go_loopw [5] (fun iv wr=>∃ m:Nat,iv=.int .i64 m∧m ≤ us.length∧Hid (Below w.heap.size w wr)∧w.heap.size < wr.heap.size∧Hid (wr.cell? ⟨w.heap.size,5,none⟩=some (.slice p us.length cap))) (fun iv _=>us.length - (intOf iv).toNat)
     case atStart=>exact ⟨0,rfl,Nat.zero_le _,Lib.hid (HB1.out.alloc HB1.out.size _),by simp;omega,Lib.hid (f5 _)⟩
     case round =>
       obtain ⟨m,rfl,hm,HB,hsz,Z0⟩:=hrel
       clear f0 f1 f2 f3 f4 f5 f6 f7 f8 f9
       have wm:IntKind.i64.wrap ((m:Int)+1)=(m:Int)+1:=IntWalk.i64_in _ (by omega)
       by_cases hlt:m < us.length
       · obtain ⟨x,hx⟩:∃ x,us[m]? = some x:=⟨_,List.getElem?_eq_getElem hlt⟩
         obtain ⟨b1,o1,s1,rfl,-,t1,sub1⟩:=HS.out.get hx
         obtain ⟨d0,d1,d2,d3,d4,d5,d6,d7,d8,d9⟩:=t1.keep (HB.out.block _ t1.lt)
         have hmem:=List.mem_of_getElem? hx
         have HC:=Lib.hid (IH.out x hmem (HF.out.sub hmem) wr B (.agg (x.cells s1)) ⟨_,rfl,sub1.later HB.out⟩)
         have z5:=Z0.out
         clear t1 sub1 hmem hx
         unfold Tr.cells at HC
         go_wp2_with fail
         refine HC.out.mono ?_
         rintro e w2 ⟨rfl,hb2⟩
         have HB2:=Lib.hid (HB.out.trans (hb2.mono HB.out.size));have Y2:=Lib.hid ((hb2.cell (p:=⟨w.heap.size,5,none⟩) hsz).trans z5)
         have hsz2:w.heap.size < w2.heap.size:=Nat.lt_of_lt_of_le hsz hb2.size
         clear d0 d1 d2 d3 d4 d5 d6 d7 d8 d9 z5 hb2 HC
         go_wp2
         exact ⟨⟨m+1,by go_num,by omega,HB2,hsz2,Y2⟩,by simp [intOf];omega⟩
       · obtain rfl:m=us.length:=by omega
         go_wp2
         go_ret
         exact ⟨rfl,HB.out⟩
   · subst h
     have g1:decide ((us.length:Int) < 2)=false:=by simp;omega
     have g2:decide (us.length < 2)=false:=by simp;omega
     clear hl
     go_enter Tryz.func82,Tryz.ntmps82
     go_wp2_with fail
     refine (HU.out _).mono ?_
     rintro e w1 ⟨rfl,hb1⟩
     have Z1:=Lib.hid (keep_blk hb1 (heap_alloc_new w _))
     have HB1:=Lib.hid (((Below.refl _ _).alloc (Nat.le_refl _) _).trans (hb1.mono (by simp)))
     have hs1:w.heap.size < w1.heap.size:=by have:=hb1.size;simp at this;omega
     clear hb1
     have Z2:=fun o=>Lib.hid (heap_alloc_lt (o:=o) Z1.out)
     have f0:=fun o=>(ten (Z2 o).out).1
     have f1:=fun o=>(ten (Z2 o).out).2.1
     have f2:=fun o=>(ten (Z2 o).out).2.2.1
     have f3:=fun o=>(ten (Z2 o).out).2.2.2.1
     have f4:=fun o=>(ten (Z2 o).out).2.2.2.2.1
     have f5:=fun o=>(ten (Z2 o).out).2.2.2.2.2.1
     have f6:=fun o=>(ten (Z2 o).out).2.2.2.2.2.2.1
     have f7:=fun o=>(ten (Z2 o).out).2.2.2.2.2.2.2.1
     have f8:=fun o=>(ten (Z2 o).out).2.2.2.2.2.2.2.2.1
     have f9:=fun o=>(ten (Z2 o).out).2.2.2.2.2.2.2.2.2
     go_wp2
     go_loopw [5] (fun iv wr=>∃ m:Nat,iv=.int .i64 m∧m ≤ us.length∧Hid (Below w.heap.size w wr)∧w.heap.size < wr.heap.size∧Hid (wr.cell? ⟨w.heap.size,5,none⟩=some (.slice p us.length cap))) (fun iv _=>us.length - (intOf iv).toNat)
     case atStart=>exact ⟨0,rfl,Nat.zero_le _,Lib.hid (HB1.out.alloc HB1.out.size _),by simp;omega,Lib.hid (f5 _)⟩
     case round =>
       obtain ⟨m,rfl,hm,HB,hsz,Z0⟩:=hrel
       clear f0 f1 f2 f3 f4 f5 f6 f7 f8 f9
       have wm:IntKind.i64.wrap ((m:Int)+1)=(m:Int)+1:=IntWalk.i64_in _ (by omega)
       by_cases hlt:m < us.length
       · obtain ⟨x,hx⟩:∃ x,us[m]? = some x:=⟨_,List.getElem?_eq_getElem hlt⟩
         obtain ⟨b1,o1,s1,rfl,-,t1,sub1⟩:=HS.out.get hx
         obtain ⟨d0,d1,d2,d3,d4,d5,d6,d7,d8,d9⟩:=t1.keep (HB.out.block _ t1.lt)
         have hmem:=List.mem_of_getElem? hx
         have HC:=Lib.hid (IH.out x hmem (HF.out.sub hmem) wr B (.agg (x.cells s1)) ⟨_,rfl,sub1.later HB.out⟩)
         have z5:=Z0.out
         clear t1 sub1 hmem hx
         unfold Tr.cells at HC
         go_wp2_with fail
         refine HC.out.mono ?_
         rintro e w2 ⟨rfl,hb2⟩
         have HB2:=Lib.hid (HB.out.trans (hb2.mono HB.out.size));have Y2:=Lib.hid ((hb2.cell (p:=⟨w.heap.size,5,none⟩) hsz).trans z5)
         have hsz2:w.heap.size < w2.heap.size:=Nat.lt_of_lt_of_le hsz hb2.size
         clear d0 d1 d2 d3 d4 d5 d6 d7 d8 d9 z5 hb2 HC
         go_wp2
         exact ⟨⟨m+1,by go_num,by omega,HB2,hsz2,Y2⟩,by simp [intOf];omega⟩
       · obtain rfl:m=us.length:=by omega
         go_wp2
         go_ret
         exact ⟨rfl,HB.out⟩
   · subst h
     have g1:decide ((us.length:Int) < 2)=false:=by simp;omega
     have g2:decide (us.length < 2)=false:=by simp;omega
     clear hl
     go_enter Tryz.func82,Tryz.ntmps82
     go_wp2_with fail
     refine (HU.out _).mono ?_
     rintro e w1 ⟨rfl,hb1⟩
     have Z1:=Lib.hid (keep_blk hb1 (heap_alloc_new w _))
     have HB1:=Lib.hid (((Below.refl _ _).alloc (Nat.le_refl _) _).trans (hb1.mono (by simp)))
     have hs1:w.heap.size < w1.heap.size:=by have:=hb1.size;simp at this;omega
     clear hb1
     have Z2:=fun o=>Lib.hid (heap_alloc_lt (o:=o) Z1.out)
     have f0:=fun o=>(ten (Z2 o).out).1
     have f1:=fun o=>(ten (Z2 o).out).2.1
     have f2:=fun o=>(ten (Z2 o).out).2.2.1
     have f3:=fun o=>(ten (Z2 o).out).2.2.2.1
     have f4:=fun o=>(ten (Z2 o).out).2.2.2.2.1
     have f5:=fun o=>(ten (Z2 o).out).2.2.2.2.2.1
     have f6:=fun o=>(ten (Z2 o).out).2.2.2.2.2.2.1
     have f7:=fun o=>(ten (Z2 o).out).2.2.2.2.2.2.2.1
     have f8:=fun o=>(ten (Z2 o).out).2.2.2.2.2.2.2.2.1
     have f9:=fun o=>(ten (Z2 o).out).2.2.2.2.2.2.2.2.2
     go_wp2
     go_loopw [5] (fun iv wr=>∃ m:Nat,iv=.int .i64 m∧m ≤ us.length∧Hid (Below w.heap.size w wr)∧w.heap.size < wr.heap.size∧Hid (wr.cell? ⟨w.heap.size,5,none⟩=some (.slice p us.length cap))) (fun iv _=>us.length - (intOf iv).toNat)
     case atStart=>exact ⟨0,rfl,Nat.zero_le _,Lib.hid (HB1.out.alloc HB1.out.size _),by simp;omega,Lib.hid (f5 _)⟩
     case round =>
       obtain ⟨m,rfl,hm,HB,hsz,Z0⟩:=hrel
       clear f0 f1 f2 f3 f4 f5 f6 f7 f8 f9
       have wm:IntKind.i64.wrap ((m:Int)+1)=(m:Int)+1:=IntWalk.i64_in _ (by omega)
       by_cases hlt:m < us.length
       · obtain ⟨x,hx⟩:∃ x,us[m]? = some x:=⟨_,List.getElem?_eq_getElem hlt⟩
         obtain ⟨b1,o1,s1,rfl,-,t1,sub1⟩:=HS.out.get hx
         obtain ⟨d0,d1,d2,d3,d4,d5,d6,d7,d8,d9⟩:=t1.keep (HB.out.block _ t1.lt)
         have hmem:=List.mem_of_getElem? hx
         have HC:=Lib.hid (IH.out x hmem (HF.out.sub hmem) wr B (.agg (x.cells s1)) ⟨_,rfl,sub1.later HB.out⟩)
         have z5:=Z0.out
         clear t1 sub1 hmem hx
         unfold Tr.cells at HC
         go_wp2_with fail
         refine HC.out.mono ?_
         rintro e w2 ⟨rfl,hb2⟩
         have HB2:=Lib.hid (HB.out.trans (hb2.mono HB.out.size));have Y2:=Lib.hid ((hb2.cell (p:=⟨w.heap.size,5,none⟩) hsz).trans z5)
         have hsz2:w.heap.size < w2.heap.size:=Nat.lt_of_lt_of_le hsz hb2.size
         clear d0 d1 d2 d3 d4 d5 d6 d7 d8 d9 z5 hb2 HC
         go_wp2
         exact ⟨⟨m+1,by go_num,by omega,HB2,hsz2,Y2⟩,by simp [intOf];omega⟩
       · obtain rfl:m=us.length:=by omega
         go_wp2
         go_ret
         exact ⟨rfl,HB.out⟩
   · subst h
     have g1:((us.length:Int) != 1)=false:=by rw [hl];rfl
     have g2:decide (n < 1)=false:=by simp;omega
     have g3:decide (999 < n)=false:=by simp;omega
     clear hl
     go_enter Tryz.func82,Tryz.ntmps82
     go_wp2_with fail
     refine (HU.out _).mono ?_
     rintro e w1 ⟨rfl,hb1⟩
     have Z1:=Lib.hid (keep_blk hb1 (heap_alloc_new w _))
     have HB1:=Lib.hid (((Below.refl _ _).alloc (Nat.le_refl _) _).trans (hb1.mono (by simp)))
     have hs1:w.heap.size < w1.heap.size:=by have:=hb1.size;simp at this;omega
     clear hb1
     have Z2:=fun o=>Lib.hid (heap_alloc_lt (o:=o) Z1.out)
     have f0:=fun o=>(ten (Z2 o).out).1
     have f1:=fun o=>(ten (Z2 o).out).2.1
     have f2:=fun o=>(ten (Z2 o).out).2.2.1
     have f3:=fun o=>(ten (Z2 o).out).2.2.2.1
     have f4:=fun o=>(ten (Z2 o).out).2.2.2.2.1
     have f5:=fun o=>(ten (Z2 o).out).2.2.2.2.2.1
     have f6:=fun o=>(ten (Z2 o).out).2.2.2.2.2.2.1
     have f7:=fun o=>(ten (Z2 o).out).2.2.2.2.2.2.2.1
     have f8:=fun o=>(ten (Z2 o).out).2.2.2.2.2.2.2.2.1
     have f9:=fun o=>(ten (Z2 o).out).2.2.2.2.2.2.2.2.2
     go_wp2
     go_loopw [5] (fun iv wr=>∃ m:Nat,iv=.int .i64 m∧m ≤ us.length∧Hid (Below w.heap.size w wr)∧w.heap.size < wr.heap.size∧Hid (wr.cell? ⟨w.heap.size,5,none⟩=some (.slice p us.length cap))) (fun iv _=>us.length - (intOf iv).toNat)
     case atStart=>exact ⟨0,rfl,Nat.zero_le _,Lib.hid (HB1.out.alloc HB1.out.size _),by simp;omega,Lib.hid (f5 _)⟩
     case round =>
       obtain ⟨m,rfl,hm,HB,hsz,Z0⟩:=hrel
       clear f0 f1 f2 f3 f4 f5 f6 f7 f8 f9
       have wm:IntKind.i64.wrap ((m:Int)+1)=(m:Int)+1:=IntWalk.i64_in _ (by omega)
       by_cases hlt:m < us.length
       · obtain ⟨x,hx⟩:∃ x,us[m]? = some x:=⟨_,List.getElem?_eq_getElem hlt⟩
         obtain ⟨b1,o1,s1,rfl,-,t1,sub1⟩:=HS.out.get hx
         obtain ⟨d0,d1,d2,d3,d4,d5,d6,d7,d8,d9⟩:=t1.keep (HB.out.block _ t1.lt)
         have hmem:=List.mem_of_getElem? hx
         have HC:=Lib.hid (IH.out x hmem (HF.out.sub hmem) wr B (.agg (x.cells s1)) ⟨_,rfl,sub1.later HB.out⟩)
         have z5:=Z0.out
         clear t1 sub1 hmem hx
         unfold Tr.cells at HC
         go_wp2_with fail
         refine HC.out.mono ?_
         rintro e w2 ⟨rfl,hb2⟩
         have HB2:=Lib.hid (HB.out.trans (hb2.mono HB.out.size));have Y2:=Lib.hid ((hb2.cell (p:=⟨w.heap.size,5,none⟩) hsz).trans z5)
         have hsz2:w.heap.size < w2.heap.size:=Nat.lt_of_lt_of_le hsz hb2.size
         clear d0 d1 d2 d3 d4 d5 d6 d7 d8 d9 z5 hb2 HC
         go_wp2
         exact ⟨⟨m+1,by go_num,by omega,HB2,hsz2,Y2⟩,by simp [intOf];omega⟩
       · obtain rfl:m=us.length:=by omega
         go_wp2
         go_ret
         exact ⟨rfl,HB.out⟩
   · have hspl:((-1:Int)=hi ∨ (decide ((0:Int) ≤ hi)=true∧decide (hi < lo)=false)):=by
       rcases h3 with h3 | h3
       · exact .inl h3.symm
       · exact .inr ⟨by simp;omega,by simp;omega⟩
     have hbr:br=false ∨ (br=true∧lo=0):=by cases br with | false=>exact .inl rfl | true=>exact .inr ⟨rfl,h4 rfl⟩
     have hhi:hi ≤ 255:=by rcases h3 with h3 | h3 <;> omega
     clear h3 h4
     rcases hspl with rfl | ⟨k1,k2⟩ <;> rcases hbr with rfl | ⟨rfl,rfl⟩
     · subst h
       have g1:((us.length:Int) != 1)=false:=by rw [hl];rfl
       have g2:decide (lo < 0)=false:=by simp;omega
       have g3:decide (255 < lo)=false:=by simp;omega
       clear hl
       go_enter Tryz.func82,Tryz.ntmps82
       go_wp2_with fail
       refine (HU.out _).mono ?_
       rintro e w1 ⟨rfl,hb1⟩
       have Z1:=Lib.hid (keep_blk hb1 (heap_alloc_new w _))
       have HB1:=Lib.hid (((Below.refl _ _).alloc (Nat.le_refl _) _).trans (hb1.mono (by simp)))
       have hs1:w.heap.size < w1.heap.size:=by have:=hb1.size;simp at this;omega
       clear hb1
       have Z2:=fun o=>Lib.hid (heap_alloc_lt (o:=o) Z1.out)
       have f0:=fun o=>(ten (Z2 o).out).1
       have f1:=fun o=>(ten (Z2 o).out).2.1
       have f2:=fun o=>(ten (Z2 o).out).2.2.1
       have f3:=fun o=>(ten (Z2 o).out).2.2.2.1
       have f4:=fun o=>(ten (Z2 o).out).2.2.2.2.1
       have f5:=fun o=>(ten (Z2 o).out).2.2.2.2.2.1
       have f6:=fun o=>(ten (Z2 o).out).2.2.2.2.2.2.1
       have f7:=fun o=>(ten (Z2 o).out).2.2.2.2.2.2.2.1
       have f8:=fun o=>(ten (Z2 o).out).2.2.2.2.2.2.2.2.1
       have f9:=fun o=>(ten (Z2 o).out).2.2.2.2.2.2.2.2.2
       go_wp2
       go_loopw [5] (fun iv wr=>∃ m:Nat,iv=.int .i64 m∧m ≤ us.length∧Hid (Below w.heap.size w wr)∧w.heap.size < wr.heap.size∧Hid (wr.cell? ⟨w.heap.size,5,none⟩=some (.slice p us.length cap))) (fun iv _=>us.length - (intOf iv).toNat)
       case atStart=>exact ⟨0,rfl,Nat.zero_le _,Lib.hid (HB1.out.alloc HB1.out.size _),by simp;omega,Lib.hid (f5 _)⟩
       case round =>
         obtain ⟨m,rfl,hm,HB,hsz,Z0⟩:=hrel
         clear f0 f1 f2 f3 f4 f5 f6 f7 f8 f9
         have wm:IntKind.i64.wrap ((m:Int)+1)=(m:Int)+1:=IntWalk.i64_in _ (by omega)
         by_cases hlt:m < us.length
         · obtain ⟨x,hx⟩:∃ x,us[m]? = some x:=⟨_,List.getElem?_eq_getElem hlt⟩
           obtain ⟨b1,o1,s1,rfl,-,t1,sub1⟩:=HS.out.get hx
           obtain ⟨d0,d1,d2,d3,d4,d5,d6,d7,d8,d9⟩:=t1.keep (HB.out.block _ t1.lt)
           have hmem:=List.mem_of_getElem? hx
           have HC:=Lib.hid (IH.out x hmem (HF.out.sub hmem) wr B (.agg (x.cells s1)) ⟨_,rfl,sub1.later HB.out⟩)
           have z5:=Z0.out
           clear t1 sub1 hmem hx
           unfold Tr.cells at HC
           go_wp2_with fail
           refine HC.out.mono ?_
           rintro e w2 ⟨rfl,hb2⟩
           have HB2:=Lib.hid (HB.out.trans (hb2.mono HB.out.size));have Y2:=Lib.hid ((hb2.cell (p:=⟨w.heap.size,5,none⟩) hsz).trans z5)
           have hsz2:w.heap.size < w2.heap.size:=Nat.lt_of_lt_of_le hsz hb2.size
           clear d0 d1 d2 d3 d4 d5 d6 d7 d8 d9 z5 hb2 HC
           go_wp2
           exact ⟨⟨m+1,by go_num,by omega,HB2,hsz2,Y2⟩,by simp [intOf];omega⟩
         · obtain rfl:m=us.length:=by omega
           go_wp2
           go_ret
           exact ⟨rfl,HB.out⟩
     · subst h
       have g1:((us.length:Int) != 1)=false:=by rw [hl];rfl
       clear hl
       go_enter Tryz.func82,Tryz.ntmps82
       go_wp2_with fail
       refine (HU.out _).mono ?_
       rintro e w1 ⟨rfl,hb1⟩
       have Z1:=Lib.hid (keep_blk hb1 (heap_alloc_new w _))
       have HB1:=Lib.hid (((Below.refl _ _).alloc (Nat.le_refl _) _).trans (hb1.mono (by simp)))
       have hs1:w.heap.size < w1.heap.size:=by have:=hb1.size;simp at this;omega
       clear hb1
       have Z2:=fun o=>Lib.hid (heap_alloc_lt (o:=o) Z1.out)
       have f0:=fun o=>(ten (Z2 o).out).1
       have f1:=fun o=>(ten (Z2 o).out).2.1
       have f2:=fun o=>(ten (Z2 o).out).2.2.1
       have f3:=fun o=>(ten (Z2 o).out).2.2.2.1
       have f4:=fun o=>(ten (Z2 o).out).2.2.2.2.1
       have f5:=fun o=>(ten (Z2 o).out).2.2.2.2.2.1
       have f6:=fun o=>(ten (Z2 o).out).2.2.2.2.2.2.1
       have f7:=fun o=>(ten (Z2 o).out).2.2.2.2.2.2.2.1
       have f8:=fun o=>(ten (Z2 o).out).2.2.2.2.2.2.2.2.1
       have f9:=fun o=>(ten (Z2 o).out).2.2.2.2.2.2.2.2.2
       go_wp2
       go_loopw [5] (fun iv wr=>∃ m:Nat,iv=.int .i64 m∧m ≤ us.length∧Hid (Below w.heap.size w wr)∧w.heap.size < wr.heap.size∧Hid (wr.cell? ⟨w.heap.size,5,none⟩=some (.slice p us.length cap))) (fun iv _=>us.length - (intOf iv).toNat)
       case atStart=>exact ⟨0,rfl,Nat.zero_le _,Lib.hid (HB1.out.alloc HB1.out.size _),by simp;omega,Lib.hid (f5 _)⟩
       case round =>
         obtain ⟨m,rfl,hm,HB,hsz,Z0⟩:=hrel
         clear f0 f1 f2 f3 f4 f5 f6 f7 f8 f9
         have wm:IntKind.i64.wrap ((m:Int)+1)=(m:Int)+1:=IntWalk.i64_in _ (by omega)
         by_cases hlt:m < us.length
         · obtain ⟨x,hx⟩:∃ x,us[m]? = some x:=⟨_,List.getElem?_eq_getElem hlt⟩
           obtain ⟨b1,o1,s1,rfl,-,t1,sub1⟩:=HS.out.get hx
           obtain ⟨d0,d1,d2,d3,d4,d5,d6,d7,d8,d9⟩:=t1.keep (HB.out.block _ t1.lt)
           have hmem:=List.mem_of_getElem? hx
           have HC:=Lib.hid (IH.out x hmem (HF.out.sub hmem) wr B (.agg (x.cells s1)) ⟨_,rfl,sub1.later HB.out⟩)
           have z5:=Z0.out
           clear t1 sub1 hmem hx
           unfold Tr.cells at HC
           go_wp2_with fail
           refine HC.out.mono ?_
           rintro e w2 ⟨rfl,hb2⟩
           have HB2:=Lib.hid (HB.out.trans (hb2.mono HB.out.size));have Y2:=Lib.hid ((hb2.cell (p:=⟨w.heap.size,5,none⟩) hsz).trans z5)
           have hsz2:w.heap.size < w2.heap.size:=Nat.lt_of_lt_of_le hsz hb2.size
           clear d0 d1 d2 d3 d4 d5 d6 d7 d8 d9 z5 hb2 HC
           go_wp2
           exact ⟨⟨m+1,by go_num,by omega,HB2,hsz2,Y2⟩,by simp [intOf];omega⟩
         · obtain rfl:m=us.length:=by omega
           go_wp2
           go_ret
           exact ⟨rfl,HB.out⟩
     · subst h
       have g1:((us.length:Int) != 1)=false:=by rw [hl];rfl
       have g2:decide (lo < 0)=false:=by simp;omega
       have g3:decide (255 < lo)=false:=by simp;omega
       have g4:decide (hi < -1)=false:=by simp only [decide_eq_true_eq] at k1;simp;omega
       have g5:decide (255 < hi)=false:=by simp;omega
       clear hl
       go_enter Tryz.func82,Tryz.ntmps82
       go_wp2_with fail
       refine (HU.out _).mono ?_
       rintro e w1 ⟨rfl,hb1⟩
       have Z1:=Lib.hid (keep_blk hb1 (heap_alloc_new w _))
       have HB1:=Lib.hid (((Below.refl _ _).alloc (Nat.le_refl _) _).trans (hb1.mono (by simp)))
       have hs1:w.heap.size < w1.heap.size:=by have:=hb1.size;simp at this;omega
       clear hb1
       have Z2:=fun o=>Lib.hid (heap_alloc_lt (o:=o) Z1.out)
       have f0:=fun o=>(ten (Z2 o).out).1
       have f1:=fun o=>(ten (Z2 o).out).2.1
       have f2:=fun o=>(ten (Z2 o).out).2.2.1
       have f3:=fun o=>(ten (Z2 o).out).2.2.2.1
       have f4:=fun o=>(ten (Z2 o).out).2.2.2.2.1
       have f5:=fun o=>(ten (Z2 o).out).2.2.2.2.2.1
       have f6:=fun o=>(ten (Z2 o).out).2.2.2.2.2.2.1
       have f7:=fun o=>(ten (Z2 o).out).2.2.2.2.2.2.2.1
       have f8:=fun o=>(ten (Z2 o).out).2.2.2.2.2.2.2.2.1
       have f9:=fun o=>(ten (Z2 o).out).2.2.2.2.2.2.2.2.2
       go_wp2
       go_loopw [5] (fun iv wr=>∃ m:Nat,iv=.int .i64 m∧m ≤ us.length∧Hid (Below w.heap.size w wr)∧w.heap.size < wr.heap.size∧Hid (wr.cell? ⟨w.heap.size,5,none⟩=some (.slice p us.length cap))) (fun iv _=>us.length - (intOf iv).toNat)
       case atStart=>exact ⟨0,rfl,Nat.zero_le _,Lib.hid (HB1.out.alloc HB1.out.size _),by simp;omega,Lib.hid (f5 _)⟩
       case round =>
         obtain ⟨m,rfl,hm,HB,hsz,Z0⟩:=hrel
         clear f0 f1 f2 f3 f4 f5 f6 f7 f8 f9
         have wm:IntKind.i64.wrap ((m:Int)+1)=(m:Int)+1:=IntWalk.i64_in _ (by omega)
         by_cases hlt:m < us.length
         · obtain ⟨x,hx⟩:∃ x,us[m]? = some x:=⟨_,List.getElem?_eq_getElem hlt⟩
           obtain ⟨b1,o1,s1,rfl,-,t1,sub1⟩:=HS.out.get hx
           obtain ⟨d0,d1,d2,d3,d4,d5,d6,d7,d8,d9⟩:=t1.keep (HB.out.block _ t1.lt)
           have hmem:=List.mem_of_getElem? hx
           have HC:=Lib.hid (IH.out x hmem (HF.out.sub hmem) wr B (.agg (x.cells s1)) ⟨_,rfl,sub1.later HB.out⟩)
           have z5:=Z0.out
           clear t1 sub1 hmem hx
           unfold Tr.cells at HC
           go_wp2_with fail
           refine HC.out.mono ?_
           rintro e w2 ⟨rfl,hb2⟩
           have HB2:=Lib.hid (HB.out.trans (hb2.mono HB.out.size));have Y2:=Lib.hid ((hb2.cell (p:=⟨w.heap.size,5,none⟩) hsz).trans z5)
           have hsz2:w.heap.size < w2.heap.size:=Nat.lt_of_lt_of_le hsz hb2.size
           clear d0 d1 d2 d3 d4 d5 d6 d7 d8 d9 z5 hb2 HC
           go_wp2
           exact ⟨⟨m+1,by go_num,by omega,HB2,hsz2,Y2⟩,by simp [intOf];omega⟩
         · obtain rfl:m=us.length:=by omega
           go_wp2
           go_ret
           exact ⟨rfl,HB.out⟩
     · subst h
       have g1:((us.length:Int) != 1)=false:=by rw [hl];rfl
       have g4:decide (hi < -1)=false:=by simp only [decide_eq_true_eq] at k1;simp;omega
       have g5:decide (255 < hi)=false:=by simp;omega
       clear hl
       go_enter Tryz.func82,Tryz.ntmps82
       go_wp2_with fail
       refine (HU.out _).mono ?_
       rintro e w1 ⟨rfl,hb1⟩
       have Z1:=Lib.hid (keep_blk hb1 (heap_alloc_new w _))
       have HB1:=Lib.hid (((Below.refl _ _).alloc (Nat.le_refl _) _).trans (hb1.mono (by simp)))
       have hs1:w.heap.size < w1.heap.size:=by have:=hb1.size;simp at this;omega
       clear hb1
       have Z2:=fun o=>Lib.hid (heap_alloc_lt (o:=o) Z1.out)
       have f0:=fun o=>(ten (Z2 o).out).1
       have f1:=fun o=>(ten (Z2 o).out).2.1
       have f2:=fun o=>(ten (Z2 o).out).2.2.1
       have f3:=fun o=>(ten (Z2 o).out).2.2.2.1
       have f4:=fun o=>(ten (Z2 o).out).2.2.2.2.1
       have f5:=fun o=>(ten (Z2 o).out).2.2.2.2.2.1
       have f6:=fun o=>(ten (Z2 o).out).2.2.2.2.2.2.1
       have f7:=fun o=>(ten (Z2 o).out).2.2.2.2.2.2.2.1
       have f8:=fun o=>(ten (Z2 o).out).2.2.2.2.2.2.2.2.1
       have f9:=fun o=>(ten (Z2 o).out).2.2.2.2.2.2.2.2.2
       go_wp2
       go_loopw [5] (fun iv wr=>∃ m:Nat,iv=.int .i64 m∧m ≤ us.length∧Hid (Below w.heap.size w wr)∧w.heap.size < wr.heap.size∧Hid (wr.cell? ⟨w.heap.size,5,none⟩=some (.slice p us.length cap))) (fun iv _=>us.length - (intOf iv).toNat)
       case atStart=>exact ⟨0,rfl,Nat.zero_le _,Lib.hid (HB1.out.alloc HB1.out.size _),by simp;omega,Lib.hid (f5 _)⟩
       case round =>
         obtain ⟨m,rfl,hm,HB,hsz,Z0⟩:=hrel
         clear f0 f1 f2 f3 f4 f5 f6 f7 f8 f9
         have wm:IntKind.i64.wrap ((m:Int)+1)=(m:Int)+1:=IntWalk.i64_in _ (by omega)
         by_cases hlt:m < us.length
         · obtain ⟨x,hx⟩:∃ x,us[m]? = some x:=⟨_,List.getElem?_eq_getElem hlt⟩
           obtain ⟨b1,o1,s1,rfl,-,t1,sub1⟩:=HS.out.get hx
           obtain ⟨d0,d1,d2,d3,d4,d5,d6,d7,d8,d9⟩:=t1.keep (HB.out.block _ t1.lt)
           have hmem:=List.mem_of_getElem? hx
           have HC:=Lib.hid (IH.out x hmem (HF.out.sub hmem) wr B (.agg (x.cells s1)) ⟨_,rfl,sub1.later HB.out⟩)
           have z5:=Z0.out
           clear t1 sub1 hmem hx
           unfold Tr.cells at HC
           go_wp2_with fail
           refine HC.out.mono ?_
           rintro e w2 ⟨rfl,hb2⟩
           have HB2:=Lib.hid (HB.out.trans (hb2.mono HB.out.size));have Y2:=Lib.hid ((hb2.cell (p:=⟨w.heap.size,5,none⟩) hsz).trans z5)
           have hsz2:w.heap.size < w2.heap.size:=Nat.lt_of_lt_of_le hsz hb2.size
           clear d0 d1 d2 d3 d4 d5 d6 d7 d8 d9 z5 hb2 HC
           go_wp2
           exact ⟨⟨m+1,by go_num,by omega,HB2,hsz2,Y2⟩,by simp [intOf];omega⟩
         · obtain rfl:m=us.length:=by omega
           go_wp2
           go_ret
           exact ⟨rfl,HB.out⟩
theorem refSize_any (t:Tr) (hf:t.InForm) (w:World) (B:Nat→Prop) (v:Value) (hv:NodeV w B v t):Calls Tryz.prog 64 #[v] w (SizeEnd t.szT w):=by
 obtain ⟨s,rfl,hs⟩:=hv
 have h1:=fun w' hb=>refform_yes t hf w' B (.agg (t.cells s)) ⟨s,rfl,TreesAt.later (w':=w') hs hb⟩
 have h2:=fun w' hb=>refsize_any t hf w' B (.agg (t.cells s)) ⟨s,rfl,TreesAt.later (w':=w') hs hb⟩
 have H1:=Lib.hid h1;have H2:=Lib.hid h2
 clear h1 h2 hs hf
 unfold Tr.cells at *
 go_enter Tryz.func64,Tryz.ntmps64
 go_wp2_with fail
 refine (H1.out _ ((Below.refl _ _).alloc (Nat.le_refl _) _)).mono ?_
 rintro e w1 ⟨rfl,hb1⟩
 have Z1:=Lib.hid (keep_blk hb1 (heap_alloc_new w _))
 have HB1:=Lib.hid (((Below.refl _ _).alloc (Nat.le_refl _) _).trans (hb1.mono (by simp)))
 clear hb1
 go_wp2_with (first
   | (refine wpList_load_row rfl 28 (.tmp 1) rfl w.heap.size rfl 28 _ (0,0) _ Z1.out Tryz.underlying28 rfl (by kernel_rfl) ?_)
   | fail)
 refine (H2.out _ HB1.out).mono ?_
 rintro e w2 ⟨rfl,hb2⟩
 have HB2:=Lib.hid (HB1.out.trans (hb2.mono HB1.out.size))
 clear hb2
 go_wp2
 go_ret
 exact ⟨rfl,HB2.out⟩
end Go.Proofs.YtfcilopifjddpaaGreatDoor
namespace Go.Proofs.YtfcilopifjddpaaGreatDoor
open Go.RowKit
abbrev stC (s:ByteArray) (i:Nat) (fl:Int) (g:Nat) (ov:Value) (c:Nat) (q:Int):Array Value:=#[.string s,.int .i64 i,.int .i64 fl,.int .i64 g,ov,.int .i64 c,.int .i64 q]
theorem st7 {w:World} {R:Nat} {s:ByteArray} {i:Nat} {fl:Int} {g:Nat} {ov:Value} {c:Nat} {q:Int} (h:w.heap[R]? = some (.cells (stC s i fl g ov c q) 58)) :
   w.cell? ⟨R,0,none⟩=some (.string s)∧w.cell? ⟨R,1,none⟩=some (.int .i64 i)∧w.cell? ⟨R,2,none⟩=some (.int .i64 fl)∧w.cell? ⟨R,3,none⟩=some (.int .i64 g)∧w.cell? ⟨R,4,none⟩=some ov∧w.cell? ⟨R,5,none⟩=some (.int .i64 c)∧w.cell? ⟨R,6,none⟩=some (.int .i64 q):=by
 simp [World.cell?,h]
theorem stf {w:World} {R:Nat} {s:ByteArray} {i:Nat} {fl:Int} {g:Nat} {ov:Value} {c:Nat} {q:Int} (h:w.heap[R]? = some (.cells (stC s i fl g ov c q) 58)):w.frozen? ⟨R,1,none⟩=false∧w.frozen? ⟨R,3,none⟩=false∧w.frozen? ⟨R,4,none⟩=false∧w.frozen? ⟨R,5,none⟩=false∧w.frozen? ⟨R,6,none⟩=false:=by
 simp [World.frozen?,h]
theorem st_lt {w:World} {R:Nat} {s:ByteArray} {i:Nat} {fl:Int} {g:Nat} {ov:Value} {c:Nat} {q:Int} (h:w.heap[R]? = some (.cells (stC s i fl g ov c q) 58)):R < w.heap.size:=(Array.getElem?_eq_some_iff.1 h).1
theorem st_place {w:World} {R:Nat} {s:ByteArray} {i:Nat} {fl:Int} {g:Nat} {ov:Value} {c:Nat} {q:Int} (h:w.heap[R]? = some (.cells (stC s i fl g ov c q) 58)) (j:Nat) {v:Int} (hv:v=(j:Int)):(w.setCell ⟨R,1,none⟩ (.int .i64 v)).heap[R]? = some (.cells (stC s j fl g ov c q) 58):=by
 subst hv;simp [World.setCell,Array.getElem?_modify,h]
theorem st_groups {w:World} {R:Nat} {s:ByteArray} {i:Nat} {fl:Int} {g:Nat} {ov:Value} {c:Nat} {q:Int} (h:w.heap[R]? = some (.cells (stC s i fl g ov c q) 58)) (j:Nat) {v:Int} (hv:v=(j:Int)):(w.setCell ⟨R,3,none⟩ (.int .i64 v)).heap[R]? = some (.cells (stC s i fl j ov c q) 58):=by
 subst hv;simp [World.setCell,Array.getElem?_modify,h]
theorem st_fault {w:World} {R:Nat} {s:ByteArray} {i:Nat} {fl:Int} {g:Nat} {ov:Value} {c:Nat} {q:Int} (h:w.heap[R]? = some (.cells (stC s i fl g ov c q) 58)) (c':Nat) (q':Int):((w.setCell ⟨R,5,none⟩ (.int .i64 c')).setCell ⟨R,6,none⟩ (.int .i64 q')).heap[R]? = some (.cells (stC s i fl g ov c' q') 58):=by
 simp [World.setCell,Array.getElem?_modify,h]
theorem esis_any (w:World) (R:Nat) (s:ByteArray) (i0:Nat) (fl:Int) (g:Nat) (ov:Value) (c:Nat) (q:Int) (h:w.heap[R]? = some (.cells (stC s i0 fl g ov c q) 58)) (i b:Nat) (hb:b < 256) :
   Calls Tryz.prog 59 #[.pointer (some ⟨R,0,none⟩),.int .i64 (i:Int),.int .u8 (b:Int)] w fun e w'=>e=.returned (.bool (bt s i == b))∧w=w':=by
 obtain ⟨c0,c1,c2,c3,c4,c5,c6⟩:=st7 h
 by_cases hi:i < s.size
 · have hd:decide ((i:Int) < s.size)=true:=by simp;omega
   have hd':decide (i < s.size)=true:=by simp;omega
   have hbk:=bt_at hi
   clear h
   go_enter Tryz.func59,Tryz.ntmps59
   go_wp2
   go_ret
   refine ⟨ret_bool ?_,rfl⟩
   rw [Bool.eq_iff_iff];simp;omega
 · have hd:decide ((i:Int) < s.size)=false:=by simp;omega
   have hd':decide (i < s.size)=false:=by simp;omega
   have hz:(bt s i == b)=false:=by rw [bt_out (by omega)];simp;omega
   rw [hz]
   clear h hz
   go_enter Tryz.func59,Tryz.ntmps59
   go_wp2
   go_ret
   exact ⟨rfl,rfl⟩
theorem esfault_any (w:World) (R:Nat) (s:ByteArray) (i:Nat) (fl:Int) (g:Nat) (ov:Value) (q0:Int) (h:w.heap[R]? = some (.cells (stC s i fl g ov 0 q0) 58)) (c:Nat) (q:Int) :
   Calls Tryz.prog 60 #[.pointer (some ⟨R,0,none⟩),.int .i64 (c:Int),.int .i64 q] w fun e w'=>e=.returned (.tuple #[])∧w'.heap[R]? = some (.cells (stC s i fl g ov c q) 58)∧Touch [R] w w':=by
 have hF:=st_fault h c q
 have hT:Touch [R] w ((w.setCell ⟨R,5,none⟩ (.int .i64 c)).setCell ⟨R,6,none⟩ (.int .i64 q)):=((Touch.refl [R] w).setCell List.mem_cons_self 5 _).setCell List.mem_cons_self 6 _
 obtain ⟨c0,c1,c2,c3,c4,c5,c6⟩:=st7 h
 obtain ⟨f1,f3,f4,f5,f6⟩:=stf h
 have HF:=Lib.hid hF;have HT:=Lib.hid hT
 clear h hF hT
 go_enter Tryz.func60,Tryz.ntmps60
 go_wp2
 go_end0
 exact ⟨rfl,HF.out,HT.out⟩
theorem esflag2 (fl:Int) (w:World):Calls Tryz.prog 135 #[.int .i64 fl,.int .i64 2] w fun e w'=>e=.returned (.bool (icB fl))∧w=w':=by
 have hb:=bit2 fl
 go_enter Tryz.func135,Tryz.ntmps135
 go_wp2
 go_ret
 exact ⟨by first | rw [hb] | rfl,rfl⟩
theorem esflag4 (fl:Int) (w:World):Calls Tryz.prog 135 #[.int .i64 fl,.int .i64 4] w fun e w'=>e=.returned (.bool (nlB fl))∧w=w':=by
 have hb:=bit4 fl
 go_enter Tryz.func135,Tryz.ntmps135
 go_wp2
 go_ret
 exact ⟨by first | rw [hb] | rfl,rfl⟩
end Go.Proofs.YtfcilopifjddpaaGreatDoor
