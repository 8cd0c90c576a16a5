/- Part 3 of what these proofs need. -/
import Derived.ChangeOld
import Derived.Deep.Slices
import Derived.Laws.IdiomArrays
import Derived.Lib.SmallJoins
import Derived.SizedLaws
import Derived.DataReads
import Derived.LaidLaws
import Derived.ChangeSame
import Derived.ChangeMaps5
import Derived.Deep.Strs
import Derived.ChangeArms
import Derived.Test.YtoepdfpnkmccoaaDoorRc2
set_option maxRecDepth 100000
set_option maxHeartbeats 16000000
namespace Go.Proofs.YtoepdfpnkmccoaaDoor
open Go.RowKit
theorem wpList_load_row_gd {P:Program} {ops:Array Oper} {rest:List Oper} {op:Oper} {a:Act} {w:World} {Q:Exit→Act→World→Prop} {j d:Nat} {b:Bool} (hg:op.guard=some (j,b)) (hd:(ops[j]?).bind (·.dst)=some d) (hv:a.tmps.getD d undef=.bool b)
   (ty:TypeId) (x:Operand) (ho:op.op=.load ty x) (g:Nat) (hx:a.eval x=.pointer (some ⟨g,0,none⟩)) (t:TypeId) (cs:Array Value) (fr:Nat × Nat) (ds:TypeDesc) (hgx:w.heap[g]? = some (.cells cs t fr))
   (hu:P.underlying ty=some ds) (hdd:(match ds with | .struct _ | .array _ _=>true | _=>false)=true) (hi:(P.info? ty).map (·.size)=some cs.size)
   (h:wpList P ops Q rest (a.put op.dst (.agg cs)) w):wpList P ops Q (op :: rest) a w :=
 wpList_step fun K hK=>by
   rw [if_pos (by simp [Region.wanted,hg,yielded,hd,Ri.some_of_getD hv])];exact wp_load_row ty x ho g hx t cs fr ds hgx hu hdd hi (hK _ _ h)
def PFr (g0:World) (n m v:Array Value) (w:World):Prop :=
 Below g0.heap.size g0 w∧w.heap[g0.heap.size]? = some (.cells n 29)∧w.heap[g0.heap.size+1]? = some (.cells m 29)∧w.heap[g0.heap.size+2]? = some (.cells v 41)
theorem PFr.next {g0 w w':World} {n m v:Array Value} (h:PFr g0 n m v w) (hb:Below w.heap.size w w'):PFr g0 n m v w' :=
 ⟨h.1.trans (hb.mono h.1.size),keep_blk hb h.2.1,keep_blk hb h.2.2.1,keep_blk hb h.2.2.2⟩
theorem PFr.view {g0 w:World} {n m:Array Value} {s:ByteArray} {c e0:Int} (h:PFr g0 n m #[.string s,.int .i64 c,.int .i64 e0] w) :
   w.cell? ⟨g0.heap.size+2,0,none⟩=some (.string s)∧w.cell? ⟨g0.heap.size+2,1,none⟩=some (.int .i64 c)∧w.cell? ⟨g0.heap.size+2,2,none⟩=some (.int .i64 e0):=by
 simp [World.cell?,h.2.2.2]
def PF2 (g0 g1:World) (n m v:Array Value) (gs ga gg:Nat) (rs ra rg:Array Value) (w:World):Prop :=
 PFr g0 n m v w∧Below g1.heap.size g1 w∧w.heap[gs]? = some (.cells rs 29)∧w.heap[ga]? = some (.cells ra 29)∧w.heap[gg]? = some (.cells rg 29)
theorem PF2.next {g0 g1 w w':World} {n m v:Array Value} {gs ga gg:Nat} {rs ra rg:Array Value} (h:PF2 g0 g1 n m v gs ga gg rs ra rg w) (hb:Below w.heap.size w w'):PF2 g0 g1 n m v gs ga gg rs ra rg w' :=
 ⟨h.1.next hb,h.2.1.trans (hb.mono h.2.1.size),keep_blk hb h.2.2.1,keep_blk hb h.2.2.2.1,keep_blk hb h.2.2.2.2⟩
theorem code_ok {t:Tr} {n:Nat} {ps:List Int} (hc:t.checkC=0) (hn:n ≤ 63) (hp:∀ p,p ∈ ps→0 ≤ p∧p ≤ n):Re.code t n ps=0:=Re.code_zero.2 ⟨hc,hn,hp⟩
theorem takes_ok (A:Nat→Addr) (t:Tr) (hc:t.checkC=0) (x:Sc) (hn:x.t.size ≤ 63) (k l:Nat) (hk:k ≤ x.t.size) (hl:l ≤ x.t.size) (b:Nat) (w:World) (hM:ReMemT A w) (hx:ScAt w b x) (B:Nat→Prop) (v:Value) (hv:NodeV w B v t) :
   Calls Tryd.prog 23 #[v,.pointer (some ⟨b,0,none⟩),.int .i64 (k:Int),.int .i64 (l:Int)] w fun e w'=>∃ q:Bool,e=.returned (.tuple #[.bool q,.nilIface])∧(q=true ↔ Tr.tk x t k l)∧Below w.heap.size w w':=by
 have hz:=Tr.checkC_zero.1 hc
 refine (retakesT_any A t (by omega) x b k l w hM hx B v hv).mono ?_
 rintro e w' ⟨rfl,hb⟩
 have h0:Re.code t x.t.size [(k:Int),(l:Int)]=0:=code_ok hc hn (by simp;omega)
 rw [h0,sent_nil]
 refine ⟨_,rfl, ?_,hb⟩
 rw [decide_eq_true rfl,Bool.true_and,Int.toNat_natCast,Int.toNat_natCast]
 exact (Tr.tabT_means x hn t hz.1 k (by omega) l).trans ⟨fun h=>h.2,fun h=>⟨hk,h⟩⟩
theorem ends_ok (A:Nat→Addr) (t:Tr) (hc:t.checkC=0) (x:Sc) (hn:x.t.size ≤ 63) (k:Nat) (hk:k ≤ x.t.size) (b:Nat) (w:World) (hM:ReMemT A w) (hx:ScAt w b x) (B:Nat→Prop) (v:Value) (hv:NodeV w B v t) :
   Calls Tryd.prog 19 #[v,.pointer (some ⟨b,0,none⟩),.int .i64 (k:Int)] w fun e w'=>∃ u l,e=.returned (.tuple #[u,.nilIface])∧IR w.heap.size w' u l∧l.length ≤ 64∧(∀ j,j ∈ l ↔ Tr.tk x t k j)∧Below w.heap.size w w':=by
 have hz:=Tr.checkC_zero.1 hc
 refine (reendsT_any A t (by omega) x b k w hM hx B v hv).mono ?_
 rintro e w' he
 have h0:Re.code t x.t.size [(k:Int)]=0:=code_ok hc hn (by simp;omega)
 obtain ⟨u,rfl,hi,hb⟩:=he.yes h0
 rw [Int.toNat_natCast] at hi
 refine ⟨u,_,rfl,hi,Re.up_length _ _ _,fun j=>?_,hb⟩
 rw [Re.mem_up,Tr.tabT_means x hn t hz.1 k (by omega) j]
 refine ⟨fun h=>h.2.2.2,fun h=>⟨Nat.zero_le _, ?_,hk,h⟩⟩
 have:=(Tr.tk_on x t k j hk h).2;omega
theorem reachparts_any (A:Nat→Addr) (s:ByteArray) (c e0:Int) (t u:Tr) (f g:Int) (w:World) (hM:ReMemT A w) (B B2:Nat→Prop) (v v2:Value) (hv:NodeV w B v t) (hv2:NodeV w B2 v2 u) :
   Calls Tryd.prog 6 #[v,v2,.agg #[.string s,.int .i64 c,.int .i64 e0],.int .i64 f,.int .i64 g] w fun e w'=>e=.returned (.bool true)∧Below w.heap.size w w':=by
 obtain ⟨sv,rfl,hsv⟩:=hv
 obtain ⟨p,cap,rfl,hlen⟩:=hsv.slice
 obtain ⟨sv2,rfl,hsv2⟩:=hv2
 obtain ⟨p2,c2,rfl,hlen2⟩:=hsv2.slice
 have HM:=Lib.hid (fun w9 (hb:Below w.heap.size w w9)=>hM.below hb)
 have HV:=Lib.hid (fun w9 (hb:Below w.heap.size w w9)=>(show NodeV w9 B (.agg (t.cells (.slice p t.subs.length cap))) t from ⟨_,rfl,hsv.later hb⟩))
 have HV2:=Lib.hid (fun w9 (hb:Below w.heap.size w w9)=>(show NodeV w9 B2 (.agg (u.cells (.slice p2 u.subs.length c2))) u from ⟨_,rfl,hsv2.later hb⟩))
 have HT:=Lib.hid (fun w9 (hb:Below w.heap.size w w9)=>hsv.later hb)
 have HT2:=Lib.hid (fun w9 (hb:Below w.heap.size w w9)=>hsv2.later hb)
 have HLG:=Lib.hid (fun w9 (hb:Below w.heap.size w w9)=>relong_any s c e0 t w9 B (.agg (t.cells (.slice p t.subs.length cap))) ⟨_,rfl,hsv.later hb⟩)
 have HLG2:=Lib.hid (fun w9 (hb:Below w.heap.size w w9)=>relong_any s c e0 u w9 B2 (.agg (u.cells (.slice p2 u.subs.length c2))) ⟨_,rfl,hsv2.later hb⟩)
 clear hsv hsv2 hM
 unfold Tr.cells at *
 go_enter Tryd.func6,Tryd.ntmps6
 have hF:PFr w #[.int .i64 t.kind,.int .u64 (Oc.U t.w0),.int .u64 (Oc.U t.w1),.int .u64 (Oc.U t.w2),.int .u64 (Oc.U t.w3),.slice p t.subs.length cap,.int .i64 t.num,.int .i64 t.least,.int .i64 t.most,.bool t.bare] #[.int .i64 u.kind,.int .u64 (Oc.U u.w0),.int .u64 (Oc.U u.w1),.int .u64 (Oc.U u.w2),.int .u64 (Oc.U u.w3),.slice p2 u.subs.length c2,.int .i64 u.num,.int .i64 u.least,.int .i64 u.most,.bool u.bare] #[.string s,.int .i64 c,.int .i64 e0] (((w.alloc (.cells #[.int .i64 t.kind,.int .u64 (Oc.U t.w0),.int .u64 (Oc.U t.w1),.int .u64 (Oc.U t.w2),.int .u64 (Oc.U t.w3),.slice p t.subs.length cap,.int .i64 t.num,.int .i64 t.least,.int .i64 t.most,.bool t.bare] 29)).alloc (.cells #[.int .i64 u.kind,.int .u64 (Oc.U u.w0),.int .u64 (Oc.U u.w1),.int .u64 (Oc.U u.w2),.int .u64 (Oc.U u.w3),.slice p2 u.subs.length c2,.int .i64 u.num,.int .i64 u.least,.int .i64 u.most,.bool u.bare] 29)).alloc (.cells #[.string s,.int .i64 c,.int .i64 e0] 41)) :=
   ⟨by go_grown,heap_alloc_lt (heap_alloc_lt (heap_alloc_new _ _)),heap_alloc_lt (new_at _ _ _ (by simp)),new_at _ _ _ (by simp)⟩
 have HF:=Lib.hid hF
 clear hF
 go_upto_region 1 with (fail)
 generalize ((w.alloc (.cells #[.int .i64 t.kind,.int .u64 (Oc.U t.w0),.int .u64 (Oc.U t.w1),.int .u64 (Oc.U t.w2),.int .u64 (Oc.U t.w3),.slice p t.subs.length cap,.int .i64 t.num,.int .i64 t.least,.int .i64 t.most,.bool t.bare] 29)).alloc (.cells #[.int .i64 u.kind,.int .u64 (Oc.U u.w0),.int .u64 (Oc.U u.w1),.int .u64 (Oc.U u.w2),.int .u64 (Oc.U u.w3),.slice p2 u.subs.length c2,.int .i64 u.num,.int .i64 u.least,.int .i64 u.most,.bool u.bare] 29)).alloc (.cells #[.string s,.int .i64 c,.int .i64 e0] 41)=W1 at *
 go_wp2_with fail
 refine (relivesT_any A W1 (HM.out W1 HF.out.1)).mono ?_
 rintro e w2 ⟨rfl,hb2⟩
 replace HF:=Lib.hid (HF.out.next hb2)
 clear hb2
 go_wp2_with (first
   | (refine wpList_load_row rfl 29 (.tmp 5) rfl w.heap.size rfl 29 #[.int .i64 t.kind,.int .u64 (Oc.U t.w0),.int .u64 (Oc.U t.w1),.int .u64 (Oc.U t.w2),.int .u64 (Oc.U t.w3),.slice p t.subs.length cap,.int .i64 t.num,.int .i64 t.least,.int .i64 t.most,.bool t.bare] (0,0) _ HF.out.2.1 Tryd.underlying29 rfl (by kernel_rfl) ?_)
   | (refine wpList_load_row rfl 41 (.tmp 7) rfl (w.heap.size+2) rfl 41 #[.string s,.int .i64 c,.int .i64 e0] (0,0) _ HF.out.2.2.2 Tryd.underlying41 rfl (by kernel_rfl) ?_)
   | fail)
 refine (HLG.out w2 HF.out.1).mono ?_
 rintro e w3 ⟨q,rfl,hq,hb3⟩
 replace HF:=Lib.hid (HF.out.next hb3)
 have HQ:=Lib.hid hq
 clear hb3 hq HLG
 cases q with
 | true =>
   go_wp2
   go_ret
   exact ⟨rfl,HF.out.1⟩
 | false =>
 have HN:=Lib.hid (HQ.out rfl)
 clear HQ
 go_wp2_with (first
   | (refine wpList_load_row_gd rfl rfl rfl 29 (.tmp 6) rfl (w.heap.size+1) rfl 29 #[.int .i64 u.kind,.int .u64 (Oc.U u.w0),.int .u64 (Oc.U u.w1),.int .u64 (Oc.U u.w2),.int .u64 (Oc.U u.w3),.slice p2 u.subs.length c2,.int .i64 u.num,.int .i64 u.least,.int .i64 u.most,.bool u.bare] (0,0) _ HF.out.2.2.1 Tryd.underlying29 rfl (by kernel_rfl) ?_)
   | (refine wpList_load_row_gd rfl rfl rfl 41 (.tmp 7) rfl (w.heap.size+2) rfl 41 #[.string s,.int .i64 c,.int .i64 e0] (0,0) _ HF.out.2.2.2 Tryd.underlying41 rfl (by kernel_rfl) ?_)
   | fail)
 refine (HLG2.out w3 HF.out.1).mono ?_
 rintro e w4 ⟨q,rfl,hq,hb4⟩
 replace HF:=Lib.hid (HF.out.next hb4)
 have HQ:=Lib.hid hq
 clear hb4 hq HLG2
 cases q with
 | true =>
   go_wp2
   go_ret
   exact ⟨rfl,HF.out.1⟩
 | false =>
 have HN2:=Lib.hid (HQ.out rfl)
 clear HQ
 have HD:=Lib.hid (show t.dpT ≤ 5000 by have:=Tr.dp_nd t;have:=HN.out;omega)
 have HD2:=Lib.hid (show u.dpT ≤ 5000 by have:=Tr.dp_nd u;have:=HN2.out;omega)
 clear HN HN2
 go_wp2_with (first
   | (refine wpList_load_row_gd rfl rfl rfl 29 (.tmp 5) rfl w.heap.size rfl 29 #[.int .i64 t.kind,.int .u64 (Oc.U t.w0),.int .u64 (Oc.U t.w1),.int .u64 (Oc.U t.w2),.int .u64 (Oc.U t.w3),.slice p t.subs.length cap,.int .i64 t.num,.int .i64 t.least,.int .i64 t.most,.bool t.bare] (0,0) _ HF.out.2.1 Tryd.underlying29 rfl (by kernel_rfl) ?_)
   | fail)
 refine (treecheckT_any A t (by have:=HD.out;omega) w4 (HM.out w4 HF.out.1).errs _ _ (HV.out w4 HF.out.1)).mono ?_
 rintro e w5 ⟨rfl,hb5⟩
 replace HF:=Lib.hid (HF.out.next hb5)
 clear hb5
 by_cases hz:t.checkC=0
 rotate_left
 · rw [sent_ne hz]
   generalize A (t.checkC - 1)=aa
   clear hz
   go_wp2
   go_ret
   exact ⟨rfl,HF.out.1⟩
 have HZ:=Lib.hid hz
 rw [hz,sent_nil]
 clear hz
 go_wp2_with (first
   | (refine wpList_load_row_gd rfl rfl rfl 29 (.tmp 6) rfl (w.heap.size+1) rfl 29 #[.int .i64 u.kind,.int .u64 (Oc.U u.w0),.int .u64 (Oc.U u.w1),.int .u64 (Oc.U u.w2),.int .u64 (Oc.U u.w3),.slice p2 u.subs.length c2,.int .i64 u.num,.int .i64 u.least,.int .i64 u.most,.bool u.bare] (0,0) _ HF.out.2.2.1 Tryd.underlying29 rfl (by kernel_rfl) ?_)
   | fail)
 refine (treecheckT_any A u (by have:=HD2.out;omega) w5 (HM.out w5 HF.out.1).errs _ _ (HV2.out w5 HF.out.1)).mono ?_
 rintro e w6 ⟨rfl,hb6⟩
 replace HF:=Lib.hid (HF.out.next hb6)
 clear hb6
 by_cases hz:u.checkC=0
 rotate_left
 · rw [sent_ne hz]
   generalize A (u.checkC - 1)=aa
   clear hz
   go_wp2
   go_ret
   exact ⟨rfl,HF.out.1⟩
 have HZ2:=Lib.hid hz
 rw [hz,sent_nil]
 clear hz
 obtain ⟨d0,d1,d2⟩:=HF.out.view
 by_cases h1:63 < s.size
 · have k1:decide ((63:Int) < (s.size:Int))=true:=by simp;omega
   clear h1
   go_wp2
   go_ret
   exact ⟨rfl,HF.out.1⟩
 have k1:decide ((63:Int) < (s.size:Int))=false:=by simp;omega
 by_cases h2:f < 0
 · have k2:decide (f < 0)=true:=decide_eq_true h2
   clear h1 h2
   go_wp2
   go_ret
   exact ⟨rfl,HF.out.1⟩
 have k2:decide (f < 0)=false:=decide_eq_false h2
 by_cases h3:g < 0
 · have k3:decide (g < 0)=true:=decide_eq_true h3
   clear h1 h2 h3
   go_wp2
   go_ret
   exact ⟨rfl,HF.out.1⟩
 have k3:decide (g < 0)=false:=decide_eq_false h3
 by_cases h4:(s.size:Int) < f
 · have k4:decide ((s.size:Int) < f)=true:=decide_eq_true h4
   clear h1 h2 h3 h4
   go_wp2
   go_ret
   exact ⟨rfl,HF.out.1⟩
 have k4:decide ((s.size:Int) < f)=false:=decide_eq_false h4
 by_cases h5:(s.size:Int) < g
 · have k5:decide ((s.size:Int) < g)=true:=decide_eq_true h5
   clear h1 h2 h3 h4 h5
   go_wp2
   go_ret
   exact ⟨rfl,HF.out.1⟩
 have k5:decide ((s.size:Int) < g)=false:=decide_eq_false h5
 have HS63:=Lib.hid (show s.size ≤ 63 by omega)
 have HFT:=Lib.hid (show 0 ≤ f∧f ≤ s.size∧0 ≤ g∧g ≤ s.size by omega)
 clear h1 h2 h3 h4 h5
 go_upto_region 5 with (fail)
 clear k1 k2 k3 k4 k5 d0 d1 d2
 refine Ri.wp_region_frame (by kernel_rfl) (by kernel_rfl) (by kernel_rfl) (by kernel_rfl)
   (fun L v w'=>PI w6 #[.int .i64 t.kind,.int .u64 (Oc.U t.w0),.int .u64 (Oc.U t.w1),.int .u64 (Oc.U t.w2),.int .u64 (Oc.U t.w3),.slice p t.subs.length cap,.int .i64 t.num,.int .i64 t.least,.int .i64 t.most,.bool t.bare] #[.int .i64 u.kind,.int .u64 (Oc.U u.w0),.int .u64 (Oc.U u.w1),.int .u64 (Oc.U u.w2),.int .u64 (Oc.U u.w3),.slice p2 u.subs.length c2,.int .i64 u.num,.int .i64 u.least,.int .i64 u.most,.bool u.bare] t u (Tr.several 5 [t,u]) (Tr.several 6 [t,u]) (Tr.grp 1 t) L v w') ?_ ?_ ?_
 · exact PI.zero (Below.refl _ _).drew
 · intro i hi9 L v w9 xa hI hL hd hv ho
   have hi':i=0 ∨ i=1 ∨ i=2 ∨ i=3 ∨ i=4 ∨ i=5 ∨ i=6 ∨ i=7 ∨ i=8 ∨ i=9 ∨ i=10 ∨ i=11 ∨ i=12 ∨ i=13 ∨ i=14 ∨ i=15:=by simp at hi9;omega
   have hbw:Below w.heap.size w w9:=HF.out.1.trans (hI.hb.mono HF.out.1.size)
   rcases hi' with rfl | rfl | rfl | rfl | rfl | rfl | rfl | rfl | rfl | rfl | rfl | rfl | rfl | rfl | rfl | rfl
   · have e9:xa.tmps.getD 5 undef=.pointer (some ⟨w.heap.size,0,none⟩):=ho 5 (by kernel_rfl)
     refine Ri.step_plain rfl rfl (fun K' hK=>?_)
     refine wp_load_row _ _ rfl _ e9 _ _ _ _ (keep_blk hI.hb HF.out.2.1) Tryd.underlying29 rfl (by kernel_rfl) ?_
     exact hK _ _ ⟨_,_,rfl,rfl,⟨hI.hb,
         hI.c1,
         hI.c2,
         hI.c3,
         hI.c4,
         (fun _=>rfl),
         hI.q1,
         hI.q4,
         hI.q5,
         hI.q8,
         hI.q2,
         hI.q6,
         hI.q3,
         hI.q7,
         hI.q9,
         hI.qa,
         hI.qb,
         hI.qc,
         hI.d1,
         hI.d2,
         hI.d3⟩⟩
   · have e9:xa.tmps.getD 6 undef=.pointer (some ⟨(w.heap.size+1),0,none⟩):=ho 6 (by kernel_rfl)
     refine Ri.step_plain rfl rfl (fun K' hK=>?_)
     refine wp_load_row _ _ rfl _ e9 _ _ _ _ (keep_blk hI.hb HF.out.2.2.1) Tryd.underlying29 rfl (by kernel_rfl) ?_
     exact hK _ _ ⟨_,_,rfl,rfl,⟨hI.hb,
         hI.c1,
         hI.c2,
         hI.c3,
         hI.c4,
         hI.q0,
         (fun _=>rfl),
         hI.q4,
         hI.q5,
         hI.q8,
         hI.q2,
         hI.q6,
         hI.q3,
         hI.q7,
         hI.q9,
         hI.qa,
         hI.qb,
         hI.qc,
         hI.d1,
         hI.d2,
         hI.d3⟩⟩
   · obtain ⟨l0,l1⟩:L 0=true∧L 1=true:=by have:=hd _ rfl;simp [Region.binds] at this;simp [this]
     have f0:=(hv 0 84 rfl l0).trans (hI.q0 l0)
     have f1:=(hv 1 85 rfl l1).trans (hI.q1 l1)
     refine Ri.step_plain rfl rfl (fun K' hK=>?_)
     refine wp_node2 (.tmp 84) (.tmp 85) t u p t.subs.length cap p2 u.subs.length c2 rfl f0 f1 ?_
     have hba:=(Below.refl w9.heap.size w9).alloc (Nat.le_refl _) (.cells (cells2 t u (.slice p t.subs.length cap) (.slice p2 u.subs.length c2)) 29)
     exact hK _ _ ⟨_,_,rfl,rfl,⟨hI.hb.trans (hba.mono hI.hb.size),
         hI.c1,
         hI.c2,
         hI.c3,
         hI.c4,
         hI.q0,
         hI.q1,
         hI.q4,
         hI.q5,
         hI.q8,
         (fun _=>.inr (LsAt.two (HT.out w9 hbw).any (HT2.out w9 hbw).any)),
         (hI.q6.next hba),
         (hI.q3.mono rfl rfl hba (fun _ _ h9=>h9)),
         (hI.q7.mono rfl rfl hba (fun _ _ h9=>h9)),
         (hI.q9.mono rfl rfl hba (fun _ _ h9=>h9)),
         (hI.qa.mono rfl rfl rfl hba (fun _ _ h9=>h9)),
         (hI.qb.mono rfl rfl rfl hba (fun _ _ h9=>h9)),
         (hI.qc.mono rfl rfl rfl hba (fun _ _ h9=>h9)),
         hI.d1,
         hI.d2,
         hI.d3⟩⟩
   · have l2:L 2=true:=by have:=hd _ rfl;simp [Region.binds] at this;simp [this]
     refine Ri.step_plain rfl rfl (fun K' hK=>?_)
     have f2:=hv 2 86 rfl l2
     have h13:L 13 ≠ true:=fun k=>by have:=(hI.c1 k).1;rw [hL] at this;cases this
     have hls:=(hI.q2 l2).resolve_left h13
     go_simp
     refine (seq_any [t,u] w9 _ _ hls).mono ?_
     rintro e w8 ⟨s9,F9,rfl,ho9,hF9,hb8⟩
     exact hK _ _ ⟨_,_,rfl,rfl,⟨hI.hb.trans (hb8.mono hI.hb.size),
         (fun k=>⟨rfl,(hI.c1 k).2⟩),
         hI.c2,
         hI.c3,
         hI.c4,
         hI.q0,
         hI.q1,
         hI.q4,
         hI.q5,
         hI.q8,
         (hI.q2.next hb8),
         (hI.q6.next hb8),
         (fun _=>⟨s9,rfl,ho9.trees.mono fun b _ hm=>hI.fresh (hF9 b hm)⟩),
         (hI.q7.mono rfl rfl hb8 (fun _ _ h9=>h9)),
         (hI.q9.mono rfl rfl hb8 (fun _ _ h9=>h9)),
         (hI.qa.mono rfl rfl rfl hb8 (fun _ _ h9=>h9)),
         (hI.qb.mono rfl rfl rfl hb8 (fun _ _ h9=>h9)),
         (hI.qc.mono rfl rfl rfl hb8 (fun _ _ h9=>h9)),
         hI.d1,
         hI.d2,
         hI.d3⟩⟩
   · have e9:xa.tmps.getD 5 undef=.pointer (some ⟨w.heap.size,0,none⟩):=ho 5 (by kernel_rfl)
     refine Ri.step_plain rfl rfl (fun K' hK=>?_)
     refine wp_load_row _ _ rfl _ e9 _ _ _ _ (keep_blk hI.hb HF.out.2.1) Tryd.underlying29 rfl (by kernel_rfl) ?_
     exact hK _ _ ⟨_,_,rfl,rfl,⟨hI.hb,
         hI.c1,
         hI.c2,
         hI.c3,
         hI.c4,
         hI.q0,
         hI.q1,
         (fun _=>rfl),
         hI.q5,
         hI.q8,
         hI.q2,
         hI.q6,
         hI.q3,
         hI.q7,
         hI.q9,
         hI.qa,
         hI.qb,
         hI.qc,
         hI.d1,
         hI.d2,
         hI.d3⟩⟩
   · have e9:xa.tmps.getD 6 undef=.pointer (some ⟨(w.heap.size+1),0,none⟩):=ho 6 (by kernel_rfl)
     refine Ri.step_plain rfl rfl (fun K' hK=>?_)
     refine wp_load_row _ _ rfl _ e9 _ _ _ _ (keep_blk hI.hb HF.out.2.2.1) Tryd.underlying29 rfl (by kernel_rfl) ?_
     exact hK _ _ ⟨_,_,rfl,rfl,⟨hI.hb,
         hI.c1,
         hI.c2,
         hI.c3,
         hI.c4,
         hI.q0,
         hI.q1,
         hI.q4,
         (fun _=>rfl),
         hI.q8,
         hI.q2,
         hI.q6,
         hI.q3,
         hI.q7,
         hI.q9,
         hI.qa,
         hI.qb,
         hI.qc,
         hI.d1,
         hI.d2,
         hI.d3⟩⟩
   · obtain ⟨l4,l5⟩:L 4=true∧L 5=true:=by have:=hd _ rfl;simp [Region.binds] at this;simp [this]
     have f4:=(hv 4 88 rfl l4).trans (hI.q4 l4)
     have f5:=(hv 5 89 rfl l5).trans (hI.q5 l5)
     refine Ri.step_plain rfl rfl (fun K' hK=>?_)
     refine wp_node2 (.tmp 88) (.tmp 89) t u p t.subs.length cap p2 u.subs.length c2 rfl f4 f5 ?_
     have hba:=(Below.refl w9.heap.size w9).alloc (Nat.le_refl _) (.cells (cells2 t u (.slice p t.subs.length cap) (.slice p2 u.subs.length c2)) 29)
     exact hK _ _ ⟨_,_,rfl,rfl,⟨hI.hb.trans (hba.mono hI.hb.size),
         hI.c1,
         hI.c2,
         hI.c3,
         hI.c4,
         hI.q0,
         hI.q1,
         hI.q4,
         hI.q5,
         hI.q8,
         (hI.q2.next hba),
         (fun _=>.inr (LsAt.two (HT.out w9 hbw).any (HT2.out w9 hbw).any)),
         (hI.q3.mono rfl rfl hba (fun _ _ h9=>h9)),
         (hI.q7.mono rfl rfl hba (fun _ _ h9=>h9)),
         (hI.q9.mono rfl rfl hba (fun _ _ h9=>h9)),
         (hI.qa.mono rfl rfl rfl hba (fun _ _ h9=>h9)),
         (hI.qb.mono rfl rfl rfl hba (fun _ _ h9=>h9)),
         (hI.qc.mono rfl rfl rfl hba (fun _ _ h9=>h9)),
         hI.d1,
         hI.d2,
         hI.d3⟩⟩
   · obtain ⟨l6,l3⟩:L 6=true∧L 3=true:=by have:=hd _ rfl;simp [Region.binds] at this;simp [this]
     refine Ri.step_plain rfl rfl (fun K' hK=>?_)
     have f6:=hv 6 90 rfl l6
     have h13:L 13 ≠ true:=fun k=>by have:=hI.c2 (hI.c1 k).2.1;rw [hL] at this;cases this
     have hls:=(hI.q6 l6).resolve_left h13
     go_simp
     refine (alt_any [t,u] (by simp) w9 _ _ hls).mono ?_
     rintro e w8 ⟨s9,F9,rfl,ho9,hF9,hb8⟩
     exact hK _ _ ⟨_,_,rfl,rfl,⟨hI.hb.trans (hb8.mono hI.hb.size),
         hI.c1,
         (fun _=>rfl),
         hI.c3,
         hI.c4,
         hI.q0,
         hI.q1,
         hI.q4,
         hI.q5,
         hI.q8,
         (hI.q2.next hb8),
         (hI.q6.next hb8),
         (hI.q3.mono rfl rfl hb8 (fun _ _ h9=>h9)),
         (fun _=>⟨s9,rfl,ho9.trees.mono fun b _ hm=>hI.fresh (hF9 b hm)⟩),
         (hI.q9.mono rfl rfl hb8 (fun _ _ h9=>h9)),
         (hI.qa.mono rfl rfl rfl hb8 (fun _ _ h9=>h9)),
         (hI.qb.mono rfl rfl rfl hb8 (fun _ _ h9=>h9)),
         (hI.qc.mono rfl rfl rfl hb8 (fun _ _ h9=>h9)),
         hI.d1,
         hI.d2,
         hI.d3⟩⟩
   · have e9:xa.tmps.getD 5 undef=.pointer (some ⟨w.heap.size,0,none⟩):=ho 5 (by kernel_rfl)
     refine Ri.step_plain rfl rfl (fun K' hK=>?_)
     refine wp_load_row _ _ rfl _ e9 _ _ _ _ (keep_blk hI.hb HF.out.2.1) Tryd.underlying29 rfl (by kernel_rfl) ?_
     exact hK _ _ ⟨_,_,rfl,rfl,⟨hI.hb,
         hI.c1,
         hI.c2,
         hI.c3,
         hI.c4,
         hI.q0,
         hI.q1,
         hI.q4,
         hI.q5,
         (fun _=>rfl),
         hI.q2,
         hI.q6,
         hI.q3,
         hI.q7,
         hI.q9,
         hI.qa,
         hI.qb,
         hI.qc,
         hI.d1,
         hI.d2,
         hI.d3⟩⟩
   · obtain ⟨l8,l7⟩:L 8=true∧L 7=true:=by have:=hd _ rfl;simp [Region.binds] at this;simp [this]
     refine Ri.step_plain rfl rfl (fun K' hK=>?_)
     have f8:=(hv 8 92 rfl l8).trans (hI.q8 l8)
     go_simp
     refine (group_any t 1 w9 _ _ (HV.out w9 hbw)).mono ?_
     rintro e w8 ⟨s9,F9,rfl,ho9,hF9,hb8⟩
     exact hK _ _ ⟨_,_,rfl,rfl,⟨hI.hb.trans (hb8.mono hI.hb.size),
         (fun k=>⟨(hI.c1 k).1,rfl,(hI.c1 k).2.2⟩),
         (fun _=>l7),
         hI.c3,
         hI.c4,
         hI.q0,
         hI.q1,
         hI.q4,
         hI.q5,
         hI.q8,
         (hI.q2.next hb8),
         (hI.q6.next hb8),
         (hI.q3.mono rfl rfl hb8 (fun _ _ h9=>h9)),
         (hI.q7.mono rfl rfl hb8 (fun _ _ h9=>h9)),
         (fun _=>⟨s9,rfl,ho9.trees.mono fun b _ hm=>hI.fresh (hF9 b hm)⟩),
         (hI.qa.mono rfl rfl rfl hb8 (fun _ _ h9=>h9)),
         (hI.qb.mono rfl rfl rfl hb8 (fun _ _ h9=>h9)),
         (hI.qc.mono rfl rfl rfl hb8 (fun _ _ h9=>h9)),
         hI.d1,
         hI.d2,
         hI.d3⟩⟩
   · refine Ri.step_plain rfl rfl (fun K' hK=>?_)
     go_simp
     have hba:=(Below.refl w9.heap.size w9).alloc (Nat.le_refl _) (.cells noNode 29)
     exact hK _ _ ⟨_,_,rfl,rfl,⟨hI.hb.trans (hba.mono hI.hb.size),
         (fun k=>⟨(hI.c1 k).1,(hI.c1 k).2.1,rfl⟩),
         hI.c2,
         hI.c3,
         hI.c4,
         hI.q0,
         hI.q1,
         hI.q4,
         hI.q5,
         hI.q8,
         (hI.q2.next hba),
         (hI.q6.next hba),
         (hI.q3.mono rfl rfl hba (fun b hb9 h9=>⟨fun _=>ptr_ne hb9,h9.2.1,h9.2.2⟩)),
         (hI.q7.mono rfl rfl hba (fun b hb9 h9=>⟨fun _=>ptr_ne hb9,h9.2.1,h9.2.2⟩)),
         (hI.q9.mono rfl rfl hba (fun b hb9 h9=>⟨fun _=>ptr_ne hb9,h9.2.1,h9.2.2⟩)),
         (fun _=>⟨w9.heap.size,rfl,hI.hb.size,by simp,fun _=>heap_alloc_new _ _,fun k=>absurd (show L 13=true from k) (fun k=>by have:=(hI.c1 k).2.2;rw [hL] at this;cases this)⟩),
         (hI.qb.mono rfl rfl rfl hba (fun b hb9 h9=>⟨fun _=>ptr_ne hb9,h9.2.1,h9.2.2⟩)),
         (hI.qc.mono rfl rfl rfl hba (fun b hb9 h9=>⟨fun _=>ptr_ne hb9,h9.2.1,h9.2.2⟩)),
         (fun _ l=>(hI.qb.old l).symm),
         (fun _ l=>(hI.qc.old l).symm),
         hI.d3⟩⟩
   · refine Ri.step_plain rfl rfl (fun K' hK=>?_)
     go_simp
     have hba:=(Below.refl w9.heap.size w9).alloc (Nat.le_refl _) (.cells noNode 29)
     exact hK _ _ ⟨_,_,rfl,rfl,⟨hI.hb.trans (hba.mono hI.hb.size),
         hI.c1,
         hI.c2,
         (fun k=>⟨rfl,(hI.c3 k).2⟩),
         hI.c4,
         hI.q0,
         hI.q1,
         hI.q4,
         hI.q5,
         hI.q8,
         (hI.q2.next hba),
         (hI.q6.next hba),
         (hI.q3.mono rfl rfl hba (fun b hb9 h9=>⟨h9.1,fun _=>ptr_ne hb9,h9.2.2⟩)),
         (hI.q7.mono rfl rfl hba (fun b hb9 h9=>⟨h9.1,fun _=>ptr_ne hb9,h9.2.2⟩)),
         (hI.q9.mono rfl rfl hba (fun b hb9 h9=>⟨h9.1,fun _=>ptr_ne hb9,h9.2.2⟩)),
         (hI.qa.mono rfl rfl rfl hba (fun b hb9 h9=>⟨h9.1,fun _=>ptr_ne hb9,h9.2.2⟩)),
         (fun _=>⟨w9.heap.size,rfl,hI.hb.size,by simp,fun _=>heap_alloc_new _ _,fun k=>absurd (show L 14=true from k) (fun k=>by have:=(hI.c3 k).1;rw [hL] at this;cases this)⟩),
         (hI.qc.mono rfl rfl rfl hba (fun b hb9 h9=>⟨h9.1,fun _=>ptr_ne hb9,h9.2.2⟩)),
         (fun l _=>hI.qa.old l),
         hI.d2,
         (fun _ l=>(hI.qc.old l).symm)⟩⟩
   · refine Ri.step_plain rfl rfl (fun K' hK=>?_)
     go_simp
     have hba:=(Below.refl w9.heap.size w9).alloc (Nat.le_refl _) (.cells noNode 29)
     exact hK _ _ ⟨_,_,rfl,rfl,⟨hI.hb.trans (hba.mono hI.hb.size),
         hI.c1,
         hI.c2,
         hI.c3,
         (fun _=>rfl),
         hI.q0,
         hI.q1,
         hI.q4,
         hI.q5,
         hI.q8,
         (hI.q2.next hba),
         (hI.q6.next hba),
         (hI.q3.mono rfl rfl hba (fun b hb9 h9=>⟨h9.1,h9.2.1,fun _=>ptr_ne hb9⟩)),
         (hI.q7.mono rfl rfl hba (fun b hb9 h9=>⟨h9.1,h9.2.1,fun _=>ptr_ne hb9⟩)),
         (hI.q9.mono rfl rfl hba (fun b hb9 h9=>⟨h9.1,h9.2.1,fun _=>ptr_ne hb9⟩)),
         (hI.qa.mono rfl rfl rfl hba (fun b hb9 h9=>⟨h9.1,h9.2.1,fun _=>ptr_ne hb9⟩)),
         (hI.qb.mono rfl rfl rfl hba (fun b hb9 h9=>⟨h9.1,h9.2.1,fun _=>ptr_ne hb9⟩)),
         (fun _=>⟨w9.heap.size,rfl,hI.hb.size,by simp,fun _=>heap_alloc_new _ _,fun k=>absurd (show L 15=true from k) (fun k=>by have:=hI.c4 k;rw [hL] at this;cases this)⟩),
         hI.d1,
         (fun l _=>hI.qa.old l),
         (fun l _=>hI.qb.old l)⟩⟩
   · obtain ⟨l10,l3,l9,l0,l1,l2,l11,l12⟩:L 10=true∧L 3=true∧L 9=true∧L 0=true∧L 1=true∧L 2=true∧L 11=true∧L 12=true:=by have:=hd _ rfl;simp [Region.binds] at this;simp [this]
     obtain ⟨g9,hp9,h2,h3,h4,-⟩:=hI.qa l10
     obtain ⟨s9,hs9,ht9⟩:=hI.q3 l3
     obtain ⟨p9,c9,rfl,-⟩:=ht9.slice
     have f9:=(hv 10 11 rfl l10).trans hp9
     have f8:=(hv 3 87 rfl l3).trans hs9
     have hg9:∀ b,PNB L v b→b ≠ g9:=fun b hb9 e=>hb9.1 l10 (e ▸ hp9)
     have hn11:L 11=true→v 11 ≠ .pointer (some ⟨g9,0,none⟩):=fun l e=>hI.d1 l10 l (hp9.trans e.symm)
     have hn12:L 12=true→v 12 ≠ .pointer (some ⟨g9,0,none⟩):=fun l e=>hI.d2 l10 l (hp9.trans e.symm)
     refine Ri.step_plain rfl rfl (fun K' hK=>?_)
     refine wp_store_row _ _ _ rfl g9 ((Tr.several 5 [t,u]).cells (.slice p9 (Tr.several 5 [t,u]).subs.length c9)) f9 f8 29 _ (h4 hL) (by kernel_rfl) (by kernel_rfl) (nodeC_all _ _ _ _) ?_
     exact hK _ _ ⟨_,undef,rfl,rfl,⟨below_setRow hI.hb h2 _,
         (fun _=>⟨l3,l9,l10⟩),
         hI.c2,
         (fun k=>⟨(hI.c3 k).1,rfl⟩),
         hI.c4,
         hI.q0,
         hI.q1,
         hI.q4,
         hI.q5,
         hI.q8,
         (fun _=>.inl rfl),
         (fun _=>.inl rfl),
         (hI.q3.lay rfl rfl (fun _ h9=>h9) hg9),
         (hI.q7.lay rfl rfl (fun _ h9=>h9) hg9),
         (hI.q9.lay rfl rfl (fun _ h9=>h9) hg9),
         (fun _=>⟨g9,hp9,h2,by simpa using h3,(fun k=>by cases k),fun _=>⟨p9,_,c9,heap_setRow (h4 hL),ht9.keep fun b _ hb9=>heap_setRow_other _ _ _ (hg9 b hb9)⟩⟩),
         (hI.qb.lay rfl rfl rfl (fun _ h9=>h9) hg9 hn11),
         (hI.qc.lay rfl rfl rfl (fun _ h9=>h9) hg9 hn12),
         hI.d1,
         hI.d2,
         hI.d3⟩⟩
   · obtain ⟨l11,l7,l13⟩:L 11=true∧L 7=true∧L 13=true:=by have:=hd _ rfl;simp [Region.binds] at this;simp [this]
     obtain ⟨g9,hp9,h2,h3,h4,-⟩:=hI.qb l11
     obtain ⟨s9,hs9,ht9⟩:=hI.q7 l7
     obtain ⟨p9,c9,rfl,-⟩:=ht9.slice
     have f9:=(hv 11 12 rfl l11).trans hp9
     have f8:=(hv 7 91 rfl l7).trans hs9
     have hg9:∀ b,PNB L v b→b ≠ g9:=fun b hb9 e=>hb9.2.1 l11 (e ▸ hp9)
     have hn10:L 10=true→v 10 ≠ .pointer (some ⟨g9,0,none⟩):=fun l e=>hI.d1 l l11 (e.trans hp9.symm)
     have hn12:L 12=true→v 12 ≠ .pointer (some ⟨g9,0,none⟩):=fun l e=>hI.d3 l11 l (hp9.trans e.symm)
     refine Ri.step_plain rfl rfl (fun K' hK=>?_)
     refine wp_store_row _ _ _ rfl g9 ((Tr.several 6 [t,u]).cells (.slice p9 (Tr.several 6 [t,u]).subs.length c9)) f9 f8 29 _ (h4 hL) (by kernel_rfl) (by kernel_rfl) (nodeC_all _ _ _ _) ?_
     exact hK _ _ ⟨_,undef,rfl,rfl,⟨below_setRow hI.hb h2 _,
         hI.c1,
         hI.c2,
         (fun _=>⟨l11,l13⟩),
         hI.c4,
         hI.q0,
         hI.q1,
         hI.q4,
         hI.q5,
         hI.q8,
         (fun _=>.inl l13),
         (fun _=>.inl l13),
         (hI.q3.lay rfl rfl (fun _ h9=>h9) hg9),
         (hI.q7.lay rfl rfl (fun _ h9=>h9) hg9),
         (hI.q9.lay rfl rfl (fun _ h9=>h9) hg9),
         (hI.qa.lay rfl rfl rfl (fun _ h9=>h9) hg9 hn10),
         (fun _=>⟨g9,hp9,h2,by simpa using h3,(fun k=>by cases k),fun _=>⟨p9,_,c9,heap_setRow (h4 hL),ht9.keep fun b _ hb9=>heap_setRow_other _ _ _ (hg9 b hb9)⟩⟩),
         (hI.qc.lay rfl rfl rfl (fun _ h9=>h9) hg9 hn12),
         hI.d1,
         hI.d2,
         hI.d3⟩⟩
   · obtain ⟨l12,l9,l14⟩:L 12=true∧L 9=true∧L 14=true:=by have:=hd _ rfl;simp [Region.binds] at this;simp [this]
     have l13:L 13=true:=(hI.c3 l14).2
     obtain ⟨g9,hp9,h2,h3,h4,-⟩:=hI.qc l12
     obtain ⟨s9,hs9,ht9⟩:=hI.q9 l9
     obtain ⟨p9,c9,rfl,-⟩:=ht9.slice
     have f9:=(hv 12 13 rfl l12).trans hp9
     have f8:=(hv 9 93 rfl l9).trans hs9
     have hg9:∀ b,PNB L v b→b ≠ g9:=fun b hb9 e=>hb9.2.2 l12 (e ▸ hp9)
     have hn10:L 10=true→v 10 ≠ .pointer (some ⟨g9,0,none⟩):=fun l e=>hI.d2 l l12 (e.trans hp9.symm)
     have hn11:L 11=true→v 11 ≠ .pointer (some ⟨g9,0,none⟩):=fun l e=>hI.d3 l l12 (e.trans hp9.symm)
     refine Ri.step_plain rfl rfl (fun K' hK=>?_)
     refine wp_store_row _ _ _ rfl g9 ((Tr.grp 1 t).cells (.slice p9 (Tr.grp 1 t).subs.length c9)) f9 f8 29 _ (h4 hL) (by kernel_rfl) (by kernel_rfl) (nodeC_all _ _ _ _) ?_
     exact hK _ _ ⟨_,undef,rfl,rfl,⟨below_setRow hI.hb h2 _,
         hI.c1,
         hI.c2,
         hI.c3,
         (fun _=>l12),
         hI.q0,
         hI.q1,
         hI.q4,
         hI.q5,
         hI.q8,
         (fun _=>.inl l13),
         (fun _=>.inl l13),
         (hI.q3.lay rfl rfl (fun _ h9=>h9) hg9),
         (hI.q7.lay rfl rfl (fun _ h9=>h9) hg9),
         (hI.q9.lay rfl rfl (fun _ h9=>h9) hg9),
         (hI.qa.lay rfl rfl rfl (fun _ h9=>h9) hg9 hn10),
         (hI.qb.lay rfl rfl rfl (fun _ h9=>h9) hg9 hn11),
         (fun _=>⟨g9,hp9,h2,by simpa using h3,(fun k=>by cases k),fun _=>⟨p9,_,c9,heap_setRow (h4 hL),ht9.keep fun b _ hb9=>heap_setRow_other _ _ _ (hg9 b hb9)⟩⟩),
         hI.d1,
         hI.d2,
         hI.d3⟩⟩
 · rintro v w7 hI
   obtain ⟨gs,va9,-,-,-,hs9⟩:=hI.qa rfl
   obtain ⟨ga,vb9,-,-,-,hal9⟩:=hI.qb rfl
   obtain ⟨gg,vc9,-,-,-,hgr9⟩:=hI.qc rfl
   obtain ⟨ps,ls,cs,ys,ts⟩:=hs9 rfl
   obtain ⟨pa,la,ca,ya,ta⟩:=hal9 rfl
   obtain ⟨pg,lg,cg,yg,tg⟩:=hgr9 rfl
   replace HF:=Lib.hid (HF.out.next hI.hb)
   have YS:=Lib.hid ys;have YA:=Lib.hid ya;have YG:=Lib.hid yg;have TS:=Lib.hid ts.any;have TA:=Lib.hid ta.any;have TG:=Lib.hid tg.any
   clear ys ya yg ts ta tg hs9 hal9 hgr9 hI
   simp only [Ri.frame,List.zipIdx,List.foldl_cons,List.foldl_nil,if_true,List.setIfInBounds_toArray,List.set_cons_zero,List.set_cons_succ,Nat.reduceAdd,va9,vb9,vc9]
   clear va9 vb9 vc9
   generalize v 0=z0;generalize v 1=z1;generalize v 2=z2;generalize v 3=z3;generalize v 4=z4;generalize v 5=z5;generalize v 6=z6;generalize v 7=z7;generalize v 8=z8;generalize v 9=z9
   obtain ⟨k,rfl⟩:∃ k:Nat,f=k:=⟨f.toNat,by have:=HFT.out;omega⟩
   obtain ⟨l,rfl⟩:∃ l:Nat,g=l:=⟨g.toNat,by have:=HFT.out;omega⟩
   have hkl:k ≤ s.size∧l ≤ s.size:=by have:=HFT.out;omega
   have HKL:=Lib.hid hkl
   clear hkl HFT HT HT2
   have HP:=Lib.hid (show PF2 w w7 #[.int .i64 t.kind,.int .u64 (Oc.U t.w0),.int .u64 (Oc.U t.w1),.int .u64 (Oc.U t.w2),.int .u64 (Oc.U t.w3),.slice p t.subs.length cap,.int .i64 t.num,.int .i64 t.least,.int .i64 t.most,.bool t.bare] #[.int .i64 u.kind,.int .u64 (Oc.U u.w0),.int .u64 (Oc.U u.w1),.int .u64 (Oc.U u.w2),.int .u64 (Oc.U u.w3),.slice p2 u.subs.length c2,.int .i64 u.num,.int .i64 u.least,.int .i64 u.most,.bool u.bare] #[.string s,.int .i64 c,.int .i64 e0] gs ga gg ((Tr.several 5 [t,u]).cells (.slice ps ls cs)) ((Tr.several 6 [t,u]).cells (.slice pa la ca)) ((Tr.grp 1 t).cells (.slice pg lg cg)) w7 from ⟨HF.out,Below.refl _ _,YS.out,YA.out,YG.out⟩)
   have HVS:=Lib.hid (fun w9 (hb:Below w7.heap.size w7 w9)=>(show NodeV w9 (fun _=>True) (.agg ((Tr.several 5 [t,u]).cells (.slice ps ls cs))) (Tr.several 5 [t,u]) from ⟨_,rfl,TS.out.later hb⟩))
   have HVA:=Lib.hid (fun w9 (hb:Below w7.heap.size w7 w9)=>(show NodeV w9 (fun _=>True) (.agg ((Tr.several 6 [t,u]).cells (.slice pa la ca))) (Tr.several 6 [t,u]) from ⟨_,rfl,TA.out.later hb⟩))
   have HVG:=Lib.hid (fun w9 (hb:Below w7.heap.size w7 w9)=>(show NodeV w9 (fun _=>True) (.agg ((Tr.grp 1 t).cells (.slice pg lg cg))) (Tr.grp 1 t) from ⟨_,rfl,TG.out.later hb⟩))
   clear HF YS YA YG TS TA TG
   go_wp2_with (first
     | (refine wpList_load_row rfl 29 (.tmp 11) rfl gs rfl 29 ((Tr.several 5 [t,u]).cells (.slice ps ls cs)) (0,0) _ HP.out.2.2.1 Tryd.underlying29 rfl (by kernel_rfl) ?_)
     | fail)
   refine (treecheckT_any A (Tr.several 5 [t,u]) (by have:=HD.out;have:=HD2.out;have:=Tr.dp_several 5 (by decide) t u;omega) w7 (HM.out w7 HP.out.1.1).errs _ _ (HVS.out w7 HP.out.2.1)).mono ?_
   rintro e w8 ⟨rfl,hb8⟩
   replace HP:=Lib.hid (HP.out.next hb8)
   clear hb8
   by_cases hz:(Tr.several 5 [t,u]).checkC=0
   rotate_left
   · rw [sent_ne hz]
     generalize A ((Tr.several 5 [t,u]).checkC - 1)=aa
     clear hz
     go_wp2
     go_ret
     exact ⟨rfl,HP.out.1.1⟩
   have HZS:=Lib.hid hz
   rw [hz,sent_nil]
   clear hz
   go_wp2_with (first
     | (refine wpList_load_row_gd rfl rfl rfl 29 (.tmp 13) rfl gg rfl 29 ((Tr.grp 1 t).cells (.slice pg lg cg)) (0,0) _ HP.out.2.2.2.2 Tryd.underlying29 rfl (by kernel_rfl) ?_)
     | fail)
   refine (treecheckT_any A (Tr.grp 1 t) (by have:=HD.out;have:=Tr.dp_grp 1 t;omega) w8 (HM.out w8 HP.out.1.1).errs _ _ (HVG.out w8 HP.out.2.1)).mono ?_
   rintro e w9 ⟨rfl,hb9⟩
   replace HP:=Lib.hid (HP.out.next hb9)
   clear hb9
   by_cases hz:(Tr.grp 1 t).checkC=0
   rotate_left
   · rw [sent_ne hz]
     generalize A ((Tr.grp 1 t).checkC - 1)=aa
     clear hz
     go_wp2
     go_ret
     exact ⟨rfl,HP.out.1.1⟩
   have HZG:=Lib.hid hz
   have HZA:=Lib.hid ((Tr.check_row_or t u).trans HZS.out)
   rw [hz,sent_nil]
   clear hz HD HD2
   obtain ⟨d0,d1,d2⟩:=HP.out.1.view
   go_wp2_with fail
   refine (scnew_any s c e0 w9).mono ?_
   rintro e wa ⟨rfl,hx,hba,-⟩
   replace HP:=Lib.hid (HP.out.next hba)
   have HX:=Lib.hid hx
   clear hx hba d0 d1 d2
   generalize w9.heap.size=gx at *
   go_wp2_with (first
     | (refine wpList_load_row rfl 29 (.tmp 11) rfl gs rfl 29 ((Tr.several 5 [t,u]).cells (.slice ps ls cs)) (0,0) _ HP.out.2.2.1 Tryd.underlying29 rfl (by kernel_rfl) ?_)
     | fail)
   refine (takes_ok A (Tr.several 5 [t,u]) HZS.out (Sc.new s c e0) HS63.out k l HKL.out.1 HKL.out.2 gx wa (HM.out wa HP.out.1.1) HX.out _ _ (HVS.out wa HP.out.2.1)).mono ?_
   rintro e wb ⟨q0,rfl,hq,hbb⟩
   have HQ0:=Lib.hid (hq.trans (Tr.tk_row _ _ _ _ _))
   replace HX:=Lib.hid (HX.out.below hbb)
   replace HP:=Lib.hid (HP.out.next hbb)
   clear hq hbb
   go_wp2
   go_loopw [17,18] (fun cv kv wr=>∃ (m:Nat) (q:Bool),kv=.int .i64 (m:Int)∧k ≤ m∧(m ≤ l+1 ∨ m=k)∧cv=.bool q∧Hid (PF2 w w7 #[.int .i64 t.kind,.int .u64 (Oc.U t.w0),.int .u64 (Oc.U t.w1),.int .u64 (Oc.U t.w2),.int .u64 (Oc.U t.w3),.slice p t.subs.length cap,.int .i64 t.num,.int .i64 t.least,.int .i64 t.most,.bool t.bare] #[.int .i64 u.kind,.int .u64 (Oc.U u.w0),.int .u64 (Oc.U u.w1),.int .u64 (Oc.U u.w2),.int .u64 (Oc.U u.w3),.slice p2 u.subs.length c2,.int .i64 u.num,.int .i64 u.least,.int .i64 u.most,.bool u.bare] #[.string s,.int .i64 c,.int .i64 e0] gs ga gg ((Tr.several 5 [t,u]).cells (.slice ps ls cs)) ((Tr.several 6 [t,u]).cells (.slice pa la ca)) ((Tr.grp 1 t).cells (.slice pg lg cg)) wr)∧Hid (ScAt wr gx (Sc.new s c e0))∧Hid (q=true ↔ ∃ j,k ≤ j∧j < m∧Tr.tk (Sc.new s c e0) t k j∧Tr.tk (Sc.new s c e0) u j l)) (fun _ kv _=>l+1 - (intOf kv).toNat)
   case atStart=>exact ⟨k,false,rfl,Nat.le_refl _,.inr rfl,rfl,HP,HX,Lib.hid ⟨nofun,fun ⟨j,h1,h2,_⟩=>by omega⟩⟩
   case round =>
     clear HP HX
     obtain ⟨m,q,rfl,hkm,hml,rfl,HP,HX,HQ⟩:=hrel
     by_cases hlt:m ≤ l
     · have wi:IntKind.i64.wrap ((m:Int)+1)=(m:Int)+1:=IntWalk.i64_in _ (by have:=HKL.out.2;have:=HS63.out;omega)
       have k1:decide ((m:Int) ≤ (l:Int))=true:=decide_eq_true (by omega)
       have k2:decide (m ≤ l)=true:=decide_eq_true hlt
       go_wp2_with (first
         | (refine wpList_load_row rfl 29 (.tmp 5) rfl w.heap.size rfl 29 #[.int .i64 t.kind,.int .u64 (Oc.U t.w0),.int .u64 (Oc.U t.w1),.int .u64 (Oc.U t.w2),.int .u64 (Oc.U t.w3),.slice p t.subs.length cap,.int .i64 t.num,.int .i64 t.least,.int .i64 t.most,.bool t.bare] (0,0) _ HP.out.1.2.1 Tryd.underlying29 rfl (by kernel_rfl) ?_)
         | fail)
       refine (takes_ok A t HZ.out (Sc.new s c e0) HS63.out k m HKL.out.1 (Nat.le_trans hlt HKL.out.2) gx wr (HM.out wr HP.out.1.1) HX.out _ _ (HV.out wr HP.out.1.1)).mono ?_
       rintro e wc ⟨q1,rfl,hq1,hbc⟩
       replace HX:=Lib.hid (HX.out.below hbc)
       replace HP:=Lib.hid (HP.out.next hbc)
       have HQ1:=Lib.hid hq1
       clear hq1 hbc
       go_wp2_with (first
         | (refine wpList_load_row rfl 29 (.tmp 6) rfl (w.heap.size+1) rfl 29 #[.int .i64 u.kind,.int .u64 (Oc.U u.w0),.int .u64 (Oc.U u.w1),.int .u64 (Oc.U u.w2),.int .u64 (Oc.U u.w3),.slice p2 u.subs.length c2,.int .i64 u.num,.int .i64 u.least,.int .i64 u.most,.bool u.bare] (0,0) _ HP.out.1.2.2.1 Tryd.underlying29 rfl (by kernel_rfl) ?_)
         | fail)
       refine (takes_ok A u HZ2.out (Sc.new s c e0) HS63.out m l (Nat.le_trans hlt HKL.out.2) HKL.out.2 gx wc (HM.out wc HP.out.1.1) HX.out _ _ (HV2.out wc HP.out.1.1)).mono ?_
       rintro e wd ⟨q2,rfl,hq2,hbd⟩
       replace HX:=Lib.hid (HX.out.below hbd)
       replace HP:=Lib.hid (HP.out.next hbd)
       have HQN:=Lib.hid (show (q || (q1 && q2))=true ↔ ∃ j,k ≤ j∧j < m+1∧Tr.tk (Sc.new s c e0) t k j∧Tr.tk (Sc.new s c e0) u j l from by
         rw [Bool.or_eq_true,Bool.and_eq_true,HQ.out,HQ1.out,hq2]
         constructor
         · rintro (⟨j,h1,h2,h3⟩ | h)
           · exact ⟨j,h1,by omega,h3⟩
           · exact ⟨m,hkm,by omega,h⟩
         · rintro ⟨j,h1,h2,h3⟩
           by_cases e:j=m
           · subst e;exact .inr h3
           · exact .inl ⟨j,h1,by omega,h3⟩)
       clear hq2 hbd HQ HQ1
       cases q <;> cases q1 <;> cases q2
       all_goals
         go_wp2
         exact ⟨⟨m+1,_,by go_num,by omega,by omega,rfl,HP,HX,HQN⟩,by simp [intOf];omega⟩
     · have k1:decide ((m:Int) ≤ (l:Int))=false:=decide_eq_false (by omega)
       have k2:decide (m ≤ l)=false:=decide_eq_false hlt
       have HQC:=Lib.hid (show q=q0 from by
         rw [Bool.eq_iff_iff,HQ.out,HQ0.out]
         constructor
         · rintro ⟨j,-,-,h⟩;exact ⟨j,h⟩
         · rintro ⟨j,h1,h2⟩
           have a:=Tr.tk_on _ _ k j HKL.out.1 h1
           have b:=Tr.tk_on _ _ j l a.2 h2
           exact ⟨j,a.1,by omega,h1,h2⟩)
       have hqc:=HQC.out
       subst hqc
       clear HQ HQ0 HQC hkm hml
       go_wp2_with (first
         | (refine wpList_load_row rfl 29 (.tmp 5) rfl w.heap.size rfl 29 #[.int .i64 t.kind,.int .u64 (Oc.U t.w0),.int .u64 (Oc.U t.w1),.int .u64 (Oc.U t.w2),.int .u64 (Oc.U t.w3),.slice p t.subs.length cap,.int .i64 t.num,.int .i64 t.least,.int .i64 t.most,.bool t.bare] (0,0) _ HP.out.1.2.1 Tryd.underlying29 rfl (by kernel_rfl) ?_)
         | fail)
       refine (takes_ok A t HZ.out (Sc.new s c e0) HS63.out k l HKL.out.1 HKL.out.2 gx wr (HM.out wr HP.out.1.1) HX.out _ _ (HV.out wr HP.out.1.1)).mono ?_
       rintro e w1 ⟨q3,rfl,hq9,hb9⟩
       replace HX:=Lib.hid (HX.out.below hb9)
       replace HP:=Lib.hid (HP.out.next hb9)
       have HQ3:=Lib.hid hq9
       clear hq9 hb9
       go_wp2_with (first
         | (refine wpList_load_row rfl 29 (.tmp 6) rfl (w.heap.size+1) rfl 29 #[.int .i64 u.kind,.int .u64 (Oc.U u.w0),.int .u64 (Oc.U u.w1),.int .u64 (Oc.U u.w2),.int .u64 (Oc.U u.w3),.slice p2 u.subs.length c2,.int .i64 u.num,.int .i64 u.least,.int .i64 u.most,.bool u.bare] (0,0) _ HP.out.1.2.2.1 Tryd.underlying29 rfl (by kernel_rfl) ?_)
         | fail)
       refine (takes_ok A u HZ2.out (Sc.new s c e0) HS63.out k l HKL.out.1 HKL.out.2 gx w1 (HM.out w1 HP.out.1.1) HX.out _ _ (HV2.out w1 HP.out.1.1)).mono ?_
       rintro e w2 ⟨q4,rfl,hq9,hb9⟩
       replace HX:=Lib.hid (HX.out.below hb9)
       replace HP:=Lib.hid (HP.out.next hb9)
       have HQ4:=Lib.hid hq9
       clear hq9 hb9
       go_wp2_with (first
         | (refine wpList_load_row rfl 29 (.tmp 12) rfl ga rfl 29 ((Tr.several 6 [t,u]).cells (.slice pa la ca)) (0,0) _ HP.out.2.2.2.1 Tryd.underlying29 rfl (by kernel_rfl) ?_)
         | fail)
       refine (takes_ok A (Tr.several 6 [t,u]) HZA.out (Sc.new s c e0) HS63.out k l HKL.out.1 HKL.out.2 gx w2 (HM.out w2 HP.out.1.1) HX.out _ _ (HVA.out w2 HP.out.2.1)).mono ?_
       rintro e w3 ⟨q5,rfl,hq9,hb9⟩
       replace HX:=Lib.hid (HX.out.below hb9)
       replace HP:=Lib.hid (HP.out.next hb9)
       have HQ5:=Lib.hid hq9
       clear hq9 hb9
       go_wp2_with (first
         | (refine wpList_load_row rfl 29 (.tmp 13) rfl gg rfl 29 ((Tr.grp 1 t).cells (.slice pg lg cg)) (0,0) _ HP.out.2.2.2.2 Tryd.underlying29 rfl (by kernel_rfl) ?_)
         | fail)
       refine (takes_ok A (Tr.grp 1 t) HZG.out (Sc.new s c e0) HS63.out k l HKL.out.1 HKL.out.2 gx w3 (HM.out w3 HP.out.1.1) HX.out _ _ (HVG.out w3 HP.out.2.1)).mono ?_
       rintro e we ⟨q6,rfl,hq9,hb9⟩
       replace HX:=Lib.hid (HX.out.below hb9)
       replace HP:=Lib.hid (HP.out.next hb9)
       have HQ6:=Lib.hid hq9
       clear hq9 hb9
       have E2:=Lib.hid (show q5=(q3 || q4) from by rw [Bool.eq_iff_iff,Bool.or_eq_true,HQ3.out,HQ4.out,HQ5.out,Tr.tk_or])
       have E3:=Lib.hid (show q6=q3 from by rw [Bool.eq_iff_iff,HQ3.out,HQ6.out,Tr.tk_in])
       clear HQ4 HQ5 HQ6
       go_wp2_with (first
         | (refine wpList_load_row rfl 29 (.tmp 5) rfl w.heap.size rfl 29 #[.int .i64 t.kind,.int .u64 (Oc.U t.w0),.int .u64 (Oc.U t.w1),.int .u64 (Oc.U t.w2),.int .u64 (Oc.U t.w3),.slice p t.subs.length cap,.int .i64 t.num,.int .i64 t.least,.int .i64 t.most,.bool t.bare] (0,0) _ HP.out.1.2.1 Tryd.underlying29 rfl (by kernel_rfl) ?_)
         | fail)
       refine (ends_ok A t HZ.out (Sc.new s c e0) HS63.out k HKL.out.1 gx we (HM.out we HP.out.1.1) HX.out _ _ (HV.out we HP.out.1.1)).mono ?_
       rintro e wf ⟨lv,LL,rfl,hir,hlen9,hmem,hbf⟩
       replace HP:=Lib.hid (HP.out.next hbf)
       obtain ⟨p9,c9,rfl,hat⟩:=hir.ints
       have HAT:=Lib.hid hat;have HMEM:=Lib.hid hmem
       clear hir hat hmem hbf HX
       go_wp2
       go_loopw [33,215] (fun hv iv wr=>∃ (m:Nat) (q7:Bool),iv=.int .i64 (m:Int)∧m ≤ LL.length∧hv=.bool q7∧wr=wf∧Hid (q7=true ↔ ∃ i,i < m∧LL[i]? = some l)) (fun _ iv _=>LL.length - (intOf iv).toNat)
       case atStart=>exact ⟨0,false,rfl,Nat.zero_le _,rfl,rfl,Lib.hid ⟨nofun,fun ⟨i,h,_⟩=>by omega⟩⟩
       case round =>
         obtain ⟨m,q7,rfl,hm,rfl,rfl,HQ7⟩:=hrel
         by_cases hlt:m < LL.length
         · have wi:IntKind.i64.wrap ((m:Int)+1)=(m:Int)+1:=IntWalk.i64_in _ (by omega)
           have hmi:(m:Int) < (LL.length:Int):=by omega
           have hgm:LL[m]? = some LL[m]:=List.getElem?_eq_getElem hlt
           obtain ⟨gb,go,rfl,-,hcell⟩:=HAT.out m LL[m] hgm
           have HQN:=Lib.hid (show (q7 || decide (LL[m]=l))=true ↔ ∃ i,i < m+1∧LL[i]? = some l from by
             rw [Bool.or_eq_true,HQ7.out,decide_eq_true_iff]
             constructor
             · rintro (⟨i,h1,h2⟩ | h)
               · exact ⟨i,by omega,h2⟩
               · exact ⟨m,by omega,by rw [hgm,h]⟩
             · rintro ⟨i,h1,h2⟩
               by_cases e:i=m
               · subst e;rw [hgm] at h2;injection h2 with h2;exact .inr h2
               · exact .inl ⟨i,by omega,h2⟩)
           clear hgm
           generalize LL[m]=z at *
           have hzl:((z:Int) == (l:Int))=decide (z=l):=by rw [Bool.eq_iff_iff];simp;omega
           by_cases hz:z=l
           · have k3:((z:Int) == (l:Int))=true:=by simp;omega
             have k4:(z == l)=true:=by simp;omega
             have k5:decide (z=l)=true:=decide_eq_true hz
             rw [k5,Bool.or_true] at HQN
             clear hz hzl k5
             cases q7
             all_goals
               go_wp2
               exact ⟨⟨m+1,_,by go_num,by omega,rfl,by first | trivial | rfl,HQN⟩,by simp [intOf];omega⟩
           · have k3:((z:Int) == (l:Int))=false:=by simp;omega
             have k4:(z == l)=false:=by simp;omega
             have k5:decide (z=l)=false:=decide_eq_false hz
             rw [k5,Bool.or_false] at HQN
             clear hz hzl k5
             cases q7
             all_goals
               go_wp2
               exact ⟨⟨m+1,_,by go_num,by omega,rfl,by first | trivial | rfl,HQN⟩,by simp [intOf];omega⟩
         · have E4:q7=q3:=by
             rw [Bool.eq_iff_iff,HQ7.out,HQ3.out,← HMEM.out l]
             constructor
             · rintro ⟨i,-,h⟩;exact List.mem_of_getElem? h
             · intro h
               obtain ⟨i,h1,h2⟩:=List.getElem_of_mem h
               exact ⟨i,by omega,by rw [List.getElem?_eq_getElem h1,h2]⟩
           have e2:=E2.out;have e3:=E3.out
           subst e2 e3 E4
           clear E2 E3 HQ7 HQ3 HMEM HAT
           have hmn:¬ ((m:Int) < (LL.length:Int)):=by omega
           cases q <;> cases q7 <;> cases q4
           all_goals
             go_wp2
             go_ret
             exact ⟨rfl,HP.out.1.1⟩
end Go.Proofs.YtoepdfpnkmccoaaDoor
namespace Go.Proofs.YtoepdfpnkmccoaaDoor
open Go.ChangeShapes Go.WideShapes Go.ChangeAt Go.RowKit
theorem Tryd.cellsSet:Tryd.prog.cellsOf 26=4:=by kernel_rfl
theorem Tryd.cellsU64:Tryd.prog.cellsOf 24=1:=by kernel_rfl
theorem word_of {n:Int} (h:(Lit.int .u64 n).wf=true):∃ x:BitVec 64,n=Oc.U x:=by
 simp only [Lit.wf,IntKind.min,IntKind.max,IntKind.signed,IntKind.bits,Bool.and_eq_true] at h
 refine ⟨BitVec.ofInt 64 n, ?_⟩
 unfold Oc.U;rw [BitVec.toNat_ofInt]
 have h1:=h.1;have h2:=h.2
 simp at h1 h2
 omega
theorem open_words {H:Type} {enc:TypeId × Value→H} {w:World} {base:Nat} {spare:Nat→Bool} {held:Bool} {fuel:Nat} {c0 c1 c2 c3:Value} {x:DataW H × List MemPlace}
   (h:DataW.trod enc Tryd.prog w base spare held fuel 26 [c0,c1,c2,c3]=some x):∃ a b c d:BitVec 64,c0=.int .u64 (Oc.U a)∧c1=.int .u64 (Oc.U b)∧c2=.int .u64 (Oc.U c)∧c3=.int .u64 (Oc.U d):=by
 obtain ⟨y0,y1,y2,y3,n,_,h0,h1,h2,h3⟩:=trod_array4 Tryd.underlying26 Tryd.cellsU64 h
 obtain ⟨n0,e0,-,w0⟩:=DataW.trod_int Tryd.underlying24 h0
 obtain ⟨n1,e1,-,w1⟩:=DataW.trod_int Tryd.underlying24 h1
 obtain ⟨n2,e2,-,w2⟩:=DataW.trod_int Tryd.underlying24 h2
 obtain ⟨n3,e3,-,w3⟩:=DataW.trod_int Tryd.underlying24 h3
 obtain ⟨a,rfl⟩:=word_of w0
 obtain ⟨b,rfl⟩:=word_of w1
 obtain ⟨c,rfl⟩:=word_of w2
 obtain ⟨d,rfl⟩:=word_of w3
 simp only [List.cons.injEq,and_true] at e0 e1 e2 e3
 exact ⟨a,b,c,d,e0,e1,e2,e3⟩
theorem Tryd.own:ownKnob Tryd.prog.godebug=none:=by kernel_rfl
theorem Tryd.laidOut:laidOutB Tryd.prog=true:=by kernel_rfl
end Go.Proofs.YtoepdfpnkmccoaaDoor
namespace Go.Proofs.YtoepdfpnkmccoaaDoor
open Go.ChangeShapes Go.WideShapes Go.ChangeAt Go.RowKit
theorem Tryd.cellsNodeO:Tryd.prog.cellsOf 29=10:=by kernel_rfl
theorem Tryd.cellsIntO:Tryd.prog.cellsOf 3=1:=by kernel_rfl
theorem Tryd.cellsBoolO:Tryd.prog.cellsOf 4=1:=by kernel_rfl
theorem Tryd.cellsNodesO:Tryd.prog.cellsOf 27=1:=by kernel_rfl
theorem Tryd.bytesNodeO:Tryd.prog.bytesOf 29=96:=by kernel_rfl
theorem list10 {α:Type} {l:List α} (h:l.length=10):∃ a0 a1 a2 a3 a4 a5 a6 a7 a8 a9,l=[a0,a1,a2,a3,a4,a5,a6,a7,a8,a9]:=by
 match l,h with
 | [a0,a1,a2,a3,a4,a5,a6,a7,a8,a9],_=>exact ⟨a0,a1,a2,a3,a4,a5,a6,a7,a8,a9,rfl⟩
theorem list7 {α:Type} {l:List α} (h:l.length=7):∃ a0 a1 a2 a3 a4 a5 a6,l=[a0,a1,a2,a3,a4,a5,a6]:=by
 match l,h with
 | [a0,a1,a2,a3,a4,a5,a6],_=>exact ⟨a0,a1,a2,a3,a4,a5,a6,rfl⟩
theorem weightsAll_mem {H:Type} {P:Program} {e:TypeId} {k:Nat} {d:DataW H} : ∀ {l:List (DataW H)},d ∈ l→k ∈ d.weights P e→k ∈ DataW.weightsAll P e l
 | [],h,_=>by cases h
 | x :: l,h,hk=>by
   rw [DataW.weightsAll]
   rcases List.mem_cons.1 h with rfl | h
   · exact List.mem_append_left _ hk
   · exact List.mem_append_right _ (weightsAll_mem h hk)
theorem add_at {a:Addr} (h:a.spot=none) (m:Nat):a.add m=⟨a.block,a.off+m,none⟩:=by
 unfold Addr.add
 split
 · rename_i h0;subst h0;cases a;simp_all
 · rfl
theorem open_node {H:Type} {enc:TypeId × Value→H} {W:World} {base:Nat} {spare:Nat→Bool} {held:Bool} : ∀ (fuel:Nat) (cs:List Value) (x:DataW H × List MemPlace),
   DataW.trod enc Tryd.prog W base spare held fuel 29 cs=some x→(∀ k,k ∈ x.1.weights Tryd.prog 29→k ≤ 140737488351232) →
   ∃ (t:Tr) (s:Value),cs=(t.cells s).toList∧TreesAt W (fun _=>True) s t.subs:=by
 intro fuel
 induction fuel using Nat.strongRecOn with
 | _ fuel ih =>
   intro cs x h hw
   obtain ⟨xs,n,rfl,rfl,hlen,hxs,hf⟩:=DataW.trod_struct Tryd.underlying29 h
   rw [Tryd.cellsNodeO] at hlen
   obtain ⟨c0,c1,c2,c3,c4,c5,c6,c7,c8,c9,rfl⟩:=list10 hlen
   obtain ⟨y0,y1,y2,y3,y4,y5,y6,rfl⟩:=list7 (by simpa using hxs)
   have f0:=hf 0 _ rfl;have f1:=hf 1 _ rfl;have f2:=hf 2 _ rfl;have f3:=hf 3 _ rfl;have f4:=hf 4 _ rfl;have f5:=hf 5 _ rfl;have f6:=hf 6 _ rfl
   simp only [List.getElem_toArray,List.getElem_cons_zero,List.getElem_cons_succ,Tryd.cellsIntO,Tryd.cellsBoolO,Tryd.cellsNodesO,Tryd.cellsSet,List.drop_zero,List.drop_succ_cons,List.take_succ_cons,List.take_zero,List.getElem?_cons_zero,List.getElem?_cons_succ] at f0 f1 f2 f3 f4 f5 f6
   obtain ⟨k,e0,-,-⟩:=DataW.trod_int Tryd.underlying3 f0
   obtain ⟨a,b,c,d,rfl,rfl,rfl,rfl⟩:=open_words f1
   obtain ⟨nn,e3,-,-⟩:=DataW.trod_int Tryd.underlying3 f3
   obtain ⟨lo,e4,-,-⟩:=DataW.trod_int Tryd.underlying3 f4
   obtain ⟨hi,e5,-,-⟩:=DataW.trod_int Tryd.underlying3 f5
   obtain ⟨br,e6,-⟩:=DataW.trod_bool Tryd.underlying4 f6
   simp only [List.cons.injEq,and_true] at e0 e3 e4 e5 e6
   subst e0 e3 e4 e5 e6
   have fin:∀ (ts:List Tr),TreesAt W (fun _=>True) c5 ts→∃ (t:Tr) (s:Value),[.int .i64 k,.int .u64 (Oc.U a),.int .u64 (Oc.U b),.int .u64 (Oc.U c),.int .u64 (Oc.U d),c5,.int .i64 nn,.int .i64 lo,.int .i64 hi,.bool br]=(t.cells s).toList∧TreesAt W (fun _=>True) s t.subs :=
     fun ts hts=>⟨.node k a b c d ts nn lo hi br,c5,rfl,hts⟩
   rcases DataW.trod_slice Tryd.underlying27 f2 with ⟨hc5,-⟩ | ⟨ad,len,cap,elems,rest,n',rfl,hc5,hx,-,-,-,hel,hall,-,-⟩
   · simp only [List.cons.injEq,and_true] at hc5
     subst hc5
     exact fin [] TreesAt.nil
   · simp only [List.cons.injEq,and_true] at hc5
     subst hc5
     rw [Tryd.cellsNodeO] at hall
     have hwn:∀ k,k ∈ y2.1.weights Tryd.prog 27→k ≤ 140737488351232:=fun k hk=>hw k (by
       rw [DataW.weights,Tryd.underlying29]
       exact DataW.weights_mem_each (j:=2) rfl rfl k hk)
     have hlen96:len * 96 ≤ 140737488351232:=by
       have:=hwn ((elems.length+rest.length) * 96) (by
         rw [hx]
         simp only [DataW.weights,Tryd.underlying27,Tryd.bytesNodeO,List.length_map]
         exact List.mem_cons_self)
       rw [hel] at this
       have h2:len * 96 ≤ (len+rest.length) * 96:=Nat.mul_le_mul_right _ (by omega)
       omega
     have key:∀ i,∃ (t:Tr) (s:Value),i < len→(∃ b o,some ad=some ⟨b,o,none⟩∧TenAt W b (o+i * 10) t s)∧TreesAt W (fun _=>True) s t.subs:=by
       intro i
       by_cases hi:i < len
       · have h1:=hall i hi
         rw [List.getElem?_eq_getElem (by omega)] at h1
         obtain ⟨csi,hcs,htr⟩:=Option.bind_eq_some_iff.1 h1
         obtain ⟨t,s,hts,hsub⟩:=ih n' (by omega) csi _ htr (fun k hk=>hwn k (by
           rw [hx]
           simp only [DataW.weights,Tryd.underlying27]
           refine List.mem_cons_of_mem _ (List.mem_append_left _ (weightsAll_mem (d:=elems[i].1) ?_ hk))
           exact List.mem_map.2 ⟨elems[i],List.getElem_mem _,rfl⟩))
         obtain ⟨-,-,hcell⟩:=World.cells?_some hcs
         have hspot:ad.spot=none:=by
           have h0:=hall 0 (by omega)
           rw [List.getElem?_eq_getElem (by omega)] at h0
           obtain ⟨cs0,hcs0,htr0⟩:=Option.bind_eq_some_iff.1 h0
           obtain ⟨t0,s0,hts0,-⟩:=ih n' (by omega) cs0 _ htr0 (fun k hk=>hwn k (by
             rw [hx]
             simp only [DataW.weights,Tryd.underlying27]
             refine List.mem_cons_of_mem _ (List.mem_append_left _ (weightsAll_mem (d:=elems[0].1) ?_ hk))
             exact List.mem_map.2 ⟨elems[0],List.getElem_mem _,rfl⟩))
           have h2:=(World.cells?_some hcs0).2.2 0 (by omega)
           rw [hts0] at h2
           have e:(ad.add (0 * 10)).add 0=ad:=by simp [Addr.add]
           rw [e] at h2
           cases hsp:ad.spot with
           | none=>rfl
           | some z =>
             unfold World.cell? at h2
             rw [hsp] at h2
             split at h2 <;> simp [Tr.cells] at h2
         have hadd:∀ j,(ad.add (i * 10)).add j=⟨ad.block,ad.off+i * 10+j,none⟩:=fun j=>by
           rw [add_at hspot,add_at (a:=⟨ad.block,ad.off+i * 10,none⟩) rfl]
         refine ⟨t,s,fun _=>⟨⟨ad.block,ad.off,by cases ad;simp_all, ?_⟩,hsub⟩⟩
         rw [hts] at hcell
         have get:∀ j u,j < 10→(t.cells s).toList[j]? = some u→W.cell? ⟨ad.block,ad.off+i * 10+j,none⟩=some u:=fun j u hj hu=>by
           rw [← hadd j,hcell j hj,hu]
         exact ⟨get 0 _ (by omega) rfl,get 1 _ (by omega) rfl,get 2 _ (by omega) rfl,get 3 _ (by omega) rfl,get 4 _ (by omega) rfl,get 5 _ (by omega) rfl,get 6 _ (by omega) rfl,get 7 _ (by omega) rfl,get 8 _ (by omega) rfl,get 9 _ (by omega) rfl⟩
       · exact ⟨.node 0 0#64 0#64 0#64 0#64 [] 0 0 0 false,.nilIface,fun h=>absurd h hi⟩
     obtain ⟨T,hT⟩:=Classical.axiomOfChoice key
     obtain ⟨S,hS⟩:=Classical.axiomOfChoice hT
     have hl:((List.range len).map T).length=len:=by simp
     have hg:∀ i t,((List.range len).map T)[i]? = some t→i < len∧t=T i:=fun i t h=>by
       rw [List.getElem?_map] at h
       by_cases hi:i < len
       · rw [List.getElem?_range hi] at h
         exact ⟨hi,(Option.some.inj h).symm⟩
       · rw [List.getElem?_eq_none (by simp;omega)] at h;cases h
     have:=TreesAt.mk (w:=W) (B:=fun _=>True) (some ad) cap ((List.range len).map T) S (by rw [hl];exact hlen96) (fun i t h=>by
       obtain ⟨hi,rfl⟩:=hg i t h
       obtain ⟨⟨b,o,e,ht⟩,-⟩:=hS i hi
       exact ⟨b,o,e,trivial,ht⟩) (fun i t h=>by
       obtain ⟨hi,rfl⟩:=hg i t h
       exact (hS i hi).2)
     rw [hl] at this
     exact fin _ this
theorem open_tree {H:Type} {enc:TypeId × Value→H} {w:World} {base b0:Nat} {spare:Nat→Bool} {held:Bool} {v:Value} {y:DataW H} {ps:List MemPlace} {r:Reach}
   (hv:Value.okWide Tryd.prog w r b0 29 v) (h:DataW.Trod enc Tryd.prog w base spare held 29 v y ps) (hw:∀ k,k ∈ y.weights Tryd.prog 29→k ≤ 140737488351232):∃ t,NodeV w (fun _=>True) v t:=by
 unfold Value.okWide at hv
 rw [Tryd.underlying29] at hv
 obtain ⟨cs,rfl,hsz,-⟩:=hv
 obtain ⟨fuel,hf⟩:=h
 obtain ⟨t,s,e,hs⟩:=open_node fuel _ _ hf hw
 refine ⟨t,s, ?_,hs⟩
 simp only [Value.cells] at e
 exact congrArg Value.agg (Array.toList_inj.1 e)
end Go.Proofs.YtoepdfpnkmccoaaDoor
namespace Go.Proofs.YtoepdfpnkmccoaaDoor
open Go.ChangeShapes Go.WideShapes Go.ChangeAt Go.RowKit
theorem im_laid_split {P:Program} {l:List (String × DataW Unit)} {W:World} (h:laidMetH P l W):laidMet P (l.filter fun x=>x.2.handleName?.isNone) W:=by
 unfold laidMetH at h
 generalize hfl:(l.filter fun x=>x.2.handleName?.isSome)=fl at h
 cases fl with
 | nil =>
   have e:(l.filter fun x=>x.2.handleName?.isNone)=l:=by
     rw [List.filter_eq_self]
     intro x hx
     have:=List.filter_eq_nil_iff.1 hfl x hx
     cases hh:x.2.handleName? with
     | none=>rfl
     | some y=>rw [hh] at this;simp at this
   rw [e]
   exact h
 | cons x r=>exact h.1
end Go.Proofs.YtoepdfpnkmccoaaDoor
namespace Go.Proofs.YtoepdfpnkmccoaaDoor
open Go.ChangeShapes Go.WideShapes Go.ChangeAt Go.RowKit
theorem Tryd.cellsViewR:Tryd.prog.cellsOf 41=3:=by kernel_rfl
theorem Tryd.cellsStrR:Tryd.prog.cellsOf 9=1:=by kernel_rfl
theorem Tryd.cellsIntR:Tryd.prog.cellsOf 3=1:=by kernel_rfl
theorem Tryd.gTabR : Tryd.prog.globalNamed "math/bits.deBruijn64tab" = some 21 := by kernel_rfl
theorem Tryd.tTabR:(Tryd.prog.globals[21]?).map (·.type)=some 168:=by kernel_rfl
theorem Tryd.cellsU8R:Tryd.prog.cellsOf 5=1:=by kernel_rfl
theorem tabR_datum {H:Type} : (Rows.laid_math_bits_deBruijn64tab:DataW H)=.agg (Lib.deBruijn64tab.map fun (n:Nat)=>.lit (.int .u8 (n:Int))):=rfl
theorem tabR_length:Lib.deBruijn64tab.length=64:=by decide
theorem tabR_of_head {W : World} {r : List (String × DataW Unit)} (h : laidMet Tryd.prog (("math/bits.deBruijn64tab", Rows.laid_math_bits_deBruijn64tab) :: r) W) : ReEnv W := by
 obtain ⟨ps,⟨g0,t0,cs0,f0,p0,q0,hg0,ht0,hv0,hd0,_,_⟩,_,_⟩:=h
 obtain rfl:=Option.some.inj (Tryd.gTabR.symm.trans hg0)
 obtain rfl:=Option.some.inj (Tryd.tTabR.symm.trans ht0)
 obtain ⟨xs,m,rfl,hx,hlen,hn,hel⟩:=DataW.trod_array Tryd.underlying168 hd0
 rw [tabR_datum] at hx
 simp only [Prod.mk.injEq,DataW.agg.injEq] at hx
 have hT:TabAt 21 Lib.deBruijn64tab W:=by
   intro j hj
   rw [tabR_length] at hj
   have h1:=hel j hj
   have hjx:j < xs.length:=by omega
   rw [Tryd.cellsU8R,Nat.mul_one,List.getElem?_eq_getElem hjx] at h1
   obtain ⟨n,hc,hd,-⟩:=DataW.trod_int Tryd.underlying5 h1
   have h2:(Lib.deBruijn64tab.map fun (n:Nat)=>(DataW.lit (.int .u8 (n:Int)):DataW _))[j]? = some xs[j].1:=by
     rw [hx.1,List.getElem?_map,List.getElem?_eq_getElem hjx];rfl
   rw [List.getElem?_map,List.getElem?_eq_getElem (by rw [tabR_length];exact hj),hd] at h2
   simp only [Option.map_some,Option.some.injEq,DataW.lit.injEq,Lit.int.injEq,true_and] at h2
   have h3:cs0[j]? = some (.int .u8 n):=by
     rw [← Array.getElem?_toList]
     have:(cs0.toList.drop j)[0]? = some (.int .u8 n):=by
       have:=congrArg (fun l=>l[0]?) hc
       simpa [List.getElem?_take] using this
     simpa using this
   rw [World.var?_cell hg0 hv0 j,h3,← h2]
   simp [List.getD,List.getElem?_eq_getElem (show j < Lib.deBruijn64tab.length by rw [tabR_length];exact hj)]
 exact ⟨hT,block_lt_of_cell (hT 0 (by rw [tabR_length];omega))⟩
theorem tabR_of : ∀ {l : List (String × DataW Unit)} {W : World}, laidMet Tryd.prog l W → ("math/bits.deBruijn64tab", Rows.laid_math_bits_deBruijn64tab) ∈ l → ReEnv W
 | [],_,_,hm=>by cases hm
 | x :: l,W,h,hm=>by
   rcases List.mem_cons.1 hm with e | hm
   · subst e;exact tabR_of_head h
   · exact tabR_of h.tail hm
def errFew : List (String × DataW Unit) := [("trawl/api.ErrTooBig", Rows.laid_trawl_api_ErrTooBig), ("trawl/api.ErrLong", Rows.laid_trawl_api_ErrLong), ("trawl/api.ErrTree", Rows.laid_trawl_api_ErrTree), ("trawl/api.ErrDeep", Rows.laid_trawl_api_ErrDeep), ("trawl/api.ErrArgument", Rows.laid_trawl_api_ErrArgument)]
theorem errsT_of {W:World} {l:List (String × DataW Unit)} (h:laidMet Tryd.prog l W) (hl:∀ x,x ∈ errFew→x ∈ l):∃ A,ErrsT W A:=by
 obtain ⟨a9, h9⟩ := sent_of (t := errPre ++ errWords.getD 9 []) (g := errVars.getD 9 0) h (hl _ (show ("trawl/api.ErrTooBig", sentDatum (errPre ++ errWords.getD 9 [])) ∈ errFew from List.mem_cons_self)) (by kernel_rfl) (by kernel_rfl)
 obtain ⟨a11, h11⟩ := sent_of (t := errPre ++ errWords.getD 11 []) (g := errVars.getD 11 0) h (hl _ (show ("trawl/api.ErrLong", sentDatum (errPre ++ errWords.getD 11 [])) ∈ errFew from List.mem_cons_of_mem _ List.mem_cons_self)) (by kernel_rfl) (by kernel_rfl)
 obtain ⟨a12, h12⟩ := sent_of (t := errPre ++ errWords.getD 12 []) (g := errVars.getD 12 0) h (hl _ (show ("trawl/api.ErrTree", sentDatum (errPre ++ errWords.getD 12 [])) ∈ errFew from List.mem_cons_of_mem _ (List.mem_cons_of_mem _ List.mem_cons_self))) (by kernel_rfl) (by kernel_rfl)
 obtain ⟨a13, h13⟩ := sent_of (t := errPre ++ errWords.getD 13 []) (g := errVars.getD 13 0) h (hl _ (show ("trawl/api.ErrDeep", sentDatum (errPre ++ errWords.getD 13 [])) ∈ errFew from List.mem_cons_of_mem _ (List.mem_cons_of_mem _ (List.mem_cons_of_mem _ List.mem_cons_self)))) (by kernel_rfl) (by kernel_rfl)
 obtain ⟨a14, h14⟩ := sent_of (t := errPre ++ errWords.getD 14 []) (g := errVars.getD 14 0) h (hl _ (show ("trawl/api.ErrArgument", sentDatum (errPre ++ errWords.getD 14 [])) ∈ errFew from List.mem_cons_of_mem _ (List.mem_cons_of_mem _ (List.mem_cons_of_mem _ (List.mem_cons_of_mem _ List.mem_cons_self))))) (by kernel_rfl) (by kernel_rfl)
 refine ⟨fun k=>if k=9 then a9 else if k=11 then a11 else if k=12 then a12 else if k=13 then a13 else a14,fun k hk=>?_⟩
 simp only [List.mem_cons,List.not_mem_nil,or_false] at hk
 rcases hk with rfl | rfl | rfl | rfl | rfl
 · exact h9
 · exact h11
 · exact h12
 · exact h13
 · exact h14
theorem reT_env_of {l : List (String × DataW Unit)} {W : World} (h : laidMetH Tryd.prog l W) (hl : ∀ x, x ∈ errFew → x ∈ l) (ht : ("math/bits.deBruijn64tab", Rows.laid_math_bits_deBruijn64tab) ∈ l) : ∃ A, ReMemT A W := by
 have h':=im_laid_split h
 obtain ⟨A,hA⟩:=errsT_of h' (fun x hx=>List.mem_filter.2 ⟨hl x hx,by simp only [errFew,List.mem_cons,List.not_mem_nil,or_false] at hx;rcases hx with rfl | rfl | rfl | rfl | rfl <;> rfl⟩)
 exact ⟨A,tabR_of h' (List.mem_filter.2 ⟨ht,rfl⟩),hA⟩
theorem open_view {H:Type} {enc:TypeId × Value→H} {w:World} {base b0:Nat} {spare:Nat→Bool} {held:Bool} {v:Value} {y:DataW H} {ps:List MemPlace} {r:Reach}
   (hv:Value.okWide Tryd.prog w r b0 41 v) (h:DataW.Trod enc Tryd.prog w base spare held 41 v y ps):∃ (s:ByteArray) (c e:Int),v=.agg #[.string s,.int .i64 c,.int .i64 e]:=by
 unfold Value.okWide at hv
 rw [Tryd.underlying41] at hv
 obtain ⟨cs,rfl,hsz,-⟩:=hv
 rw [Tryd.cellsViewR] at hsz
 obtain ⟨c0,c1,c2,rfl⟩:∃ c0 c1 c2,cs=#[c0,c1,c2]:=by
   obtain ⟨l⟩:=cs
   match l,hsz with
   | [c0,c1,c2],_=>exact ⟨c0,c1,c2,rfl⟩
 obtain ⟨fuel,hf⟩:=h
 obtain ⟨y0,y1,y2,m,_,_,h0,h1,h2⟩:=Deep.trod_struct3 Tryd.underlying41 hf
 simp only [Tryd.cellsStrR,Tryd.cellsIntR,List.drop_zero] at h0 h1 h2
 obtain ⟨s,e0,-⟩:=DataW.trod_string Tryd.underlying9 h0
 obtain ⟨c,e1,-,-⟩:=DataW.trod_int Tryd.underlying3 h1
 obtain ⟨e,e2,-,-⟩:=DataW.trod_int Tryd.underlying3 h2
 have x0:c0=.string s:=(List.cons.inj (show [c0]=[Value.string s] from e0)).1
 have x1:c1=.int .i64 c:=(List.cons.inj (show [c1]=[Value.int .i64 c] from e1)).1
 have x2:c2=.int .i64 e:=(List.cons.inj (show [c2]=[Value.int .i64 e] from e2)).1
 subst x0 x1 x2
 exact ⟨s,c,e,rfl⟩
end Go.Proofs.YtoepdfpnkmccoaaDoor
