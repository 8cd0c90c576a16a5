/- Part 3 of what these proofs need. -/
import Derived.ChangeOld
import Derived.Deep.Slices
import Derived.Laws.IdiomArrays
import Derived.Lib.SmallJoins
import Derived.SizedLaws
import Derived.DataReads
import Derived.LaidLaws
import Derived.ChangeSame
import Derived.ChangeMaps5
import Derived.Deep.Strs
import Derived.ChangeArms
import Derived.Test.YtnaoiglbjkjogaaDoorAg2
set_option maxRecDepth 100000
set_option maxHeartbeats 16000000
namespace Go.Proofs.YtnaoiglbjkjogaaDoor
open Go.RowKit
def algPairs (t u:Tr):List (Tr × Tr):=[((Tr.several 6 [t,u]),(Tr.several 6 [u,t])),((Tr.several 5 [(Tr.several 5 [t,u]),t]),(Tr.several 5 [t,(Tr.several 5 [u,t])])),((Tr.several 5 [t,(Tr.several 5 [])]),t),((Tr.several 6 [t,Tr.noByte]),t),((Tr.rep 0 (-1) (Tr.rep 0 (-1) t)),(Tr.rep 0 (-1) t)),((Tr.rep 0 (1) t),(Tr.several 6 [(Tr.several 5 []),t])),((Tr.several 5 [(Tr.several 6 [t,u]),t]),(Tr.several 6 [(Tr.several 5 [t,t]),(Tr.several 5 [u,t])]))]
def algK (t u:Tr) (i:Nat):Kd:=([.nd t,.nd u,.ls [t,u],.nd (Tr.several 6 [t,u]),.nd u,.nd t,.ls [u,t],.nd (Tr.several 6 [u,t]),.pr (Tr.several 6 [t,u]) (Tr.several 6 [u,t]),.nd t,.nd u,.ls [t,u],.nd (Tr.several 5 [t,u]),.nd t,.ls [(Tr.several 5 [t,u]),t],.nd (Tr.several 5 [(Tr.several 5 [t,u]),t]),.nd t,.nd u,.nd t,.ls [u,t],.nd (Tr.several 5 [u,t]),.ls [t,(Tr.several 5 [u,t])],.nd (Tr.several 5 [t,(Tr.several 5 [u,t])]),.pr (Tr.several 5 [(Tr.several 5 [t,u]),t]) (Tr.several 5 [t,(Tr.several 5 [u,t])]),.nd t,.nd (Tr.several 5 []),.ls [t,(Tr.several 5 [])],.nd (Tr.several 5 [t,(Tr.several 5 [])]),.nd t,.pr (Tr.several 5 [t,(Tr.several 5 [])]) t,.nd t,.nd Tr.noByte,.ls [t,Tr.noByte],.nd (Tr.several 6 [t,Tr.noByte]),.nd t,.pr (Tr.several 6 [t,Tr.noByte]) t,.nd (Tr.rep 0 (-1) t),.nd (Tr.rep 0 (-1) (Tr.rep 0 (-1) t)),.nd (Tr.rep 0 (-1) t),.pr (Tr.rep 0 (-1) (Tr.rep 0 (-1) t)) (Tr.rep 0 (-1) t),.nd t,.nd (Tr.rep 0 (1) t),.nd (Tr.several 5 []),.nd t,.ls [(Tr.several 5 []),t],.nd (Tr.several 6 [(Tr.several 5 []),t]),.pr (Tr.rep 0 (1) t) (Tr.several 6 [(Tr.several 5 []),t]),.nd t,.nd u,.ls [t,u],.nd (Tr.several 6 [t,u]),.nd t,.ls [(Tr.several 6 [t,u]),t],.nd (Tr.several 5 [(Tr.several 6 [t,u]),t]),.nd t,.nd t,.ls [t,t],.nd (Tr.several 5 [t,t]),.nd u,.nd t,.ls [u,t],.nd (Tr.several 5 [u,t]),.ls [(Tr.several 5 [t,t]),(Tr.several 5 [u,t])],.nd (Tr.several 6 [(Tr.several 5 [t,t]),(Tr.several 5 [u,t])]),.pr (Tr.several 5 [(Tr.several 6 [t,u]),t]) (Tr.several 6 [(Tr.several 5 [t,t]),(Tr.several 5 [u,t])]),.tb (algPairs t u),.tb (algPairs t u)]:List Kd).getD i (.nd t)
theorem lt67 (i:Nat) (h:i < 67):i=0 ∨ i=1 ∨ i=2 ∨ i=3 ∨ i=4 ∨ i=5 ∨ i=6 ∨ i=7 ∨ i=8 ∨ i=9 ∨ i=10 ∨ i=11 ∨ i=12 ∨ i=13 ∨ i=14 ∨ i=15 ∨ i=16 ∨ i=17 ∨ i=18 ∨ i=19 ∨ i=20 ∨ i=21 ∨ i=22 ∨ i=23 ∨ i=24 ∨ i=25 ∨ i=26 ∨ i=27 ∨ i=28 ∨ i=29 ∨ i=30 ∨ i=31 ∨ i=32 ∨ i=33 ∨ i=34 ∨ i=35 ∨ i=36 ∨ i=37 ∨ i=38 ∨ i=39 ∨ i=40 ∨ i=41 ∨ i=42 ∨ i=43 ∨ i=44 ∨ i=45 ∨ i=46 ∨ i=47 ∨ i=48 ∨ i=49 ∨ i=50 ∨ i=51 ∨ i=52 ∨ i=53 ∨ i=54 ∨ i=55 ∨ i=56 ∨ i=57 ∨ i=58 ∨ i=59 ∨ i=60 ∨ i=61 ∨ i=62 ∨ i=63 ∨ i=64 ∨ i=65 ∨ i=66:=by omega
theorem alg_all (x:Sc) (t u:Tr):∀ p,p ∈ algPairs t u→∀ i j,Tr.tk x p.1 i j ↔ Tr.tk x p.2 i j:=by
 intro p hp i j
 unfold algPairs at hp
 simp only [List.mem_cons,List.not_mem_nil,or_false] at hp
 rcases hp with rfl | rfl | rfl | rfl | rfl | rfl | rfl
 · exact Tr.alg_swap _ _ _ _ _
 · exact Tr.alg_row _ _ _ _ _
 · exact Tr.alg_empty _ _ _ _
 · exact Tr.alg_nothing _ _ _ _
 · exact Tr.alg_star _ _ _ _
 · exact Tr.alg_maybe _ _ _ _
 · exact Tr.alg_out _ _ _ _ _
theorem alg_dp (t u:Tr) (ht:t.dpT ≤ 5000) (hu:u.dpT ≤ 5000):∀ p,p ∈ algPairs t u→p.1.dpT ≤ 1000000∧p.2.dpT ≤ 1000000:=by
 intro p hp
 have s:=Tr.dp_several
 have r:=Tr.dp_rep
 have h1:(Tr.several 5 []).dpT ≤ 5000:=by decide
 have h2:Tr.noByte.dpT ≤ 5000:=by decide
 have a1:=s 6 (by decide) t u;have a2:=s 6 (by decide) u t
 have b1:=s 5 (by decide) t u;have b2:=s 5 (by decide) (Tr.several 5 [t,u]) t;have b3:=s 5 (by decide) u t;have b4:=s 5 (by decide) t (Tr.several 5 [u,t])
 have c1:=s 5 (by decide) t (Tr.several 5 []);have c2:=s 6 (by decide) t Tr.noByte
 have d1:=r 0 (-1) t;have d2:=r 0 (-1) (Tr.rep 0 (-1) t);have d3:=r 0 1 t
 have e1:=s 6 (by decide) (Tr.several 5 []) t
 have f1:=s 5 (by decide) (Tr.several 6 [t,u]) t;have f2:=s 5 (by decide) t t;have f3:=s 6 (by decide) (Tr.several 5 [t,t]) (Tr.several 5 [u,t])
 unfold algPairs at hp
 simp only [List.mem_cons,List.not_mem_nil,or_false] at hp
 rcases hp with rfl | rfl | rfl | rfl | rfl | rfl | rfl <;> constructor <;> dsimp only <;> omega
theorem code_okA {t:Tr} {n:Nat} {ps:List Int} (hc:t.checkC=0) (hn:n ≤ 63) (hp:∀ p,p ∈ ps→0 ≤ p∧p ≤ n):Re.code t n ps=0:=Re.code_zero.2 ⟨hc,hn,hp⟩
theorem ends_listA (A:Nat→Addr) (t:Tr) (hc:t.checkC=0) (x:Sc) (hn:x.t.size ≤ 63) (k:Nat) (hk:k ≤ x.t.size) (b:Nat) (w:World) (hM:ReMemT A w) (hx:ScAt w b x) (B:Nat→Prop) (v:Value) (hv:NodeV w B v t) :
   Calls Tryd.prog 25 #[v,.pointer (some ⟨b,0,none⟩),.int .i64 (k:Int)] w fun e w'=>∃ u,e=.returned (.tuple #[u,.nilIface])∧IntsAt w' u (Re.up (Tr.tabT x t k).getLsbD 64 0)∧Below w.heap.size w w':=by
 have hz:=Tr.checkC_zero.1 hc
 refine (reendsT_any A t (by omega) x b k w hM hx B v hv).mono ?_
 rintro e w' he
 have h0:Re.code t x.t.size [(k:Int)]=0:=code_okA hc hn (by simp;omega)
 obtain ⟨u,rfl,hi,hb⟩:=he.yes h0
 rw [Int.toNat_natCast] at hi
 exact ⟨u,rfl,hi.ints,hb⟩
def PR3 (g0:World) (n m v:Array Value) (w:World):Prop:=Below g0.heap.size g0 w∧w.heap[g0.heap.size]? = some (.cells n 37)∧w.heap[g0.heap.size+1]? = some (.cells m 37)∧w.heap[g0.heap.size+1+1]? = some (.cells v 39)
theorem PR3.next {g0 w w':World} {n m v:Array Value} (h:PR3 g0 n m v w) (hb:Below w.heap.size w w'):PR3 g0 n m v w':=⟨h.1.trans (hb.mono h.1.size),keep_blk hb h.2.1,keep_blk hb h.2.2.1,keep_blk hb h.2.2.2⟩
theorem PR3.view {g0 w:World} {n m:Array Value} {s:ByteArray} {c e0:Int} (h:PR3 g0 n m #[.string s,.int .i64 c,.int .i64 e0] w) :
   w.cell? ⟨g0.heap.size+1+1,0,none⟩=some (.string s)∧w.cell? ⟨g0.heap.size+1+1,1,none⟩=some (.int .i64 c)∧w.cell? ⟨g0.heap.size+1+1,2,none⟩=some (.int .i64 e0):=by
 simp [World.cell?,h.2.2.2]
theorem three_newA (w:World) (a b c:Obj):(((w.alloc a).alloc b).alloc c).heap[w.heap.size]? = some a∧(((w.alloc a).alloc b).alloc c).heap[w.heap.size+1]? = some b∧(((w.alloc a).alloc b).alloc c).heap[w.heap.size+1+1]? = some c:=by
 refine ⟨heap_alloc_lt (heap_alloc_lt (heap_alloc_new _ _)),heap_alloc_lt ?_, ?_⟩
 · have:=heap_alloc_new (w.alloc a) b;simpa using this
 · have:=heap_alloc_new ((w.alloc a).alloc b) c;simpa using this
theorem pair_range {w:World} {g:Nat} {t u:Tr} {s r:Value} {ty:TypeId} (h:w.heap[g]? = some (.cells (cells2 t u s r) ty)):w.rangeAt g 0 (t.cells s).toList∧w.rangeAt g 10 (u.cells r).toList:=by
 have hc:∀ j x,(cells2 t u s r)[j]? = some x→w.cell? ⟨g,j,none⟩=some x:=fun j x hx=>by unfold World.cell?;rw [h];exact hx
 constructor
 · intro j x hx
   match j,hx with
   | 0,hx=>exact hc 0 x hx
   | 1,hx=>exact hc 1 x hx
   | 2,hx=>exact hc 2 x hx
   | 3,hx=>exact hc 3 x hx
   | 4,hx=>exact hc 4 x hx
   | 5,hx=>exact hc 5 x hx
   | 6,hx=>exact hc 6 x hx
   | 7,hx=>exact hc 7 x hx
   | 8,hx=>exact hc 8 x hx
   | 9,hx=>exact hc 9 x hx
   | j+10,hx=>simp [Tr.cells] at hx
 · intro j x hx
   match j,hx with
   | 0,hx=>exact hc 10 x hx
   | 1,hx=>exact hc 11 x hx
   | 2,hx=>exact hc 12 x hx
   | 3,hx=>exact hc 13 x hx
   | 4,hx=>exact hc 14 x hx
   | 5,hx=>exact hc 15 x hx
   | 6,hx=>exact hc 16 x hx
   | 7,hx=>exact hc 17 x hx
   | 8,hx=>exact hc 18 x hx
   | 9,hx=>exact hc 19 x hx
   | j+10,hx=>simp [Tr.cells] at hx
theorem wpList_load_mid_gd {P:Program} {ops:Array Oper} {rest:List Oper} {op:Oper} {a:Act} {w:World} {Q:Exit→Act→World→Prop} {j d:Nat} {b:Bool} (hg:op.guard=some (j,b)) (hd:(ops[j]?).bind (·.dst)=some d) (hv:a.tmps.getD d undef=.bool b)
   (ty:TypeId) (x:Operand) (ho:op.op=.load ty x) (g o:Nat) (hx:a.eval x=.pointer (some ⟨g,o,none⟩)) (cs:List Value) (ds:TypeDesc) (hc:w.rangeAt g o cs)
   (hu:P.underlying ty=some ds) (hdd:ds.isRow=true) (hi:(P.info? ty).map (·.size)=some cs.length)
   (h:wpList P ops Q rest (a.put op.dst (.agg cs.toArray)) w):wpList P ops Q (op :: rest) a w :=
 wpList_step fun K hK=>by
   rw [if_pos (by simp [Region.wanted,hg,yielded,hd,Ri.some_of_getD hv])];exact wp_load_mid ty x ho g o hx cs ds hc hu hdd hi (hK _ _ h)
theorem cells2_all (t u:Tr) (p p':Option Addr) (l c l' c':Nat):(cells2 t u (.slice p l c) (.slice p' l' c')).all (·.oneCell')=true:=by simp [cells2,Value.oneCell']
theorem reachalgebra_any (A:Nat→Addr) (s:ByteArray) (c e0:Int) (t u:Tr) (f:Int) (w:World) (hM:ReMemT A w) (B B2:Nat→Prop) (v v2:Value) (hv:NodeV w B v t) (hu:NodeV w B2 v2 u) :
   Calls Tryd.prog 4 #[v,v2,.agg #[.string s,.int .i64 c,.int .i64 e0],.int .i64 f] w fun e w'=>e=.returned (.bool true)∧Below w.heap.size w w':=by
 obtain ⟨sv,rfl,hsv⟩:=hv
 obtain ⟨p,cap,rfl,hlen⟩:=hsv.slice
 obtain ⟨sv2,rfl,hsv2⟩:=hu
 obtain ⟨p2,cap2,rfl,hlen2⟩:=hsv2.slice
 have HM:=Lib.hid (fun w9 (hb:Below w.heap.size w w9)=>hM.below hb)
 have HVT:=Lib.hid (fun w9 (hb:Below w.heap.size w w9)=>(show NdAt w9 (.agg (t.cells (.slice p t.subs.length cap))) t from ⟨_,rfl,(hsv.later hb).any⟩))
 have HVU:=Lib.hid (fun w9 (hb:Below w.heap.size w w9)=>(show NdAt w9 (.agg (u.cells (.slice p2 u.subs.length cap2))) u from ⟨_,rfl,(hsv2.later hb).any⟩))
 have HLG:=Lib.hid (fun w9 (hb:Below w.heap.size w w9)=>relong_any s c e0 t w9 _ _ (HVT.out w9 hb))
 have HLH:=Lib.hid (fun w9 (hb:Below w.heap.size w w9)=>relong_any s c e0 u w9 _ _ (HVU.out w9 hb))
 clear hsv hsv2 hM
 unfold Tr.cells at *
 go_enter Tryd.func4,Tryd.ntmps4
 have HF:=Lib.hid (show PR3 w #[.int .i64 t.kind,.int .u64 (Oc.U t.w0),.int .u64 (Oc.U t.w1),.int .u64 (Oc.U t.w2),.int .u64 (Oc.U t.w3),.slice p t.subs.length cap,.int .i64 t.num,.int .i64 t.least,.int .i64 t.most,.bool t.bare] #[.int .i64 u.kind,.int .u64 (Oc.U u.w0),.int .u64 (Oc.U u.w1),.int .u64 (Oc.U u.w2),.int .u64 (Oc.U u.w3),.slice p2 u.subs.length cap2,.int .i64 u.num,.int .i64 u.least,.int .i64 u.most,.bool u.bare] #[.string s,.int .i64 c,.int .i64 e0] (((w.alloc (.cells #[.int .i64 t.kind,.int .u64 (Oc.U t.w0),.int .u64 (Oc.U t.w1),.int .u64 (Oc.U t.w2),.int .u64 (Oc.U t.w3),.slice p t.subs.length cap,.int .i64 t.num,.int .i64 t.least,.int .i64 t.most,.bool t.bare] 37)).alloc (.cells #[.int .i64 u.kind,.int .u64 (Oc.U u.w0),.int .u64 (Oc.U u.w1),.int .u64 (Oc.U u.w2),.int .u64 (Oc.U u.w3),.slice p2 u.subs.length cap2,.int .i64 u.num,.int .i64 u.least,.int .i64 u.most,.bool u.bare] 37)).alloc (.cells #[.string s,.int .i64 c,.int .i64 e0] 39)) from ⟨by go_grown,(three_newA w _ _ _).1,(three_newA w _ _ _).2.1,(three_newA w _ _ _).2.2⟩)
 go_upto_region 1 with (fail)
 generalize ((w.alloc (.cells #[.int .i64 t.kind,.int .u64 (Oc.U t.w0),.int .u64 (Oc.U t.w1),.int .u64 (Oc.U t.w2),.int .u64 (Oc.U t.w3),.slice p t.subs.length cap,.int .i64 t.num,.int .i64 t.least,.int .i64 t.most,.bool t.bare] 37)).alloc (.cells #[.int .i64 u.kind,.int .u64 (Oc.U u.w0),.int .u64 (Oc.U u.w1),.int .u64 (Oc.U u.w2),.int .u64 (Oc.U u.w3),.slice p2 u.subs.length cap2,.int .i64 u.num,.int .i64 u.least,.int .i64 u.most,.bool u.bare] 37)).alloc (.cells #[.string s,.int .i64 c,.int .i64 e0] 39)=W1 at *
 go_wp2_with fail
 refine (relivesT_any A W1 (HM.out W1 HF.out.1)).mono ?_
 rintro e w2 ⟨rfl,hb2⟩
 replace HF:=Lib.hid (HF.out.next hb2)
 clear hb2
 go_wp2_with (first
   | (refine wpList_load_row rfl 37 (.tmp 4) rfl w.heap.size rfl 37 #[.int .i64 t.kind,.int .u64 (Oc.U t.w0),.int .u64 (Oc.U t.w1),.int .u64 (Oc.U t.w2),.int .u64 (Oc.U t.w3),.slice p t.subs.length cap,.int .i64 t.num,.int .i64 t.least,.int .i64 t.most,.bool t.bare] (0,0) _ HF.out.2.1 Tryd.underlying37 rfl (by kernel_rfl) ?_)
   | (refine wpList_load_row rfl 39 (.tmp 6) rfl (w.heap.size+1+1) rfl 39 #[.string s,.int .i64 c,.int .i64 e0] (0,0) _ HF.out.2.2.2 Tryd.underlying39 rfl (by kernel_rfl) ?_)
   | fail)
 refine (HLG.out w2 HF.out.1).mono ?_
 rintro e w3 ⟨q,rfl,hq,hb3⟩
 replace HF:=Lib.hid (HF.out.next hb3)
 have HQ:=Lib.hid hq
 clear hb3 hq HLG
 cases q with
 | true =>
   go_wp2
   go_ret
   exact ⟨rfl,HF.out.1⟩
 | false =>
 have HD:=Lib.hid (show t.dpT ≤ 5000 by have:=Tr.dp_nd t;have:=HQ.out rfl;omega)
 clear HQ
 go_wp2_with (first
   | (refine wpList_load_row_gd rfl rfl rfl 37 (.tmp 5) rfl (w.heap.size+1) rfl 37 #[.int .i64 u.kind,.int .u64 (Oc.U u.w0),.int .u64 (Oc.U u.w1),.int .u64 (Oc.U u.w2),.int .u64 (Oc.U u.w3),.slice p2 u.subs.length cap2,.int .i64 u.num,.int .i64 u.least,.int .i64 u.most,.bool u.bare] (0,0) _ HF.out.2.2.1 Tryd.underlying37 rfl (by kernel_rfl) ?_)
   | (refine wpList_load_row_gd rfl rfl rfl 39 (.tmp 6) rfl (w.heap.size+1+1) rfl 39 #[.string s,.int .i64 c,.int .i64 e0] (0,0) _ HF.out.2.2.2 Tryd.underlying39 rfl (by kernel_rfl) ?_)
   | fail)
 refine (HLH.out w3 HF.out.1).mono ?_
 rintro e w4 ⟨q,rfl,hq,hb4⟩
 replace HF:=Lib.hid (HF.out.next hb4)
 have HQ:=Lib.hid hq
 clear hb4 hq HLH
 cases q with
 | true =>
   go_wp2
   go_ret
   exact ⟨rfl,HF.out.1⟩
 | false =>
 have HD2:=Lib.hid (show u.dpT ≤ 5000 by have:=Tr.dp_nd u;have:=HQ.out rfl;omega)
 clear HQ
 go_wp2_with (first
   | (refine wpList_load_row_gd rfl rfl rfl 37 (.tmp 4) rfl w.heap.size rfl 37 #[.int .i64 t.kind,.int .u64 (Oc.U t.w0),.int .u64 (Oc.U t.w1),.int .u64 (Oc.U t.w2),.int .u64 (Oc.U t.w3),.slice p t.subs.length cap,.int .i64 t.num,.int .i64 t.least,.int .i64 t.most,.bool t.bare] (0,0) _ HF.out.2.1 Tryd.underlying37 rfl (by kernel_rfl) ?_)
   | fail)
 refine (treecheckT_any A t (by have:=HD.out;omega) w4 (HM.out w4 HF.out.1).errs _ _ (HVT.out w4 HF.out.1)).mono ?_
 rintro e w5 ⟨rfl,hb5⟩
 replace HF:=Lib.hid (HF.out.next hb5)
 clear hb5
 by_cases hz:t.checkC=0
 rotate_left
 · rw [sent_ne hz]
   generalize A (t.checkC - 1)=aa
   clear hz
   go_wp2
   go_ret
   exact ⟨rfl,HF.out.1⟩
 rw [hz,sent_nil]
 clear hz
 go_wp2_with (first
   | (refine wpList_load_row_gd rfl rfl rfl 37 (.tmp 5) rfl (w.heap.size+1) rfl 37 #[.int .i64 u.kind,.int .u64 (Oc.U u.w0),.int .u64 (Oc.U u.w1),.int .u64 (Oc.U u.w2),.int .u64 (Oc.U u.w3),.slice p2 u.subs.length cap2,.int .i64 u.num,.int .i64 u.least,.int .i64 u.most,.bool u.bare] (0,0) _ HF.out.2.2.1 Tryd.underlying37 rfl (by kernel_rfl) ?_)
   | fail)
 refine (treecheckT_any A u (by have:=HD2.out;omega) w5 (HM.out w5 HF.out.1).errs _ _ (HVU.out w5 HF.out.1)).mono ?_
 rintro e w6 ⟨rfl,hb6⟩
 replace HF:=Lib.hid (HF.out.next hb6)
 clear hb6
 by_cases hz:u.checkC=0
 rotate_left
 · rw [sent_ne hz]
   generalize A (u.checkC - 1)=aa
   clear hz
   go_wp2
   go_ret
   exact ⟨rfl,HF.out.1⟩
 rw [hz,sent_nil]
 clear hz
 obtain ⟨d0,d1,d2⟩:=HF.out.view
 by_cases h1:40 < s.size
 · have k1:decide ((40:Int) < (s.size:Int))=true:=by simp;omega
   clear h1
   go_wp2
   go_ret
   exact ⟨rfl,HF.out.1⟩
 have k1:decide ((40:Int) < (s.size:Int))=false:=by simp;omega
 by_cases h2:f < 0
 · have k2:decide (f < 0)=true:=decide_eq_true h2
   clear h1 h2
   go_wp2
   go_ret
   exact ⟨rfl,HF.out.1⟩
 have k2:decide (f < 0)=false:=decide_eq_false h2
 by_cases h4:(s.size:Int) < f
 · have k4:decide ((s.size:Int) < f)=true:=decide_eq_true h4
   clear h1 h2 h4
   go_wp2
   go_ret
   exact ⟨rfl,HF.out.1⟩
 have k4:decide ((s.size:Int) < f)=false:=decide_eq_false h4
 have HS40:=Lib.hid (show s.size ≤ 40 by omega)
 have HFT:=Lib.hid (show 0 ≤ f∧f ≤ s.size by omega)
 clear h1 h2 h4
 go_upto_region 5 with (fail)
 clear k1 k2 k4 d0 d1 d2
 obtain ⟨k,rfl⟩:∃ k:Nat,f=k:=⟨f.toNat,by have:=HFT.out;omega⟩
 have HK:=Lib.hid (show k ≤ s.size by have:=HFT.out;omega)
 clear HFT
 go_wp2_with (first
   | (refine wpList_load_row rfl 37 (.tmp 4) rfl w.heap.size rfl 37 #[.int .i64 t.kind,.int .u64 (Oc.U t.w0),.int .u64 (Oc.U t.w1),.int .u64 (Oc.U t.w2),.int .u64 (Oc.U t.w3),.slice p t.subs.length cap,.int .i64 t.num,.int .i64 t.least,.int .i64 t.most,.bool t.bare] (0,0) _ HF.out.2.1 Tryd.underlying37 rfl (by kernel_rfl) ?_)
   | fail)
 refine (rep_any t 0 (-1) w6 _ _ (HVT.out w6 HF.out.1)).mono ?_
 rintro e wq ⟨sS,FS,rfl,hoS,-,hbS⟩
 obtain ⟨pS,lS,cS,rfl,-⟩:∃ p l c,sS=.slice p l c∧True:=by obtain ⟨p,c,h,-⟩:=hoS.trees.slice;exact ⟨p,_,c,h,trivial⟩
 replace HF:=Lib.hid (HF.out.next hbS)
 have TS0:=Lib.hid hoS.trees.any
 clear hoS hbS
 go_upto_region 6 with (first
   | (refine wpList_store_row rfl 37 (.tmp 9) (.tmp 56) rfl wq.heap.size ((Tr.rep 0 (-1) t).cells (.slice pS lS cS)) rfl rfl 37 _ (heap_alloc_new _ _) (by kernel_rfl) (by kernel_rfl) (nodeC_all _ _ _ _) ?_)
   | fail)
 have hb7:Below wq.heap.size wq (World.setRow (wq.alloc (.cells noNode 37)) wq.heap.size ((Tr.rep 0 (-1) t).cells (.slice pS lS cS))):=below_setRow ((Below.refl _ _).alloc (Nat.le_refl _) _) (Nat.le_refl _) _
 replace HF:=Lib.hid (HF.out.next hb7)
 have YS:=Lib.hid (show (World.setRow (wq.alloc (.cells noNode 37)) wq.heap.size ((Tr.rep 0 (-1) t).cells (.slice pS lS cS))).heap[wq.heap.size]? = some (.cells ((Tr.rep 0 (-1) t).cells (.slice pS lS cS)) 37) from heap_setRow (heap_alloc_new _ _))
 have TS:=Lib.hid (TS0.out.later hb7)
 clear hb7 TS0
 generalize (World.setRow (wq.alloc (.cells noNode 37)) wq.heap.size ((Tr.rep 0 (-1) t).cells (.slice pS lS cS)))=w7 at *
 generalize wq.heap.size=gs at *
 try simp only [Act.put]
 go_wp2_with fail
 refine Ri.wp_region_frame (by kernel_rfl) (by kernel_rfl) (by kernel_rfl) (by kernel_rfl) (AgI (algK t u) w7) (AgI.zero (Below.refl _ _).drew) ?_ ?_
 · intro i hi9 L v w9 xa hI hL hd hv ho
   have hi':i=0 ∨ i=1 ∨ i=2 ∨ i=3 ∨ i=4 ∨ i=5 ∨ i=6 ∨ i=7 ∨ i=8 ∨ i=9 ∨ i=10 ∨ i=11 ∨ i=12 ∨ i=13 ∨ i=14 ∨ i=15 ∨ i=16 ∨ i=17 ∨ i=18 ∨ i=19 ∨ i=20 ∨ i=21 ∨ i=22 ∨ i=23 ∨ i=24 ∨ i=25 ∨ i=26 ∨ i=27 ∨ i=28 ∨ i=29 ∨ i=30 ∨ i=31 ∨ i=32 ∨ i=33 ∨ i=34 ∨ i=35 ∨ i=36 ∨ i=37 ∨ i=38 ∨ i=39 ∨ i=40 ∨ i=41 ∨ i=42 ∨ i=43 ∨ i=44 ∨ i=45 ∨ i=46 ∨ i=47 ∨ i=48 ∨ i=49 ∨ i=50 ∨ i=51 ∨ i=52 ∨ i=53 ∨ i=54 ∨ i=55 ∨ i=56 ∨ i=57 ∨ i=58 ∨ i=59 ∨ i=60 ∨ i=61 ∨ i=62 ∨ i=63 ∨ i=64 ∨ i=65 ∨ i=66:=lt67 i (by simpa using hi9)
   have hbw:Below w.heap.size w w9:=HF.out.1.trans (hI.1.mono HF.out.1.size)
   rcases hi' with rfl | rfl | rfl | rfl | rfl | rfl | rfl | rfl | rfl | rfl | rfl | rfl | rfl | rfl | rfl | rfl | rfl | rfl | rfl | rfl | rfl | rfl | rfl | rfl | rfl | rfl | rfl | rfl | rfl | rfl | rfl | rfl | rfl | rfl | rfl | rfl | rfl | rfl | rfl | rfl | rfl | rfl | rfl | rfl | rfl | rfl | rfl | rfl | rfl | rfl | rfl | rfl | rfl | rfl | rfl | rfl | rfl | rfl | rfl | rfl | rfl | rfl | rfl | rfl | rfl | rfl | rfl
   · have e9:xa.tmps.getD 4 undef=.pointer (some ⟨w.heap.size,0,none⟩):=ho 4 (by kernel_rfl)
     refine Ri.step_plain rfl rfl (fun K' hK=>?_)
     refine wp_load_row _ _ rfl _ e9 _ _ _ _ (keep_blk hI.1 HF.out.2.1) Tryd.underlying37 rfl (by kernel_rfl) ?_
     exact hK _ _ ⟨_,_,rfl,rfl,hI.step (Below.refl _ _) (HVT.out w9 hbw)⟩
   · have e9:xa.tmps.getD 5 undef=.pointer (some ⟨w.heap.size+1,0,none⟩):=ho 5 (by kernel_rfl)
     refine Ri.step_plain rfl rfl (fun K' hK=>?_)
     refine wp_load_row _ _ rfl _ e9 _ _ _ _ (keep_blk hI.1 HF.out.2.2.1) Tryd.underlying37 rfl (by kernel_rfl) ?_
     exact hK _ _ ⟨_,_,rfl,rfl,hI.step (Below.refl _ _) (HVU.out w9 hbw)⟩
   · obtain ⟨j0,j1⟩:L 0=true∧L 1=true:=by have:=hd _ rfl;simp [Region.binds] at this;simp [this]
     obtain ⟨s0,h0,k0⟩:NdAt w9 (v 0) t:=hI.2 0 j0
     obtain ⟨p0,c0,rfl,-⟩:=k0.slice
     have f0:=(hv 0 57 rfl j0).trans h0
     obtain ⟨s1,h1,k1⟩:NdAt w9 (v 1) u:=hI.2 1 j1
     obtain ⟨p1,c1,rfl,-⟩:=k1.slice
     have f1:=(hv 1 58 rfl j1).trans h1
     refine Ri.step_plain rfl rfl (fun K' hK=>?_)
     refine wp_node2 (.tmp 57) (.tmp 58) t u p0 t.subs.length c0 p1 u.subs.length c1 rfl f0 f1 ?_
     exact hK _ _ ⟨_,_,rfl,rfl,hI.step ((Below.refl _ _).alloc (Nat.le_refl _) _) (LsAt.two k0 k1)⟩
   · have j2:L 2=true:=by have:=hd _ rfl;simp [Region.binds] at this;simp [this]
     have hls:LsAt w9 (v 2) [t,u]:=hI.2 2 j2
     have f2:=hv 2 59 rfl j2
     refine Ri.step_plain rfl rfl (fun K' hK=>?_)
     go_simp
     refine (alt_any [t,u] (by simp) w9 _ _ hls).mono ?_
     rintro e w8 ⟨s9,F9,rfl,ho9,-,hb8⟩
     exact hK _ _ ⟨_,_,rfl,rfl,hI.step hb8 ⟨s9,rfl,ho9.trees.any⟩⟩
   · have e9:xa.tmps.getD 5 undef=.pointer (some ⟨w.heap.size+1,0,none⟩):=ho 5 (by kernel_rfl)
     refine Ri.step_plain rfl rfl (fun K' hK=>?_)
     refine wp_load_row _ _ rfl _ e9 _ _ _ _ (keep_blk hI.1 HF.out.2.2.1) Tryd.underlying37 rfl (by kernel_rfl) ?_
     exact hK _ _ ⟨_,_,rfl,rfl,hI.step (Below.refl _ _) (HVU.out w9 hbw)⟩
   · have e9:xa.tmps.getD 4 undef=.pointer (some ⟨w.heap.size,0,none⟩):=ho 4 (by kernel_rfl)
     refine Ri.step_plain rfl rfl (fun K' hK=>?_)
     refine wp_load_row _ _ rfl _ e9 _ _ _ _ (keep_blk hI.1 HF.out.2.1) Tryd.underlying37 rfl (by kernel_rfl) ?_
     exact hK _ _ ⟨_,_,rfl,rfl,hI.step (Below.refl _ _) (HVT.out w9 hbw)⟩
   · obtain ⟨j4,j5⟩:L 4=true∧L 5=true:=by have:=hd _ rfl;simp [Region.binds] at this;simp [this]
     obtain ⟨s4,h4,k4⟩:NdAt w9 (v 4) u:=hI.2 4 j4
     obtain ⟨p4,c4,rfl,-⟩:=k4.slice
     have f4:=(hv 4 61 rfl j4).trans h4
     obtain ⟨s5,h5,k5⟩:NdAt w9 (v 5) t:=hI.2 5 j5
     obtain ⟨p5,c5,rfl,-⟩:=k5.slice
     have f5:=(hv 5 62 rfl j5).trans h5
     refine Ri.step_plain rfl rfl (fun K' hK=>?_)
     refine wp_node2 (.tmp 61) (.tmp 62) u t p4 u.subs.length c4 p5 t.subs.length c5 rfl f4 f5 ?_
     exact hK _ _ ⟨_,_,rfl,rfl,hI.step ((Below.refl _ _).alloc (Nat.le_refl _) _) (LsAt.two k4 k5)⟩
   · have j6:L 6=true:=by have:=hd _ rfl;simp [Region.binds] at this;simp [this]
     have hls:LsAt w9 (v 6) [u,t]:=hI.2 6 j6
     have f6:=hv 6 63 rfl j6
     refine Ri.step_plain rfl rfl (fun K' hK=>?_)
     go_simp
     refine (alt_any [u,t] (by simp) w9 _ _ hls).mono ?_
     rintro e w8 ⟨s9,F9,rfl,ho9,-,hb8⟩
     exact hK _ _ ⟨_,_,rfl,rfl,hI.step hb8 ⟨s9,rfl,ho9.trees.any⟩⟩
   · obtain ⟨j3,j7⟩:L 3=true∧L 7=true:=by have:=hd _ rfl;simp [Region.binds] at this;simp [this]
     obtain ⟨s3,h3,k3⟩:NdAt w9 (v 3) (Tr.several 6 [t,u]):=hI.2 3 j3
     obtain ⟨p3,c3,rfl,-⟩:=k3.slice
     have f3:=(hv 3 60 rfl j3).trans h3
     obtain ⟨s7,h7,k7⟩:NdAt w9 (v 7) (Tr.several 6 [u,t]):=hI.2 7 j7
     obtain ⟨p7,c7,rfl,-⟩:=k7.slice
     have f7:=(hv 7 64 rfl j7).trans h7
     refine Ri.step_plain rfl rfl (fun K' hK=>?_)
     refine wp_pair2 (.tmp 60) (.tmp 64) (Tr.several 6 [t,u]) (Tr.several 6 [u,t]) p3 (Tr.several 6 [t,u]).subs.length c3 p7 (Tr.several 6 [u,t]).subs.length c7 rfl f3 f7 ?_
     exact hK _ _ ⟨_,_,rfl,rfl,hI.step (Below.refl _ _) ⟨p3,c3,p7,c7,rfl,k3,k7⟩⟩
   · have e9:xa.tmps.getD 4 undef=.pointer (some ⟨w.heap.size,0,none⟩):=ho 4 (by kernel_rfl)
     refine Ri.step_plain rfl rfl (fun K' hK=>?_)
     refine wp_load_row _ _ rfl _ e9 _ _ _ _ (keep_blk hI.1 HF.out.2.1) Tryd.underlying37 rfl (by kernel_rfl) ?_
     exact hK _ _ ⟨_,_,rfl,rfl,hI.step (Below.refl _ _) (HVT.out w9 hbw)⟩
   · have e9:xa.tmps.getD 5 undef=.pointer (some ⟨w.heap.size+1,0,none⟩):=ho 5 (by kernel_rfl)
     refine Ri.step_plain rfl rfl (fun K' hK=>?_)
     refine wp_load_row _ _ rfl _ e9 _ _ _ _ (keep_blk hI.1 HF.out.2.2.1) Tryd.underlying37 rfl (by kernel_rfl) ?_
     exact hK _ _ ⟨_,_,rfl,rfl,hI.step (Below.refl _ _) (HVU.out w9 hbw)⟩
   · obtain ⟨j9,j10⟩:L 9=true∧L 10=true:=by have:=hd _ rfl;simp [Region.binds] at this;simp [this]
     obtain ⟨s9,h9,k9⟩:NdAt w9 (v 9) t:=hI.2 9 j9
     obtain ⟨p9,c9,rfl,-⟩:=k9.slice
     have f9:=(hv 9 66 rfl j9).trans h9
     obtain ⟨s10,h10,k10⟩:NdAt w9 (v 10) u:=hI.2 10 j10
     obtain ⟨p10,c10,rfl,-⟩:=k10.slice
     have f10:=(hv 10 67 rfl j10).trans h10
     refine Ri.step_plain rfl rfl (fun K' hK=>?_)
     refine wp_node2 (.tmp 66) (.tmp 67) t u p9 t.subs.length c9 p10 u.subs.length c10 rfl f9 f10 ?_
     exact hK _ _ ⟨_,_,rfl,rfl,hI.step ((Below.refl _ _).alloc (Nat.le_refl _) _) (LsAt.two k9 k10)⟩
   · have j11:L 11=true:=by have:=hd _ rfl;simp [Region.binds] at this;simp [this]
     have hls:LsAt w9 (v 11) [t,u]:=hI.2 11 j11
     have f11:=hv 11 68 rfl j11
     refine Ri.step_plain rfl rfl (fun K' hK=>?_)
     go_simp
     refine (seq_any [t,u] w9 _ _ hls).mono ?_
     rintro e w8 ⟨s9,F9,rfl,ho9,-,hb8⟩
     exact hK _ _ ⟨_,_,rfl,rfl,hI.step hb8 ⟨s9,rfl,ho9.trees.any⟩⟩
   · have e9:xa.tmps.getD 4 undef=.pointer (some ⟨w.heap.size,0,none⟩):=ho 4 (by kernel_rfl)
     refine Ri.step_plain rfl rfl (fun K' hK=>?_)
     refine wp_load_row _ _ rfl _ e9 _ _ _ _ (keep_blk hI.1 HF.out.2.1) Tryd.underlying37 rfl (by kernel_rfl) ?_
     exact hK _ _ ⟨_,_,rfl,rfl,hI.step (Below.refl _ _) (HVT.out w9 hbw)⟩
   · obtain ⟨j12,j13⟩:L 12=true∧L 13=true:=by have:=hd _ rfl;simp [Region.binds] at this;simp [this]
     obtain ⟨s12,h12,k12⟩:NdAt w9 (v 12) (Tr.several 5 [t,u]):=hI.2 12 j12
     obtain ⟨p12,c12,rfl,-⟩:=k12.slice
     have f12:=(hv 12 69 rfl j12).trans h12
     obtain ⟨s13,h13,k13⟩:NdAt w9 (v 13) t:=hI.2 13 j13
     obtain ⟨p13,c13,rfl,-⟩:=k13.slice
     have f13:=(hv 13 70 rfl j13).trans h13
     refine Ri.step_plain rfl rfl (fun K' hK=>?_)
     refine wp_node2 (.tmp 69) (.tmp 70) (Tr.several 5 [t,u]) t p12 (Tr.several 5 [t,u]).subs.length c12 p13 t.subs.length c13 rfl f12 f13 ?_
     exact hK _ _ ⟨_,_,rfl,rfl,hI.step ((Below.refl _ _).alloc (Nat.le_refl _) _) (LsAt.two k12 k13)⟩
   · have j14:L 14=true:=by have:=hd _ rfl;simp [Region.binds] at this;simp [this]
     have hls:LsAt w9 (v 14) [(Tr.several 5 [t,u]),t]:=hI.2 14 j14
     have f14:=hv 14 71 rfl j14
     refine Ri.step_plain rfl rfl (fun K' hK=>?_)
     go_simp
     refine (seq_any [(Tr.several 5 [t,u]),t] w9 _ _ hls).mono ?_
     rintro e w8 ⟨s9,F9,rfl,ho9,-,hb8⟩
     exact hK _ _ ⟨_,_,rfl,rfl,hI.step hb8 ⟨s9,rfl,ho9.trees.any⟩⟩
   · have e9:xa.tmps.getD 4 undef=.pointer (some ⟨w.heap.size,0,none⟩):=ho 4 (by kernel_rfl)
     refine Ri.step_plain rfl rfl (fun K' hK=>?_)
     refine wp_load_row _ _ rfl _ e9 _ _ _ _ (keep_blk hI.1 HF.out.2.1) Tryd.underlying37 rfl (by kernel_rfl) ?_
     exact hK _ _ ⟨_,_,rfl,rfl,hI.step (Below.refl _ _) (HVT.out w9 hbw)⟩
   · have e9:xa.tmps.getD 5 undef=.pointer (some ⟨w.heap.size+1,0,none⟩):=ho 5 (by kernel_rfl)
     refine Ri.step_plain rfl rfl (fun K' hK=>?_)
     refine wp_load_row _ _ rfl _ e9 _ _ _ _ (keep_blk hI.1 HF.out.2.2.1) Tryd.underlying37 rfl (by kernel_rfl) ?_
     exact hK _ _ ⟨_,_,rfl,rfl,hI.step (Below.refl _ _) (HVU.out w9 hbw)⟩
   · have e9:xa.tmps.getD 4 undef=.pointer (some ⟨w.heap.size,0,none⟩):=ho 4 (by kernel_rfl)
     refine Ri.step_plain rfl rfl (fun K' hK=>?_)
     refine wp_load_row _ _ rfl _ e9 _ _ _ _ (keep_blk hI.1 HF.out.2.1) Tryd.underlying37 rfl (by kernel_rfl) ?_
     exact hK _ _ ⟨_,_,rfl,rfl,hI.step (Below.refl _ _) (HVT.out w9 hbw)⟩
   · obtain ⟨j17,j18⟩:L 17=true∧L 18=true:=by have:=hd _ rfl;simp [Region.binds] at this;simp [this]
     obtain ⟨s17,h17,k17⟩:NdAt w9 (v 17) u:=hI.2 17 j17
     obtain ⟨p17,c17,rfl,-⟩:=k17.slice
     have f17:=(hv 17 74 rfl j17).trans h17
     obtain ⟨s18,h18,k18⟩:NdAt w9 (v 18) t:=hI.2 18 j18
     obtain ⟨p18,c18,rfl,-⟩:=k18.slice
     have f18:=(hv 18 75 rfl j18).trans h18
     refine Ri.step_plain rfl rfl (fun K' hK=>?_)
     refine wp_node2 (.tmp 74) (.tmp 75) u t p17 u.subs.length c17 p18 t.subs.length c18 rfl f17 f18 ?_
     exact hK _ _ ⟨_,_,rfl,rfl,hI.step ((Below.refl _ _).alloc (Nat.le_refl _) _) (LsAt.two k17 k18)⟩
   · have j19:L 19=true:=by have:=hd _ rfl;simp [Region.binds] at this;simp [this]
     have hls:LsAt w9 (v 19) [u,t]:=hI.2 19 j19
     have f19:=hv 19 76 rfl j19
     refine Ri.step_plain rfl rfl (fun K' hK=>?_)
     go_simp
     refine (seq_any [u,t] w9 _ _ hls).mono ?_
     rintro e w8 ⟨s9,F9,rfl,ho9,-,hb8⟩
     exact hK _ _ ⟨_,_,rfl,rfl,hI.step hb8 ⟨s9,rfl,ho9.trees.any⟩⟩
   · obtain ⟨j16,j20⟩:L 16=true∧L 20=true:=by have:=hd _ rfl;simp [Region.binds] at this;simp [this]
     obtain ⟨s16,h16,k16⟩:NdAt w9 (v 16) t:=hI.2 16 j16
     obtain ⟨p16,c16,rfl,-⟩:=k16.slice
     have f16:=(hv 16 73 rfl j16).trans h16
     obtain ⟨s20,h20,k20⟩:NdAt w9 (v 20) (Tr.several 5 [u,t]):=hI.2 20 j20
     obtain ⟨p20,c20,rfl,-⟩:=k20.slice
     have f20:=(hv 20 77 rfl j20).trans h20
     refine Ri.step_plain rfl rfl (fun K' hK=>?_)
     refine wp_node2 (.tmp 73) (.tmp 77) t (Tr.several 5 [u,t]) p16 t.subs.length c16 p20 (Tr.several 5 [u,t]).subs.length c20 rfl f16 f20 ?_
     exact hK _ _ ⟨_,_,rfl,rfl,hI.step ((Below.refl _ _).alloc (Nat.le_refl _) _) (LsAt.two k16 k20)⟩
   · have j21:L 21=true:=by have:=hd _ rfl;simp [Region.binds] at this;simp [this]
     have hls:LsAt w9 (v 21) [t,(Tr.several 5 [u,t])]:=hI.2 21 j21
     have f21:=hv 21 78 rfl j21
     refine Ri.step_plain rfl rfl (fun K' hK=>?_)
     go_simp
     refine (seq_any [t,(Tr.several 5 [u,t])] w9 _ _ hls).mono ?_
     rintro e w8 ⟨s9,F9,rfl,ho9,-,hb8⟩
     exact hK _ _ ⟨_,_,rfl,rfl,hI.step hb8 ⟨s9,rfl,ho9.trees.any⟩⟩
   · obtain ⟨j15,j22⟩:L 15=true∧L 22=true:=by have:=hd _ rfl;simp [Region.binds] at this;simp [this]
     obtain ⟨s15,h15,k15⟩:NdAt w9 (v 15) (Tr.several 5 [(Tr.several 5 [t,u]),t]):=hI.2 15 j15
     obtain ⟨p15,c15,rfl,-⟩:=k15.slice
     have f15:=(hv 15 72 rfl j15).trans h15
     obtain ⟨s22,h22,k22⟩:NdAt w9 (v 22) (Tr.several 5 [t,(Tr.several 5 [u,t])]):=hI.2 22 j22
     obtain ⟨p22,c22,rfl,-⟩:=k22.slice
     have f22:=(hv 22 79 rfl j22).trans h22
     refine Ri.step_plain rfl rfl (fun K' hK=>?_)
     refine wp_pair2 (.tmp 72) (.tmp 79) (Tr.several 5 [(Tr.several 5 [t,u]),t]) (Tr.several 5 [t,(Tr.several 5 [u,t])]) p15 (Tr.several 5 [(Tr.several 5 [t,u]),t]).subs.length c15 p22 (Tr.several 5 [t,(Tr.several 5 [u,t])]).subs.length c22 rfl f15 f22 ?_
     exact hK _ _ ⟨_,_,rfl,rfl,hI.step (Below.refl _ _) ⟨p15,c15,p22,c22,rfl,k15,k22⟩⟩
   · have e9:xa.tmps.getD 4 undef=.pointer (some ⟨w.heap.size,0,none⟩):=ho 4 (by kernel_rfl)
     refine Ri.step_plain rfl rfl (fun K' hK=>?_)
     refine wp_load_row _ _ rfl _ e9 _ _ _ _ (keep_blk hI.1 HF.out.2.1) Tryd.underlying37 rfl (by kernel_rfl) ?_
     exact hK _ _ ⟨_,_,rfl,rfl,hI.step (Below.refl _ _) (HVT.out w9 hbw)⟩
   · refine Ri.step_plain rfl rfl (fun K' hK=>?_)
     go_simp
     refine (seq_any [] w9 (fun _=>True) (.slice none 0 0) TreesAt.nil).mono ?_
     rintro e w8 ⟨s9,F9,rfl,ho9,-,hb8⟩
     exact hK _ _ ⟨_,_,rfl,rfl,hI.step hb8 ⟨s9,rfl,ho9.trees.any⟩⟩
   · obtain ⟨j24,j25⟩:L 24=true∧L 25=true:=by have:=hd _ rfl;simp [Region.binds] at this;simp [this]
     obtain ⟨s24,h24,k24⟩:NdAt w9 (v 24) t:=hI.2 24 j24
     obtain ⟨p24,c24,rfl,-⟩:=k24.slice
     have f24:=(hv 24 81 rfl j24).trans h24
     obtain ⟨s25,h25,k25⟩:NdAt w9 (v 25) (Tr.several 5 []):=hI.2 25 j25
     obtain ⟨p25,c25,rfl,-⟩:=k25.slice
     have f25:=(hv 25 82 rfl j25).trans h25
     refine Ri.step_plain rfl rfl (fun K' hK=>?_)
     refine wp_node2 (.tmp 81) (.tmp 82) t (Tr.several 5 []) p24 t.subs.length c24 p25 (Tr.several 5 []).subs.length c25 rfl f24 f25 ?_
     exact hK _ _ ⟨_,_,rfl,rfl,hI.step ((Below.refl _ _).alloc (Nat.le_refl _) _) (LsAt.two k24 k25)⟩
   · have j26:L 26=true:=by have:=hd _ rfl;simp [Region.binds] at this;simp [this]
     have hls:LsAt w9 (v 26) [t,(Tr.several 5 [])]:=hI.2 26 j26
     have f26:=hv 26 83 rfl j26
     refine Ri.step_plain rfl rfl (fun K' hK=>?_)
     go_simp
     refine (seq_any [t,(Tr.several 5 [])] w9 _ _ hls).mono ?_
     rintro e w8 ⟨s9,F9,rfl,ho9,-,hb8⟩
     exact hK _ _ ⟨_,_,rfl,rfl,hI.step hb8 ⟨s9,rfl,ho9.trees.any⟩⟩
   · have e9:xa.tmps.getD 4 undef=.pointer (some ⟨w.heap.size,0,none⟩):=ho 4 (by kernel_rfl)
     refine Ri.step_plain rfl rfl (fun K' hK=>?_)
     refine wp_load_row _ _ rfl _ e9 _ _ _ _ (keep_blk hI.1 HF.out.2.1) Tryd.underlying37 rfl (by kernel_rfl) ?_
     exact hK _ _ ⟨_,_,rfl,rfl,hI.step (Below.refl _ _) (HVT.out w9 hbw)⟩
   · obtain ⟨j27,j28⟩:L 27=true∧L 28=true:=by have:=hd _ rfl;simp [Region.binds] at this;simp [this]
     obtain ⟨s27,h27,k27⟩:NdAt w9 (v 27) (Tr.several 5 [t,(Tr.several 5 [])]):=hI.2 27 j27
     obtain ⟨p27,c27,rfl,-⟩:=k27.slice
     have f27:=(hv 27 84 rfl j27).trans h27
     obtain ⟨s28,h28,k28⟩:NdAt w9 (v 28) t:=hI.2 28 j28
     obtain ⟨p28,c28,rfl,-⟩:=k28.slice
     have f28:=(hv 28 85 rfl j28).trans h28
     refine Ri.step_plain rfl rfl (fun K' hK=>?_)
     refine wp_pair2 (.tmp 84) (.tmp 85) (Tr.several 5 [t,(Tr.several 5 [])]) t p27 (Tr.several 5 [t,(Tr.several 5 [])]).subs.length c27 p28 t.subs.length c28 rfl f27 f28 ?_
     exact hK _ _ ⟨_,_,rfl,rfl,hI.step (Below.refl _ _) ⟨p27,c27,p28,c28,rfl,k27,k28⟩⟩
   · have e9:xa.tmps.getD 4 undef=.pointer (some ⟨w.heap.size,0,none⟩):=ho 4 (by kernel_rfl)
     refine Ri.step_plain rfl rfl (fun K' hK=>?_)
     refine wp_load_row _ _ rfl _ e9 _ _ _ _ (keep_blk hI.1 HF.out.2.1) Tryd.underlying37 rfl (by kernel_rfl) ?_
     exact hK _ _ ⟨_,_,rfl,rfl,hI.step (Below.refl _ _) (HVT.out w9 hbw)⟩
   · refine Ri.step_plain rfl rfl (fun K' hK=>?_)
     go_simp
     refine (alt_none w9 none 0).mono ?_
     rintro e w8 ⟨s9,F9,rfl,ho9,-,hb8⟩
     exact hK _ _ ⟨_,_,rfl,rfl,hI.step hb8 ⟨s9,rfl,ho9.trees.any⟩⟩
   · obtain ⟨j30,j31⟩:L 30=true∧L 31=true:=by have:=hd _ rfl;simp [Region.binds] at this;simp [this]
     obtain ⟨s30,h30,k30⟩:NdAt w9 (v 30) t:=hI.2 30 j30
     obtain ⟨p30,c30,rfl,-⟩:=k30.slice
     have f30:=(hv 30 87 rfl j30).trans h30
     obtain ⟨s31,h31,k31⟩:NdAt w9 (v 31) Tr.noByte:=hI.2 31 j31
     obtain ⟨p31,c31,rfl,-⟩:=k31.slice
     have f31:=(hv 31 88 rfl j31).trans h31
     refine Ri.step_plain rfl rfl (fun K' hK=>?_)
     refine wp_node2 (.tmp 87) (.tmp 88) t Tr.noByte p30 t.subs.length c30 p31 Tr.noByte.subs.length c31 rfl f30 f31 ?_
     exact hK _ _ ⟨_,_,rfl,rfl,hI.step ((Below.refl _ _).alloc (Nat.le_refl _) _) (LsAt.two k30 k31)⟩
   · have j32:L 32=true:=by have:=hd _ rfl;simp [Region.binds] at this;simp [this]
     have hls:LsAt w9 (v 32) [t,Tr.noByte]:=hI.2 32 j32
     have f32:=hv 32 89 rfl j32
     refine Ri.step_plain rfl rfl (fun K' hK=>?_)
     go_simp
     refine (alt_any [t,Tr.noByte] (by simp) w9 _ _ hls).mono ?_
     rintro e w8 ⟨s9,F9,rfl,ho9,-,hb8⟩
     exact hK _ _ ⟨_,_,rfl,rfl,hI.step hb8 ⟨s9,rfl,ho9.trees.any⟩⟩
   · have e9:xa.tmps.getD 4 undef=.pointer (some ⟨w.heap.size,0,none⟩):=ho 4 (by kernel_rfl)
     refine Ri.step_plain rfl rfl (fun K' hK=>?_)
     refine wp_load_row _ _ rfl _ e9 _ _ _ _ (keep_blk hI.1 HF.out.2.1) Tryd.underlying37 rfl (by kernel_rfl) ?_
     exact hK _ _ ⟨_,_,rfl,rfl,hI.step (Below.refl _ _) (HVT.out w9 hbw)⟩
   · obtain ⟨j33,j34⟩:L 33=true∧L 34=true:=by have:=hd _ rfl;simp [Region.binds] at this;simp [this]
     obtain ⟨s33,h33,k33⟩:NdAt w9 (v 33) (Tr.several 6 [t,Tr.noByte]):=hI.2 33 j33
     obtain ⟨p33,c33,rfl,-⟩:=k33.slice
     have f33:=(hv 33 90 rfl j33).trans h33
     obtain ⟨s34,h34,k34⟩:NdAt w9 (v 34) t:=hI.2 34 j34
     obtain ⟨p34,c34,rfl,-⟩:=k34.slice
     have f34:=(hv 34 91 rfl j34).trans h34
     refine Ri.step_plain rfl rfl (fun K' hK=>?_)
     refine wp_pair2 (.tmp 90) (.tmp 91) (Tr.several 6 [t,Tr.noByte]) t p33 (Tr.several 6 [t,Tr.noByte]).subs.length c33 p34 t.subs.length c34 rfl f33 f34 ?_
     exact hK _ _ ⟨_,_,rfl,rfl,hI.step (Below.refl _ _) ⟨p33,c33,p34,c34,rfl,k33,k34⟩⟩
   · have e9:xa.tmps.getD 9 undef=.pointer (some ⟨gs,0,none⟩):=ho 9 (by kernel_rfl)
     refine Ri.step_plain rfl rfl (fun K' hK=>?_)
     refine wp_load_row _ _ rfl _ e9 _ _ _ _ (keep_blk hI.1 YS.out) Tryd.underlying37 rfl (by kernel_rfl) ?_
     exact hK _ _ ⟨_,_,rfl,rfl,hI.step (Below.refl _ _) ⟨_,rfl,TS.out.later hI.1⟩⟩
   · have j36:L 36=true:=by have:=hd _ rfl;simp [Region.binds] at this;simp [this]
     have hnd:NdAt w9 (v 36) (Tr.rep 0 (-1) t):=hI.2 36 j36
     have f36:=hv 36 93 rfl j36
     refine Ri.step_plain rfl rfl (fun K' hK=>?_)
     go_simp
     refine (rep_any (Tr.rep 0 (-1) t) 0 (-1) w9 _ _ hnd).mono ?_
     rintro e w8 ⟨s9,F9,rfl,ho9,-,hb8⟩
     exact hK _ _ ⟨_,_,rfl,rfl,hI.step hb8 ⟨s9,rfl,ho9.trees.any⟩⟩
   · have e9:xa.tmps.getD 9 undef=.pointer (some ⟨gs,0,none⟩):=ho 9 (by kernel_rfl)
     refine Ri.step_plain rfl rfl (fun K' hK=>?_)
     refine wp_load_row _ _ rfl _ e9 _ _ _ _ (keep_blk hI.1 YS.out) Tryd.underlying37 rfl (by kernel_rfl) ?_
     exact hK _ _ ⟨_,_,rfl,rfl,hI.step (Below.refl _ _) ⟨_,rfl,TS.out.later hI.1⟩⟩
   · obtain ⟨j37,j38⟩:L 37=true∧L 38=true:=by have:=hd _ rfl;simp [Region.binds] at this;simp [this]
     obtain ⟨s37,h37,k37⟩:NdAt w9 (v 37) (Tr.rep 0 (-1) (Tr.rep 0 (-1) t)):=hI.2 37 j37
     obtain ⟨p37,c37,rfl,-⟩:=k37.slice
     have f37:=(hv 37 94 rfl j37).trans h37
     obtain ⟨s38,h38,k38⟩:NdAt w9 (v 38) (Tr.rep 0 (-1) t):=hI.2 38 j38
     obtain ⟨p38,c38,rfl,-⟩:=k38.slice
     have f38:=(hv 38 95 rfl j38).trans h38
     refine Ri.step_plain rfl rfl (fun K' hK=>?_)
     refine wp_pair2 (.tmp 94) (.tmp 95) (Tr.rep 0 (-1) (Tr.rep 0 (-1) t)) (Tr.rep 0 (-1) t) p37 (Tr.rep 0 (-1) (Tr.rep 0 (-1) t)).subs.length c37 p38 (Tr.rep 0 (-1) t).subs.length c38 rfl f37 f38 ?_
     exact hK _ _ ⟨_,_,rfl,rfl,hI.step (Below.refl _ _) ⟨p37,c37,p38,c38,rfl,k37,k38⟩⟩
   · have e9:xa.tmps.getD 4 undef=.pointer (some ⟨w.heap.size,0,none⟩):=ho 4 (by kernel_rfl)
     refine Ri.step_plain rfl rfl (fun K' hK=>?_)
     refine wp_load_row _ _ rfl _ e9 _ _ _ _ (keep_blk hI.1 HF.out.2.1) Tryd.underlying37 rfl (by kernel_rfl) ?_
     exact hK _ _ ⟨_,_,rfl,rfl,hI.step (Below.refl _ _) (HVT.out w9 hbw)⟩
   · have j40:L 40=true:=by have:=hd _ rfl;simp [Region.binds] at this;simp [this]
     have hnd:NdAt w9 (v 40) t:=hI.2 40 j40
     have f40:=hv 40 97 rfl j40
     refine Ri.step_plain rfl rfl (fun K' hK=>?_)
     go_simp
     refine (rep_any t 0 (1) w9 _ _ hnd).mono ?_
     rintro e w8 ⟨s9,F9,rfl,ho9,-,hb8⟩
     exact hK _ _ ⟨_,_,rfl,rfl,hI.step hb8 ⟨s9,rfl,ho9.trees.any⟩⟩
   · refine Ri.step_plain rfl rfl (fun K' hK=>?_)
     go_simp
     refine (seq_any [] w9 (fun _=>True) (.slice none 0 0) TreesAt.nil).mono ?_
     rintro e w8 ⟨s9,F9,rfl,ho9,-,hb8⟩
     exact hK _ _ ⟨_,_,rfl,rfl,hI.step hb8 ⟨s9,rfl,ho9.trees.any⟩⟩
   · have e9:xa.tmps.getD 4 undef=.pointer (some ⟨w.heap.size,0,none⟩):=ho 4 (by kernel_rfl)
     refine Ri.step_plain rfl rfl (fun K' hK=>?_)
     refine wp_load_row _ _ rfl _ e9 _ _ _ _ (keep_blk hI.1 HF.out.2.1) Tryd.underlying37 rfl (by kernel_rfl) ?_
     exact hK _ _ ⟨_,_,rfl,rfl,hI.step (Below.refl _ _) (HVT.out w9 hbw)⟩
   · obtain ⟨j42,j43⟩:L 42=true∧L 43=true:=by have:=hd _ rfl;simp [Region.binds] at this;simp [this]
     obtain ⟨s42,h42,k42⟩:NdAt w9 (v 42) (Tr.several 5 []):=hI.2 42 j42
     obtain ⟨p42,c42,rfl,-⟩:=k42.slice
     have f42:=(hv 42 99 rfl j42).trans h42
     obtain ⟨s43,h43,k43⟩:NdAt w9 (v 43) t:=hI.2 43 j43
     obtain ⟨p43,c43,rfl,-⟩:=k43.slice
     have f43:=(hv 43 100 rfl j43).trans h43
     refine Ri.step_plain rfl rfl (fun K' hK=>?_)
     refine wp_node2 (.tmp 99) (.tmp 100) (Tr.several 5 []) t p42 (Tr.several 5 []).subs.length c42 p43 t.subs.length c43 rfl f42 f43 ?_
     exact hK _ _ ⟨_,_,rfl,rfl,hI.step ((Below.refl _ _).alloc (Nat.le_refl _) _) (LsAt.two k42 k43)⟩
   · have j44:L 44=true:=by have:=hd _ rfl;simp [Region.binds] at this;simp [this]
     have hls:LsAt w9 (v 44) [(Tr.several 5 []),t]:=hI.2 44 j44
     have f44:=hv 44 101 rfl j44
     refine Ri.step_plain rfl rfl (fun K' hK=>?_)
     go_simp
     refine (alt_any [(Tr.several 5 []),t] (by simp) w9 _ _ hls).mono ?_
     rintro e w8 ⟨s9,F9,rfl,ho9,-,hb8⟩
     exact hK _ _ ⟨_,_,rfl,rfl,hI.step hb8 ⟨s9,rfl,ho9.trees.any⟩⟩
   · obtain ⟨j41,j45⟩:L 41=true∧L 45=true:=by have:=hd _ rfl;simp [Region.binds] at this;simp [this]
     obtain ⟨s41,h41,k41⟩:NdAt w9 (v 41) (Tr.rep 0 (1) t):=hI.2 41 j41
     obtain ⟨p41,c41,rfl,-⟩:=k41.slice
     have f41:=(hv 41 98 rfl j41).trans h41
     obtain ⟨s45,h45,k45⟩:NdAt w9 (v 45) (Tr.several 6 [(Tr.several 5 []),t]):=hI.2 45 j45
     obtain ⟨p45,c45,rfl,-⟩:=k45.slice
     have f45:=(hv 45 102 rfl j45).trans h45
     refine Ri.step_plain rfl rfl (fun K' hK=>?_)
     refine wp_pair2 (.tmp 98) (.tmp 102) (Tr.rep 0 (1) t) (Tr.several 6 [(Tr.several 5 []),t]) p41 (Tr.rep 0 (1) t).subs.length c41 p45 (Tr.several 6 [(Tr.several 5 []),t]).subs.length c45 rfl f41 f45 ?_
     exact hK _ _ ⟨_,_,rfl,rfl,hI.step (Below.refl _ _) ⟨p41,c41,p45,c45,rfl,k41,k45⟩⟩
   · have e9:xa.tmps.getD 4 undef=.pointer (some ⟨w.heap.size,0,none⟩):=ho 4 (by kernel_rfl)
     refine Ri.step_plain rfl rfl (fun K' hK=>?_)
     refine wp_load_row _ _ rfl _ e9 _ _ _ _ (keep_blk hI.1 HF.out.2.1) Tryd.underlying37 rfl (by kernel_rfl) ?_
     exact hK _ _ ⟨_,_,rfl,rfl,hI.step (Below.refl _ _) (HVT.out w9 hbw)⟩
   · have e9:xa.tmps.getD 5 undef=.pointer (some ⟨w.heap.size+1,0,none⟩):=ho 5 (by kernel_rfl)
     refine Ri.step_plain rfl rfl (fun K' hK=>?_)
     refine wp_load_row _ _ rfl _ e9 _ _ _ _ (keep_blk hI.1 HF.out.2.2.1) Tryd.underlying37 rfl (by kernel_rfl) ?_
     exact hK _ _ ⟨_,_,rfl,rfl,hI.step (Below.refl _ _) (HVU.out w9 hbw)⟩
   · obtain ⟨j47,j48⟩:L 47=true∧L 48=true:=by have:=hd _ rfl;simp [Region.binds] at this;simp [this]
     obtain ⟨s47,h47,k47⟩:NdAt w9 (v 47) t:=hI.2 47 j47
     obtain ⟨p47,c47,rfl,-⟩:=k47.slice
     have f47:=(hv 47 104 rfl j47).trans h47
     obtain ⟨s48,h48,k48⟩:NdAt w9 (v 48) u:=hI.2 48 j48
     obtain ⟨p48,c48,rfl,-⟩:=k48.slice
     have f48:=(hv 48 105 rfl j48).trans h48
     refine Ri.step_plain rfl rfl (fun K' hK=>?_)
     refine wp_node2 (.tmp 104) (.tmp 105) t u p47 t.subs.length c47 p48 u.subs.length c48 rfl f47 f48 ?_
     exact hK _ _ ⟨_,_,rfl,rfl,hI.step ((Below.refl _ _).alloc (Nat.le_refl _) _) (LsAt.two k47 k48)⟩
   · have j49:L 49=true:=by have:=hd _ rfl;simp [Region.binds] at this;simp [this]
     have hls:LsAt w9 (v 49) [t,u]:=hI.2 49 j49
     have f49:=hv 49 106 rfl j49
     refine Ri.step_plain rfl rfl (fun K' hK=>?_)
     go_simp
     refine (alt_any [t,u] (by simp) w9 _ _ hls).mono ?_
     rintro e w8 ⟨s9,F9,rfl,ho9,-,hb8⟩
     exact hK _ _ ⟨_,_,rfl,rfl,hI.step hb8 ⟨s9,rfl,ho9.trees.any⟩⟩
   · have e9:xa.tmps.getD 4 undef=.pointer (some ⟨w.heap.size,0,none⟩):=ho 4 (by kernel_rfl)
     refine Ri.step_plain rfl rfl (fun K' hK=>?_)
     refine wp_load_row _ _ rfl _ e9 _ _ _ _ (keep_blk hI.1 HF.out.2.1) Tryd.underlying37 rfl (by kernel_rfl) ?_
     exact hK _ _ ⟨_,_,rfl,rfl,hI.step (Below.refl _ _) (HVT.out w9 hbw)⟩
   · obtain ⟨j50,j51⟩:L 50=true∧L 51=true:=by have:=hd _ rfl;simp [Region.binds] at this;simp [this]
     obtain ⟨s50,h50,k50⟩:NdAt w9 (v 50) (Tr.several 6 [t,u]):=hI.2 50 j50
     obtain ⟨p50,c50,rfl,-⟩:=k50.slice
     have f50:=(hv 50 107 rfl j50).trans h50
     obtain ⟨s51,h51,k51⟩:NdAt w9 (v 51) t:=hI.2 51 j51
     obtain ⟨p51,c51,rfl,-⟩:=k51.slice
     have f51:=(hv 51 108 rfl j51).trans h51
     refine Ri.step_plain rfl rfl (fun K' hK=>?_)
     refine wp_node2 (.tmp 107) (.tmp 108) (Tr.several 6 [t,u]) t p50 (Tr.several 6 [t,u]).subs.length c50 p51 t.subs.length c51 rfl f50 f51 ?_
     exact hK _ _ ⟨_,_,rfl,rfl,hI.step ((Below.refl _ _).alloc (Nat.le_refl _) _) (LsAt.two k50 k51)⟩
   · have j52:L 52=true:=by have:=hd _ rfl;simp [Region.binds] at this;simp [this]
     have hls:LsAt w9 (v 52) [(Tr.several 6 [t,u]),t]:=hI.2 52 j52
     have f52:=hv 52 109 rfl j52
     refine Ri.step_plain rfl rfl (fun K' hK=>?_)
     go_simp
     refine (seq_any [(Tr.several 6 [t,u]),t] w9 _ _ hls).mono ?_
     rintro e w8 ⟨s9,F9,rfl,ho9,-,hb8⟩
     exact hK _ _ ⟨_,_,rfl,rfl,hI.step hb8 ⟨s9,rfl,ho9.trees.any⟩⟩
   · have e9:xa.tmps.getD 4 undef=.pointer (some ⟨w.heap.size,0,none⟩):=ho 4 (by kernel_rfl)
     refine Ri.step_plain rfl rfl (fun K' hK=>?_)
     refine wp_load_row _ _ rfl _ e9 _ _ _ _ (keep_blk hI.1 HF.out.2.1) Tryd.underlying37 rfl (by kernel_rfl) ?_
     exact hK _ _ ⟨_,_,rfl,rfl,hI.step (Below.refl _ _) (HVT.out w9 hbw)⟩
   · have e9:xa.tmps.getD 4 undef=.pointer (some ⟨w.heap.size,0,none⟩):=ho 4 (by kernel_rfl)
     refine Ri.step_plain rfl rfl (fun K' hK=>?_)
     refine wp_load_row _ _ rfl _ e9 _ _ _ _ (keep_blk hI.1 HF.out.2.1) Tryd.underlying37 rfl (by kernel_rfl) ?_
     exact hK _ _ ⟨_,_,rfl,rfl,hI.step (Below.refl _ _) (HVT.out w9 hbw)⟩
   · obtain ⟨j54,j55⟩:L 54=true∧L 55=true:=by have:=hd _ rfl;simp [Region.binds] at this;simp [this]
     obtain ⟨s54,h54,k54⟩:NdAt w9 (v 54) t:=hI.2 54 j54
     obtain ⟨p54,c54,rfl,-⟩:=k54.slice
     have f54:=(hv 54 111 rfl j54).trans h54
     obtain ⟨s55,h55,k55⟩:NdAt w9 (v 55) t:=hI.2 55 j55
     obtain ⟨p55,c55,rfl,-⟩:=k55.slice
     have f55:=(hv 55 112 rfl j55).trans h55
     refine Ri.step_plain rfl rfl (fun K' hK=>?_)
     refine wp_node2 (.tmp 111) (.tmp 112) t t p54 t.subs.length c54 p55 t.subs.length c55 rfl f54 f55 ?_
     exact hK _ _ ⟨_,_,rfl,rfl,hI.step ((Below.refl _ _).alloc (Nat.le_refl _) _) (LsAt.two k54 k55)⟩
   · have j56:L 56=true:=by have:=hd _ rfl;simp [Region.binds] at this;simp [this]
     have hls:LsAt w9 (v 56) [t,t]:=hI.2 56 j56
     have f56:=hv 56 113 rfl j56
     refine Ri.step_plain rfl rfl (fun K' hK=>?_)
     go_simp
     refine (seq_any [t,t] w9 _ _ hls).mono ?_
     rintro e w8 ⟨s9,F9,rfl,ho9,-,hb8⟩
     exact hK _ _ ⟨_,_,rfl,rfl,hI.step hb8 ⟨s9,rfl,ho9.trees.any⟩⟩
   · have e9:xa.tmps.getD 5 undef=.pointer (some ⟨w.heap.size+1,0,none⟩):=ho 5 (by kernel_rfl)
     refine Ri.step_plain rfl rfl (fun K' hK=>?_)
     refine wp_load_row _ _ rfl _ e9 _ _ _ _ (keep_blk hI.1 HF.out.2.2.1) Tryd.underlying37 rfl (by kernel_rfl) ?_
     exact hK _ _ ⟨_,_,rfl,rfl,hI.step (Below.refl _ _) (HVU.out w9 hbw)⟩
   · have e9:xa.tmps.getD 4 undef=.pointer (some ⟨w.heap.size,0,none⟩):=ho 4 (by kernel_rfl)
     refine Ri.step_plain rfl rfl (fun K' hK=>?_)
     refine wp_load_row _ _ rfl _ e9 _ _ _ _ (keep_blk hI.1 HF.out.2.1) Tryd.underlying37 rfl (by kernel_rfl) ?_
     exact hK _ _ ⟨_,_,rfl,rfl,hI.step (Below.refl _ _) (HVT.out w9 hbw)⟩
   · obtain ⟨j58,j59⟩:L 58=true∧L 59=true:=by have:=hd _ rfl;simp [Region.binds] at this;simp [this]
     obtain ⟨s58,h58,k58⟩:NdAt w9 (v 58) u:=hI.2 58 j58
     obtain ⟨p58,c58,rfl,-⟩:=k58.slice
     have f58:=(hv 58 115 rfl j58).trans h58
     obtain ⟨s59,h59,k59⟩:NdAt w9 (v 59) t:=hI.2 59 j59
     obtain ⟨p59,c59,rfl,-⟩:=k59.slice
     have f59:=(hv 59 116 rfl j59).trans h59
     refine Ri.step_plain rfl rfl (fun K' hK=>?_)
     refine wp_node2 (.tmp 115) (.tmp 116) u t p58 u.subs.length c58 p59 t.subs.length c59 rfl f58 f59 ?_
     exact hK _ _ ⟨_,_,rfl,rfl,hI.step ((Below.refl _ _).alloc (Nat.le_refl _) _) (LsAt.two k58 k59)⟩
   · have j60:L 60=true:=by have:=hd _ rfl;simp [Region.binds] at this;simp [this]
     have hls:LsAt w9 (v 60) [u,t]:=hI.2 60 j60
     have f60:=hv 60 117 rfl j60
     refine Ri.step_plain rfl rfl (fun K' hK=>?_)
     go_simp
     refine (seq_any [u,t] w9 _ _ hls).mono ?_
     rintro e w8 ⟨s9,F9,rfl,ho9,-,hb8⟩
     exact hK _ _ ⟨_,_,rfl,rfl,hI.step hb8 ⟨s9,rfl,ho9.trees.any⟩⟩
   · obtain ⟨j57,j61⟩:L 57=true∧L 61=true:=by have:=hd _ rfl;simp [Region.binds] at this;simp [this]
     obtain ⟨s57,h57,k57⟩:NdAt w9 (v 57) (Tr.several 5 [t,t]):=hI.2 57 j57
     obtain ⟨p57,c57,rfl,-⟩:=k57.slice
     have f57:=(hv 57 114 rfl j57).trans h57
     obtain ⟨s61,h61,k61⟩:NdAt w9 (v 61) (Tr.several 5 [u,t]):=hI.2 61 j61
     obtain ⟨p61,c61,rfl,-⟩:=k61.slice
     have f61:=(hv 61 118 rfl j61).trans h61
     refine Ri.step_plain rfl rfl (fun K' hK=>?_)
     refine wp_node2 (.tmp 114) (.tmp 118) (Tr.several 5 [t,t]) (Tr.several 5 [u,t]) p57 (Tr.several 5 [t,t]).subs.length c57 p61 (Tr.several 5 [u,t]).subs.length c61 rfl f57 f61 ?_
     exact hK _ _ ⟨_,_,rfl,rfl,hI.step ((Below.refl _ _).alloc (Nat.le_refl _) _) (LsAt.two k57 k61)⟩
   · have j62:L 62=true:=by have:=hd _ rfl;simp [Region.binds] at this;simp [this]
     have hls:LsAt w9 (v 62) [(Tr.several 5 [t,t]),(Tr.several 5 [u,t])]:=hI.2 62 j62
     have f62:=hv 62 119 rfl j62
     refine Ri.step_plain rfl rfl (fun K' hK=>?_)
     go_simp
     refine (alt_any [(Tr.several 5 [t,t]),(Tr.several 5 [u,t])] (by simp) w9 _ _ hls).mono ?_
     rintro e w8 ⟨s9,F9,rfl,ho9,-,hb8⟩
     exact hK _ _ ⟨_,_,rfl,rfl,hI.step hb8 ⟨s9,rfl,ho9.trees.any⟩⟩
   · obtain ⟨j53,j63⟩:L 53=true∧L 63=true:=by have:=hd _ rfl;simp [Region.binds] at this;simp [this]
     obtain ⟨s53,h53,k53⟩:NdAt w9 (v 53) (Tr.several 5 [(Tr.several 6 [t,u]),t]):=hI.2 53 j53
     obtain ⟨p53,c53,rfl,-⟩:=k53.slice
     have f53:=(hv 53 110 rfl j53).trans h53
     obtain ⟨s63,h63,k63⟩:NdAt w9 (v 63) (Tr.several 6 [(Tr.several 5 [t,t]),(Tr.several 5 [u,t])]):=hI.2 63 j63
     obtain ⟨p63,c63,rfl,-⟩:=k63.slice
     have f63:=(hv 63 120 rfl j63).trans h63
     refine Ri.step_plain rfl rfl (fun K' hK=>?_)
     refine wp_pair2 (.tmp 110) (.tmp 120) (Tr.several 5 [(Tr.several 6 [t,u]),t]) (Tr.several 6 [(Tr.several 5 [t,t]),(Tr.several 5 [u,t])]) p53 (Tr.several 5 [(Tr.several 6 [t,u]),t]).subs.length c53 p63 (Tr.several 6 [(Tr.several 5 [t,t]),(Tr.several 5 [u,t])]).subs.length c63 rfl f53 f63 ?_
     exact hK _ _ ⟨_,_,rfl,rfl,hI.step (Below.refl _ _) ⟨p53,c53,p63,c63,rfl,k53,k63⟩⟩
   · obtain ⟨j8,j23,j29,j35,j39,j46,j64⟩:L 8=true∧L 23=true∧L 29=true∧L 35=true∧L 39=true∧L 46=true∧L 64=true:=by have:=hd _ rfl;simp [Region.binds] at this;simp [this]
     obtain ⟨p8,c8,q8,d8,h8,k8⟩:KdAt w9 (v 8) (.pr (Tr.several 6 [t,u]) (Tr.several 6 [u,t])):=hI.2 8 j8
     have f8:=(hv 8 65 rfl j8).trans h8
     obtain ⟨p23,c23,q23,d23,h23,k23⟩:KdAt w9 (v 23) (.pr (Tr.several 5 [(Tr.several 5 [t,u]),t]) (Tr.several 5 [t,(Tr.several 5 [u,t])])):=hI.2 23 j23
     have f23:=(hv 23 80 rfl j23).trans h23
     obtain ⟨p29,c29,q29,d29,h29,k29⟩:KdAt w9 (v 29) (.pr (Tr.several 5 [t,(Tr.several 5 [])]) t):=hI.2 29 j29
     have f29:=(hv 29 86 rfl j29).trans h29
     obtain ⟨p35,c35,q35,d35,h35,k35⟩:KdAt w9 (v 35) (.pr (Tr.several 6 [t,Tr.noByte]) t):=hI.2 35 j35
     have f35:=(hv 35 92 rfl j35).trans h35
     obtain ⟨p39,c39,q39,d39,h39,k39⟩:KdAt w9 (v 39) (.pr (Tr.rep 0 (-1) (Tr.rep 0 (-1) t)) (Tr.rep 0 (-1) t)):=hI.2 39 j39
     have f39:=(hv 39 96 rfl j39).trans h39
     obtain ⟨p46,c46,q46,d46,h46,k46⟩:KdAt w9 (v 46) (.pr (Tr.rep 0 (1) t) (Tr.several 6 [(Tr.several 5 []),t])):=hI.2 46 j46
     have f46:=(hv 46 103 rfl j46).trans h46
     obtain ⟨p64,c64,q64,d64,h64,k64⟩:KdAt w9 (v 64) (.pr (Tr.several 5 [(Tr.several 6 [t,u]),t]) (Tr.several 6 [(Tr.several 5 [t,t]),(Tr.several 5 [u,t])])):=hI.2 64 j64
     have f64:=(hv 64 121 rfl j64).trans h64
     refine Ri.step_plain rfl rfl (fun K' hK=>?_)
     refine wp_pairs7 (.tmp 65) (.tmp 80) (.tmp 86) (.tmp 92) (.tmp 96) (.tmp 103) (.tmp 121) ⟨(Tr.several 6 [t,u]),(Tr.several 6 [u,t]),.slice p8 (Tr.several 6 [t,u]).subs.length c8,.slice q8 (Tr.several 6 [u,t]).subs.length d8⟩ ⟨(Tr.several 5 [(Tr.several 5 [t,u]),t]),(Tr.several 5 [t,(Tr.several 5 [u,t])]),.slice p23 (Tr.several 5 [(Tr.several 5 [t,u]),t]).subs.length c23,.slice q23 (Tr.several 5 [t,(Tr.several 5 [u,t])]).subs.length d23⟩ ⟨(Tr.several 5 [t,(Tr.several 5 [])]),t,.slice p29 (Tr.several 5 [t,(Tr.several 5 [])]).subs.length c29,.slice q29 t.subs.length d29⟩ ⟨(Tr.several 6 [t,Tr.noByte]),t,.slice p35 (Tr.several 6 [t,Tr.noByte]).subs.length c35,.slice q35 t.subs.length d35⟩ ⟨(Tr.rep 0 (-1) (Tr.rep 0 (-1) t)),(Tr.rep 0 (-1) t),.slice p39 (Tr.rep 0 (-1) (Tr.rep 0 (-1) t)).subs.length c39,.slice q39 (Tr.rep 0 (-1) t).subs.length d39⟩ ⟨(Tr.rep 0 (1) t),(Tr.several 6 [(Tr.several 5 []),t]),.slice p46 (Tr.rep 0 (1) t).subs.length c46,.slice q46 (Tr.several 6 [(Tr.several 5 []),t]).subs.length d46⟩ ⟨(Tr.several 5 [(Tr.several 6 [t,u]),t]),(Tr.several 6 [(Tr.several 5 [t,t]),(Tr.several 5 [u,t])]),.slice p64 (Tr.several 5 [(Tr.several 6 [t,u]),t]).subs.length c64,.slice q64 (Tr.several 6 [(Tr.several 5 [t,t]),(Tr.several 5 [u,t])]).subs.length d64⟩ rfl f8 f23 f29 f35 f39 f46 f64 ?_
     have hba:=(Below.refl w9.heap.size w9).alloc (Nat.le_refl _) (.cells (qRow [⟨(Tr.several 6 [t,u]),(Tr.several 6 [u,t]),.slice p8 (Tr.several 6 [t,u]).subs.length c8,.slice q8 (Tr.several 6 [u,t]).subs.length d8⟩,⟨(Tr.several 5 [(Tr.several 5 [t,u]),t]),(Tr.several 5 [t,(Tr.several 5 [u,t])]),.slice p23 (Tr.several 5 [(Tr.several 5 [t,u]),t]).subs.length c23,.slice q23 (Tr.several 5 [t,(Tr.several 5 [u,t])]).subs.length d23⟩,⟨(Tr.several 5 [t,(Tr.several 5 [])]),t,.slice p29 (Tr.several 5 [t,(Tr.several 5 [])]).subs.length c29,.slice q29 t.subs.length d29⟩,⟨(Tr.several 6 [t,Tr.noByte]),t,.slice p35 (Tr.several 6 [t,Tr.noByte]).subs.length c35,.slice q35 t.subs.length d35⟩,⟨(Tr.rep 0 (-1) (Tr.rep 0 (-1) t)),(Tr.rep 0 (-1) t),.slice p39 (Tr.rep 0 (-1) (Tr.rep 0 (-1) t)).subs.length c39,.slice q39 (Tr.rep 0 (-1) t).subs.length d39⟩,⟨(Tr.rep 0 (1) t),(Tr.several 6 [(Tr.several 5 []),t]),.slice p46 (Tr.rep 0 (1) t).subs.length c46,.slice q46 (Tr.several 6 [(Tr.several 5 []),t]).subs.length d46⟩,⟨(Tr.several 5 [(Tr.several 6 [t,u]),t]),(Tr.several 6 [(Tr.several 5 [t,t]),(Tr.several 5 [u,t])]),.slice p64 (Tr.several 5 [(Tr.several 6 [t,u]),t]).subs.length c64,.slice q64 (Tr.several 6 [(Tr.several 5 [t,t]),(Tr.several 5 [u,t])]).subs.length d64⟩]).toArray 46)
     exact hK _ _ ⟨_,_,rfl,rfl,hI.step hba ⟨w9.heap.size,[⟨(Tr.several 6 [t,u]),(Tr.several 6 [u,t]),.slice p8 (Tr.several 6 [t,u]).subs.length c8,.slice q8 (Tr.several 6 [u,t]).subs.length d8⟩,⟨(Tr.several 5 [(Tr.several 5 [t,u]),t]),(Tr.several 5 [t,(Tr.several 5 [u,t])]),.slice p23 (Tr.several 5 [(Tr.several 5 [t,u]),t]).subs.length c23,.slice q23 (Tr.several 5 [t,(Tr.several 5 [u,t])]).subs.length d23⟩,⟨(Tr.several 5 [t,(Tr.several 5 [])]),t,.slice p29 (Tr.several 5 [t,(Tr.several 5 [])]).subs.length c29,.slice q29 t.subs.length d29⟩,⟨(Tr.several 6 [t,Tr.noByte]),t,.slice p35 (Tr.several 6 [t,Tr.noByte]).subs.length c35,.slice q35 t.subs.length d35⟩,⟨(Tr.rep 0 (-1) (Tr.rep 0 (-1) t)),(Tr.rep 0 (-1) t),.slice p39 (Tr.rep 0 (-1) (Tr.rep 0 (-1) t)).subs.length c39,.slice q39 (Tr.rep 0 (-1) t).subs.length d39⟩,⟨(Tr.rep 0 (1) t),(Tr.several 6 [(Tr.several 5 []),t]),.slice p46 (Tr.rep 0 (1) t).subs.length c46,.slice q46 (Tr.several 6 [(Tr.several 5 []),t]).subs.length d46⟩,⟨(Tr.several 5 [(Tr.several 6 [t,u]),t]),(Tr.several 6 [(Tr.several 5 [t,t]),(Tr.several 5 [u,t])]),.slice p64 (Tr.several 5 [(Tr.several 6 [t,u]),t]).subs.length c64,.slice q64 (Tr.several 6 [(Tr.several 5 [t,t]),(Tr.several 5 [u,t])]).subs.length d64⟩],rfl,heap_alloc_new _ _,rfl,fun q hq=>by
       simp only [List.mem_cons,List.not_mem_nil,or_false] at hq
       rcases hq with rfl | rfl | rfl | rfl | rfl | rfl | rfl
       · exact k8.below hba
       · exact k23.below hba
       · exact k29.below hba
       · exact k35.below hba
       · exact k39.below hba
       · exact k46.below hba
       · exact k64.below hba⟩⟩
   · have j65:L 65=true:=by have:=hd _ rfl;simp [Region.binds] at this;simp [this]
     have htb:TbAt w9 (v 65) (algPairs t u):=hI.2 65 j65
     have f65:=hv 65 122 rfl j65
     refine Ri.step_plain rfl rfl (fun K' hK=>?_)
     go_simp
     exact hK _ _ ⟨_,_,rfl,rfl,hI.step (Below.refl _ _) htb⟩
 · rintro v w8 hI
   obtain ⟨gt,Q,e10,hgt,hmap,hqs⟩:TbAt w8 (v 66) (algPairs t u):=hI.2 66 rfl
   have HF8:=Lib.hid (HF.out.next hI.1)
   have HGT:=Lib.hid hgt;have HMAP:=Lib.hid hmap;have HQS:=Lib.hid hqs
   clear hgt hmap hqs hI
   simp only [Ri.frame,List.append_eq,List.cons_append,List.nil_append,List.zipIdx,List.foldl_cons,List.foldl_nil,if_true,List.setIfInBounds_toArray,List.set_cons_zero,List.set_cons_succ,Nat.reduceAdd,e10]
   skip
   clear e10
   generalize v 0=z0;generalize v 1=z1;generalize v 2=z2;generalize v 3=z3;generalize v 4=z4;generalize v 5=z5;generalize v 6=z6;generalize v 7=z7;generalize v 8=z8;generalize v 9=z9;generalize v 10=z10;generalize v 11=z11;generalize v 12=z12;generalize v 13=z13;generalize v 14=z14;generalize v 15=z15;generalize v 16=z16;generalize v 17=z17;generalize v 18=z18;generalize v 19=z19;generalize v 20=z20;generalize v 21=z21;generalize v 22=z22;generalize v 23=z23;generalize v 24=z24;generalize v 25=z25;generalize v 26=z26;generalize v 27=z27;generalize v 28=z28;generalize v 29=z29;generalize v 30=z30;generalize v 31=z31;generalize v 32=z32;generalize v 33=z33;generalize v 34=z34;generalize v 35=z35;generalize v 36=z36;generalize v 37=z37;generalize v 38=z38;generalize v 39=z39;generalize v 40=z40;generalize v 41=z41;generalize v 42=z42;generalize v 43=z43;generalize v 44=z44;generalize v 45=z45;generalize v 46=z46;generalize v 47=z47;generalize v 48=z48;generalize v 49=z49;generalize v 50=z50;generalize v 51=z51;generalize v 52=z52;generalize v 53=z53;generalize v 54=z54;generalize v 55=z55;generalize v 56=z56;generalize v 57=z57;generalize v 58=z58;generalize v 59=z59;generalize v 60=z60;generalize v 61=z61;generalize v 62=z62;generalize v 63=z63;generalize v 64=z64;generalize v 65=z65
   clear YS TS
   obtain ⟨d0,d1,d2⟩:=HF8.out.view
   go_wp2_with fail
   refine (scnew_any s c e0 w8).mono ?_
   rintro e w0 ⟨rfl,hx,hb0,-⟩
   have HF0:=Lib.hid (HF8.out.next hb0)
   have HX0:=Lib.hid hx
   have HGT0:=Lib.hid (keep_blk hb0 HGT.out)
   have HQS0:=Lib.hid (fun q hq=>(HQS.out q hq).below hb0)
   clear hx hb0 d0 d1 d2 HF HF8 HGT HQS
   generalize w8.heap.size=gx at *
   have HS63:=Lib.hid (show (Sc.new s c e0).t.size ≤ 63 from Nat.le_trans HS40.out (by decide))
   have HQL:=Lib.hid (show Q.length=7 by have:=congrArg List.length HMAP.out;rw [List.length_map] at this;exact this)
   try rw [show (algPairs t u).length=7 from rfl]
   go_wp2
   go_loopw [132] (fun iv wr=>∃ j:Nat,iv=.int .i64 (j:Int)∧j ≤ 7∧Hid (Below w0.heap.size w0 wr)) (fun iv _=>7 - (intOf iv).toNat)
   case atStart=>exact ⟨0,rfl,Nat.zero_le _,Lib.hid (Below.refl _ _)⟩
   case round =>
     obtain ⟨j,rfl,hj,HB⟩:=hrel
     have wj:IntKind.i64.wrap ((j:Int)+1)=(j:Int)+1:=IntWalk.i64_in _ (by omega)
     by_cases hlt:j < 7
     · have hjd:decide ((j:Int) < 7)=true:=decide_eq_true (by omega)
       have hji:(j:Int) < 7:=by omega
       obtain ⟨q,hq⟩:∃ q,Q[j]? = some q:=⟨_,List.getElem?_eq_getElem (by rw [HQL.out];exact hlt)⟩
       have hqm:(q.t,q.u) ∈ algPairs t u:=by rw [← HMAP.out];exact List.mem_map.2 ⟨q,List.mem_of_getElem? hq,rfl⟩
       have HDP:=Lib.hid (alg_dp t u HD.out HD2.out _ hqm)
       have HTK:=Lib.hid (alg_all (Sc.new s c e0) t u _ hqm)
       have HRA:=Lib.hid (show wr.rangeAt gt (j * 20) q.cells.toList from fun i x hi=>by
         have h20:i < 20:=by
           have:=(List.getElem?_eq_some_iff.1 hi).1;rw [Qd.size] at this;exact this
         have hx:=(qRow_get Q j q hq i h20).trans hi
         unfold World.cell?
         rw [keep_blk HB.out HGT0.out]
         simpa using hx)
       obtain ⟨hqt,hqu⟩:=(HQS0.out q (List.mem_of_getElem? hq)).below HB.out
       obtain ⟨qt,qu,qs,qr⟩:=q
       replace hqt:TreesAt wr (fun _=>True) qs qt.subs:=hqt
       replace hqu:TreesAt wr (fun _=>True) qr qu.subs:=hqu
       replace HDP:Hid (qt.dpT ≤ 1000000∧qu.dpT ≤ 1000000):=HDP
       replace HTK:Hid (∀ i j,Tr.tk (Sc.new s c e0) qt i j ↔ Tr.tk (Sc.new s c e0) qu i j):=HTK
       obtain ⟨ps,cs,rfl,-⟩:=hqt.slice
       obtain ⟨pr,cr,rfl,-⟩:=hqu.slice
       simp only [Qd.cells] at HRA
       have HQT:=Lib.hid hqt;have HQU:=Lib.hid hqu
       clear hqt hqu hq hqm
       have hz2:(zeroValue 46).run Tryd.prog wr=.ok (.agg #[.int .i64 0,.int .u64 0,.int .u64 0,.int .u64 0,.int .u64 0,.slice none 0 0,.int .i64 0,.int .i64 0,.int .i64 0,.bool false,.int .i64 0,.int .u64 0,.int .u64 0,.int .u64 0,.int .u64 0,.slice none 0 0,.int .i64 0,.int .i64 0,.int .i64 0,.bool false]) wr:=by kernel_rfl
       go_upto_region 11 with (first
         | (refine wpList_load_mid rfl 46 (.tmp 134) rfl gt (j * 20) rfl (cells2 qt qu (.slice ps qt.subs.length cs) (.slice pr qu.subs.length cr)).toList _ HRA.out Tryd.underlying46 rfl (by kernel_rfl) ?_;rw [Array.toArray_toList])
         | (refine wpList_store_row rfl 46 (.tmp 13) (.tmp 135) rfl wr.heap.size (cells2 qt qu (.slice ps qt.subs.length cs) (.slice pr qu.subs.length cr)) rfl rfl 46 _ (heap_alloc_new _ _) (by kernel_rfl) (by kernel_rfl) (cells2_all _ _ _ _ _ _ _ _) ?_)
         | fail)
       clear hz2
       have hbB:Below wr.heap.size wr (World.setRow (wr.alloc (.cells #[.int .i64 0,.int .u64 0,.int .u64 0,.int .u64 0,.int .u64 0,.slice none 0 0,.int .i64 0,.int .i64 0,.int .i64 0,.bool false,.int .i64 0,.int .u64 0,.int .u64 0,.int .u64 0,.int .u64 0,.slice none 0 0,.int .i64 0,.int .i64 0,.int .i64 0,.bool false] 46)) wr.heap.size (cells2 qt qu (.slice ps qt.subs.length cs) (.slice pr qu.subs.length cr))):=below_setRow ((Below.refl _ _).alloc (Nat.le_refl _) _) (Nat.le_refl _) _
       have HB1:=Lib.hid (HB.out.trans (hbB.mono HB.out.size))
       have YP:=Lib.hid (show (World.setRow (wr.alloc (.cells #[.int .i64 0,.int .u64 0,.int .u64 0,.int .u64 0,.int .u64 0,.slice none 0 0,.int .i64 0,.int .i64 0,.int .i64 0,.bool false,.int .i64 0,.int .u64 0,.int .u64 0,.int .u64 0,.int .u64 0,.slice none 0 0,.int .i64 0,.int .i64 0,.int .i64 0,.bool false] 46)) wr.heap.size (cells2 qt qu (.slice ps qt.subs.length cs) (.slice pr qu.subs.length cr))).heap[wr.heap.size]? = some (.cells (cells2 qt qu (.slice ps qt.subs.length cs) (.slice pr qu.subs.length cr)) 46) from heap_setRow (heap_alloc_new _ _))
       have HQT1:=Lib.hid (HQT.out.later hbB);have HQU1:=Lib.hid (HQU.out.later hbB)
       clear hbB HQT HQU HB HRA
       generalize (World.setRow (wr.alloc (.cells #[.int .i64 0,.int .u64 0,.int .u64 0,.int .u64 0,.int .u64 0,.slice none 0 0,.int .i64 0,.int .i64 0,.int .i64 0,.bool false,.int .i64 0,.int .u64 0,.int .u64 0,.int .u64 0,.int .u64 0,.slice none 0 0,.int .i64 0,.int .i64 0,.int .i64 0,.bool false] 46)) wr.heap.size (cells2 qt qu (.slice ps qt.subs.length cs) (.slice pr qu.subs.length cr)))=wb at *
       generalize wr.heap.size=gp at *
       try simp only [Act.put]
       have HCA:=Lib.hid (fun wx (hb:Below wb.heap.size wb wx)=>treecheckT_any A qt HDP.out.1 wx (HM.out wx (HF0.out.next (HB1.out.trans (hb.mono HB1.out.size))).1).errs _ _ (show NodeV wx (fun _=>True) (.agg (qt.cells (.slice ps qt.subs.length cs))) qt from ⟨_,rfl,HQT1.out.later hb⟩))
       have HCB:=Lib.hid (fun wx (hb:Below wb.heap.size wb wx)=>treecheckT_any A qu HDP.out.2 wx (HM.out wx (HF0.out.next (HB1.out.trans (hb.mono HB1.out.size))).1).errs _ _ (show NodeV wx (fun _=>True) (.agg (qu.cells (.slice pr qu.subs.length cr))) qu from ⟨_,rfl,HQU1.out.later hb⟩))
       go_wp2_with (first
         | (refine wpList_load_mid rfl 37 (.tmp 136) rfl gp 0 rfl (qt.cells (.slice ps qt.subs.length cs)).toList _ (pair_range YP.out).1 Tryd.underlying37 rfl (by kernel_rfl) ?_;rw [Array.toArray_toList])
         | fail)
       refine (HCA.out wb (Below.refl _ _)).mono ?_
       rintro e wc ⟨rfl,hbc⟩
       have HBc:=Lib.hid hbc
       clear hbc HCA
       by_cases hz:qt.checkC=0
       rotate_left
       · rw [sent_ne hz]
         generalize A (qt.checkC - 1)=aa
         clear hz
         have HBx:=Lib.hid (HB1.out.trans (HBc.out.mono HB1.out.size))
         go_wp2
         exact ⟨⟨j+1,by go_num,by omega,HBx⟩,by simp [intOf];omega⟩
       have HZA:=Lib.hid hz
       rw [hz,sent_nil]
       clear hz
       have YP1:=Lib.hid (keep_blk HBc.out YP.out)
       go_wp2_with (first
         | (refine wpList_load_mid_gd rfl rfl rfl 37 (.tmp 141) rfl gp 10 rfl (qu.cells (.slice pr qu.subs.length cr)).toList _ (pair_range YP1.out).2 Tryd.underlying37 rfl (by kernel_rfl) ?_;rw [Array.toArray_toList])
         | fail)
       refine (HCB.out wc HBc.out).mono ?_
       rintro e wd ⟨rfl,hbd⟩
       have HBd:=Lib.hid (HBc.out.trans (hbd.mono HBc.out.size))
       clear hbd HCB YP1
       by_cases hz:qu.checkC=0
       rotate_left
       · rw [sent_ne hz]
         generalize A (qu.checkC - 1)=aa
         clear hz
         have HBx:=Lib.hid (HB1.out.trans (HBd.out.mono HB1.out.size))
         go_wp2
         exact ⟨⟨j+1,by go_num,by omega,HBx⟩,by simp [intOf];omega⟩
       have HZB:=Lib.hid hz
       rw [hz,sent_nil]
       clear hz
       have YP1:=Lib.hid (keep_blk HBd.out YP.out)
       have HXb:=Lib.hid (HX0.out.below HB1.out)
       have HEA:=Lib.hid (fun wx (hb:Below wb.heap.size wb wx)=>ends_listA A qt HZA.out (Sc.new s c e0) HS63.out k HK.out gx wx (HM.out wx (HF0.out.next (HB1.out.trans (hb.mono HB1.out.size))).1) (HXb.out.below hb) _ _ (show NodeV wx (fun _=>True) (.agg (qt.cells (.slice ps qt.subs.length cs))) qt from ⟨_,rfl,HQT1.out.later hb⟩))
       have HEB:=Lib.hid (fun wx (hb:Below wb.heap.size wb wx)=>ends_listA A qu HZB.out (Sc.new s c e0) HS63.out k HK.out gx wx (HM.out wx (HF0.out.next (HB1.out.trans (hb.mono HB1.out.size))).1) (HXb.out.below hb) _ _ (show NodeV wx (fun _=>True) (.agg (qu.cells (.slice pr qu.subs.length cr))) qu from ⟨_,rfl,HQU1.out.later hb⟩))
       have heq:Re.up (Tr.tabT (Sc.new s c e0) qu k).getLsbD 64 0=Re.up (Tr.tabT (Sc.new s c e0) qt k).getLsbD 64 0 :=
         Re.up_congr _ _ fun i _ _=>Tr.tab_same HS63.out (Tr.checkC_zero.1 HZB.out).1 (Tr.checkC_zero.1 HZA.out).1 HK.out (fun m=>(HTK.out k m).symm) i
       rw [heq] at HEB
       have hlu:(Re.up (Tr.tabT (Sc.new s c e0) qt k).getLsbD 64 0).length ≤ 1000000:=Nat.le_trans (Re.up_length _ _ _) (by decide)
       have HLU:=Lib.hid hlu
       clear heq hlu
       generalize Re.up (Tr.tabT (Sc.new s c e0) qt k).getLsbD 64 0=LU at *
       go_wp2_with (first
         | (refine wpList_load_mid rfl 37 (.tmp 147) rfl gp 0 rfl (qt.cells (.slice ps qt.subs.length cs)).toList _ (pair_range YP1.out).1 Tryd.underlying37 rfl (by kernel_rfl) ?_;rw [Array.toArray_toList])
         | fail)
       refine (HEA.out wd HBd.out).mono ?_
       rintro e we ⟨u1,rfl,hi1,hbe⟩
       have HBe:=Lib.hid (HBd.out.trans (hbe.mono HBd.out.size))
       have I1:=Lib.hid hi1
       clear hi1 hbe HEA YP1
       have YP1:=Lib.hid (keep_blk HBe.out YP.out)
       go_wp2_with (first
         | (refine wpList_load_mid rfl 37 (.tmp 155) rfl gp 10 rfl (qu.cells (.slice pr qu.subs.length cr)).toList _ (pair_range YP1.out).2 Tryd.underlying37 rfl (by kernel_rfl) ?_;rw [Array.toArray_toList])
         | fail)
       refine (HEB.out we HBe.out).mono ?_
       rintro e wf ⟨u2,rfl,hi2,hbf⟩
       have HBf:=Lib.hid (HBe.out.trans (hbf.mono HBe.out.size))
       have I2:=Lib.hid hi2
       have I1f:=Lib.hid (I1.out.below hbf)
       clear hi2 hbf HEB YP1 I1
       go_wp2_with fail
       refine (sameints_any LU LU HLU.out HLU.out _ _ wf I1f.out I2.out).mono ?_
       rintro e wg ⟨rfl,hbg⟩
       rw [decide_eq_true rfl]
       have HBx:=Lib.hid (HB1.out.trans ((HBf.out.trans (hbg.mono HBf.out.size)).mono HB1.out.size))
       clear hbg
       go_wp2
       exact ⟨⟨j+1,by go_num,by omega,HBx⟩,by simp [intOf];omega⟩
     · obtain rfl:j=7:=by omega
       have HEND:=Lib.hid (HF0.out.next HB.out).1
       clear HB hlt
       go_wp2
       go_ret
       exact ⟨rfl,HEND.out⟩
end Go.Proofs.YtnaoiglbjkjogaaDoor
namespace Go.Proofs.YtnaoiglbjkjogaaDoor
open Go.ChangeShapes Go.WideShapes Go.ChangeAt Go.RowKit
theorem Tryd.cellsSet:Tryd.prog.cellsOf 24=4:=by kernel_rfl
theorem Tryd.cellsU64:Tryd.prog.cellsOf 22=1:=by kernel_rfl
theorem word_of {n:Int} (h:(Lit.int .u64 n).wf=true):∃ x:BitVec 64,n=Oc.U x:=by
 simp only [Lit.wf,IntKind.min,IntKind.max,IntKind.signed,IntKind.bits,Bool.and_eq_true] at h
 refine ⟨BitVec.ofInt 64 n, ?_⟩
 unfold Oc.U;rw [BitVec.toNat_ofInt]
 have h1:=h.1;have h2:=h.2
 simp at h1 h2
 omega
theorem open_words {H:Type} {enc:TypeId × Value→H} {w:World} {base:Nat} {spare:Nat→Bool} {held:Bool} {fuel:Nat} {c0 c1 c2 c3:Value} {x:DataW H × List MemPlace}
   (h:DataW.trod enc Tryd.prog w base spare held fuel 24 [c0,c1,c2,c3]=some x):∃ a b c d:BitVec 64,c0=.int .u64 (Oc.U a)∧c1=.int .u64 (Oc.U b)∧c2=.int .u64 (Oc.U c)∧c3=.int .u64 (Oc.U d):=by
 obtain ⟨y0,y1,y2,y3,n,_,h0,h1,h2,h3⟩:=trod_array4 Tryd.underlying24 Tryd.cellsU64 h
 obtain ⟨n0,e0,-,w0⟩:=DataW.trod_int Tryd.underlying22 h0
 obtain ⟨n1,e1,-,w1⟩:=DataW.trod_int Tryd.underlying22 h1
 obtain ⟨n2,e2,-,w2⟩:=DataW.trod_int Tryd.underlying22 h2
 obtain ⟨n3,e3,-,w3⟩:=DataW.trod_int Tryd.underlying22 h3
 obtain ⟨a,rfl⟩:=word_of w0
 obtain ⟨b,rfl⟩:=word_of w1
 obtain ⟨c,rfl⟩:=word_of w2
 obtain ⟨d,rfl⟩:=word_of w3
 simp only [List.cons.injEq,and_true] at e0 e1 e2 e3
 exact ⟨a,b,c,d,e0,e1,e2,e3⟩
theorem Tryd.own:ownKnob Tryd.prog.godebug=none:=by kernel_rfl
theorem Tryd.laidOut:laidOutB Tryd.prog=true:=by kernel_rfl
end Go.Proofs.YtnaoiglbjkjogaaDoor
namespace Go.Proofs.YtnaoiglbjkjogaaDoor
open Go.ChangeShapes Go.WideShapes Go.ChangeAt Go.RowKit
theorem Tryd.cellsNodeO:Tryd.prog.cellsOf 37=10:=by kernel_rfl
theorem Tryd.cellsIntO:Tryd.prog.cellsOf 3=1:=by kernel_rfl
theorem Tryd.cellsBoolO:Tryd.prog.cellsOf 4=1:=by kernel_rfl
theorem Tryd.cellsNodesO:Tryd.prog.cellsOf 35=1:=by kernel_rfl
theorem Tryd.bytesNodeO:Tryd.prog.bytesOf 37=96:=by kernel_rfl
theorem list10 {α:Type} {l:List α} (h:l.length=10):∃ a0 a1 a2 a3 a4 a5 a6 a7 a8 a9,l=[a0,a1,a2,a3,a4,a5,a6,a7,a8,a9]:=by
 match l,h with
 | [a0,a1,a2,a3,a4,a5,a6,a7,a8,a9],_=>exact ⟨a0,a1,a2,a3,a4,a5,a6,a7,a8,a9,rfl⟩
theorem list7 {α:Type} {l:List α} (h:l.length=7):∃ a0 a1 a2 a3 a4 a5 a6,l=[a0,a1,a2,a3,a4,a5,a6]:=by
 match l,h with
 | [a0,a1,a2,a3,a4,a5,a6],_=>exact ⟨a0,a1,a2,a3,a4,a5,a6,rfl⟩
theorem weightsAll_mem {H:Type} {P:Program} {e:TypeId} {k:Nat} {d:DataW H} : ∀ {l:List (DataW H)},d ∈ l→k ∈ d.weights P e→k ∈ DataW.weightsAll P e l
 | [],h,_=>by cases h
 | x :: l,h,hk=>by
   rw [DataW.weightsAll]
   rcases List.mem_cons.1 h with rfl | h
   · exact List.mem_append_left _ hk
   · exact List.mem_append_right _ (weightsAll_mem h hk)
theorem add_at {a:Addr} (h:a.spot=none) (m:Nat):a.add m=⟨a.block,a.off+m,none⟩:=by
 unfold Addr.add
 split
 · rename_i h0;subst h0;cases a;simp_all
 · rfl
theorem open_node {H:Type} {enc:TypeId × Value→H} {W:World} {base:Nat} {spare:Nat→Bool} {held:Bool} : ∀ (fuel:Nat) (cs:List Value) (x:DataW H × List MemPlace),
   DataW.trod enc Tryd.prog W base spare held fuel 37 cs=some x→(∀ k,k ∈ x.1.weights Tryd.prog 37→k ≤ 140737488351232) →
   ∃ (t:Tr) (s:Value),cs=(t.cells s).toList∧TreesAt W (fun _=>True) s t.subs:=by
 intro fuel
 induction fuel using Nat.strongRecOn with
 | _ fuel ih =>
   intro cs x h hw
   obtain ⟨xs,n,rfl,rfl,hlen,hxs,hf⟩:=DataW.trod_struct Tryd.underlying37 h
   rw [Tryd.cellsNodeO] at hlen
   obtain ⟨c0,c1,c2,c3,c4,c5,c6,c7,c8,c9,rfl⟩:=list10 hlen
   obtain ⟨y0,y1,y2,y3,y4,y5,y6,rfl⟩:=list7 (by simpa using hxs)
   have f0:=hf 0 _ rfl;have f1:=hf 1 _ rfl;have f2:=hf 2 _ rfl;have f3:=hf 3 _ rfl;have f4:=hf 4 _ rfl;have f5:=hf 5 _ rfl;have f6:=hf 6 _ rfl
   simp only [List.getElem_toArray,List.getElem_cons_zero,List.getElem_cons_succ,Tryd.cellsIntO,Tryd.cellsBoolO,Tryd.cellsNodesO,Tryd.cellsSet,List.drop_zero,List.drop_succ_cons,List.take_succ_cons,List.take_zero,List.getElem?_cons_zero,List.getElem?_cons_succ] at f0 f1 f2 f3 f4 f5 f6
   obtain ⟨k,e0,-,-⟩:=DataW.trod_int Tryd.underlying3 f0
   obtain ⟨a,b,c,d,rfl,rfl,rfl,rfl⟩:=open_words f1
   obtain ⟨nn,e3,-,-⟩:=DataW.trod_int Tryd.underlying3 f3
   obtain ⟨lo,e4,-,-⟩:=DataW.trod_int Tryd.underlying3 f4
   obtain ⟨hi,e5,-,-⟩:=DataW.trod_int Tryd.underlying3 f5
   obtain ⟨br,e6,-⟩:=DataW.trod_bool Tryd.underlying4 f6
   simp only [List.cons.injEq,and_true] at e0 e3 e4 e5 e6
   subst e0 e3 e4 e5 e6
   have fin:∀ (ts:List Tr),TreesAt W (fun _=>True) c5 ts→∃ (t:Tr) (s:Value),[.int .i64 k,.int .u64 (Oc.U a),.int .u64 (Oc.U b),.int .u64 (Oc.U c),.int .u64 (Oc.U d),c5,.int .i64 nn,.int .i64 lo,.int .i64 hi,.bool br]=(t.cells s).toList∧TreesAt W (fun _=>True) s t.subs :=
     fun ts hts=>⟨.node k a b c d ts nn lo hi br,c5,rfl,hts⟩
   rcases DataW.trod_slice Tryd.underlying35 f2 with ⟨hc5,-⟩ | ⟨ad,len,cap,elems,rest,n',rfl,hc5,hx,-,-,-,hel,hall,-,-⟩
   · simp only [List.cons.injEq,and_true] at hc5
     subst hc5
     exact fin [] TreesAt.nil
   · simp only [List.cons.injEq,and_true] at hc5
     subst hc5
     rw [Tryd.cellsNodeO] at hall
     have hwn:∀ k,k ∈ y2.1.weights Tryd.prog 35→k ≤ 140737488351232:=fun k hk=>hw k (by
       rw [DataW.weights,Tryd.underlying37]
       exact DataW.weights_mem_each (j:=2) rfl rfl k hk)
     have hlen96:len * 96 ≤ 140737488351232:=by
       have:=hwn ((elems.length+rest.length) * 96) (by
         rw [hx]
         simp only [DataW.weights,Tryd.underlying35,Tryd.bytesNodeO,List.length_map]
         exact List.mem_cons_self)
       rw [hel] at this
       have h2:len * 96 ≤ (len+rest.length) * 96:=Nat.mul_le_mul_right _ (by omega)
       omega
     have key:∀ i,∃ (t:Tr) (s:Value),i < len→(∃ b o,some ad=some ⟨b,o,none⟩∧TenAt W b (o+i * 10) t s)∧TreesAt W (fun _=>True) s t.subs:=by
       intro i
       by_cases hi:i < len
       · have h1:=hall i hi
         rw [List.getElem?_eq_getElem (by omega)] at h1
         obtain ⟨csi,hcs,htr⟩:=Option.bind_eq_some_iff.1 h1
         obtain ⟨t,s,hts,hsub⟩:=ih n' (by omega) csi _ htr (fun k hk=>hwn k (by
           rw [hx]
           simp only [DataW.weights,Tryd.underlying35]
           refine List.mem_cons_of_mem _ (List.mem_append_left _ (weightsAll_mem (d:=elems[i].1) ?_ hk))
           exact List.mem_map.2 ⟨elems[i],List.getElem_mem _,rfl⟩))
         obtain ⟨-,-,hcell⟩:=World.cells?_some hcs
         have hspot:ad.spot=none:=by
           have h0:=hall 0 (by omega)
           rw [List.getElem?_eq_getElem (by omega)] at h0
           obtain ⟨cs0,hcs0,htr0⟩:=Option.bind_eq_some_iff.1 h0
           obtain ⟨t0,s0,hts0,-⟩:=ih n' (by omega) cs0 _ htr0 (fun k hk=>hwn k (by
             rw [hx]
             simp only [DataW.weights,Tryd.underlying35]
             refine List.mem_cons_of_mem _ (List.mem_append_left _ (weightsAll_mem (d:=elems[0].1) ?_ hk))
             exact List.mem_map.2 ⟨elems[0],List.getElem_mem _,rfl⟩))
           have h2:=(World.cells?_some hcs0).2.2 0 (by omega)
           rw [hts0] at h2
           have e:(ad.add (0 * 10)).add 0=ad:=by simp [Addr.add]
           rw [e] at h2
           cases hsp:ad.spot with
           | none=>rfl
           | some z =>
             unfold World.cell? at h2
             rw [hsp] at h2
             split at h2 <;> simp [Tr.cells] at h2
         have hadd:∀ j,(ad.add (i * 10)).add j=⟨ad.block,ad.off+i * 10+j,none⟩:=fun j=>by
           rw [add_at hspot,add_at (a:=⟨ad.block,ad.off+i * 10,none⟩) rfl]
         refine ⟨t,s,fun _=>⟨⟨ad.block,ad.off,by cases ad;simp_all, ?_⟩,hsub⟩⟩
         rw [hts] at hcell
         have get:∀ j u,j < 10→(t.cells s).toList[j]? = some u→W.cell? ⟨ad.block,ad.off+i * 10+j,none⟩=some u:=fun j u hj hu=>by
           rw [← hadd j,hcell j hj,hu]
         exact ⟨get 0 _ (by omega) rfl,get 1 _ (by omega) rfl,get 2 _ (by omega) rfl,get 3 _ (by omega) rfl,get 4 _ (by omega) rfl,get 5 _ (by omega) rfl,get 6 _ (by omega) rfl,get 7 _ (by omega) rfl,get 8 _ (by omega) rfl,get 9 _ (by omega) rfl⟩
       · exact ⟨.node 0 0#64 0#64 0#64 0#64 [] 0 0 0 false,.nilIface,fun h=>absurd h hi⟩
     obtain ⟨T,hT⟩:=Classical.axiomOfChoice key
     obtain ⟨S,hS⟩:=Classical.axiomOfChoice hT
     have hl:((List.range len).map T).length=len:=by simp
     have hg:∀ i t,((List.range len).map T)[i]? = some t→i < len∧t=T i:=fun i t h=>by
       rw [List.getElem?_map] at h
       by_cases hi:i < len
       · rw [List.getElem?_range hi] at h
         exact ⟨hi,(Option.some.inj h).symm⟩
       · rw [List.getElem?_eq_none (by simp;omega)] at h;cases h
     have:=TreesAt.mk (w:=W) (B:=fun _=>True) (some ad) cap ((List.range len).map T) S (by rw [hl];exact hlen96) (fun i t h=>by
       obtain ⟨hi,rfl⟩:=hg i t h
       obtain ⟨⟨b,o,e,ht⟩,-⟩:=hS i hi
       exact ⟨b,o,e,trivial,ht⟩) (fun i t h=>by
       obtain ⟨hi,rfl⟩:=hg i t h
       exact (hS i hi).2)
     rw [hl] at this
     exact fin _ this
theorem open_tree {H:Type} {enc:TypeId × Value→H} {w:World} {base b0:Nat} {spare:Nat→Bool} {held:Bool} {v:Value} {y:DataW H} {ps:List MemPlace} {r:Reach}
   (hv:Value.okWide Tryd.prog w r b0 37 v) (h:DataW.Trod enc Tryd.prog w base spare held 37 v y ps) (hw:∀ k,k ∈ y.weights Tryd.prog 37→k ≤ 140737488351232):∃ t,NodeV w (fun _=>True) v t:=by
 unfold Value.okWide at hv
 rw [Tryd.underlying37] at hv
 obtain ⟨cs,rfl,hsz,-⟩:=hv
 obtain ⟨fuel,hf⟩:=h
 obtain ⟨t,s,e,hs⟩:=open_node fuel _ _ hf hw
 refine ⟨t,s, ?_,hs⟩
 simp only [Value.cells] at e
 exact congrArg Value.agg (Array.toList_inj.1 e)
end Go.Proofs.YtnaoiglbjkjogaaDoor
namespace Go.Proofs.YtnaoiglbjkjogaaDoor
open Go.ChangeShapes Go.WideShapes Go.ChangeAt Go.RowKit
theorem im_laid_split {P:Program} {l:List (String × DataW Unit)} {W:World} (h:laidMetH P l W):laidMet P (l.filter fun x=>x.2.handleName?.isNone) W:=by
 unfold laidMetH at h
 generalize hfl:(l.filter fun x=>x.2.handleName?.isSome)=fl at h
 cases fl with
 | nil =>
   have e:(l.filter fun x=>x.2.handleName?.isNone)=l:=by
     rw [List.filter_eq_self]
     intro x hx
     have:=List.filter_eq_nil_iff.1 hfl x hx
     cases hh:x.2.handleName? with
     | none=>rfl
     | some y=>rw [hh] at this;simp at this
   rw [e]
   exact h
 | cons x r=>exact h.1
end Go.Proofs.YtnaoiglbjkjogaaDoor
namespace Go.Proofs.YtnaoiglbjkjogaaDoor
open Go.ChangeShapes Go.WideShapes Go.ChangeAt Go.RowKit
theorem Tryd.cellsViewR:Tryd.prog.cellsOf 39=3:=by kernel_rfl
theorem Tryd.cellsStrR:Tryd.prog.cellsOf 9=1:=by kernel_rfl
theorem Tryd.cellsIntR:Tryd.prog.cellsOf 3=1:=by kernel_rfl
theorem Tryd.gTabR : Tryd.prog.globalNamed "math/bits.deBruijn64tab" = some 5 := by kernel_rfl
theorem Tryd.tTabR:(Tryd.prog.globals[5]?).map (·.type)=some 159:=by kernel_rfl
theorem Tryd.cellsU8R:Tryd.prog.cellsOf 5=1:=by kernel_rfl
theorem tabR_datum {H:Type} : (Rows.laid_math_bits_deBruijn64tab:DataW H)=.agg (Lib.deBruijn64tab.map fun (n:Nat)=>.lit (.int .u8 (n:Int))):=rfl
theorem tabR_length:Lib.deBruijn64tab.length=64:=by decide
theorem tabR_of_head {W : World} {r : List (String × DataW Unit)} (h : laidMet Tryd.prog (("math/bits.deBruijn64tab", Rows.laid_math_bits_deBruijn64tab) :: r) W) : ReEnv W := by
 obtain ⟨ps,⟨g0,t0,cs0,f0,p0,q0,hg0,ht0,hv0,hd0,_,_⟩,_,_⟩:=h
 obtain rfl:=Option.some.inj (Tryd.gTabR.symm.trans hg0)
 obtain rfl:=Option.some.inj (Tryd.tTabR.symm.trans ht0)
 obtain ⟨xs,m,rfl,hx,hlen,hn,hel⟩:=DataW.trod_array Tryd.underlying159 hd0
 rw [tabR_datum] at hx
 simp only [Prod.mk.injEq,DataW.agg.injEq] at hx
 have hT:TabAt 5 Lib.deBruijn64tab W:=by
   intro j hj
   rw [tabR_length] at hj
   have h1:=hel j hj
   have hjx:j < xs.length:=by omega
   rw [Tryd.cellsU8R,Nat.mul_one,List.getElem?_eq_getElem hjx] at h1
   obtain ⟨n,hc,hd,-⟩:=DataW.trod_int Tryd.underlying5 h1
   have h2:(Lib.deBruijn64tab.map fun (n:Nat)=>(DataW.lit (.int .u8 (n:Int)):DataW _))[j]? = some xs[j].1:=by
     rw [hx.1,List.getElem?_map,List.getElem?_eq_getElem hjx];rfl
   rw [List.getElem?_map,List.getElem?_eq_getElem (by rw [tabR_length];exact hj),hd] at h2
   simp only [Option.map_some,Option.some.injEq,DataW.lit.injEq,Lit.int.injEq,true_and] at h2
   have h3:cs0[j]? = some (.int .u8 n):=by
     rw [← Array.getElem?_toList]
     have:(cs0.toList.drop j)[0]? = some (.int .u8 n):=by
       have:=congrArg (fun l=>l[0]?) hc
       simpa [List.getElem?_take] using this
     simpa using this
   rw [World.var?_cell hg0 hv0 j,h3,← h2]
   simp [List.getD,List.getElem?_eq_getElem (show j < Lib.deBruijn64tab.length by rw [tabR_length];exact hj)]
 exact ⟨hT,block_lt_of_cell (hT 0 (by rw [tabR_length];omega))⟩
theorem tabR_of : ∀ {l : List (String × DataW Unit)} {W : World}, laidMet Tryd.prog l W → ("math/bits.deBruijn64tab", Rows.laid_math_bits_deBruijn64tab) ∈ l → ReEnv W
 | [],_,_,hm=>by cases hm
 | x :: l,W,h,hm=>by
   rcases List.mem_cons.1 hm with e | hm
   · subst e;exact tabR_of_head h
   · exact tabR_of h.tail hm
def errFew : List (String × DataW Unit) := [("trawl/api.ErrTooBig", Rows.laid_trawl_api_ErrTooBig), ("trawl/api.ErrLong", Rows.laid_trawl_api_ErrLong), ("trawl/api.ErrTree", Rows.laid_trawl_api_ErrTree), ("trawl/api.ErrDeep", Rows.laid_trawl_api_ErrDeep), ("trawl/api.ErrArgument", Rows.laid_trawl_api_ErrArgument)]
theorem errsT_of {W:World} {l:List (String × DataW Unit)} (h:laidMet Tryd.prog l W) (hl:∀ x,x ∈ errFew→x ∈ l):∃ A,ErrsT W A:=by
 obtain ⟨a9, h9⟩ := sent_of (t := errPre ++ errWords.getD 9 []) (g := errVars.getD 9 0) h (hl _ (show ("trawl/api.ErrTooBig", sentDatum (errPre ++ errWords.getD 9 [])) ∈ errFew from List.mem_cons_self)) (by kernel_rfl) (by kernel_rfl)
 obtain ⟨a11, h11⟩ := sent_of (t := errPre ++ errWords.getD 11 []) (g := errVars.getD 11 0) h (hl _ (show ("trawl/api.ErrLong", sentDatum (errPre ++ errWords.getD 11 [])) ∈ errFew from List.mem_cons_of_mem _ List.mem_cons_self)) (by kernel_rfl) (by kernel_rfl)
 obtain ⟨a12, h12⟩ := sent_of (t := errPre ++ errWords.getD 12 []) (g := errVars.getD 12 0) h (hl _ (show ("trawl/api.ErrTree", sentDatum (errPre ++ errWords.getD 12 [])) ∈ errFew from List.mem_cons_of_mem _ (List.mem_cons_of_mem _ List.mem_cons_self))) (by kernel_rfl) (by kernel_rfl)
 obtain ⟨a13, h13⟩ := sent_of (t := errPre ++ errWords.getD 13 []) (g := errVars.getD 13 0) h (hl _ (show ("trawl/api.ErrDeep", sentDatum (errPre ++ errWords.getD 13 [])) ∈ errFew from List.mem_cons_of_mem _ (List.mem_cons_of_mem _ (List.mem_cons_of_mem _ List.mem_cons_self)))) (by kernel_rfl) (by kernel_rfl)
 obtain ⟨a14, h14⟩ := sent_of (t := errPre ++ errWords.getD 14 []) (g := errVars.getD 14 0) h (hl _ (show ("trawl/api.ErrArgument", sentDatum (errPre ++ errWords.getD 14 [])) ∈ errFew from List.mem_cons_of_mem _ (List.mem_cons_of_mem _ (List.mem_cons_of_mem _ (List.mem_cons_of_mem _ List.mem_cons_self))))) (by kernel_rfl) (by kernel_rfl)
 refine ⟨fun k=>if k=9 then a9 else if k=11 then a11 else if k=12 then a12 else if k=13 then a13 else a14,fun k hk=>?_⟩
 simp only [List.mem_cons,List.not_mem_nil,or_false] at hk
 rcases hk with rfl | rfl | rfl | rfl | rfl
 · exact h9
 · exact h11
 · exact h12
 · exact h13
 · exact h14
theorem reT_env_of {l : List (String × DataW Unit)} {W : World} (h : laidMetH Tryd.prog l W) (hl : ∀ x, x ∈ errFew → x ∈ l) (ht : ("math/bits.deBruijn64tab", Rows.laid_math_bits_deBruijn64tab) ∈ l) : ∃ A, ReMemT A W := by
 have h':=im_laid_split h
 obtain ⟨A,hA⟩:=errsT_of h' (fun x hx=>List.mem_filter.2 ⟨hl x hx,by simp only [errFew,List.mem_cons,List.not_mem_nil,or_false] at hx;rcases hx with rfl | rfl | rfl | rfl | rfl <;> rfl⟩)
 exact ⟨A,tabR_of h' (List.mem_filter.2 ⟨ht,rfl⟩),hA⟩
theorem open_view {H:Type} {enc:TypeId × Value→H} {w:World} {base b0:Nat} {spare:Nat→Bool} {held:Bool} {v:Value} {y:DataW H} {ps:List MemPlace} {r:Reach}
   (hv:Value.okWide Tryd.prog w r b0 39 v) (h:DataW.Trod enc Tryd.prog w base spare held 39 v y ps):∃ (s:ByteArray) (c e:Int),v=.agg #[.string s,.int .i64 c,.int .i64 e]:=by
 unfold Value.okWide at hv
 rw [Tryd.underlying39] at hv
 obtain ⟨cs,rfl,hsz,-⟩:=hv
 rw [Tryd.cellsViewR] at hsz
 obtain ⟨c0,c1,c2,rfl⟩:∃ c0 c1 c2,cs=#[c0,c1,c2]:=by
   obtain ⟨l⟩:=cs
   match l,hsz with
   | [c0,c1,c2],_=>exact ⟨c0,c1,c2,rfl⟩
 obtain ⟨fuel,hf⟩:=h
 obtain ⟨y0,y1,y2,m,_,_,h0,h1,h2⟩:=Deep.trod_struct3 Tryd.underlying39 hf
 simp only [Tryd.cellsStrR,Tryd.cellsIntR,List.drop_zero] at h0 h1 h2
 obtain ⟨s,e0,-⟩:=DataW.trod_string Tryd.underlying9 h0
 obtain ⟨c,e1,-,-⟩:=DataW.trod_int Tryd.underlying3 h1
 obtain ⟨e,e2,-,-⟩:=DataW.trod_int Tryd.underlying3 h2
 have x0:c0=.string s:=(List.cons.inj (show [c0]=[Value.string s] from e0)).1
 have x1:c1=.int .i64 c:=(List.cons.inj (show [c1]=[Value.int .i64 c] from e1)).1
 have x2:c2=.int .i64 e:=(List.cons.inj (show [c2]=[Value.int .i64 e] from e2)).1
 subst x0 x1 x2
 exact ⟨s,c,e,rfl⟩
end Go.Proofs.YtnaoiglbjkjogaaDoor
