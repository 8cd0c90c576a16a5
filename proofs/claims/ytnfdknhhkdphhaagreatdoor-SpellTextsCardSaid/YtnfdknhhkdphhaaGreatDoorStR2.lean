/- Part 2 of what these proofs need. -/
import Derived.Laws.AppendOwnNone
import Derived.Deep.DeepCutAuto
import Derived.Shelf.Strings.Builder1
import Derived.Shelf.Small.Strs
import Derived.Shelf.Small.Wraps
import Derived.Shelf.Strings.BuilderF
import Derived.Shelf.Strings.BuilderK
import Derived.Shelf.Strconv.Itoa0
import Derived.Shelf.Strconv.Itoa1
import Derived.Shelf.LaysM
import Derived.Shelf.Strconv.Itoa2
import Derived.Shelf.Strconv.Itoa3
import Derived.Shelf.Strings.Search1
import Derived.Shelf.Strings.Search2
import Derived.Shelf.Strings.Cut
import Derived.Shelf.Strings.Shaped
import Derived.Shelf.Strings.Prefix
import Derived.Shelf.Strings.BuilderCap
import Derived.Test.YtnfdknhhkdphhaaGreatDoorProg
import Derived.Lib.ItoaNum
import Derived.Laws.IdiomStrings
import Derived.Lib.LaidTab
import Derived.Lib.AppendIntMem
import Derived.Lib.CutLaws
import Derived.RangeFuncNested
import Derived.RangeFuncBound
import Derived.RangeFuncCalls
import Derived.RangeFuncLeaves
import Derived.Shelf.Abstract
import Derived.Shelf.RegionOpen
import Derived.RangeFuncBox
import Derived.OwnWalkIn
import Derived.TacticsInMore
import Derived.LoopNIn
import Derived.LoopIn
import Derived.Maps.AppendAt
import Derived.Test.YtnfdknhhkdphhaaGreatDoorStR1
set_option maxRecDepth 100000
set_option maxHeartbeats 16000000
namespace Go.Proofs.YtnfdknhhkdphhaaGreatDoor
open Go.RowKit
namespace Tr
def leaf (k:Int):Tr:=.node k 0#64 0#64 0#64 0#64 [] 0 0 0 false
def bytes (P:Nat→Bool):Tr:=.node 2 (Oc.mk P 0) (Oc.mk P 1) (Oc.mk P 2) (Oc.mk P 3) [] 0 0 0 false
def many (k:Int) (l:List Tr):Tr:=.node k 0#64 0#64 0#64 0#64 l 0 0 0 false
def grp (n:Int) (t:Tr):Tr:=.node 7 0#64 0#64 0#64 0#64 [t] n 0 0 false
def rep (lo hi:Int) (t:Tr):Tr:=.node 8 0#64 0#64 0#64 0#64 [t] 0 lo hi false
def several (k:Int):List Tr→Tr
 | []=>leaf 1
 | [t]=>t
 | l=>many k l
end Tr
theorem u0:Oc.U 0#64=0:=by decide
abbrev noNode:Array Value:=#[.int .i64 0,.int .u64 0,.int .u64 0,.int .u64 0,.int .u64 0,.slice none 0 0,.int .i64 0,.int .i64 0,.int .i64 0,.bool false]
theorem joined_many (k:Int) (ts:List Tr) (h2:2 ≤ ts.length) (x:Tr) (w:World) (B:Nat→Prop) (v:Value) (hs:TreesAt w B v ts) :
   Calls Tryz.prog 102 #[.int .i64 k,v,.agg (x.cells (.slice none 0 0))] w (OwnEnd (.many k ts) w):=by
 obtain ⟨p,cap,rfl,hlen⟩:=hs.slice
 have e0:((ts.length:Int) == 0)=false:=by rw [beq_eq_false_iff_ne];omega
 have e1:((ts.length:Int) == 1)=false:=by rw [beq_eq_false_iff_ne];omega
 have HC:=Lib.hid (fun w9 (hb:Below w.heap.size w w9)=>copies_any ts w9 B _ (hs.later hb))
 unfold Tr.cells
 clear hs
 go_enter Tryz.func102,Tryz.ntmps102
 go_wp2_with fail
 generalize hw1:World.alloc (World.alloc w _) _=w1
 have hb1:Below w.heap.size w w1:=by rw [← hw1];go_grown
 have hs1:w1.heap.size=w.heap.size+2:=by rw [← hw1];simp
 have Z1:=Lib.hid (show w1.heap[w.heap.size+1]? = some (.cells noNode 28) by rw [← hw1];exact (two_new w _ _).2)
 have HB1:=Lib.hid hb1
 clear hw1 hb1
 refine (HC.out w1 HB1.out).mono ?_
 rintro e w2 ⟨s2,F,rfl,ho,hF,hb2⟩
 obtain ⟨p2,c2,rfl,hl2⟩:=ho.slice
 have HO:=Lib.hid ho;have HF:=Lib.hid hF
 have Y1:=Lib.hid (keep_blk hb2 Z1.out)
 have HB2:=Lib.hid (HB1.out.trans (hb2.mono HB1.out.size))
 clear ho hF hb2
 go_wp2_with (first
   | (refine wpList_store_row rfl 28 (.tmp 6) (.tmp 21) rfl (w.heap.size+1) #[.int .i64 k,.int .u64 0,.int .u64 0,.int .u64 0,.int .u64 0,.slice p2 ts.length c2,.int .i64 0,.int .i64 0,.int .i64 0,.bool false] rfl rfl 28 _ Y1.out (by kernel_rfl) rfl (by simp [Value.oneCell']) ?_)
   | fail)
 refine bodyPost_ret (results_cell_row rfl _ _ (w.heap.size+1) 28 #[.int .i64 k,.int .u64 0,.int .u64 0,.int .u64 0,.int .u64 0,.slice p2 ts.length c2,.int .i64 0,.int .i64 0,.int .i64 0,.bool false] (0,0) _ rfl (heap_setRow Y1.out) Tryz.underlying28 rfl (by kernel_rfl)) rfl ⟨.slice p2 ts.length c2,F,rfl, ?_, ?_, ?_⟩
 · exact HO.out.keep fun b hb=>by have:=HF.out b hb;rw [heap_setRow_other _ _ _ (by omega)]
 · intro b hb;have:=HF.out b hb;omega
 · exact below_setRow HB2.out (Nat.le_succ _) _
theorem joined_one (k:Int) (t x:Tr) (w:World) (B:Nat→Prop) (v:Value) (hs:TreesAt w B v [t]) :
   Calls Tryz.prog 102 #[.int .i64 k,v,.agg (x.cells (.slice none 0 0))] w (OwnEnd t w):=by
 obtain ⟨p,cap,rfl,hlen⟩:=hs.slice
 have hs:TreesAt w B (.slice p 1 cap) [t]:=hs
 obtain ⟨b1,o1,s1,rfl,-,t1,sub1⟩:=hs.get (i:=0) (t:=t) rfl
 have t1':TenAt w b1 o1 t s1:=by simpa using t1
 have HC:=Lib.hid (fun w9 (hb:Below w.heap.size w w9)=>copy_any t w9 B _ ⟨s1,rfl,sub1.later hb⟩)
 have hb0:Below w.heap.size w ((w.alloc (.cells (x.cells (.slice none 0 0)) 28)).alloc (.cells noNode 28)):=by go_grown
 have T1:=Lib.hid (t1'.keep (hb0.block _ t1'.lt))
 have hz1:=(two_new w (.cells (x.cells (.slice none 0 0)) 28) (.cells noNode 28)).2
 have Z1:=Lib.hid hz1;have HB1:=Lib.hid hb0
 have hs1:((w.alloc (.cells (x.cells (.slice none 0 0)) 28)).alloc (.cells noNode 28)).heap.size=w.heap.size+2:=by simp
 unfold Tr.cells at *
 simp only [List.length_singleton]
 obtain ⟨d0,d1,d2,d3,d4,d5,d6,d7,d8,d9⟩:=T1.out
 clear hs t1 t1' sub1 hlen hb0 hz1 hs1
 go_enter Tryz.func102,Tryz.ntmps102
 go_wp2_with fail
 clear d0 d1 d2 d3 d4 d5 d6 d7 d8 d9
 refine (HC.out _ HB1.out).mono ?_
 rintro e w2 ⟨s2,F,rfl,ho,hF,hb2⟩
 obtain ⟨p2,c2,rfl,hl2⟩:=ho.slice
 have HO:=Lib.hid ho;have HF:=Lib.hid hF
 have Y1:=Lib.hid (keep_blk hb2 Z1.out)
 have HB2:=Lib.hid (HB1.out.trans (hb2.mono HB1.out.size))
 clear ho hF hb2 Z1 HB1
 go_wp2_with (first
   | (refine wpList_store_row rfl 28 (.tmp 6) (.tmp 17) rfl (w.heap.size+1) #[.int .i64 t.kind,.int .u64 (Oc.U t.w0),.int .u64 (Oc.U t.w1),.int .u64 (Oc.U t.w2),.int .u64 (Oc.U t.w3),.slice p2 t.subs.length c2,.int .i64 t.num,.int .i64 t.least,.int .i64 t.most,.bool t.bare] rfl rfl 28 _ Y1.out (by kernel_rfl) rfl (by simp [Value.oneCell']) ?_)
   | fail)
 refine bodyPost_ret (results_cell_row rfl _ _ (w.heap.size+1) 28 #[.int .i64 t.kind,.int .u64 (Oc.U t.w0),.int .u64 (Oc.U t.w1),.int .u64 (Oc.U t.w2),.int .u64 (Oc.U t.w3),.slice p2 t.subs.length c2,.int .i64 t.num,.int .i64 t.least,.int .i64 t.most,.bool t.bare] (0,0) _ rfl (heap_setRow Y1.out) Tryz.underlying28 rfl (by kernel_rfl)) rfl ⟨.slice p2 t.subs.length c2,F,rfl, ?_, ?_, ?_⟩
 · exact HO.out.keep fun b hb=>by have:=HF.out b hb;rw [heap_setRow_other _ _ _ (by simp at this;omega)]
 · intro b hb;have:=HF.out b hb;simp at this;omega
 · exact below_setRow HB2.out (Nat.le_succ _) _
theorem joined_nil (k:Int) (x:Tr) (w:World) (p:Option Addr) (cap:Nat) (hx:x.subs=[]) :
   Calls Tryz.prog 102 #[.int .i64 k,.slice p 0 cap,.agg (x.cells (.slice none 0 0))] w (OwnEnd x w):=by
 have z0:=(two_new w (.cells (x.cells (.slice none 0 0)) 28) (.cells noNode 28)).1
 have z1:=(two_new w (.cells (x.cells (.slice none 0 0)) 28) (.cells noNode 28)).2
 have Z0:=Lib.hid z0;have Z1:=Lib.hid z1;have HX:=Lib.hid hx
 clear z0 z1 hx
 unfold Tr.cells at *
 go_enter Tryz.func102,Tryz.ntmps102
 go_wp2_with (first
   | (refine wpList_load_row rfl 28 (.tmp 5) rfl w.heap.size rfl 28 _ (0,0) _ Z0.out Tryz.underlying28 rfl (by kernel_rfl) ?_)
   | (refine wpList_store_row rfl 28 (.tmp 6) (.tmp 11) rfl (w.heap.size+1) #[.int .i64 x.kind,.int .u64 (Oc.U x.w0),.int .u64 (Oc.U x.w1),.int .u64 (Oc.U x.w2),.int .u64 (Oc.U x.w3),.slice none 0 0,.int .i64 x.num,.int .i64 x.least,.int .i64 x.most,.bool x.bare] rfl rfl 28 _ Z1.out (by kernel_rfl) rfl (by simp [Value.oneCell']) ?_)
   | fail)
 refine bodyPost_ret (results_cell_row rfl _ _ (w.heap.size+1) 28 #[.int .i64 x.kind,.int .u64 (Oc.U x.w0),.int .u64 (Oc.U x.w1),.int .u64 (Oc.U x.w2),.int .u64 (Oc.U x.w3),.slice none 0 0,.int .i64 x.num,.int .i64 x.least,.int .i64 x.most,.bool x.bare] (0,0) _ rfl (heap_setRow Z1.out) Tryz.underlying28 rfl (by kernel_rfl)) rfl ⟨.slice none 0 0,[],rfl, ?_, ?_, ?_⟩
 · rw [HX.out];exact .nil _ _
 · intro b hb;cases hb
 · exact below_setRow (by go_grown) (Nat.le_succ _) _
theorem joined_any (k:Int) (ts:List Tr) (x:Tr) (hx:x.subs=[]) (w:World) (B:Nat→Prop) (v:Value) (hs:TreesAt w B v ts) (h0:ts=[]→x=.leaf 1) :
   Calls Tryz.prog 102 #[.int .i64 k,v,.agg (x.cells (.slice none 0 0))] w (OwnEnd (.several k ts) w):=by
 match ts,hs,h0 with
 | [],hs,h0 =>
   obtain ⟨p,cap,rfl,-⟩:=hs.slice
   obtain rfl:=h0 rfl
   exact joined_nil k _ w p cap rfl
 | [t],hs,_=>exact joined_one k t x w B v hs
 | a :: b :: r,hs,_=>exact joined_many k (a :: b :: r) (by simp) x w B v hs
theorem seq_any (ts:List Tr) (w:World) (B:Nat→Prop) (v:Value) (hs:TreesAt w B v ts):Calls Tryz.prog 68 #[v] w (OwnEnd (.several 5 ts) w):=by
 have HC:=Lib.hid (fun w9 (hb:Below w.heap.size w w9)=>joined_any 5 ts (.leaf 1) rfl w9 B _ (hs.later hb) (fun _=>rfl))
 obtain ⟨p,cap,rfl,hlen⟩:=hs.slice
 simp only [Tr.leaf,Tr.cells,Tr.kind,Tr.w0,Tr.w1,Tr.w2,Tr.w3,Tr.num,Tr.least,Tr.most,Tr.bare,u0] at HC
 clear hs
 go_enter Tryz.func68,Tryz.ntmps68
 go_wp2_with fail
 have z0:=heap_alloc_new w (.cells noNode 28)
 have Z0:=Lib.hid z0
 clear z0
 refine (HC.out _ ((Below.refl _ _).alloc (Nat.le_refl _) _)).mono ?_
 rintro e w2 ⟨s2,F,rfl,ho,hF,hb2⟩
 obtain ⟨p2,c2,rfl,hl2⟩:=ho.slice
 have HO:=Lib.hid ho;have HF:=Lib.hid hF
 have Y0:=Lib.hid (keep_blk hb2 Z0.out)
 have HB2:=Lib.hid (((Below.refl w.heap.size w).alloc (Nat.le_refl _) (.cells noNode 28)).trans (hb2.mono (by simp)))
 generalize Tr.several 5 ts=t at *
 clear ho hF hb2
 unfold Tr.cells
 go_wp2_with (first
   | (refine wpList_store_row rfl 28 (.tmp 2) (.tmp 5) rfl w.heap.size #[.int .i64 t.kind,.int .u64 (Oc.U t.w0),.int .u64 (Oc.U t.w1),.int .u64 (Oc.U t.w2),.int .u64 (Oc.U t.w3),.slice p2 t.subs.length c2,.int .i64 t.num,.int .i64 t.least,.int .i64 t.most,.bool t.bare] rfl rfl 28 _ Y0.out (by kernel_rfl) rfl (by simp [Value.oneCell']) ?_)
   | fail)
 refine bodyPost_ret (results_cell_row rfl _ _ w.heap.size 28 #[.int .i64 t.kind,.int .u64 (Oc.U t.w0),.int .u64 (Oc.U t.w1),.int .u64 (Oc.U t.w2),.int .u64 (Oc.U t.w3),.slice p2 t.subs.length c2,.int .i64 t.num,.int .i64 t.least,.int .i64 t.most,.bool t.bare] (0,0) _ rfl (heap_setRow Y0.out) Tryz.underlying28 rfl (by kernel_rfl)) rfl ⟨.slice p2 t.subs.length c2,F,rfl, ?_, ?_, ?_⟩
 · exact HO.out.keep fun b hb=>by have:=HF.out b hb;rw [heap_setRow_other _ _ _ (by simp at this;omega)]
 · intro b hb;have:=HF.out b hb;simp at this;omega
 · exact below_setRow HB2.out (Nat.le_refl _) _
theorem bytes_is (a b c d:BitVec 64) (w:World):Calls Tryz.prog 66 #[(.agg #[.int .u64 (Oc.U a),.int .u64 (Oc.U b),.int .u64 (Oc.U c),.int .u64 (Oc.U d)])] w fun e w'=>e=.returned (.agg #[.int .i64 2,.int .u64 (Oc.U a),.int .u64 (Oc.U b),.int .u64 (Oc.U c),.int .u64 (Oc.U d),.slice none 0 0,.int .i64 0,.int .i64 0,.int .i64 0,.bool false])∧Below w.heap.size w w':=by
 have z0:=(two_new w (.cells #[.int .u64 (Oc.U a),.int .u64 (Oc.U b),.int .u64 (Oc.U c),.int .u64 (Oc.U d)] 25) (.cells noNode 28)).1
 have z1:=(two_new w (.cells #[.int .u64 (Oc.U a),.int .u64 (Oc.U b),.int .u64 (Oc.U c),.int .u64 (Oc.U d)] 25) (.cells noNode 28)).2
 have Z0:=Lib.hid z0;have Z1:=Lib.hid z1
 clear z0 z1
 go_enter Tryz.func66,Tryz.ntmps66
 go_wp2_with (first
   | (refine wpList_load_row rfl 25 (.tmp 1) rfl w.heap.size rfl 25 _ (0,0) _ Z0.out Tryz.underlying25 rfl (by kernel_rfl) ?_)
   | (refine wpList_store_row rfl 28 (.tmp 2) (.tmp 4) rfl (w.heap.size+1) #[.int .i64 2,.int .u64 (Oc.U a),.int .u64 (Oc.U b),.int .u64 (Oc.U c),.int .u64 (Oc.U d),.slice none 0 0,.int .i64 0,.int .i64 0,.int .i64 0,.bool false] rfl rfl 28 _ Z1.out (by kernel_rfl) rfl (by simp [Value.oneCell']) ?_)
   | fail)
 exact bodyPost_ret (results_cell_row rfl _ _ (w.heap.size+1) 28 #[.int .i64 2,.int .u64 (Oc.U a),.int .u64 (Oc.U b),.int .u64 (Oc.U c),.int .u64 (Oc.U d),.slice none 0 0,.int .i64 0,.int .i64 0,.int .i64 0,.bool false] (0,0) _ rfl (heap_setRow Z1.out) Tryz.underlying28 rfl (by kernel_rfl)) rfl ⟨rfl,below_setRow (by go_grown) (Nat.le_succ _) _⟩
theorem bytes_any (P:Nat→Bool) (w:World):Calls Tryz.prog 66 #[(.agg #[.int .u64 (Oc.U (Oc.mk P 0)),.int .u64 (Oc.U (Oc.mk P 1)),.int .u64 (Oc.U (Oc.mk P 2)),.int .u64 (Oc.U (Oc.mk P 3))])] w (OwnEnd (.bytes P) w):=by
 refine (bytes_is _ _ _ _ w).mono ?_
 rintro e w' ⟨rfl,hb⟩
 exact ⟨.slice none 0 0,[],rfl,.nil _ _,fun b hb=>(by cases hb),hb⟩
theorem one_list {w:World} {B:Nat→Prop} {t:Tr} {s:Value} (hs:TreesAt w B s t.subs) (ty:TypeId) (g:Nat) (hg:w.heap.size=g):TreesAt (w.alloc (.cells (t.cells s) ty)) (fun b=>B b ∨ b=w.heap.size) (.slice (some ⟨g,0,none⟩) 1 1) [t]:=by
 subst hg
 have hb:Below w.heap.size w (w.alloc (.cells (t.cells s) ty)):=(Below.refl _ _).alloc (Nat.le_refl _) _
 have hc:∀ j,(w.alloc (.cells (t.cells s) ty)).cell? ⟨w.heap.size,j,none⟩=(t.cells s)[j]?:=cell_new w _ ty
 refine .mk (some ⟨w.heap.size,0,none⟩) 1 [t] (fun _=>s) (by simp) (fun i u hi=>?_) (fun i u hi=>?_)
 · match i,hi with
   | 0,hi =>
     obtain rfl:t=u:=Option.some.inj hi
     exact ⟨w.heap.size,0,rfl,.inr rfl,⟨hc 0,hc 1,hc 2,hc 3,hc 4,hc 5,hc 6,hc 7,hc 8,hc 9⟩⟩
 · match i,hi with
   | 0,hi =>
     obtain rfl:t=u:=Option.some.inj hi
     exact (hs.later hb).mono fun b _ h=>.inl h
theorem group_any (t:Tr) (n:Int) (w:World) (B:Nat→Prop) (v:Value) (hv:NodeV w B v t):Calls Tryz.prog 30 #[.int .i64 n,v] w (OwnEnd (.grp n t) w):=by
 obtain ⟨s,rfl,hs⟩:=hv
 obtain ⟨p,cap,rfl,hlen⟩:=hs.slice
 have hb1:Below w.heap.size w ((w.alloc (.cells (t.cells (.slice p t.subs.length cap)) 28)).alloc (.cells noNode 28)):=by go_grown
 have z0:=(two_new w (.cells (t.cells (.slice p t.subs.length cap)) 28) (.cells noNode 28)).1
 have z1:=(two_new w (.cells (t.cells (.slice p t.subs.length cap)) 28) (.cells noNode 28)).2
 have HC:=Lib.hid (copies_any [t] _ _ _ (one_list (hs.later hb1) 28 (w.heap.size+1+1) (by simp)))
 have HB1:=Lib.hid (hb1.alloc hb1.size (.cells (t.cells (.slice p t.subs.length cap)) 28))
 have Z0:=Lib.hid z0;have Z1:=Lib.hid (heap_alloc_lt (o:=.cells (t.cells (.slice p t.subs.length cap)) 28) z1)
 clear hs hb1 z0 z1
 unfold Tr.cells at *
 go_enter Tryz.func30,Tryz.ntmps30
 go_wp2_with (first
   | (refine wpList_load_row rfl 28 (.tmp 3) rfl w.heap.size rfl 28 _ (0,0) _ Z0.out Tryz.underlying28 rfl (by kernel_rfl) ?_)
   | (refine wpList_node1 rfl (.tmp 6) t p t.subs.length cap rfl rfl ?_)
   | fail)
 unfold Tr.cells
 refine HC.out.mono ?_
 rintro e w2 ⟨s2,F,rfl,ho,hF,hb2⟩
 obtain ⟨p2,c2,rfl,hl2⟩:=ho.slice
 have HO:=Lib.hid ho;have HF:=Lib.hid hF
 have Y1:=Lib.hid (keep_blk hb2 Z1.out)
 have HB2:=Lib.hid (HB1.out.trans (hb2.mono HB1.out.size))
 clear ho hF hb2 Z0 Z1 HB1
 simp only [List.length_singleton]
 go_wp2_with (first
   | (refine wpList_store_row rfl 28 (.tmp 4) (.tmp 9) rfl (w.heap.size+1) #[.int .i64 7,.int .u64 0,.int .u64 0,.int .u64 0,.int .u64 0,.slice p2 1 c2,.int .i64 n,.int .i64 0,.int .i64 0,.bool false] rfl rfl 28 _ Y1.out (by kernel_rfl) rfl (by simp [Value.oneCell']) ?_)
   | fail)
 refine bodyPost_ret (results_cell_row rfl _ _ (w.heap.size+1) 28 #[.int .i64 7,.int .u64 0,.int .u64 0,.int .u64 0,.int .u64 0,.slice p2 1 c2,.int .i64 n,.int .i64 0,.int .i64 0,.bool false] (0,0) _ rfl (heap_setRow Y1.out) Tryz.underlying28 rfl (by kernel_rfl)) rfl ⟨.slice p2 1 c2,F,rfl, ?_, ?_, ?_⟩
 · exact HO.out.keep fun b hb=>by have:=HF.out b hb;rw [heap_setRow_other _ _ _ (by simp at this;omega)]
 · intro b hb;have:=HF.out b hb;simp at this;omega
 · exact below_setRow HB2.out (Nat.le_succ _) _
theorem rep_any (t:Tr) (lo hi:Int) (w:World) (B:Nat→Prop) (v:Value) (hv:NodeV w B v t):Calls Tryz.prog 29 #[v,.int .i64 lo,.int .i64 hi] w (OwnEnd (.rep lo hi t) w):=by
 obtain ⟨s,rfl,hs⟩:=hv
 obtain ⟨p,cap,rfl,hlen⟩:=hs.slice
 have hb1:Below w.heap.size w ((w.alloc (.cells (t.cells (.slice p t.subs.length cap)) 28)).alloc (.cells noNode 28)):=by go_grown
 have z0:=(two_new w (.cells (t.cells (.slice p t.subs.length cap)) 28) (.cells noNode 28)).1
 have z1:=(two_new w (.cells (t.cells (.slice p t.subs.length cap)) 28) (.cells noNode 28)).2
 have HC:=Lib.hid (copies_any [t] _ _ _ (one_list (hs.later hb1) 28 (w.heap.size+1+1) (by simp)))
 have HB1:=Lib.hid (hb1.alloc hb1.size (.cells (t.cells (.slice p t.subs.length cap)) 28))
 have Z0:=Lib.hid z0;have Z1:=Lib.hid (heap_alloc_lt (o:=.cells (t.cells (.slice p t.subs.length cap)) 28) z1)
 clear hs hb1 z0 z1
 unfold Tr.cells at *
 go_enter Tryz.func29,Tryz.ntmps29
 go_wp2_with (first
   | (refine wpList_load_row rfl 28 (.tmp 3) rfl w.heap.size rfl 28 _ (0,0) _ Z0.out Tryz.underlying28 rfl (by kernel_rfl) ?_)
   | (refine wpList_node1 rfl (.tmp 9) t p t.subs.length cap rfl rfl ?_)
   | fail)
 unfold Tr.cells
 refine HC.out.mono ?_
 rintro e w2 ⟨s2,F,rfl,ho,hF,hb2⟩
 obtain ⟨p2,c2,rfl,hl2⟩:=ho.slice
 have HO:=Lib.hid ho;have HF:=Lib.hid hF
 have Y1:=Lib.hid (keep_blk hb2 Z1.out)
 have HB2:=Lib.hid (HB1.out.trans (hb2.mono HB1.out.size))
 clear ho hF hb2 Z0 Z1 HB1
 simp only [List.length_singleton]
 go_wp2_with (first
   | (refine wpList_store_row rfl 28 (.tmp 6) (.tmp 12) rfl (w.heap.size+1) #[.int .i64 8,.int .u64 0,.int .u64 0,.int .u64 0,.int .u64 0,.slice p2 1 c2,.int .i64 0,.int .i64 lo,.int .i64 hi,.bool false] rfl rfl 28 _ Y1.out (by kernel_rfl) rfl (by simp [Value.oneCell']) ?_)
   | fail)
 refine bodyPost_ret (results_cell_row rfl _ _ (w.heap.size+1) 28 #[.int .i64 8,.int .u64 0,.int .u64 0,.int .u64 0,.int .u64 0,.slice p2 1 c2,.int .i64 0,.int .i64 lo,.int .i64 hi,.bool false] (0,0) _ rfl (heap_setRow Y1.out) Tryz.underlying28 rfl (by kernel_rfl)) rfl ⟨.slice p2 1 c2,F,rfl, ?_, ?_, ?_⟩
 · exact HO.out.keep fun b hb=>by have:=HF.out b hb;rw [heap_setRow_other _ _ _ (by simp at this;omega)]
 · intro b hb;have:=HF.out b hb;simp at this;omega
 · exact below_setRow HB2.out (Nat.le_succ _) _
end Go.Proofs.YtnfdknhhkdphhaaGreatDoor
namespace Go.Proofs.YtnfdknhhkdphhaaGreatDoor
open Go.RowKit
theorem append_both {P:Program} (w:World) {ops:Array Oper} {rest:List Oper} {o:Oper} {a:Act} {Q:Exit→Act→World→Prop} (hgd:o.guard=none) (s x:Operand) (t:TypeId)
   (ho:o.op=.call { callee:=.builtin .append,args:=#[s,x],argTypes:=#[t,t] })
   (base:Nat) (e:TypeId) (i:TypeInfo) (z:Value) (size bytes:Nat) (ht:P.underlying t=some (.slice e)) (hi:P.info? e=some i) (hz:i.zero=some z)
   (hsize:i.size=size) (hby:i.bytes=bytes) (hzs:z.cells.size=size) (hsz:0 < size)
   (v:Value) (n:Nat) (xs:List Value) (hs:a.eval s=v) (hown:w.ownsRow base e size v n xs)
   (p:Option Addr) (m c:Nat) (news:List Value) (hx:a.eval x=.slice p m c) (h0:p=none→m=0∧c=0) (hl:news.length=m * size) (hnews:∀ ad,p=some ad→∀ j u,news[j]? = some u→w.cell? (ad.add j)=some u) (h1:∀ u ∈ news,u.oneCell'=true)
   (h63:n+m ≤ maxLen) (hbytes:(n+m) * bytes ≤ 140737488355328) (hbase:base ≤ w.heap.size)
   (h:∀ v' w',w'.ownsRow base e size v' (n+m) (xs ++ news)→w.grownBy w' v.ownBlock→(v'=.slice none 0 0 ↔ v=.slice none 0 0∧m=0)→wpList P ops Q rest (a.put o.dst v') w'):wpList P ops Q (o :: rest) a w:=by
 cases p with
 | some ad=>exact wpList_append_own w hgd s x t ho base e i z size bytes ht hi hz hsize hby hzs hsz v n xs hs hown ad m c news hx hl (hnews ad rfl) h1 h63 hbytes hbase h
 | none =>
   obtain ⟨rfl,rfl⟩:=h0 rfl
   have hn:news=[]:=List.eq_nil_of_length_eq_zero (by rw [hl];omega)
   subst hn
   exact wpList_append_own_none hgd s x t ho base e i size ht hi v n xs hs hown hx (h v w (by simpa using hown) ⟨rfl,rfl,rfl,Nat.le_refl _,fun _ _ _=>rfl⟩ (by simp))
end Go.Proofs.YtnfdknhhkdphhaaGreatDoor
namespace Go.Proofs.YtnfdknhhkdphhaaGreatDoor
open Go.RowKit
namespace Tr
def fits (k s:Int):Bool:=if k=5 then (s != 1 && s != 5 && s != 6) else if k=6 then s != 6 else if k=8 then (s == 2 || s == 7) else true
mutual
def shapeT:Tr→Bool
 | .node k _ _ _ _ s _ _ _ br=>shapeS k s && !br
def shapeS (k:Int):List Tr→Bool
 | []=>true
 | t :: l=>fits k t.kind && shapeT t && shapeS k l
end
mutual
def numsT:Tr→List Int
 | .node k _ _ _ _ s n _ _ _=>(if k=7 then [n] else []) ++ numsS s
def numsS:List Tr→List Int
 | []=>[]
 | t :: l=>numsT t ++ numsS l
end
mutual
def nestT:Tr→Nat
 | .node k _ _ _ _ s _ _ _ _=>nestS s+(if k=7 then 1 else 0)
def nestS:List Tr→Nat
 | []=>0
 | t :: l=>max (nestT t) (nestS l)
end
theorem shapeT_eq (t:Tr):t.shapeT=(shapeS t.kind t.subs && !t.bare):=by cases t;rw [shapeT];rfl
theorem numsT_eq (t:Tr):t.numsT=(if t.kind=7 then [t.num] else []) ++ numsS t.subs:=by cases t;rw [numsT];rfl
theorem nestT_eq (t:Tr):t.nestT=nestS t.subs+(if t.kind=7 then 1 else 0):=by cases t;rw [nestT];rfl
theorem numsS_append:∀ a b:List Tr,numsS (a ++ b)=numsS a ++ numsS b
 | [],b=>by simp [numsS]
 | t :: a,b=>by rw [List.cons_append,numsS,numsS,numsS_append a b,List.append_assoc]
theorem numsS_take (l:List Tr) (m:Nat) (x:Tr) (h:l[m]? = some x):numsS (l.take (m+1))=numsS (l.take m) ++ x.numsT:=by
 rw [List.take_add_one,h,Option.toList_some,numsS_append,numsS,numsS,List.append_nil]
theorem numsS_le (l:List Tr) (m:Nat):(numsS (l.take m)).length ≤ (numsS l).length:=by
 have h:=congrArg (fun x=>(numsS x).length) (List.take_append_drop m l)
 simp only [numsS_append,List.length_append] at h
 omega
theorem numsT_le {l:List Tr} {x:Tr} (h:x ∈ l):x.numsT.length ≤ (numsS l).length:=by
 obtain ⟨m,hm,rfl⟩:=List.getElem_of_mem h
 have h1:=numsS_take l m l[m] (List.getElem?_eq_getElem hm)
 have h2:=numsS_le l (m+1)
 rw [h1,List.length_append] at h2
 omega
theorem nestS_append:∀ a b:List Tr,nestS (a ++ b)=max (nestS a) (nestS b)
 | [],b=>by simp [nestS]
 | t :: a,b=>by rw [List.cons_append,nestS,nestS,nestS_append a b];omega
theorem nestS_take (l:List Tr) (m:Nat) (x:Tr) (h:l[m]? = some x):nestS (l.take (m+1))=max (nestS (l.take m)) x.nestT:=by
 rw [List.take_add_one,h,Option.toList_some,nestS_append,nestS,nestS];omega
theorem nestS_le (l:List Tr) (m:Nat):nestS (l.take m) ≤ nestS l:=by
 have h:=congrArg nestS (List.take_append_drop m l)
 rw [nestS_append] at h
 omega
theorem nestT_le {l:List Tr} {x:Tr} (h:x ∈ l):x.nestT ≤ nestS l:=by
 obtain ⟨m,hm,rfl⟩:=List.getElem_of_mem h
 have h1:=nestS_take l m l[m] (List.getElem?_eq_getElem hm)
 have h2:=nestS_le l (m+1)
 rw [h1] at h2
 omega
theorem shapeS_append (k:Int):∀ a b:List Tr,shapeS k (a ++ b)=(shapeS k a && shapeS k b)
 | [],b=>by simp [shapeS]
 | t :: a,b=>by rw [List.cons_append,shapeS,shapeS,shapeS_append k a b];simp [Bool.and_assoc]
theorem shapeS_take (k:Int) (l:List Tr) (m:Nat) (x:Tr) (h:l[m]? = some x):shapeS k (l.take (m+1))=(shapeS k (l.take m) && (fits k x.kind && x.shapeT)):=by
 rw [List.take_add_one,h,Option.toList_some,shapeS_append,shapeS,shapeS];simp
theorem shapeS_no {k:Int} {l:List Tr} {m:Nat} (h:shapeS k (l.take m)=false):shapeS k l=false:=by
 have e:=congrArg (shapeS k) (List.take_append_drop m l)
 rw [shapeS_append,h] at e
 rw [← e];rfl
end Tr
theorem maystand_any (k s:Int) (w:World):Calls Tryz.prog 107 #[.int .i64 k,.int .i64 s] w fun e w'=>e=.returned (.bool (Tr.fits k s))∧w'=w:=by
 obtain ⟨v,hv⟩:∃ v,Tr.fits k s=v:=⟨_,rfl⟩
 rw [hv]
 unfold Tr.fits at hv
 by_cases h5:k=5
 · subst h5
   rw [if_pos rfl] at hv
   cases h1:(s != 1) <;> cases h2:(s != 5) <;> cases h3:(s != 6) <;> (
     rw [h1,h2,h3] at hv
     simp at hv
     subst hv
     go_enter Tryz.func107,Tryz.ntmps107
     go_wp2
     go_ret
     exact ⟨rfl,rfl⟩)
 · rw [if_neg h5] at hv
   have k5:(k == 5)=false:=by simpa using h5
   by_cases h6:k=6
   · subst h6
     rw [if_pos rfl] at hv
     cases h3:(s != 6) <;> (
       rw [h3] at hv
       subst hv
       go_enter Tryz.func107,Tryz.ntmps107
       go_wp2
       go_ret
       exact ⟨rfl,rfl⟩)
   · rw [if_neg h6] at hv
     have k6:(k == 6)=false:=by simpa using h6
     by_cases h8:k=8
     · subst h8
       rw [if_pos rfl] at hv
       cases h1:(s == 2) <;> cases h2:(s == 7) <;> (
         rw [h1,h2] at hv
         simp at hv
         subst hv
         go_enter Tryz.func107,Tryz.ntmps107
         go_wp2
         go_ret
         exact ⟨rfl,rfl⟩)
     · rw [if_neg h8] at hv
       subst hv
       have k8:(k == 8)=false:=by simpa using h8
       go_enter Tryz.func107,Tryz.ntmps107
       go_wp2
       go_ret
       exact ⟨rfl,rfl⟩
theorem nesting_any:∀ t:Tr,t.nestT ≤ 1000000→∀ (w:World) (B:Nat→Prop) (v:Value),NodeV w B v t→Calls Tryz.prog 36 #[v] w (SizeEnd t.nestT w):=by
 intro t
 induction t using Tr.rec_subs with
 | h t ih =>
   intro hd w B v hv
   obtain ⟨s,rfl,hs⟩:=hv
   obtain ⟨p,cap,rfl,hlen⟩:=hs.slice
   have heq:=Tr.nestT_eq t
   rw [heq] at hd ⊢
   clear heq
   generalize hts:t.subs=ts at *
   have IH:=Lib.hid ih;have HS:=Lib.hid hs
   clear ih hs
   clear hts
   unfold Tr.cells at *
   have hle:Tr.nestS ts ≤ 1000000:=by omega
   generalize hD:Tr.nestS ts+(if t.kind=7 then 1 else 0)=D at *
   have HDE:=Lib.hid hD
   have Z0:=Lib.hid (heap_alloc_new w (.cells #[.int .i64 t.kind,.int .u64 (Oc.U t.w0),.int .u64 (Oc.U t.w1),.int .u64 (Oc.U t.w2),.int .u64 (Oc.U t.w3),.slice p ts.length cap,.int .i64 t.num,.int .i64 t.least,.int .i64 t.most,.bool t.bare] 28))
   have HW:=Lib.hid (show Below w.heap.size w (w.alloc (.cells #[.int .i64 t.kind,.int .u64 (Oc.U t.w0),.int .u64 (Oc.U t.w1),.int .u64 (Oc.U t.w2),.int .u64 (Oc.U t.w3),.slice p ts.length cap,.int .i64 t.num,.int .i64 t.least,.int .i64 t.most,.bool t.bare] 28)) from (Below.refl _ _).alloc (Nat.le_refl _) _)
   have hz:w.heap.size < (w.alloc (.cells #[.int .i64 t.kind,.int .u64 (Oc.U t.w0),.int .u64 (Oc.U t.w1),.int .u64 (Oc.U t.w2),.int .u64 (Oc.U t.w3),.slice p ts.length cap,.int .i64 t.num,.int .i64 t.least,.int .i64 t.most,.bool t.bare] 28)).heap.size:=by simp
   have HD:=Lib.hid hd
   clear hd hD
   go_enter Tryz.func36,Tryz.ntmps36
   go_wp2
   generalize w.alloc (.cells #[.int .i64 t.kind,.int .u64 (Oc.U t.w0),.int .u64 (Oc.U t.w1),.int .u64 (Oc.U t.w2),.int .u64 (Oc.U t.w3),.slice p ts.length cap,.int .i64 t.num,.int .i64 t.least,.int .i64 t.most,.bool t.bare] 28)=W0 at *
   go_loopw [3,9] (fun gv iv wr=>∃ m:Nat,iv=.int .i64 m∧m ≤ ts.length∧gv=.int .i64 (Tr.nestS (ts.take m):Nat)∧Hid (Below W0.heap.size W0 wr)) (fun _ iv _=>ts.length - (intOf iv).toNat)
   case atStart=>exact ⟨0,rfl,Nat.zero_le _,rfl,Lib.hid (Below.refl _ _)⟩
   case round =>
     obtain ⟨m,rfl,hm,rfl,HB⟩:=hrel
     have wm:IntKind.i64.wrap ((m:Int)+1)=(m:Int)+1:=IntWalk.i64_in _ (by omega)
     have HBW:=Lib.hid (HW.out.trans (HB.out.mono HW.out.size))
     by_cases hlt:m < ts.length
     · obtain ⟨x,hx⟩:∃ x,ts[m]? = some x:=⟨_,List.getElem?_eq_getElem hlt⟩
       obtain ⟨b1,o1,s1,rfl,-,t1,sub1⟩:=HS.out.get hx
       obtain ⟨d0,d1,d2,d3,d4,d5,d6,d7,d8,d9⟩:=t1.keep (HBW.out.block _ t1.lt)
       have hmem:=List.mem_of_getElem? hx
       obtain ⟨p1,c1,rfl,hl1⟩:=sub1.slice
       have hdx:x.nestT ≤ 1000000:=by have:=Tr.nestT_le hmem;omega
       have HC:=Lib.hid (fun w9 hb=>IH.out x hmem hdx w9 B (.agg (x.cells (.slice p1 x.subs.length c1))) ⟨_,rfl,sub1.later hb⟩)
       have HSTP:=Lib.hid (Tr.nestS_take ts m x hx)
       clear t1 sub1 hmem hx hdx
       generalize hn:Tr.nestS (ts.take m)=n at *
       clear hn
       unfold Tr.cells at HC
       go_wp2_with fail
       generalize hw1:World.alloc wr _=w1
       have hb1:Below wr.heap.size wr w1:=by rw [← hw1];exact (Below.refl _ _).alloc (Nat.le_refl _) _
       clear hw1
       refine (HC.out w1 (HBW.out.trans (hb1.mono HBW.out.size))).mono ?_
       rintro e w2 ⟨rfl,hb2⟩
       have HB2:=Lib.hid (HB.out.trans ((hb1.trans (hb2.mono hb1.size)).mono HB.out.size))
       clear d0 d1 d2 d3 d4 d5 d6 d7 d8 d9 hb1 hb2 HC
       generalize x.nestT=N at *
       go_wp2
       all_goals
         exact ⟨⟨m+1,by go_num,by omega,by rw [HSTP.out];simp;try omega,HB2⟩,by simp [intOf];omega⟩
     · obtain rfl:m=ts.length:=by omega
       rw [List.take_length] at *
       have Z1:=Lib.hid (keep_blk (HB.out.mono (Nat.le_refl _)) Z0.out)
       have w1':IntKind.i64.wrap ((Tr.nestS ts:Int)+1)=(Tr.nestS ts:Int)+1:=IntWalk.i64_in _ (by omega)
       have hde:=HDE.out
       obtain ⟨d0,d1,d2,d3,d4,d5,d6,d7,d8,d9⟩:=allTen Z1.out
       by_cases h7:t.kind=7
       · rw [h7] at Z1 d0
         rw [if_pos h7] at hde
         have HDF:=Lib.hid hde
         clear hde HDE HD
         go_wp2
         go_ret
         exact ⟨ret_int (by have:=HDF.out;omega),HBW.out⟩
       · have e7:(t.kind == 7)=false:=by simpa using h7
         rw [if_neg h7] at hde
         have HDF:=Lib.hid hde
         clear hde HDE HD
         go_wp2
         go_ret
         exact ⟨ret_int (by have:=HDF.out;omega),HBW.out⟩
theorem hasshape_any:∀ t:Tr,∀ (w:World) (B:Nat→Prop) (v:Value),NodeV w B v t→Calls Tryz.prog 74 #[v] w fun e w'=>e=.returned (.bool t.shapeT)∧Below w.heap.size w w':=by
 intro t
 induction t using Tr.rec_subs with
 | h t ih =>
   intro w B v hv
   obtain ⟨s,rfl,hs⟩:=hv
   obtain ⟨p,cap,rfl,hlen⟩:=hs.slice
   have heq:=Tr.shapeT_eq t
   rw [heq]
   clear heq
   generalize hts:t.subs=ts at *
   have IH:=Lib.hid ih;have HS:=Lib.hid hs
   clear ih hs hts
   unfold Tr.cells at *
   have HM:=Lib.hid maystand_any
   have Z0:=Lib.hid (heap_alloc_new w (.cells #[.int .i64 t.kind,.int .u64 (Oc.U t.w0),.int .u64 (Oc.U t.w1),.int .u64 (Oc.U t.w2),.int .u64 (Oc.U t.w3),.slice p ts.length cap,.int .i64 t.num,.int .i64 t.least,.int .i64 t.most,.bool t.bare] 28))
   have HW:=Lib.hid (show Below w.heap.size w (w.alloc (.cells #[.int .i64 t.kind,.int .u64 (Oc.U t.w0),.int .u64 (Oc.U t.w1),.int .u64 (Oc.U t.w2),.int .u64 (Oc.U t.w3),.slice p ts.length cap,.int .i64 t.num,.int .i64 t.least,.int .i64 t.most,.bool t.bare] 28)) from (Below.refl _ _).alloc (Nat.le_refl _) _)
   have hz:w.heap.size < (w.alloc (.cells #[.int .i64 t.kind,.int .u64 (Oc.U t.w0),.int .u64 (Oc.U t.w1),.int .u64 (Oc.U t.w2),.int .u64 (Oc.U t.w3),.slice p ts.length cap,.int .i64 t.num,.int .i64 t.least,.int .i64 t.most,.bool t.bare] 28)).heap.size:=by simp
   generalize hD:(Tr.shapeS t.kind ts && !t.bare)=D at *
   have HDE:=Lib.hid hD
   clear hD
   go_enter Tryz.func74,Tryz.ntmps74
   go_wp2
   generalize w.alloc (.cells #[.int .i64 t.kind,.int .u64 (Oc.U t.w0),.int .u64 (Oc.U t.w1),.int .u64 (Oc.U t.w2),.int .u64 (Oc.U t.w3),.slice p ts.length cap,.int .i64 t.num,.int .i64 t.least,.int .i64 t.most,.bool t.bare] 28)=W0 at *
   go_loopw [8] (fun iv wr=>∃ m:Nat,iv=.int .i64 m∧m ≤ ts.length∧Hid (Tr.shapeS t.kind (ts.take m)=true)∧Hid (Below W0.heap.size W0 wr)) (fun iv _=>ts.length - (intOf iv).toNat)
   case atStart=>exact ⟨0,rfl,Nat.zero_le _,Lib.hid rfl,Lib.hid (Below.refl _ _)⟩
   case round =>
     obtain ⟨m,rfl,hm,HT,HB⟩:=hrel
     have wm:IntKind.i64.wrap ((m:Int)+1)=(m:Int)+1:=IntWalk.i64_in _ (by omega)
     have HBW:=Lib.hid (HW.out.trans (HB.out.mono HW.out.size))
     have Z1:=Lib.hid (keep_blk (HB.out.mono (Nat.le_refl _)) Z0.out)
     obtain ⟨e0,e1,e2,e3,e4,e5,e6,e7,e8,e9⟩:=allTen Z1.out
     by_cases hlt:m < ts.length
     · obtain ⟨x,hx⟩:∃ x,ts[m]? = some x:=⟨_,List.getElem?_eq_getElem hlt⟩
       obtain ⟨b1,o1,s1,rfl,-,t1,sub1⟩:=HS.out.get hx
       obtain ⟨d0,d1,d2,d3,d4,d5,d6,d7,d8,d9⟩:=t1.keep (HBW.out.block _ t1.lt)
       have hmem:=List.mem_of_getElem? hx
       obtain ⟨p1,c1,rfl,hl1⟩:=sub1.slice
       have HC:=Lib.hid (fun w9 hb=>IH.out x hmem w9 B (.agg (x.cells (.slice p1 x.subs.length c1))) ⟨_,rfl,sub1.later hb⟩)
       have hst:=Tr.shapeS_take t.kind ts m x hx
       rw [HT.out,Bool.true_and] at hst
       have HST:=Lib.hid hst
       clear t1 sub1 hmem hx hst
       unfold Tr.cells at HC
       go_upto_region 4 with (fail)
       have hzx:=heap_alloc_new wr (.cells #[.int .i64 x.kind,.int .u64 (Oc.U x.w0),.int .u64 (Oc.U x.w1),.int .u64 (Oc.U x.w2),.int .u64 (Oc.U x.w3),.slice p1 x.subs.length c1,.int .i64 x.num,.int .i64 x.least,.int .i64 x.most,.bool x.bare] 28)
       have hbx:Below wr.heap.size wr (wr.alloc (.cells #[.int .i64 x.kind,.int .u64 (Oc.U x.w0),.int .u64 (Oc.U x.w1),.int .u64 (Oc.U x.w2),.int .u64 (Oc.U x.w3),.slice p1 x.subs.length c1,.int .i64 x.num,.int .i64 x.least,.int .i64 x.most,.bool x.bare] 28)):=(Below.refl _ _).alloc (Nat.le_refl _) _
       have Z2:=Lib.hid (keep_blk hbx Z1.out)
       clear Z1 d0 d1 d2 d3 d4 d5 d6 d7 d8 d9 e0 e1 e2 e3 e4 e5 e6 e7 e8 e9
       generalize wr.alloc (.cells #[.int .i64 x.kind,.int .u64 (Oc.U x.w0),.int .u64 (Oc.U x.w1),.int .u64 (Oc.U x.w2),.int .u64 (Oc.U x.w3),.slice p1 x.subs.length c1,.int .i64 x.num,.int .i64 x.least,.int .i64 x.most,.bool x.bare] 28)=w1 at *
       obtain ⟨d0,d1,d2,d3,d4,d5,d6,d7,d8,d9⟩:=allTen hzx
       obtain ⟨e0,e1,e2,e3,e4,e5,e6,e7,e8,e9⟩:=allTen Z2.out
       have HB1:=Lib.hid (HBW.out.trans (hbx.mono HBW.out.size))
       have HBX:=Lib.hid (HB.out.trans (hbx.mono HB.out.size))
       clear hzx hbx
       cases hfit:Tr.fits t.kind x.kind with
       | false =>
         rw [hfit,Bool.false_and] at HST
         have HF:=Lib.hid hfit
         clear hfit
         go_wp2_with fail
         refine (HM.out _ _ _).mono ?_;rintro e w2 ⟨rfl,rfl⟩
         rw [HF.out]
         go_wp2
         go_ret
         exact ⟨ret_bool (by rw [← HDE.out,Tr.shapeS_no HST.out];rfl),HB1.out⟩
       | true =>
         rw [hfit,Bool.true_and] at HST
         have HF:=Lib.hid hfit
         clear hfit
         go_wp2_with fail
         refine (HM.out _ _ _).mono ?_;rintro e w2 ⟨rfl,rfl⟩
         rw [HF.out]
         go_wp2_with fail
         refine (HC.out _ HB1.out).mono ?_;rintro e w3 ⟨rfl,hb3⟩
         have HB3:=Lib.hid (HB1.out.trans (hb3.mono HB1.out.size))
         have HBX3:=Lib.hid (HBX.out.trans (hb3.mono HBX.out.size))
         clear hb3 d0 d1 d2 d3 d4 d5 d6 d7 d8 d9 e0 e1 e2 e3 e4 e5 e6 e7 e8 e9 HC
         cases hsx:x.shapeT with
         | false =>
           rw [hsx] at HST
           clear hsx
           go_wp2
           go_ret
           exact ⟨ret_bool (by rw [← HDE.out,Tr.shapeS_no HST.out];rfl),HB3.out⟩
         | true =>
           rw [hsx] at HST
           clear hsx
           go_wp2
           exact ⟨⟨m+1,by go_num,by omega,HST,HBX3⟩,by simp [intOf];omega⟩
     · obtain rfl:m=ts.length:=by omega
       rw [List.take_length] at *
       have hde:=HDE.out
       rw [HT.out,Bool.true_and] at hde
       have HDF:=Lib.hid hde
       clear hde HDE
       go_wp2
       go_ret
       exact ⟨ret_bool HDF.out,HBW.out⟩
end Go.Proofs.YtnfdknhhkdphhaaGreatDoor
namespace Go.Proofs.YtnfdknhhkdphhaaGreatDoor
open Go.RowKit
theorem Tryz.infoInt:(Tryz.prog.info? 3).map (fun i=>(i.zero,i.size,i.bytes))=some (some (.int .i64 0),1,8):=by kernel_rfl
def intCells (l:List Int):List Value:=l.map (Value.int .i64)
def NumsEnd (l:List Int) (w:World) (e:Ending) (w':World):Prop:=∃ v,e=.returned v∧w'.ownsRow w.heap.size 3 1 v l.length (intCells l)∧Below w.heap.size w w'
theorem owns_slice {w:World} {base:Nat} {v:Value} {l:List Int} (h:w.ownsRow base 3 1 v l.length (intCells l)) :
   ∃ p c,v=.slice p l.length c∧(p=none→l.length=0∧c=0)∧(∀ ad,p=some ad→∀ j u,(intCells l)[j]? = some u→w.cell? (ad.add j)=some u)∧∀ ad,p=some ad→∃ g,ad=⟨g,0,none⟩∧base ≤ g:=by
 have hcells:=fun g hv=>World.ownsRow.cells h (g:=g) hv
 rcases h.2 with ⟨rfl,hn0⟩ | ⟨g,cap,cur,rfl,hbg,hheap,-⟩
 · refine ⟨none,0,by rw [hn0],fun _=>⟨hn0,rfl⟩,fun ad h=>(by cases h),fun ad h=>(by cases h)⟩
 · refine ⟨some ⟨g,0,none⟩,cap,rfl,fun h=>(by cases h),fun ad had j u hj=>?_,fun ad had=>⟨g,(Option.some.inj had).symm,hbg⟩⟩
   obtain rfl:=Option.some.inj had
   exact hcells g rfl j u hj
theorem owns_mono {w:World} {base base':Nat} {e:TypeId} {size:Nat} {v:Value} {n:Nat} {xs:List Value} (h:w.ownsRow base e size v n xs) (hb:base' ≤ base):w.ownsRow base' e size v n xs :=
 ⟨h.1,h.2.imp id fun ⟨g,cap,cur,h1,h2,h3⟩=>⟨g,cap,cur,h1,Nat.le_trans hb h2,h3⟩⟩
theorem intCells_one (l:List Int):∀ u ∈ intCells l,u.oneCell'=true:=by
 intro u hu
 unfold intCells at hu
 obtain ⟨x,-,rfl⟩:=List.mem_map.1 hu
 rfl
theorem numbers_any:∀ t:Tr,t.numsT.length ≤ 1000000→∀ (w:World) (B:Nat→Prop) (v:Value),NodeV w B v t→Calls Tryz.prog 73 #[v] w (NumsEnd t.numsT w):=by
 intro t
 induction t using Tr.rec_subs with
 | h t ih =>
   intro hd w B v hv
   obtain ⟨s,rfl,hs⟩:=hv
   obtain ⟨p,cap,rfl,hlen⟩:=hs.slice
   have heq:=Tr.numsT_eq t
   rw [heq] at hd ⊢
   clear heq
   generalize hts:t.subs=ts at *
   have IH:=Lib.hid ih;have HS:=Lib.hid hs
   clear ih hs hts
   unfold Tr.cells at *
   obtain ⟨ie,hi0,hz0,hz1,hz2⟩:=info_parts Tryz.infoInt
   have HI:=Lib.hid hi0;have HZ0:=Lib.hid hz0;have HZ1:=Lib.hid hz1;have HZ2:=Lib.hid hz2
   clear hi0 hz0 hz1 hz2
   have Z0:=Lib.hid (heap_alloc_new w (.cells #[.int .i64 t.kind,.int .u64 (Oc.U t.w0),.int .u64 (Oc.U t.w1),.int .u64 (Oc.U t.w2),.int .u64 (Oc.U t.w3),.slice p ts.length cap,.int .i64 t.num,.int .i64 t.least,.int .i64 t.most,.bool t.bare] 28))
   have HW:=Lib.hid (show Below w.heap.size w (w.alloc (.cells #[.int .i64 t.kind,.int .u64 (Oc.U t.w0),.int .u64 (Oc.U t.w1),.int .u64 (Oc.U t.w2),.int .u64 (Oc.U t.w3),.slice p ts.length cap,.int .i64 t.num,.int .i64 t.least,.int .i64 t.most,.bool t.bare] 28)) from (Below.refl _ _).alloc (Nat.le_refl _) _)
   have hz:(w.alloc (.cells #[.int .i64 t.kind,.int .u64 (Oc.U t.w0),.int .u64 (Oc.U t.w1),.int .u64 (Oc.U t.w2),.int .u64 (Oc.U t.w3),.slice p ts.length cap,.int .i64 t.num,.int .i64 t.least,.int .i64 t.most,.bool t.bare] 28)).heap.size=w.heap.size+1:=by simp
   rw [List.length_append] at hd
   obtain ⟨pre,hpre⟩:∃ pre,(if t.kind=7 then [t.num] else [])=pre:=⟨_,rfl⟩
   rw [hpre] at hd ⊢
   have HP:=Lib.hid hpre
   clear hpre
   go_enter Tryz.func73,Tryz.ntmps73
   go_upto_if 8 with (fail)
   generalize w.alloc (.cells #[.int .i64 t.kind,.int .u64 (Oc.U t.w0),.int .u64 (Oc.U t.w1),.int .u64 (Oc.U t.w2),.int .u64 (Oc.U t.w3),.slice p ts.length cap,.int .i64 t.num,.int .i64 t.least,.int .i64 t.most,.bool t.bare] 28)=W0 at *
   go_cut [3] (fun v3 wx=>Hid (wx.ownsRow W0.heap.size 3 1 v3 pre.length (intCells pre))∧Hid (Below W0.heap.size W0 wx))
   case first =>
     obtain ⟨d0,d1,d2,d3,d4,d5,d6,d7,d8,d9⟩:=allTen Z0.out
     by_cases h7:t.kind=7
     · have e7:(t.kind == 7)=true:=by simpa using h7
       have hp:=HP.out
       rw [if_pos h7] at hp
       subst hp
       clear h7
       go_wp2_with (first
         | (at_builtin;refine wpList_append_own _ rfl _ _ 53 rfl W0.heap.size 3 ie _ 1 8 Tryz.underlying53 HI.out HZ0.out HZ1.out HZ2.out rfl (by decide) (.slice none 0 0) 0 [] rfl (World.ownsRow_nil _ _ _ _) ⟨w.heap.size+1,0,none⟩ 1 1 [.int .i64 t.num] rfl rfl ?c1 ?c2 (by unfold maxLen;omega) (by omega) (by simp) ?_)
         | fail)
       case c1 =>
         intro j u hj
         match j,hj with
         | 0,hj=>simp at hj;subst hj;simp [Addr.add,← hz]
       case c2=>intro u hu;simp at hu;subst hu;rfl
       intro v' w2 hown' hgrow _
       go_wp2
       go_meet
       exact ⟨Lib.hid (by rw [hz];exact hown'),Lib.hid (((Below.refl _ _).alloc (Nat.le_refl _) _).grown hgrow (by simp) (fun k hk=>by simp [Value.ownBlock] at hk))⟩
     · have e7:(t.kind == 7)=false:=by simpa using h7
       have hp:=HP.out
       rw [if_neg h7] at hp
       subst hp
       go_wp2
       go_meet
       exact ⟨Lib.hid (World.ownsRow_nil _ _ _ _),Lib.hid (Below.refl _ _)⟩
   case rest =>
     obtain ⟨HO0,HB0⟩:=hcut
     have HBW0:=Lib.hid (HW.out.trans (HB0.out.mono HW.out.size))
     have Z0':=Lib.hid (keep_blk (HB0.out.mono (Nat.le_refl _)) Z0.out)
     clear Z0 HP
     obtain ⟨d0,d1,d2,d3,d4,d5,d6,d7,d8,d9⟩:=allTen Z0'.out
     go_wp2
     go_loopw [3,17] (fun sv iv wr=>∃ m:Nat,iv=.int .i64 m∧m ≤ ts.length∧Hid (wr.ownsRow W0.heap.size 3 1 sv (pre ++ Tr.numsS (ts.take m)).length (intCells (pre ++ Tr.numsS (ts.take m))))∧Hid (Below W0.heap.size W0 wr)) (fun _ iv _=>ts.length - (intOf iv).toNat)
     case atStart=>exact ⟨0,rfl,Nat.zero_le _,Lib.hid (by simpa [Tr.numsS] using HO0.out),HB0⟩
     case round =>
       obtain ⟨m,rfl,hm,HO,HB⟩:=hrel
       have wm:IntKind.i64.wrap ((m:Int)+1)=(m:Int)+1:=IntWalk.i64_in _ (by omega)
       have HBW:=Lib.hid (HW.out.trans (HB.out.mono HW.out.size))
       by_cases hlt:m < ts.length
       · obtain ⟨x,hx⟩:∃ x,ts[m]? = some x:=⟨_,List.getElem?_eq_getElem hlt⟩
         obtain ⟨b1,o1,s1,rfl,-,t1,sub1⟩:=HS.out.get hx
         obtain ⟨g0,g1,g2,g3,g4,g5,g6,g7,g8,g9⟩:=t1.keep (HBW.out.block _ t1.lt)
         have hmem:=List.mem_of_getElem? hx
         obtain ⟨p1,c1,rfl,hl1⟩:=sub1.slice
         have hle:=Tr.numsT_le hmem
         have hle2:=Tr.numsS_le ts m
         have HC:=Lib.hid (fun w9 hb=>IH.out x hmem (by omega) w9 B (.agg (x.cells (.slice p1 x.subs.length c1))) ⟨_,rfl,sub1.later hb⟩)
         have hst:=Tr.numsS_take ts m x hx
         have HSTP:=Lib.hid hst
         have hlx:(pre ++ Tr.numsS (ts.take m)).length+x.numsT.length ≤ 2000000:=by rw [List.length_append];omega
         clear t1 sub1 hmem hx hst hle hle2 d0 d1 d2 d3 d4 d5 d6 d7 d8 d9
         have HJ:=Lib.hid (show pre ++ Tr.numsS (ts.take (m+1))=(pre ++ Tr.numsS (ts.take m)) ++ x.numsT by rw [HSTP.out,List.append_assoc])
         clear HSTP
         generalize pre ++ Tr.numsS (ts.take m)=L at *
         unfold Tr.cells at HC
         go_wp2_with fail
         generalize hw1:World.alloc wr _=w1
         have hb1:Below wr.heap.size wr w1:=by rw [← hw1];exact (Below.refl _ _).alloc (Nat.le_refl _) _
         clear hw1
         refine (HC.out w1 (HBW.out.trans (hb1.mono HBW.out.size))).mono ?_
         rintro e w2 ⟨v2,rfl,ho2,hb2⟩
         obtain ⟨p2,c2,rfl,hn2,hcl2,-⟩:=owns_slice ho2
         have hb12:Below wr.heap.size wr w2:=hb1.trans (hb2.mono hb1.size)
         have hownw:=(HO.out.kept (w':=w2) (row:=none) ⟨hb12.os,hb12.tape,hb12.output,hb12.size,fun k hk _=>hb12.block k hk⟩ (by
           cases h:Value.ownBlock u3 with
           | none=>exact .inl rfl
           | some g=>exact .inr (by simp)))
         have HB2:=Lib.hid (HB.out.trans (hb12.mono HB.out.size))
         have hltv:=HO.out.lt
         have HOW:=Lib.hid hownw;have HLT:=Lib.hid hltv;have HCL:=Lib.hid hcl2;have HN2:=Lib.hid hn2
         have hlen2:=Lib.hid (show (intCells x.numsT).length=x.numsT.length * 1 by simp [intCells])
         clear g0 g1 g2 g3 g4 g5 g6 g7 g8 g9 hb1 hb2 HC ho2 hownw hltv hcl2 hn2 hb12
         generalize hN:x.numsT=N at *
         have hbs:W0.heap.size ≤ w2.heap.size:=HB2.out.size
         go_wp2_with (first
           | (at_builtin;refine append_both _ rfl _ _ 53 rfl W0.heap.size 3 ie _ 1 8 Tryz.underlying53 HI.out HZ0.out HZ1.out HZ2.out rfl (by decide) _ _ _ rfl HOW.out p2 N.length c2 (intCells N) rfl HN2.out hlen2.out HCL.out (intCells_one N) (by unfold maxLen;omega) (by omega) hbs ?_;intro v' w4 hown4 hgrow4 _)
           | fail)
         have hB4:=HB2.out.grown hgrow4 HB2.out.size (fun k hk=>(HLT.out k hk).1)
         have HB4:=Lib.hid hB4
         have HO4:=Lib.hid hown4
         clear hB4 hown4
         go_wp2
         refine ⟨⟨m+1,by go_num,by omega,Lib.hid ?_,HB4⟩,by simp [intOf];omega⟩
         rw [HJ.out,List.length_append]
         have:=HO4.out
         unfold intCells at *
         rw [List.map_append]
         exact this
       · obtain rfl:m=ts.length:=by omega
         rw [List.take_length] at *
         go_wp2
         go_ret
         exact ⟨_,rfl,owns_mono HO.out HW.out.size,HBW.out⟩
theorem isspellable_yes (t:Tr) (hl:t.numsT.length ≤ 1000000) (hc:∀ i:Nat,i < t.numsT.length→t.numsT[i]? = some ((i:Int)+1)) (w:World) (B:Nat→Prop) (v:Value) (hv:NodeV w B v t):Calls Tryz.prog 35 #[v] w fun e w'=>e=.returned (.bool t.shapeT)∧Below w.heap.size w w':=by
 obtain ⟨s,rfl,hs⟩:=hv
 obtain ⟨p,cap,rfl,hlen⟩:=hs.slice
 have H1:=Lib.hid (fun w' (hb:Below w.heap.size w w')=>numbers_any t hl w' B (.agg (t.cells (.slice p t.subs.length cap))) ⟨_,rfl,TreesAt.later (w':=w') hs hb⟩)
 have H2:=Lib.hid (fun w' (hb:Below w.heap.size w w')=>hasshape_any t w' B (.agg (t.cells (.slice p t.subs.length cap))) ⟨_,rfl,TreesAt.later (w':=w') hs hb⟩)
 have HCO:=Lib.hid hc
 clear hs hc
 unfold Tr.cells at *
 generalize t.subs=ts at *
 generalize t.numsT=L at *
 generalize t.shapeT=D at *
 have Z0:=Lib.hid (heap_alloc_new w (.cells #[.int .i64 t.kind,.int .u64 (Oc.U t.w0),.int .u64 (Oc.U t.w1),.int .u64 (Oc.U t.w2),.int .u64 (Oc.U t.w3),.slice p ts.length cap,.int .i64 t.num,.int .i64 t.least,.int .i64 t.most,.bool t.bare] 28))
 have HW:=Lib.hid (show Below w.heap.size w (w.alloc (.cells #[.int .i64 t.kind,.int .u64 (Oc.U t.w0),.int .u64 (Oc.U t.w1),.int .u64 (Oc.U t.w2),.int .u64 (Oc.U t.w3),.slice p ts.length cap,.int .i64 t.num,.int .i64 t.least,.int .i64 t.most,.bool t.bare] 28)) from (Below.refl _ _).alloc (Nat.le_refl _) _)
 go_enter Tryz.func35,Tryz.ntmps35
 go_wp2_with (first
   | (refine wpList_load_row rfl 28 (.tmp 1) rfl w.heap.size rfl 28 _ (0,0) _ Z0.out Tryz.underlying28 rfl (by kernel_rfl) ?_)
   | fail)
 refine (H1.out _ HW.out).mono ?_
 rintro e w1 ⟨v1,rfl,ho1,hb1⟩
 obtain ⟨p1,c1,rfl,hn1,hcl1,hg1⟩:=owns_slice ho1
 have Z1:=Lib.hid (keep_blk (hb1.mono (Nat.le_refl _)) Z0.out)
 have HB1:=Lib.hid (HW.out.trans (hb1.mono HW.out.size))
 have hz1:w.heap.size < w1.heap.size:=(Array.getElem?_eq_some_iff.1 Z1.out).1
 have HCL:=Lib.hid hcl1;have HN:=Lib.hid hn1;have HG:=Lib.hid hg1
 clear hb1 Z0 ho1 hcl1 hn1 hg1
 go_wp2
 go_loopw [8] (fun iv wr=>∃ m:Nat,iv=.int .i64 m∧m ≤ L.length∧w1=wr) (fun iv _=>L.length - (intOf iv).toNat)
 case atStart=>exact ⟨0,rfl,Nat.zero_le _,rfl⟩
 case round =>
   obtain ⟨m,rfl,hm,rfl⟩:=hrel
   have wm:IntKind.i64.wrap ((m:Int)+1)=(m:Int)+1:=IntWalk.i64_in _ (by omega)
   by_cases hlt:m < L.length
   · have hx:=HCO.out m hlt
     cases p1 with
     | none=>have:=(HN.out rfl).1;omega
     | some ad =>
       obtain ⟨g,rfl,-⟩:=HG.out ad rfl
       have hc1:=HCL.out _ rfl m (.int .i64 ((m:Int)+1)) (by unfold intCells;rw [List.getElem?_map,hx];rfl)
       have ea:(⟨g,0,none⟩:Addr).add m=⟨g,m,none⟩:=by unfold Addr.add;split <;> simp_all
       rw [ea] at hc1
       go_wp2
       exact ⟨⟨m+1,by go_num,by omega,trivial⟩,by simp [intOf];omega⟩
   · obtain rfl:m=L.length:=by omega
     go_wp2_with (first
       | (refine wpList_load_row rfl 28 (.tmp 1) rfl w.heap.size rfl 28 _ (0,0) _ Z1.out Tryz.underlying28 rfl (by kernel_rfl) ?_)
       | fail)
     refine (H2.out _ HB1.out).mono ?_
     rintro e w2 ⟨rfl,hb2⟩
     have HB2:=Lib.hid (HB1.out.trans (hb2.mono HB1.out.size))
     clear hb2
     go_wp2
     go_ret
     exact ⟨rfl,HB2.out⟩
end Go.Proofs.YtnfdknhhkdphhaaGreatDoor
namespace Go.Proofs
open Go.Shelf
def Tryz.lays170_ren:Go.Shelf.Ren:=⟨fun | 170=>38 | n=>n,fun | 70=>72 | 3=>3 | 0=>0 | 72=>75 | 37=>73 | 5=>5 | n=>n,fun | n=>n⟩
theorem Tryz.lays170:Go.Proofs.Lays.n170 Tryz.prog Tryz.lays170_ren:={
 mixed:=by kernel_rfl
 f170:=Tryz.func38.trans (congrArg some (by kernel_rfl))
 t0:=Tryz.underlying0
 a0:=Tryz.isAgg0
 z0:=Tryz.sizeOf0
 v0:=Tryz.zeroValue0
 t3:=Tryz.underlying3
 a3:=Tryz.isAgg3
 z3:=Tryz.sizeOf3
 v3:=Tryz.zeroValue3
 t37:=Tryz.underlying73
 a37:=Tryz.isAgg73
 z37:=Tryz.sizeOf73
 v37:=Tryz.zeroValue73
 t70:=Tryz.underlying72
 a70:=Tryz.isAgg72
 z70:=Tryz.sizeOf72
 v70:=Tryz.zeroValue72
 t72:=Tryz.underlying75
 a72:=Tryz.isAgg75
 z72:=Tryz.sizeOf75
 v72:=Tryz.zeroValue75 }
def Tryz.lays169_ren:Go.Shelf.Ren:=⟨fun | 169=>39 | n=>n,fun | 70=>72 | 9=>9 | 0=>0 | 72=>75 | 37=>73 | 127=>122 | 3=>3 | 5=>5 | n=>n,fun | n=>n⟩
theorem Tryz.lays169:Go.Proofs.Lays.n169 Tryz.prog Tryz.lays169_ren:={
 mixed:=by kernel_rfl
 f169:=Tryz.func39.trans (congrArg some (by kernel_rfl))
 t0:=Tryz.underlying0
 a0:=Tryz.isAgg0
 z0:=Tryz.sizeOf0
 v0:=Tryz.zeroValue0
 t3:=Tryz.underlying3
 a3:=Tryz.isAgg3
 z3:=Tryz.sizeOf3
 v3:=Tryz.zeroValue3
 t9:=Tryz.underlying9
 a9:=Tryz.isAgg9
 z9:=Tryz.sizeOf9
 v9:=Tryz.zeroValue9
 t37:=Tryz.underlying73
 a37:=Tryz.isAgg73
 z37:=Tryz.sizeOf73
 v37:=Tryz.zeroValue73
 t70:=Tryz.underlying72
 a70:=Tryz.isAgg72
 z70:=Tryz.sizeOf72
 v70:=Tryz.zeroValue72
 t72:=Tryz.underlying75
 a72:=Tryz.isAgg75
 z72:=Tryz.sizeOf75
 v72:=Tryz.zeroValue75
 t127:=Tryz.underlying122
 a127:=Tryz.isAgg122
 z127:=Tryz.sizeOf122
 v127:=Tryz.zeroValue122 }
theorem Tryz.Builder_Extra_169:Builder.Extra Tryz.prog Tryz.lays169_ren:={
 sizeBuilder:=by kernel_rfl
 liesBuilder:=by kernel_rfl
 t5:=Tryz.underlying5
 a5:=Tryz.isAgg5
 z5:=Tryz.sizeOf5
 v5:=Tryz.zeroValue5
 infoByte:=by kernel_rfl
 cellsByte:=by kernel_rfl
 sizeByte:=by kernel_rfl
 neB5:=by decide }
def Tryz.lays137_ren:Go.Shelf.Ren:=⟨fun | 137=>103 | 217=>140 | 266=>169 | n=>n,fun | 9=>9 | 5=>5 | 3=>3 | n=>n,fun | n=>n⟩
theorem Tryz.lays137:Go.Proofs.Lays.n137 Tryz.prog Tryz.lays137_ren:={
 mixed:=by kernel_rfl
 f137:=Tryz.func103.trans (congrArg some (by kernel_rfl))
 f217:=Tryz.func140.trans (congrArg some (by kernel_rfl))
 f266:=Tryz.func169.trans (congrArg some (by kernel_rfl))
 t3:=Tryz.underlying3
 a3:=Tryz.isAgg3
 z3:=Tryz.sizeOf3
 v3:=Tryz.zeroValue3
 t5:=Tryz.underlying5
 a5:=Tryz.isAgg5
 z5:=Tryz.sizeOf5
 v5:=Tryz.zeroValue5
 t9:=Tryz.underlying9
 a9:=Tryz.isAgg9
 z9:=Tryz.sizeOf9
 v9:=Tryz.zeroValue9 }
open Go.RowKit in
theorem Tryz.strings_IndexByte (s:ByteArray) (c:Int) (w:World) :
   Calls Tryz.prog 103 #[.string s,.int .u8 c] w fun e w'=>e=.returned (.int .i64 (Lib.indexByte s.data.toList c.toNat.toUInt8))∧w'=w:=Any.strings_IndexByte Tryz.lays137 s c w
open Go.RowKit in
theorem Tryz.Builder_Len_f (B b:Nat) (bs:List Value) (w:World) (h:Lib.IsBuilderF 75 5 B b bs w) :
   Calls Tryz.prog 38 #[.pointer (some ⟨b,0,none⟩)] w fun e w'=>e=.returned (.int .i64 bs.length)∧w'=w:=Any.Builder_Len_f Tryz.lays170 B b bs w h
open Go.RowKit in
theorem Tryz.Builder_String_any_k (B b:Nat) (l:List UInt8) (w:World) (h:Lib.IsBuilderF 75 5 B b (Lib.byteCells l) w) (hBw:B ≤ w.heap.size) :
   Calls Tryz.prog 39 #[.pointer (some ⟨b,0,none⟩)] w fun e w'=>e=.returned (.string ⟨l.toArray⟩)∧(Lib.IsBuilderF 75 5 B b (Lib.byteCells l) w'∧Below B w w'∧Lib.OthersKept 5 (some b) w w'):=Any.Builder_String_any_k Tryz.lays169 Tryz.Builder_Extra_169 B b l w h hBw
def Tryz.laysM171_ren:Go.Shelf.Ren:=⟨fun | 171=>114 | 243=>149 | 246=>174 | 283=>189 | 284=>190 | 285=>191 | 286=>192 | 129=>205 | 317=>204 | 318=>206 | 319=>207 | 320=>208 | 337=>217 | 338=>170 | n=>n,fun | 3=>3 | 9=>9 | 2=>2 | 4=>4 | 171=>207 | 0=>0 | 53=>23 | 37=>73 | 5=>5 | 173=>209 | 212=>222 | 51=>223 | 20=>20 | 213=>224 | 46=>193 | 232=>231 | 233=>205 | n=>n,fun | 17=>24 | 18=>25 | 19=>23 | n=>n⟩
theorem Tryz.laysM171:Go.Proofs.LaysM.n171 Tryz.prog Tryz.laysM171_ren:={
 mixed:=by kernel_rfl
 f129:=Tryz.func205.trans (congrArg some (by kernel_rfl))
 f171:=Tryz.func114.trans (congrArg some (by kernel_rfl))
 f243:=Tryz.func149.trans (congrArg some (by kernel_rfl))
 f246:=Tryz.func174.trans (congrArg some (by kernel_rfl))
 f283:=Tryz.func189.trans (congrArg some (by kernel_rfl))
 f284:=Tryz.func190.trans (congrArg some (by kernel_rfl))
 f285:=Tryz.func191.trans (congrArg some (by kernel_rfl))
 f286:=Tryz.func192.trans (congrArg some (by kernel_rfl))
 f317:=Tryz.func204.trans (congrArg some (by kernel_rfl))
 f318:=Tryz.func206.trans (congrArg some (by kernel_rfl))
 f319:=Tryz.func207.trans (congrArg some (by kernel_rfl))
 f320:=Tryz.func208.trans (congrArg some (by kernel_rfl))
 f337:=Tryz.func217.trans (congrArg some (by kernel_rfl))
 f338:=Tryz.func170.trans (congrArg some (by kernel_rfl))
 t0:=Tryz.underlying0
 a0:=Tryz.isAgg0
 z0:=Tryz.sizeOf0
 v0:=Tryz.zeroValue0
 t2:=Tryz.underlying2
 a2:=Tryz.isAgg2
 z2:=Tryz.sizeOf2
 v2:=Tryz.zeroValue2
 t3:=Tryz.underlying3
 a3:=Tryz.isAgg3
 z3:=Tryz.sizeOf3
 v3:=Tryz.zeroValue3
 t4:=Tryz.underlying4
 a4:=Tryz.isAgg4
 z4:=Tryz.sizeOf4
 v4:=Tryz.zeroValue4
 t5:=Tryz.underlying5
 a5:=Tryz.isAgg5
 z5:=Tryz.sizeOf5
 v5:=Tryz.zeroValue5
 t9:=Tryz.underlying9
 a9:=Tryz.isAgg9
 z9:=Tryz.sizeOf9
 v9:=Tryz.zeroValue9
 t20:=Tryz.underlying20
 a20:=Tryz.isAgg20
 z20:=Tryz.sizeOf20
 v20:=Tryz.zeroValue20
 t37:=Tryz.underlying73
 a37:=Tryz.isAgg73
 z37:=Tryz.sizeOf73
 v37:=Tryz.zeroValue73
 t46:=Tryz.underlying193
 a46:=Tryz.isAgg193
 z46:=Tryz.sizeOf193
 v46:=Tryz.zeroValue193
 t51:=Tryz.underlying223
 a51:=Tryz.isAgg223
 z51:=Tryz.sizeOf223
 v51:=Tryz.zeroValue223
 t53:=Tryz.underlying23
 a53:=Tryz.isAgg23
 z53:=Tryz.sizeOf23
 v53:=Tryz.zeroValue23
 t171:=Tryz.underlying207
 a171:=Tryz.isAgg207
 z171:=Tryz.sizeOf207
 v171:=Tryz.zeroValue207
 t173:=Tryz.underlying209
 a173:=Tryz.isAgg209
 z173:=Tryz.sizeOf209
 v173:=Tryz.zeroValue209
 t212:=Tryz.underlying222
 a212:=Tryz.isAgg222
 z212:=Tryz.sizeOf222
 v212:=Tryz.zeroValue222
 t213:=Tryz.underlying224
 a213:=Tryz.isAgg224
 z213:=Tryz.sizeOf224
 t232:=Tryz.underlying231
 a232:=Tryz.isAgg231
 z232:=Tryz.sizeOf231
 v232:=Tryz.zeroValue231
 t233:=Tryz.underlying205
 a233:=Tryz.isAgg205
 z233:=Tryz.sizeOf205
 v233:=Tryz.zeroValue205
 g17:=by kernel_rfl
 g18:=by kernel_rfl
 g19:=by kernel_rfl
 i0:=by kernel_rfl
 i2:=by kernel_rfl
 i3:=by kernel_rfl
 i4:=by kernel_rfl
 i5:=by kernel_rfl
 i9:=by kernel_rfl
 i20:=by kernel_rfl
 i37:=by kernel_rfl
 i46:=by kernel_rfl
 i51:=by kernel_rfl
 i53:=by kernel_rfl
 i171:=by kernel_rfl
 i173:=by kernel_rfl
 i212:=by kernel_rfl
 i232:=by kernel_rfl
 i233:=by kernel_rfl
 m17:=by kernel_rfl
 m18:=by kernel_rfl
 m19:=by kernel_rfl }
open Go.RowKit Go.Sort Go.Lib in
theorem Tryz.strconv_Itoa (n : Int) (h0 : -9223372036854775808 ≤ n) (h1 : n ≤ 9223372036854775807) (w : World) (htab : Lib.TabIs Tryz.prog w "internal/strconv.uint64pow10" .u64 Lib.pow10Tab) :
   Calls Tryz.prog 114 #[.int .i64 n] w fun e w'=>e=.returned (.string ⟨(Lib.itoa n).toArray⟩)∧∃ k os,w'=grow (w.drewN k) os:=Any.strconv_Itoa Tryz.laysM171 n h0 h1 w htab
end Go.Proofs
namespace Go.Proofs.YtnfdknhhkdphhaaGreatDoor
open Go.RowKit
theorem Tryz.infoByteB:(Tryz.prog.info? 5).map (fun i=>(i.zero,i.size,i.bytes))=some (some (.int .u8 0),1,1):=by kernel_rfl
theorem Tryz.sizeBl:(Tryz.prog.info? 75).map (·.size)=some 2:=by kernel_rfl
def Bl (B b:Nat) (l:List UInt8) (w:World):Prop:=Lib.IsBuilderF 75 5 B b (Lib.byteCells l) w
def BlTo (B b:Nat) (w w':World):Prop:=Below B w w'∧Lib.OthersKept 5 (some b) w w'
theorem BlTo.trans {B b:Nat} {w w1 w2:World} (h:BlTo B b w w1) (k:BlTo B b w1 w2):BlTo B b w w2:=⟨h.1.trans k.1,h.2.trans k.2⟩
theorem blcheck_used (b:Nat) (w:World) (h0:w.cell? ⟨b,0,none⟩=some (.pointer (some ⟨b,0,none⟩))) :
   Calls Tryz.prog 113 #[.pointer (some ⟨b,0,none⟩)] w fun e w'=>e=.returned (.tuple #[])∧w'=w:=by
 obtain ⟨j,hj,_⟩:=Option.map_eq_some_iff.1 Tryz.sizeBl
 go_enter Tryz.func113,Tryz.ntmps113
 go_wp2
 rw [Lib.run_neq_ptr_same w _ Tryz.underlying72 hj]
 go_wp2
 go_end0
 exact ⟨rfl,rfl⟩
theorem blcheck_fresh (b:Nat) (w:World) (h0:w.cell? ⟨b,0,none⟩=some (.pointer none)) (hsh:w.shape? b=some (75,2)) (hfz:w.frozen? ⟨b,0,none⟩=false) :
   Calls Tryz.prog 113 #[.pointer (some ⟨b,0,none⟩)] w fun e w'=>e=.returned (.tuple #[])∧w'=w.setCell ⟨b,0,none⟩ (.pointer (some ⟨b,0,none⟩)):=by
 obtain ⟨j,hj,hjs⟩:=Option.map_eq_some_iff.1 Tryz.sizeBl
 go_enter Tryz.func113,Tryz.ntmps113
 go_wp2
 rw [Lib.run_to_unsafe w ⟨b,0,none⟩ Tryz.underlying72 Tryz.underlying101 hj (by rw [hjs];decide) hsh (Nat.zero_lt_succ 1)]
 simp only [Result.andThen]
 rw [Oper.upon_value]
 go_wp2
 rw [run_callFunc_extern Tryz.func148 (by kernel_rfl) (by kernel_rfl) (by kernel_rfl) (e:=Extern.AbiNoEscape.same) (by kernel_rfl)]
 rw [Lib.run_noEscape]
 simp only [Result.andThen]
 rw [Oper.upon_value]
 go_wp2
 rw [Lib.run_from_unsafe w ⟨b,0,none⟩ Tryz.underlying101 Tryz.underlying72 hj hsh (by kernel_rfl)]
 simp only [Result.andThen]
 rw [Oper.upon_value]
 go_wp2
 go_end0
 exact ⟨rfl,rfl⟩
theorem blcheck_any (B b:Nat) (bs:List Value) (w:World) (h:Lib.IsBuilderF 75 5 B b bs w) :
   Calls Tryz.prog 113 #[.pointer (some ⟨b,0,none⟩)] w fun e w'=>e=.returned (.tuple #[])∧Lib.BuilderAtF 75 5 B b (.pointer (some ⟨b,0,none⟩)) bs w'∧Below B w w'∧Lib.OthersKept 5 (some b) w w':=by
 rcases h with h | h
 · refine (blcheck_fresh b w h.cell0 h.shape h.frozen0).mono ?_
   rintro e w' ⟨rfl,rfl⟩
   exact ⟨rfl,h.used _,(Below.refl B w).setCell (p:=⟨b,0,none⟩) h.1 _,(Lib.OthersKept.refl _ _ w).setCell ⟨b,0,none⟩ rfl _⟩
 · refine (blcheck_used b w h.cell0).mono ?_
   rintro e w' ⟨rfl,rfl⟩
   exact ⟨rfl,h,Below.refl B _,Lib.OthersKept.refl _ _ _⟩
theorem blbyte_any (B b:Nat) (l:List UInt8) (c:Nat) (hc:c < 256) (w:World) (h:Bl B b l w) (hlen:l.length+1 ≤ 140737488355328) (hB0:B ≤ w.heap.size) :
   Calls Tryz.prog 76 #[.pointer (some ⟨b,0,none⟩),.int .u8 (c:Int)] w fun e w'=>e=.returned .nilIface∧Bl B b (l ++ [UInt8.ofNat c]) w'∧BlTo B b w w':=by
 obtain ⟨ie,hi,hz0,hz1,hz2⟩:=info_parts Tryz.infoByteB
 have hcb:Lib.byteCells (l ++ [UInt8.ofNat c])=Lib.byteCells l ++ [.int .u8 (c:Int)]:=by
   rw [Lib.byteCells_append]
   have:(UInt8.ofNat c).toNat=c:=by rw [UInt8.toNat_ofNat'];omega
   simp [Lib.byteCells,this]
 have hll:(Lib.byteCells l).length=l.length:=by simp [Lib.byteCells]
 have HCB:=Lib.hid hcb
 unfold Bl at h
 generalize Lib.byteCells l=bs at *
 go_enter Tryz.func76,Tryz.ntmps76
 go_wp2_with fail
 refine (blcheck_any B b bs _ h).mono ?_
 rintro e w1 ⟨rfl,h1,hb1,hk1⟩
 obtain ⟨hB,v,hbk,hown,hne⟩:=h1
 have c0:w1.cell? ⟨b,0,none⟩=some (.pointer (some ⟨b,0,none⟩)):=by rw [Lib.cell_of_heap hbk];rfl
 have c1:w1.cell? ⟨b,1,none⟩=some v:=by rw [Lib.cell_of_heap hbk];rfl
 go_wp2_with (first
   | (refine wpList_append_ownF _ rfl _ _ 73 rfl B 5 ie (.int .u8 0) 1 1 Tryz.underlying73 hi hz0 hz1 hz2 rfl (by decide) _ _ _ rfl (hown.alloc _) ⟨w1.heap.size,0,none⟩ 1 1 [.int .u8 (c:Int)] rfl rfl ?c1 ?c2 ?c3 ?c4 ?c5 ?_)
   | fail)
 case c1 =>
   intro j u hj
   match j,hj with
   | 0,hj=>simp at hj;subst hj;simp [Addr.add]
 case c2=>intro u hu;simp at hu;subst hu;rfl
 case c3=>unfold maxLen;omega
 case c4=>omega
 case c5=>have:=hb1.size;simp;omega
 intro v' w2 hown' hgrow _
 have hlt:b < w1.heap.size:=by
   rcases Nat.lt_or_ge b w1.heap.size with h' | h'
   · exact h'
   · simp [Array.getElem?_eq_none h'] at hbk
 have hb2:w2.heap[b]? = some (.cells #[.pointer (some ⟨b,0,none⟩),v] 75 (0,0)):=by
   rw [hgrow.block b (by simp;omega) (fun e=>hne e.symm),Below.heap_alloc w1 _ b hlt]
   exact hbk
 have d0:w2.cell? ⟨b,0,none⟩=some (.pointer (some ⟨b,0,none⟩)):=by rw [Lib.cell_of_heap hb2];rfl
 have d1:w2.cell? ⟨b,1,none⟩=some v:=by rw [Lib.cell_of_heap hb2];rfl
 have f1:w2.frozen? ⟨b,1,none⟩=false:=Lib.frozen_of_heap hb2 1
 obtain ⟨ao,n',cap,rfl⟩:∃ ao n' cap,v'=.slice ao n' cap:=by
   rcases hown'.2 with ⟨hv,_⟩ | ⟨g,cap,cur,fz,hv,_⟩
   · exact ⟨_,_,_,hv⟩
   · exact ⟨_,_,_,hv⟩
 go_wp2
 go_ret
 refine ⟨rfl, ?_, ?_,((hk1.alloc _).grown hgrow (Lib.ownsRowF_kind (hown.alloc _))).setCell ⟨b,1,none⟩ rfl _⟩
 · refine .inr ?_
   rw [HCB.out]
   exact Lib.BuilderAtF.put (T:=75) (e:=5) hB hb2 (bs':=bs ++ [.int .u8 (c:Int)]) (by rw [List.length_append,hll];simpa using hown') (by decide)
 · exact ((hb1.alloc (by have:=hb1.size;omega) _).grown hgrow (by have:=hb1.size;simp;omega) (fun k hk=>(hown.lt k hk).1)).setCell (p:=⟨b,1,none⟩) hB _
theorem blstr_any (B b:Nat) (l:List UInt8) (s:ByteArray) (w:World) (h:Bl B b l w) (hlen:l.length+s.size ≤ 140737488355328) (hB0:B ≤ w.heap.size) :
   Calls Tryz.prog 78 #[.pointer (some ⟨b,0,none⟩),.string s] w fun e w'=>e=.returned (.tuple #[.int .i64 s.size,.nilIface])∧Bl B b (l ++ s.data.toList) w'∧BlTo B b w w':=by
 obtain ⟨ie,hi,hz0,hz1,hz2⟩:=info_parts Tryz.infoByteB
 have hcb:Lib.byteCells (l ++ s.data.toList)=Lib.byteCells l ++ Lib.strCells s:=by rw [Lib.byteCells_append,Lib.strCells_eq]
 have hll:(Lib.byteCells l).length=l.length:=by simp [Lib.byteCells]
 have HCB:=Lib.hid hcb
 unfold Bl at h
 generalize Lib.byteCells l=bs at *
 go_enter Tryz.func78,Tryz.ntmps78
 go_wp2_with fail
 refine (blcheck_any B b bs _ h).mono ?_
 rintro e w1 ⟨rfl,h1,hb1,hk1⟩
 obtain ⟨hB,v,hbk,hown,hne⟩:=h1
 have c0:w1.cell? ⟨b,0,none⟩=some (.pointer (some ⟨b,0,none⟩)):=by rw [Lib.cell_of_heap hbk];rfl
 have c1:w1.cell? ⟨b,1,none⟩=some v:=by rw [Lib.cell_of_heap hbk];rfl
 go_wp2_with (first
   | (refine Lib.wpList_append_own_stringF _ rfl _ _ 73 9 rfl B 5 ie Tryz.underlying73 Tryz.underlying9 hi hz0 hz1 hz2 _ _ _ rfl hown s rfl ?c3 ?c4 ?c5 ?_)
   | fail)
 case c3=>unfold maxLen;omega
 case c4=>omega
 case c5=>have:=hb1.size;omega
 intro v' w2 hown' hgrow _
 have hlt:b < w1.heap.size:=by
   rcases Nat.lt_or_ge b w1.heap.size with h' | h'
   · exact h'
   · simp [Array.getElem?_eq_none h'] at hbk
 have hb2:w2.heap[b]? = some (.cells #[.pointer (some ⟨b,0,none⟩),v] 75 (0,0)):=by
   rw [hgrow.block b hlt (fun e=>hne e.symm)]
   exact hbk
 have d0:w2.cell? ⟨b,0,none⟩=some (.pointer (some ⟨b,0,none⟩)):=by rw [Lib.cell_of_heap hb2];rfl
 have d1:w2.cell? ⟨b,1,none⟩=some v:=by rw [Lib.cell_of_heap hb2];rfl
 have f1:w2.frozen? ⟨b,1,none⟩=false:=Lib.frozen_of_heap hb2 1
 obtain ⟨ao,n',cap,rfl⟩:∃ ao n' cap,v'=.slice ao n' cap:=by
   rcases hown'.2 with ⟨hv,_⟩ | ⟨g,cap,cur,fz,hv,_⟩
   · exact ⟨_,_,_,hv⟩
   · exact ⟨_,_,_,hv⟩
 go_wp2
 go_ret2
 refine ⟨rfl, ?_, ?_,(hk1.grown hgrow (Lib.ownsRowF_kind hown)).setCell ⟨b,1,none⟩ rfl _⟩
 · refine .inr ?_
   rw [HCB.out]
   exact Lib.BuilderAtF.put (T:=75) (e:=5) hB hb2 (bs':=bs ++ Lib.strCells s) (by rw [List.length_append,hll];simpa [Lib.strCells_length] using hown') (by decide)
 · exact (hb1.grown hgrow (by have:=hb1.size;omega) (fun k hk=>(hown.lt k hk).1)).setCell (p:=⟨b,1,none⟩) hB _
end Go.Proofs.YtnfdknhhkdphhaaGreatDoor
namespace Go.Proofs.YtnfdknhhkdphhaaGreatDoor
open Go.RowKit
namespace Sp
def mkX (c:Nat):Bool:=c == 46 || c == 91 || c == 40 || c == 41 || c == 42 || c == 43 || c == 63 || c == 123 || c == 124 || c == 94 || c == 36 || c == 92
def mkB (c:Nat):Bool:=c == 46 || c == 91 || c == 42 || c == 94 || c == 36 || c == 92
def mk (x:Bool) (c:Nat):Bool:=if x then mkX c else mkB c
def qb (x:Bool) (c:UInt8):List UInt8:=if mk x c.toNat then [92,c] else [c]
def quote (x:Bool) (l:List UInt8):List UInt8:=l.flatMap (qb x)
def marksX:ByteArray:=⟨#[46,91,40,41,42,43,63,123,124,94,36,92]⟩
def marksB:ByteArray:=⟨#[46,91,42,94,36,92]⟩
def marks (x:Bool):ByteArray:=if x then marksX else marksB
theorem marks_is:∀ (x:Bool) (c:Nat),c < 256→decide ((0:Int) ≤ Lib.indexByte (marks x).data.toList ((c:Int).toNat.toUInt8))=mk x c:=by
 intro x
 cases x <;> decide
theorem qb_len (x:Bool) (c:UInt8):(qb x c).length ≤ 2:=by unfold qb;split <;> simp
theorem quote_len (x:Bool):∀ l:List UInt8,(quote x l).length ≤ 2 * l.length
 | []=>by simp [quote]
 | c :: l=>by
   have:=quote_len x l
   have:=qb_len x c
   simp only [quote,List.flatMap_cons,List.length_append,List.length_cons] at *
   omega
theorem quote_take (x:Bool) (s:ByteArray) (i:Nat):(quote x (s.data.toList.take i)).length ≤ 2 * s.size:=by
 have:=quote_len x (s.data.toList.take i)
 have h2:(s.data.toList.take i).length ≤ s.data.toList.length:=by rw [List.length_take];omega
 have h3:s.data.toList.length=s.size:=by simp
 omega
theorem quote_snoc (x:Bool) (l:List UInt8) (c:UInt8):quote x (l ++ [c])=quote x l ++ qb x c:=by simp [quote]
end Sp
theorem spbyte_any (B b:Nat) (l:List UInt8) (c:UInt8) (x:Bool) (w:World) (h:Bl B b l w) (hlen:l.length+2 ≤ 140737488355328) (hB0:B ≤ w.heap.size) :
   Calls Tryz.prog 69 #[.pointer (some ⟨b,0,none⟩),.int .u8 (c.toNat:Int),.string (Sp.marks x)] w fun e w'=>e=.returned (.tuple #[])∧Bl B b (l ++ Sp.qb x c) w'∧BlTo B b w w':=by
 have hm:=Sp.marks_is x c.toNat c.toNat_lt
 have HI:=Lib.hid Tryz.strings_IndexByte
 have HB:=Lib.hid blbyte_any
 have hq:Sp.qb x c=if Sp.mk x c.toNat then [92,c] else [c]:=rfl
 cases hx:Sp.mk x c.toNat with
 | true =>
   rw [hx] at hm hq
   have HQ:=Lib.hid hq;have HBL:=Lib.hid h
   clear hq h hx
   generalize Sp.marks x=m at *
   generalize he:Lib.indexByte m.data.toList ((c.toNat:Int)).toNat.toUInt8=p at *
   go_enter Tryz.func69,Tryz.ntmps69
   go_wp2_with fail
   refine (HI.out m _ _).mono ?_;rintro e w' ⟨rfl,rfl⟩
   rw [he]
   go_wp2_with fail
   refine (HB.out B b l 92 (by omega) _ HBL.out (by omega) hB0).mono ?_;rintro e w1 ⟨rfl,h1,t1⟩
   have hB1:B ≤ w1.heap.size:=Nat.le_trans hB0 t1.1.size
   have H1:=Lib.hid h1;have T1:=Lib.hid t1
   clear h1 t1
   go_wp2_with fail
   refine (HB.out B b _ c.toNat c.toNat_lt _ H1.out (by simp;omega) hB1).mono ?_;rintro e w2 ⟨rfl,h2,t2⟩
   have H2:=Lib.hid h2;have T2:=Lib.hid (T1.out.trans t2)
   clear h2 t2
   go_wp2
   go_end0
   refine ⟨rfl, ?_,T2.out⟩
   rw [HQ.out]
   have:=H2.out
   rw [List.append_assoc] at this
   simpa using this
 | false =>
   rw [hx] at hm hq
   have HQ:=Lib.hid hq;have HBL:=Lib.hid h
   clear hq h hx
   generalize Sp.marks x=m at *
   generalize he:Lib.indexByte m.data.toList ((c.toNat:Int)).toNat.toUInt8=p at *
   go_enter Tryz.func69,Tryz.ntmps69
   go_wp2_with fail
   refine (HI.out m _ _).mono ?_;rintro e w' ⟨rfl,rfl⟩
   rw [he]
   go_wp2_with fail
   refine (HB.out B b l c.toNat c.toNat_lt _ HBL.out (by omega) hB0).mono ?_;rintro e w1 ⟨rfl,h1,t1⟩
   have H2:=Lib.hid h1;have T2:=Lib.hid t1
   clear h1 t1
   go_wp2
   go_end0
   refine ⟨rfl, ?_,T2.out⟩
   rw [HQ.out]
   simpa using H2.out
theorem Bl.new (w:World):Bl w.heap.size w.heap.size [] (w.alloc (.cells #[.pointer none,.slice none 0 0] 75)) :=
 .inl ⟨Nat.le_refl _,.slice none 0 0,heap_alloc_new w _,World.ownsRowF_of (World.ownsRow_nil _ _ _ _),by simp [Value.ownBlock]⟩
theorem bl_below {B b:Nat} {w w':World} (h:BlTo B b w w'):B ≤ w.heap.size→B ≤ w'.heap.size:=fun h2=>Nat.le_trans h2 h.1.size
theorem quote_step (x:Bool) (s:ByteArray) (i:Nat) (h:i < s.size):Sp.quote x (s.data.toList.take i) ++ Sp.qb x s[i]=Sp.quote x (s.data.toList.take (i+1)):=by
 have h':i < s.data.toList.length:=by simpa using h
 rw [List.take_succ_eq_append_getElem h',Sp.quote_snoc]
 rfl
theorem ba_mk {x:ByteArray} {l:List UInt8} (h:x.data.toList=l):x=⟨l.toArray⟩:=by
 cases x;simp at h;subst h;simp
theorem ref_one (s:ByteArray) (i:Nat) (h:i < s.size):(s.extract i (i+1)).data.toList=[s[i]]:=by
 have h':i < s.data.toList.length:=by simpa using h
 have:(s.extract i (i+1)).data.toList=(s.data.toList.drop i).take 1:=by
   simp [ByteArray.data_extract,List.take_drop]
 rw [this,List.drop_eq_getElem_cons h']
 rfl
theorem ref_step1 (q:List UInt8) (s:ByteArray) (i:Nat) (h:i < s.size):(⟨q.toArray⟩ ++ s.extract i (i+1):ByteArray)=⟨(q ++ [s[i]]).toArray⟩:=by
 refine ba_mk ?_
 rw [ByteArray.data_append,Array.toList_append,ref_one s i h]
theorem ref_step2 (q:List UInt8) (s:ByteArray) (i:Nat) (h:i < s.size):(⟨q.toArray⟩ ++ ⟨#[92]⟩ ++ s.extract i (i+1):ByteArray)=⟨(q ++ [92,s[i]]).toArray⟩:=by
 refine ba_mk ?_
 rw [ByteArray.data_append,Array.toList_append,ref_one s i h,ByteArray.data_append,Array.toList_append]
 simp
theorem quote_any (s:ByteArray) (fl:Int) (x:Bool) (hs:s.size ≤ 4294967296) (hx:(bits .and .i64 fl 1 != 0)=x) (w:World) :
   Calls Tryz.prog 32 #[.string s,.int .i64 fl] w fun e w'=>e=.returned (.string ⟨(Sp.quote x s.data.toList).toArray⟩)∧Below w.heap.size w w':=by
 have HB:=Lib.hid spbyte_any
 have h0:Below w.heap.size w (w.alloc (.cells #[.pointer none,.slice none 0 0] 75)):=(Below.refl _ _).alloc (Nat.le_refl _) _
 have HS0:=Lib.hid h0;have HN0:=Lib.hid (Bl.new w)
 clear h0
 cases x with
 | true =>
   go_enter Tryz.func32,Tryz.ntmps32
   go_wp2
   generalize World.alloc w _=w1 at *
   go_loopw [13] (fun iv wr=>∃ i:Nat,iv=.int .i64 (i:Int)∧i ≤ s.size∧Hid (Bl w.heap.size w.heap.size (Sp.quote true (s.data.toList.take i)) wr)∧Hid (Below w.heap.size w wr)∧w.heap.size ≤ wr.heap.size) (fun iv _=>s.size - (intOf iv).toNat)
   case atStart=>exact ⟨0,rfl,Nat.zero_le _,HN0,HS0,HS0.out.size⟩
   case round =>
     obtain ⟨i,rfl,hi,HBL,HBE,hsz⟩:=hrel
     by_cases hlt:i < s.size
     · have hd:decide ((i:Int) < s.size)=true:=by simp;omega
       have hd':decide (i < s.size)=true:=by simpa using hlt
       have wi:IntKind.i64.wrap ((i:Int)+1)=(i:Int)+1:=IntWalk.i64_in _ (by omega)
       have hql:=Sp.quote_take true s i
       have hst:=quote_step true s i hlt
       have hb:=HB.out w.heap.size w.heap.size _ s[i] true wr HBL.out (by omega) hsz
       rw [hst] at hb
       have Htrue:=Lib.hid hb
       clear hst hb hql HBL
       go_wp2_with fail
       refine Htrue.out.mono ?_;rintro e w2 ⟨rfl,h2,t2⟩
       have H2:=Lib.hid h2;have HE2:=Lib.hid (HBE.out.trans t2.1)
       have hs2:=bl_below t2 hsz
       clear h2 t2 Htrue HBE
       go_wp2
       refine ⟨⟨i+1,rfl,by omega,H2,HE2,hs2⟩, ?_⟩
       simp [intOf];omega
     · have hd:decide ((i:Int) < s.size)=false:=by simp;omega
       have hd':decide (i < s.size)=false:=by simpa using hlt
       have hall:s.data.toList.take i=s.data.toList:=List.take_of_length_le (by simp;omega)
       rw [hall] at HBL
       have HST:=Lib.hid (Tryz.Builder_String_any_k w.heap.size w.heap.size (Sp.quote true s.data.toList) wr HBL.out hsz)
       clear hall HBL
       go_wp2_with fail
       refine HST.out.mono ?_;rintro e w2 ⟨rfl,-,hb2,-⟩
       have HE2:=Lib.hid (HBE.out.trans hb2)
       clear hb2 HST
       go_wp2
       go_ret
       exact ⟨rfl,HE2.out⟩
 | false =>
   go_enter Tryz.func32,Tryz.ntmps32
   go_wp2
   generalize World.alloc w _=w1 at *
   go_loopw [13] (fun iv wr=>∃ i:Nat,iv=.int .i64 (i:Int)∧i ≤ s.size∧Hid (Bl w.heap.size w.heap.size (Sp.quote false (s.data.toList.take i)) wr)∧Hid (Below w.heap.size w wr)∧w.heap.size ≤ wr.heap.size) (fun iv _=>s.size - (intOf iv).toNat)
   case atStart=>exact ⟨0,rfl,Nat.zero_le _,HN0,HS0,HS0.out.size⟩
   case round =>
     obtain ⟨i,rfl,hi,HBL,HBE,hsz⟩:=hrel
     by_cases hlt:i < s.size
     · have hd:decide ((i:Int) < s.size)=true:=by simp;omega
       have hd':decide (i < s.size)=true:=by simpa using hlt
       have wi:IntKind.i64.wrap ((i:Int)+1)=(i:Int)+1:=IntWalk.i64_in _ (by omega)
       have hql:=Sp.quote_take false s i
       have hst:=quote_step false s i hlt
       have hb:=HB.out w.heap.size w.heap.size _ s[i] false wr HBL.out (by omega) hsz
       rw [hst] at hb
       have Hfalse:=Lib.hid hb
       clear hst hb hql HBL
       go_wp2_with fail
       refine Hfalse.out.mono ?_;rintro e w2 ⟨rfl,h2,t2⟩
       have H2:=Lib.hid h2;have HE2:=Lib.hid (HBE.out.trans t2.1)
       have hs2:=bl_below t2 hsz
       clear h2 t2 Hfalse HBE
       go_wp2
       refine ⟨⟨i+1,rfl,by omega,H2,HE2,hs2⟩, ?_⟩
       simp [intOf];omega
     · have hd:decide ((i:Int) < s.size)=false:=by simp;omega
       have hd':decide (i < s.size)=false:=by simpa using hlt
       have hall:s.data.toList.take i=s.data.toList:=List.take_of_length_le (by simp;omega)
       rw [hall] at HBL
       have HST:=Lib.hid (Tryz.Builder_String_any_k w.heap.size w.heap.size (Sp.quote false s.data.toList) wr HBL.out hsz)
       clear hall HBL
       go_wp2_with fail
       refine HST.out.mono ?_;rintro e w2 ⟨rfl,-,hb2,-⟩
       have HE2:=Lib.hid (HBE.out.trans hb2)
       clear hb2 HST
       go_wp2
       go_ret
       exact ⟨rfl,HE2.out⟩
theorem refquote_any (s:ByteArray) (x:Bool) (hs:s.size ≤ 3000) (w:World) :
   Calls Tryz.prog 118 #[.string s,.bool x] w fun e w'=>e=.returned (.string ⟨(Sp.quote x s.data.toList).toArray⟩)∧w'=w:=by
 cases x with
 | true =>
   go_enter Tryz.func118,Tryz.ntmps118
   go_wp2
   go_loopw [5,6] (fun ov iv wr=>∃ i:Nat,iv=.int .i64 (i:Int)∧i ≤ s.size∧ov=.string ⟨(Sp.quote true (s.data.toList.take i)).toArray⟩∧w=wr) (fun _ iv _=>s.size - (intOf iv).toNat)
   case atStart=>exact ⟨0,rfl,Nat.zero_le _,rfl,rfl⟩
   case round =>
     obtain ⟨i,rfl,hi,rfl,rfl⟩:=hrel
     by_cases hlt:i < s.size
     · have hd:decide ((i:Int) < s.size)=true:=by simp;omega
       have hd':decide (i < s.size)=true:=by simpa using hlt
       have wi:IntKind.i64.wrap ((i:Int)+1)=(i:Int)+1:=IntWalk.i64_in _ (by omega)
       have hql:=Sp.quote_take true s i
       have hst:=quote_step true s i hlt
       have HST:=Lib.hid hst
       clear hst
       have hk:s[i].toNat=46 ∨ s[i].toNat=91 ∨ s[i].toNat=42 ∨ s[i].toNat=94 ∨ s[i].toNat=36 ∨ s[i].toNat=92 ∨ s[i].toNat=40 ∨ s[i].toNat=41 ∨ s[i].toNat=43 ∨ s[i].toNat=63 ∨ s[i].toNat=123 ∨ s[i].toNat=124 ∨ (s[i].toNat ≠ 46∧s[i].toNat ≠ 91∧s[i].toNat ≠ 42∧s[i].toNat ≠ 94∧s[i].toNat ≠ 36∧s[i].toNat ≠ 92∧s[i].toNat ≠ 40∧s[i].toNat ≠ 41∧s[i].toNat ≠ 43∧s[i].toNat ≠ 63∧s[i].toNat ≠ 123∧s[i].toNat ≠ 124):=by omega
       rcases hk with hv | hv | hv | hv | hv | hv | hv | hv | hv | hv | hv | hv | hv
       · have hq:Sp.qb true s[i]=[92,s[i]]:=by unfold Sp.qb Sp.mk Sp.mkX Sp.mkB;rw [hv];rfl
         have HQ:=Lib.hid hq
         clear hq
         have b46:((s[i].toNat:Int) == 46)=true:=by rw [hv];rfl
         have a46:(s[i].toNat == 46)=true:=by rw [hv];rfl
         have b91:((s[i].toNat:Int) == 91)=false:=by rw [hv];rfl
         have a91:(s[i].toNat == 91)=false:=by rw [hv];rfl
         have b42:((s[i].toNat:Int) == 42)=false:=by rw [hv];rfl
         have a42:(s[i].toNat == 42)=false:=by rw [hv];rfl
         have b94:((s[i].toNat:Int) == 94)=false:=by rw [hv];rfl
         have a94:(s[i].toNat == 94)=false:=by rw [hv];rfl
         have b36:((s[i].toNat:Int) == 36)=false:=by rw [hv];rfl
         have a36:(s[i].toNat == 36)=false:=by rw [hv];rfl
         have b92:((s[i].toNat:Int) == 92)=false:=by rw [hv];rfl
         have a92:(s[i].toNat == 92)=false:=by rw [hv];rfl
         have b40:((s[i].toNat:Int) == 40)=false:=by rw [hv];rfl
         have a40:(s[i].toNat == 40)=false:=by rw [hv];rfl
         have b41:((s[i].toNat:Int) == 41)=false:=by rw [hv];rfl
         have a41:(s[i].toNat == 41)=false:=by rw [hv];rfl
         have b43:((s[i].toNat:Int) == 43)=false:=by rw [hv];rfl
         have a43:(s[i].toNat == 43)=false:=by rw [hv];rfl
         have b63:((s[i].toNat:Int) == 63)=false:=by rw [hv];rfl
         have a63:(s[i].toNat == 63)=false:=by rw [hv];rfl
         have b123:((s[i].toNat:Int) == 123)=false:=by rw [hv];rfl
         have a123:(s[i].toNat == 123)=false:=by rw [hv];rfl
         have b124:((s[i].toNat:Int) == 124)=false:=by rw [hv];rfl
         have a124:(s[i].toNat == 124)=false:=by rw [hv];rfl
         clear hv
         go_wp2
         refine ⟨⟨i+1,rfl,by omega,(by rw [ref_step2 _ s i hlt,← HST.out,HQ.out]),trivial⟩, ?_⟩
         simp [intOf];omega
       · have hq:Sp.qb true s[i]=[92,s[i]]:=by unfold Sp.qb Sp.mk Sp.mkX Sp.mkB;rw [hv];rfl
         have HQ:=Lib.hid hq
         clear hq
         have b46:((s[i].toNat:Int) == 46)=false:=by rw [hv];rfl
         have a46:(s[i].toNat == 46)=false:=by rw [hv];rfl
         have b91:((s[i].toNat:Int) == 91)=true:=by rw [hv];rfl
         have a91:(s[i].toNat == 91)=true:=by rw [hv];rfl
         have b42:((s[i].toNat:Int) == 42)=false:=by rw [hv];rfl
         have a42:(s[i].toNat == 42)=false:=by rw [hv];rfl
         have b94:((s[i].toNat:Int) == 94)=false:=by rw [hv];rfl
         have a94:(s[i].toNat == 94)=false:=by rw [hv];rfl
         have b36:((s[i].toNat:Int) == 36)=false:=by rw [hv];rfl
         have a36:(s[i].toNat == 36)=false:=by rw [hv];rfl
         have b92:((s[i].toNat:Int) == 92)=false:=by rw [hv];rfl
         have a92:(s[i].toNat == 92)=false:=by rw [hv];rfl
         have b40:((s[i].toNat:Int) == 40)=false:=by rw [hv];rfl
         have a40:(s[i].toNat == 40)=false:=by rw [hv];rfl
         have b41:((s[i].toNat:Int) == 41)=false:=by rw [hv];rfl
         have a41:(s[i].toNat == 41)=false:=by rw [hv];rfl
         have b43:((s[i].toNat:Int) == 43)=false:=by rw [hv];rfl
         have a43:(s[i].toNat == 43)=false:=by rw [hv];rfl
         have b63:((s[i].toNat:Int) == 63)=false:=by rw [hv];rfl
         have a63:(s[i].toNat == 63)=false:=by rw [hv];rfl
         have b123:((s[i].toNat:Int) == 123)=false:=by rw [hv];rfl
         have a123:(s[i].toNat == 123)=false:=by rw [hv];rfl
         have b124:((s[i].toNat:Int) == 124)=false:=by rw [hv];rfl
         have a124:(s[i].toNat == 124)=false:=by rw [hv];rfl
         clear hv
         go_wp2
         refine ⟨⟨i+1,rfl,by omega,(by rw [ref_step2 _ s i hlt,← HST.out,HQ.out]),trivial⟩, ?_⟩
         simp [intOf];omega
       · have hq:Sp.qb true s[i]=[92,s[i]]:=by unfold Sp.qb Sp.mk Sp.mkX Sp.mkB;rw [hv];rfl
         have HQ:=Lib.hid hq
         clear hq
         have b46:((s[i].toNat:Int) == 46)=false:=by rw [hv];rfl
         have a46:(s[i].toNat == 46)=false:=by rw [hv];rfl
         have b91:((s[i].toNat:Int) == 91)=false:=by rw [hv];rfl
         have a91:(s[i].toNat == 91)=false:=by rw [hv];rfl
         have b42:((s[i].toNat:Int) == 42)=true:=by rw [hv];rfl
         have a42:(s[i].toNat == 42)=true:=by rw [hv];rfl
         have b94:((s[i].toNat:Int) == 94)=false:=by rw [hv];rfl
         have a94:(s[i].toNat == 94)=false:=by rw [hv];rfl
         have b36:((s[i].toNat:Int) == 36)=false:=by rw [hv];rfl
         have a36:(s[i].toNat == 36)=false:=by rw [hv];rfl
         have b92:((s[i].toNat:Int) == 92)=false:=by rw [hv];rfl
         have a92:(s[i].toNat == 92)=false:=by rw [hv];rfl
         have b40:((s[i].toNat:Int) == 40)=false:=by rw [hv];rfl
         have a40:(s[i].toNat == 40)=false:=by rw [hv];rfl
         have b41:((s[i].toNat:Int) == 41)=false:=by rw [hv];rfl
         have a41:(s[i].toNat == 41)=false:=by rw [hv];rfl
         have b43:((s[i].toNat:Int) == 43)=false:=by rw [hv];rfl
         have a43:(s[i].toNat == 43)=false:=by rw [hv];rfl
         have b63:((s[i].toNat:Int) == 63)=false:=by rw [hv];rfl
         have a63:(s[i].toNat == 63)=false:=by rw [hv];rfl
         have b123:((s[i].toNat:Int) == 123)=false:=by rw [hv];rfl
         have a123:(s[i].toNat == 123)=false:=by rw [hv];rfl
         have b124:((s[i].toNat:Int) == 124)=false:=by rw [hv];rfl
         have a124:(s[i].toNat == 124)=false:=by rw [hv];rfl
         clear hv
         go_wp2
         refine ⟨⟨i+1,rfl,by omega,(by rw [ref_step2 _ s i hlt,← HST.out,HQ.out]),trivial⟩, ?_⟩
         simp [intOf];omega
       · have hq:Sp.qb true s[i]=[92,s[i]]:=by unfold Sp.qb Sp.mk Sp.mkX Sp.mkB;rw [hv];rfl
         have HQ:=Lib.hid hq
         clear hq
         have b46:((s[i].toNat:Int) == 46)=false:=by rw [hv];rfl
         have a46:(s[i].toNat == 46)=false:=by rw [hv];rfl
         have b91:((s[i].toNat:Int) == 91)=false:=by rw [hv];rfl
         have a91:(s[i].toNat == 91)=false:=by rw [hv];rfl
         have b42:((s[i].toNat:Int) == 42)=false:=by rw [hv];rfl
         have a42:(s[i].toNat == 42)=false:=by rw [hv];rfl
         have b94:((s[i].toNat:Int) == 94)=true:=by rw [hv];rfl
         have a94:(s[i].toNat == 94)=true:=by rw [hv];rfl
         have b36:((s[i].toNat:Int) == 36)=false:=by rw [hv];rfl
         have a36:(s[i].toNat == 36)=false:=by rw [hv];rfl
         have b92:((s[i].toNat:Int) == 92)=false:=by rw [hv];rfl
         have a92:(s[i].toNat == 92)=false:=by rw [hv];rfl
         have b40:((s[i].toNat:Int) == 40)=false:=by rw [hv];rfl
         have a40:(s[i].toNat == 40)=false:=by rw [hv];rfl
         have b41:((s[i].toNat:Int) == 41)=false:=by rw [hv];rfl
         have a41:(s[i].toNat == 41)=false:=by rw [hv];rfl
         have b43:((s[i].toNat:Int) == 43)=false:=by rw [hv];rfl
         have a43:(s[i].toNat == 43)=false:=by rw [hv];rfl
         have b63:((s[i].toNat:Int) == 63)=false:=by rw [hv];rfl
         have a63:(s[i].toNat == 63)=false:=by rw [hv];rfl
         have b123:((s[i].toNat:Int) == 123)=false:=by rw [hv];rfl
         have a123:(s[i].toNat == 123)=false:=by rw [hv];rfl
         have b124:((s[i].toNat:Int) == 124)=false:=by rw [hv];rfl
         have a124:(s[i].toNat == 124)=false:=by rw [hv];rfl
         clear hv
         go_wp2
         refine ⟨⟨i+1,rfl,by omega,(by rw [ref_step2 _ s i hlt,← HST.out,HQ.out]),trivial⟩, ?_⟩
         simp [intOf];omega
       · have hq:Sp.qb true s[i]=[92,s[i]]:=by unfold Sp.qb Sp.mk Sp.mkX Sp.mkB;rw [hv];rfl
         have HQ:=Lib.hid hq
         clear hq
         have b46:((s[i].toNat:Int) == 46)=false:=by rw [hv];rfl
         have a46:(s[i].toNat == 46)=false:=by rw [hv];rfl
         have b91:((s[i].toNat:Int) == 91)=false:=by rw [hv];rfl
         have a91:(s[i].toNat == 91)=false:=by rw [hv];rfl
         have b42:((s[i].toNat:Int) == 42)=false:=by rw [hv];rfl
         have a42:(s[i].toNat == 42)=false:=by rw [hv];rfl
         have b94:((s[i].toNat:Int) == 94)=false:=by rw [hv];rfl
         have a94:(s[i].toNat == 94)=false:=by rw [hv];rfl
         have b36:((s[i].toNat:Int) == 36)=true:=by rw [hv];rfl
         have a36:(s[i].toNat == 36)=true:=by rw [hv];rfl
         have b92:((s[i].toNat:Int) == 92)=false:=by rw [hv];rfl
         have a92:(s[i].toNat == 92)=false:=by rw [hv];rfl
         have b40:((s[i].toNat:Int) == 40)=false:=by rw [hv];rfl
         have a40:(s[i].toNat == 40)=false:=by rw [hv];rfl
         have b41:((s[i].toNat:Int) == 41)=false:=by rw [hv];rfl
         have a41:(s[i].toNat == 41)=false:=by rw [hv];rfl
         have b43:((s[i].toNat:Int) == 43)=false:=by rw [hv];rfl
         have a43:(s[i].toNat == 43)=false:=by rw [hv];rfl
         have b63:((s[i].toNat:Int) == 63)=false:=by rw [hv];rfl
         have a63:(s[i].toNat == 63)=false:=by rw [hv];rfl
         have b123:((s[i].toNat:Int) == 123)=false:=by rw [hv];rfl
         have a123:(s[i].toNat == 123)=false:=by rw [hv];rfl
         have b124:((s[i].toNat:Int) == 124)=false:=by rw [hv];rfl
         have a124:(s[i].toNat == 124)=false:=by rw [hv];rfl
         clear hv
         go_wp2
         refine ⟨⟨i+1,rfl,by omega,(by rw [ref_step2 _ s i hlt,← HST.out,HQ.out]),trivial⟩, ?_⟩
         simp [intOf];omega
       · have hq:Sp.qb true s[i]=[92,s[i]]:=by unfold Sp.qb Sp.mk Sp.mkX Sp.mkB;rw [hv];rfl
         have HQ:=Lib.hid hq
         clear hq
         have b46:((s[i].toNat:Int) == 46)=false:=by rw [hv];rfl
         have a46:(s[i].toNat == 46)=false:=by rw [hv];rfl
         have b91:((s[i].toNat:Int) == 91)=false:=by rw [hv];rfl
         have a91:(s[i].toNat == 91)=false:=by rw [hv];rfl
         have b42:((s[i].toNat:Int) == 42)=false:=by rw [hv];rfl
         have a42:(s[i].toNat == 42)=false:=by rw [hv];rfl
         have b94:((s[i].toNat:Int) == 94)=false:=by rw [hv];rfl
         have a94:(s[i].toNat == 94)=false:=by rw [hv];rfl
         have b36:((s[i].toNat:Int) == 36)=false:=by rw [hv];rfl
         have a36:(s[i].toNat == 36)=false:=by rw [hv];rfl
         have b92:((s[i].toNat:Int) == 92)=true:=by rw [hv];rfl
         have a92:(s[i].toNat == 92)=true:=by rw [hv];rfl
         have b40:((s[i].toNat:Int) == 40)=false:=by rw [hv];rfl
         have a40:(s[i].toNat == 40)=false:=by rw [hv];rfl
         have b41:((s[i].toNat:Int) == 41)=false:=by rw [hv];rfl
         have a41:(s[i].toNat == 41)=false:=by rw [hv];rfl
         have b43:((s[i].toNat:Int) == 43)=false:=by rw [hv];rfl
         have a43:(s[i].toNat == 43)=false:=by rw [hv];rfl
         have b63:((s[i].toNat:Int) == 63)=false:=by rw [hv];rfl
         have a63:(s[i].toNat == 63)=false:=by rw [hv];rfl
         have b123:((s[i].toNat:Int) == 123)=false:=by rw [hv];rfl
         have a123:(s[i].toNat == 123)=false:=by rw [hv];rfl
         have b124:((s[i].toNat:Int) == 124)=false:=by rw [hv];rfl
         have a124:(s[i].toNat == 124)=false:=by rw [hv];rfl
         clear hv
         go_wp2
         refine ⟨⟨i+1,rfl,by omega,(by rw [ref_step2 _ s i hlt,← HST.out,HQ.out]),trivial⟩, ?_⟩
         simp [intOf];omega
       · have hq:Sp.qb true s[i]=[92,s[i]]:=by unfold Sp.qb Sp.mk Sp.mkX Sp.mkB;rw [hv];rfl
         have HQ:=Lib.hid hq
         clear hq
         have b46:((s[i].toNat:Int) == 46)=false:=by rw [hv];rfl
         have a46:(s[i].toNat == 46)=false:=by rw [hv];rfl
         have b91:((s[i].toNat:Int) == 91)=false:=by rw [hv];rfl
         have a91:(s[i].toNat == 91)=false:=by rw [hv];rfl
         have b42:((s[i].toNat:Int) == 42)=false:=by rw [hv];rfl
         have a42:(s[i].toNat == 42)=false:=by rw [hv];rfl
         have b94:((s[i].toNat:Int) == 94)=false:=by rw [hv];rfl
         have a94:(s[i].toNat == 94)=false:=by rw [hv];rfl
         have b36:((s[i].toNat:Int) == 36)=false:=by rw [hv];rfl
         have a36:(s[i].toNat == 36)=false:=by rw [hv];rfl
         have b92:((s[i].toNat:Int) == 92)=false:=by rw [hv];rfl
         have a92:(s[i].toNat == 92)=false:=by rw [hv];rfl
         have b40:((s[i].toNat:Int) == 40)=true:=by rw [hv];rfl
         have a40:(s[i].toNat == 40)=true:=by rw [hv];rfl
         have b41:((s[i].toNat:Int) == 41)=false:=by rw [hv];rfl
         have a41:(s[i].toNat == 41)=false:=by rw [hv];rfl
         have b43:((s[i].toNat:Int) == 43)=false:=by rw [hv];rfl
         have a43:(s[i].toNat == 43)=false:=by rw [hv];rfl
         have b63:((s[i].toNat:Int) == 63)=false:=by rw [hv];rfl
         have a63:(s[i].toNat == 63)=false:=by rw [hv];rfl
         have b123:((s[i].toNat:Int) == 123)=false:=by rw [hv];rfl
         have a123:(s[i].toNat == 123)=false:=by rw [hv];rfl
         have b124:((s[i].toNat:Int) == 124)=false:=by rw [hv];rfl
         have a124:(s[i].toNat == 124)=false:=by rw [hv];rfl
         clear hv
         go_wp2
         refine ⟨⟨i+1,rfl,by omega,(by rw [ref_step2 _ s i hlt,← HST.out,HQ.out]),trivial⟩, ?_⟩
         simp [intOf];omega
       · have hq:Sp.qb true s[i]=[92,s[i]]:=by unfold Sp.qb Sp.mk Sp.mkX Sp.mkB;rw [hv];rfl
         have HQ:=Lib.hid hq
         clear hq
         have b46:((s[i].toNat:Int) == 46)=false:=by rw [hv];rfl
         have a46:(s[i].toNat == 46)=false:=by rw [hv];rfl
         have b91:((s[i].toNat:Int) == 91)=false:=by rw [hv];rfl
         have a91:(s[i].toNat == 91)=false:=by rw [hv];rfl
         have b42:((s[i].toNat:Int) == 42)=false:=by rw [hv];rfl
         have a42:(s[i].toNat == 42)=false:=by rw [hv];rfl
         have b94:((s[i].toNat:Int) == 94)=false:=by rw [hv];rfl
         have a94:(s[i].toNat == 94)=false:=by rw [hv];rfl
         have b36:((s[i].toNat:Int) == 36)=false:=by rw [hv];rfl
         have a36:(s[i].toNat == 36)=false:=by rw [hv];rfl
         have b92:((s[i].toNat:Int) == 92)=false:=by rw [hv];rfl
         have a92:(s[i].toNat == 92)=false:=by rw [hv];rfl
         have b40:((s[i].toNat:Int) == 40)=false:=by rw [hv];rfl
         have a40:(s[i].toNat == 40)=false:=by rw [hv];rfl
         have b41:((s[i].toNat:Int) == 41)=true:=by rw [hv];rfl
         have a41:(s[i].toNat == 41)=true:=by rw [hv];rfl
         have b43:((s[i].toNat:Int) == 43)=false:=by rw [hv];rfl
         have a43:(s[i].toNat == 43)=false:=by rw [hv];rfl
         have b63:((s[i].toNat:Int) == 63)=false:=by rw [hv];rfl
         have a63:(s[i].toNat == 63)=false:=by rw [hv];rfl
         have b123:((s[i].toNat:Int) == 123)=false:=by rw [hv];rfl
         have a123:(s[i].toNat == 123)=false:=by rw [hv];rfl
         have b124:((s[i].toNat:Int) == 124)=false:=by rw [hv];rfl
         have a124:(s[i].toNat == 124)=false:=by rw [hv];rfl
         clear hv
         go_wp2
         refine ⟨⟨i+1,rfl,by omega,(by rw [ref_step2 _ s i hlt,← HST.out,HQ.out]),trivial⟩, ?_⟩
         simp [intOf];omega
       · have hq:Sp.qb true s[i]=[92,s[i]]:=by unfold Sp.qb Sp.mk Sp.mkX Sp.mkB;rw [hv];rfl
         have HQ:=Lib.hid hq
         clear hq
         have b46:((s[i].toNat:Int) == 46)=false:=by rw [hv];rfl
         have a46:(s[i].toNat == 46)=false:=by rw [hv];rfl
         have b91:((s[i].toNat:Int) == 91)=false:=by rw [hv];rfl
         have a91:(s[i].toNat == 91)=false:=by rw [hv];rfl
         have b42:((s[i].toNat:Int) == 42)=false:=by rw [hv];rfl
         have a42:(s[i].toNat == 42)=false:=by rw [hv];rfl
         have b94:((s[i].toNat:Int) == 94)=false:=by rw [hv];rfl
         have a94:(s[i].toNat == 94)=false:=by rw [hv];rfl
         have b36:((s[i].toNat:Int) == 36)=false:=by rw [hv];rfl
         have a36:(s[i].toNat == 36)=false:=by rw [hv];rfl
         have b92:((s[i].toNat:Int) == 92)=false:=by rw [hv];rfl
         have a92:(s[i].toNat == 92)=false:=by rw [hv];rfl
         have b40:((s[i].toNat:Int) == 40)=false:=by rw [hv];rfl
         have a40:(s[i].toNat == 40)=false:=by rw [hv];rfl
         have b41:((s[i].toNat:Int) == 41)=false:=by rw [hv];rfl
         have a41:(s[i].toNat == 41)=false:=by rw [hv];rfl
         have b43:((s[i].toNat:Int) == 43)=true:=by rw [hv];rfl
         have a43:(s[i].toNat == 43)=true:=by rw [hv];rfl
         have b63:((s[i].toNat:Int) == 63)=false:=by rw [hv];rfl
         have a63:(s[i].toNat == 63)=false:=by rw [hv];rfl
         have b123:((s[i].toNat:Int) == 123)=false:=by rw [hv];rfl
         have a123:(s[i].toNat == 123)=false:=by rw [hv];rfl
         have b124:((s[i].toNat:Int) == 124)=false:=by rw [hv];rfl
         have a124:(s[i].toNat == 124)=false:=by rw [hv];rfl
         clear hv
         go_wp2
         refine ⟨⟨i+1,rfl,by omega,(by rw [ref_step2 _ s i hlt,← HST.out,HQ.out]),trivial⟩, ?_⟩
         simp [intOf];omega
       · have hq:Sp.qb true s[i]=[92,s[i]]:=by unfold Sp.qb Sp.mk Sp.mkX Sp.mkB;rw [hv];rfl
         have HQ:=Lib.hid hq
         clear hq
         have b46:((s[i].toNat:Int) == 46)=false:=by rw [hv];rfl
         have a46:(s[i].toNat == 46)=false:=by rw [hv];rfl
         have b91:((s[i].toNat:Int) == 91)=false:=by rw [hv];rfl
         have a91:(s[i].toNat == 91)=false:=by rw [hv];rfl
         have b42:((s[i].toNat:Int) == 42)=false:=by rw [hv];rfl
         have a42:(s[i].toNat == 42)=false:=by rw [hv];rfl
         have b94:((s[i].toNat:Int) == 94)=false:=by rw [hv];rfl
         have a94:(s[i].toNat == 94)=false:=by rw [hv];rfl
         have b36:((s[i].toNat:Int) == 36)=false:=by rw [hv];rfl
         have a36:(s[i].toNat == 36)=false:=by rw [hv];rfl
         have b92:((s[i].toNat:Int) == 92)=false:=by rw [hv];rfl
         have a92:(s[i].toNat == 92)=false:=by rw [hv];rfl
         have b40:((s[i].toNat:Int) == 40)=false:=by rw [hv];rfl
         have a40:(s[i].toNat == 40)=false:=by rw [hv];rfl
         have b41:((s[i].toNat:Int) == 41)=false:=by rw [hv];rfl
         have a41:(s[i].toNat == 41)=false:=by rw [hv];rfl
         have b43:((s[i].toNat:Int) == 43)=false:=by rw [hv];rfl
         have a43:(s[i].toNat == 43)=false:=by rw [hv];rfl
         have b63:((s[i].toNat:Int) == 63)=true:=by rw [hv];rfl
         have a63:(s[i].toNat == 63)=true:=by rw [hv];rfl
         have b123:((s[i].toNat:Int) == 123)=false:=by rw [hv];rfl
         have a123:(s[i].toNat == 123)=false:=by rw [hv];rfl
         have b124:((s[i].toNat:Int) == 124)=false:=by rw [hv];rfl
         have a124:(s[i].toNat == 124)=false:=by rw [hv];rfl
         clear hv
         go_wp2
         refine ⟨⟨i+1,rfl,by omega,(by rw [ref_step2 _ s i hlt,← HST.out,HQ.out]),trivial⟩, ?_⟩
         simp [intOf];omega
       · have hq:Sp.qb true s[i]=[92,s[i]]:=by unfold Sp.qb Sp.mk Sp.mkX Sp.mkB;rw [hv];rfl
         have HQ:=Lib.hid hq
         clear hq
         have b46:((s[i].toNat:Int) == 46)=false:=by rw [hv];rfl
         have a46:(s[i].toNat == 46)=false:=by rw [hv];rfl
         have b91:((s[i].toNat:Int) == 91)=false:=by rw [hv];rfl
         have a91:(s[i].toNat == 91)=false:=by rw [hv];rfl
         have b42:((s[i].toNat:Int) == 42)=false:=by rw [hv];rfl
         have a42:(s[i].toNat == 42)=false:=by rw [hv];rfl
         have b94:((s[i].toNat:Int) == 94)=false:=by rw [hv];rfl
         have a94:(s[i].toNat == 94)=false:=by rw [hv];rfl
         have b36:((s[i].toNat:Int) == 36)=false:=by rw [hv];rfl
         have a36:(s[i].toNat == 36)=false:=by rw [hv];rfl
         have b92:((s[i].toNat:Int) == 92)=false:=by rw [hv];rfl
         have a92:(s[i].toNat == 92)=false:=by rw [hv];rfl
         have b40:((s[i].toNat:Int) == 40)=false:=by rw [hv];rfl
         have a40:(s[i].toNat == 40)=false:=by rw [hv];rfl
         have b41:((s[i].toNat:Int) == 41)=false:=by rw [hv];rfl
         have a41:(s[i].toNat == 41)=false:=by rw [hv];rfl
         have b43:((s[i].toNat:Int) == 43)=false:=by rw [hv];rfl
         have a43:(s[i].toNat == 43)=false:=by rw [hv];rfl
         have b63:((s[i].toNat:Int) == 63)=false:=by rw [hv];rfl
         have a63:(s[i].toNat == 63)=false:=by rw [hv];rfl
         have b123:((s[i].toNat:Int) == 123)=true:=by rw [hv];rfl
         have a123:(s[i].toNat == 123)=true:=by rw [hv];rfl
         have b124:((s[i].toNat:Int) == 124)=false:=by rw [hv];rfl
         have a124:(s[i].toNat == 124)=false:=by rw [hv];rfl
         clear hv
         go_wp2
         refine ⟨⟨i+1,rfl,by omega,(by rw [ref_step2 _ s i hlt,← HST.out,HQ.out]),trivial⟩, ?_⟩
         simp [intOf];omega
       · have hq:Sp.qb true s[i]=[92,s[i]]:=by unfold Sp.qb Sp.mk Sp.mkX Sp.mkB;rw [hv];rfl
         have HQ:=Lib.hid hq
         clear hq
         have b46:((s[i].toNat:Int) == 46)=false:=by rw [hv];rfl
         have a46:(s[i].toNat == 46)=false:=by rw [hv];rfl
         have b91:((s[i].toNat:Int) == 91)=false:=by rw [hv];rfl
         have a91:(s[i].toNat == 91)=false:=by rw [hv];rfl
         have b42:((s[i].toNat:Int) == 42)=false:=by rw [hv];rfl
         have a42:(s[i].toNat == 42)=false:=by rw [hv];rfl
         have b94:((s[i].toNat:Int) == 94)=false:=by rw [hv];rfl
         have a94:(s[i].toNat == 94)=false:=by rw [hv];rfl
         have b36:((s[i].toNat:Int) == 36)=false:=by rw [hv];rfl
         have a36:(s[i].toNat == 36)=false:=by rw [hv];rfl
         have b92:((s[i].toNat:Int) == 92)=false:=by rw [hv];rfl
         have a92:(s[i].toNat == 92)=false:=by rw [hv];rfl
         have b40:((s[i].toNat:Int) == 40)=false:=by rw [hv];rfl
         have a40:(s[i].toNat == 40)=false:=by rw [hv];rfl
         have b41:((s[i].toNat:Int) == 41)=false:=by rw [hv];rfl
         have a41:(s[i].toNat == 41)=false:=by rw [hv];rfl
         have b43:((s[i].toNat:Int) == 43)=false:=by rw [hv];rfl
         have a43:(s[i].toNat == 43)=false:=by rw [hv];rfl
         have b63:((s[i].toNat:Int) == 63)=false:=by rw [hv];rfl
         have a63:(s[i].toNat == 63)=false:=by rw [hv];rfl
         have b123:((s[i].toNat:Int) == 123)=false:=by rw [hv];rfl
         have a123:(s[i].toNat == 123)=false:=by rw [hv];rfl
         have b124:((s[i].toNat:Int) == 124)=true:=by rw [hv];rfl
         have a124:(s[i].toNat == 124)=true:=by rw [hv];rfl
         clear hv
         go_wp2
         refine ⟨⟨i+1,rfl,by omega,(by rw [ref_step2 _ s i hlt,← HST.out,HQ.out]),trivial⟩, ?_⟩
         simp [intOf];omega
       · have hq:Sp.qb true s[i]=[s[i]]:=by unfold Sp.qb Sp.mk Sp.mkX Sp.mkB;simp;omega
         have HQ:=Lib.hid hq
         clear hq
         have b46:((s[i].toNat:Int) == 46)=false:=by rw [beq_eq_false_iff_ne];omega
         have a46:(s[i].toNat == 46)=false:=by rw [beq_eq_false_iff_ne];omega
         have b91:((s[i].toNat:Int) == 91)=false:=by rw [beq_eq_false_iff_ne];omega
         have a91:(s[i].toNat == 91)=false:=by rw [beq_eq_false_iff_ne];omega
         have b42:((s[i].toNat:Int) == 42)=false:=by rw [beq_eq_false_iff_ne];omega
         have a42:(s[i].toNat == 42)=false:=by rw [beq_eq_false_iff_ne];omega
         have b94:((s[i].toNat:Int) == 94)=false:=by rw [beq_eq_false_iff_ne];omega
         have a94:(s[i].toNat == 94)=false:=by rw [beq_eq_false_iff_ne];omega
         have b36:((s[i].toNat:Int) == 36)=false:=by rw [beq_eq_false_iff_ne];omega
         have a36:(s[i].toNat == 36)=false:=by rw [beq_eq_false_iff_ne];omega
         have b92:((s[i].toNat:Int) == 92)=false:=by rw [beq_eq_false_iff_ne];omega
         have a92:(s[i].toNat == 92)=false:=by rw [beq_eq_false_iff_ne];omega
         have b40:((s[i].toNat:Int) == 40)=false:=by rw [beq_eq_false_iff_ne];omega
         have a40:(s[i].toNat == 40)=false:=by rw [beq_eq_false_iff_ne];omega
         have b41:((s[i].toNat:Int) == 41)=false:=by rw [beq_eq_false_iff_ne];omega
         have a41:(s[i].toNat == 41)=false:=by rw [beq_eq_false_iff_ne];omega
         have b43:((s[i].toNat:Int) == 43)=false:=by rw [beq_eq_false_iff_ne];omega
         have a43:(s[i].toNat == 43)=false:=by rw [beq_eq_false_iff_ne];omega
         have b63:((s[i].toNat:Int) == 63)=false:=by rw [beq_eq_false_iff_ne];omega
         have a63:(s[i].toNat == 63)=false:=by rw [beq_eq_false_iff_ne];omega
         have b123:((s[i].toNat:Int) == 123)=false:=by rw [beq_eq_false_iff_ne];omega
         have a123:(s[i].toNat == 123)=false:=by rw [beq_eq_false_iff_ne];omega
         have b124:((s[i].toNat:Int) == 124)=false:=by rw [beq_eq_false_iff_ne];omega
         have a124:(s[i].toNat == 124)=false:=by rw [beq_eq_false_iff_ne];omega
         clear hv
         go_wp2
         refine ⟨⟨i+1,rfl,by omega,(by rw [ref_step1 _ s i hlt,← HST.out,HQ.out]),trivial⟩, ?_⟩
         simp [intOf];omega
     · have hd:decide ((i:Int) < s.size)=false:=by simp;omega
       have hd':decide (i < s.size)=false:=by simpa using hlt
       have hall:s.data.toList.take i=s.data.toList:=List.take_of_length_le (by simp;omega)
       rw [hall]
       clear hall
       go_wp2
       go_ret
       exact ⟨rfl,rfl⟩
 | false =>
   go_enter Tryz.func118,Tryz.ntmps118
   go_wp2
   go_loopw [5,6] (fun ov iv wr=>∃ i:Nat,iv=.int .i64 (i:Int)∧i ≤ s.size∧ov=.string ⟨(Sp.quote false (s.data.toList.take i)).toArray⟩∧w=wr) (fun _ iv _=>s.size - (intOf iv).toNat)
   case atStart=>exact ⟨0,rfl,Nat.zero_le _,rfl,rfl⟩
   case round =>
     obtain ⟨i,rfl,hi,rfl,rfl⟩:=hrel
     by_cases hlt:i < s.size
     · have hd:decide ((i:Int) < s.size)=true:=by simp;omega
       have hd':decide (i < s.size)=true:=by simpa using hlt
       have wi:IntKind.i64.wrap ((i:Int)+1)=(i:Int)+1:=IntWalk.i64_in _ (by omega)
       have hql:=Sp.quote_take false s i
       have hst:=quote_step false s i hlt
       have HST:=Lib.hid hst
       clear hst
       have hk:s[i].toNat=46 ∨ s[i].toNat=91 ∨ s[i].toNat=42 ∨ s[i].toNat=94 ∨ s[i].toNat=36 ∨ s[i].toNat=92 ∨ s[i].toNat=40 ∨ s[i].toNat=41 ∨ s[i].toNat=43 ∨ s[i].toNat=63 ∨ s[i].toNat=123 ∨ s[i].toNat=124 ∨ (s[i].toNat ≠ 46∧s[i].toNat ≠ 91∧s[i].toNat ≠ 42∧s[i].toNat ≠ 94∧s[i].toNat ≠ 36∧s[i].toNat ≠ 92∧s[i].toNat ≠ 40∧s[i].toNat ≠ 41∧s[i].toNat ≠ 43∧s[i].toNat ≠ 63∧s[i].toNat ≠ 123∧s[i].toNat ≠ 124):=by omega
       rcases hk with hv | hv | hv | hv | hv | hv | hv | hv | hv | hv | hv | hv | hv
       · have hq:Sp.qb false s[i]=[92,s[i]]:=by unfold Sp.qb Sp.mk Sp.mkX Sp.mkB;rw [hv];rfl
         have HQ:=Lib.hid hq
         clear hq
         have b46:((s[i].toNat:Int) == 46)=true:=by rw [hv];rfl
         have a46:(s[i].toNat == 46)=true:=by rw [hv];rfl
         have b91:((s[i].toNat:Int) == 91)=false:=by rw [hv];rfl
         have a91:(s[i].toNat == 91)=false:=by rw [hv];rfl
         have b42:((s[i].toNat:Int) == 42)=false:=by rw [hv];rfl
         have a42:(s[i].toNat == 42)=false:=by rw [hv];rfl
         have b94:((s[i].toNat:Int) == 94)=false:=by rw [hv];rfl
         have a94:(s[i].toNat == 94)=false:=by rw [hv];rfl
         have b36:((s[i].toNat:Int) == 36)=false:=by rw [hv];rfl
         have a36:(s[i].toNat == 36)=false:=by rw [hv];rfl
         have b92:((s[i].toNat:Int) == 92)=false:=by rw [hv];rfl
         have a92:(s[i].toNat == 92)=false:=by rw [hv];rfl
         have b40:((s[i].toNat:Int) == 40)=false:=by rw [hv];rfl
         have a40:(s[i].toNat == 40)=false:=by rw [hv];rfl
         have b41:((s[i].toNat:Int) == 41)=false:=by rw [hv];rfl
         have a41:(s[i].toNat == 41)=false:=by rw [hv];rfl
         have b43:((s[i].toNat:Int) == 43)=false:=by rw [hv];rfl
         have a43:(s[i].toNat == 43)=false:=by rw [hv];rfl
         have b63:((s[i].toNat:Int) == 63)=false:=by rw [hv];rfl
         have a63:(s[i].toNat == 63)=false:=by rw [hv];rfl
         have b123:((s[i].toNat:Int) == 123)=false:=by rw [hv];rfl
         have a123:(s[i].toNat == 123)=false:=by rw [hv];rfl
         have b124:((s[i].toNat:Int) == 124)=false:=by rw [hv];rfl
         have a124:(s[i].toNat == 124)=false:=by rw [hv];rfl
         clear hv
         go_wp2
         refine ⟨⟨i+1,rfl,by omega,(by rw [ref_step2 _ s i hlt,← HST.out,HQ.out]),trivial⟩, ?_⟩
         simp [intOf];omega
       · have hq:Sp.qb false s[i]=[92,s[i]]:=by unfold Sp.qb Sp.mk Sp.mkX Sp.mkB;rw [hv];rfl
         have HQ:=Lib.hid hq
         clear hq
         have b46:((s[i].toNat:Int) == 46)=false:=by rw [hv];rfl
         have a46:(s[i].toNat == 46)=false:=by rw [hv];rfl
         have b91:((s[i].toNat:Int) == 91)=true:=by rw [hv];rfl
         have a91:(s[i].toNat == 91)=true:=by rw [hv];rfl
         have b42:((s[i].toNat:Int) == 42)=false:=by rw [hv];rfl
         have a42:(s[i].toNat == 42)=false:=by rw [hv];rfl
         have b94:((s[i].toNat:Int) == 94)=false:=by rw [hv];rfl
         have a94:(s[i].toNat == 94)=false:=by rw [hv];rfl
         have b36:((s[i].toNat:Int) == 36)=false:=by rw [hv];rfl
         have a36:(s[i].toNat == 36)=false:=by rw [hv];rfl
         have b92:((s[i].toNat:Int) == 92)=false:=by rw [hv];rfl
         have a92:(s[i].toNat == 92)=false:=by rw [hv];rfl
         have b40:((s[i].toNat:Int) == 40)=false:=by rw [hv];rfl
         have a40:(s[i].toNat == 40)=false:=by rw [hv];rfl
         have b41:((s[i].toNat:Int) == 41)=false:=by rw [hv];rfl
         have a41:(s[i].toNat == 41)=false:=by rw [hv];rfl
         have b43:((s[i].toNat:Int) == 43)=false:=by rw [hv];rfl
         have a43:(s[i].toNat == 43)=false:=by rw [hv];rfl
         have b63:((s[i].toNat:Int) == 63)=false:=by rw [hv];rfl
         have a63:(s[i].toNat == 63)=false:=by rw [hv];rfl
         have b123:((s[i].toNat:Int) == 123)=false:=by rw [hv];rfl
         have a123:(s[i].toNat == 123)=false:=by rw [hv];rfl
         have b124:((s[i].toNat:Int) == 124)=false:=by rw [hv];rfl
         have a124:(s[i].toNat == 124)=false:=by rw [hv];rfl
         clear hv
         go_wp2
         refine ⟨⟨i+1,rfl,by omega,(by rw [ref_step2 _ s i hlt,← HST.out,HQ.out]),trivial⟩, ?_⟩
         simp [intOf];omega
       · have hq:Sp.qb false s[i]=[92,s[i]]:=by unfold Sp.qb Sp.mk Sp.mkX Sp.mkB;rw [hv];rfl
         have HQ:=Lib.hid hq
         clear hq
         have b46:((s[i].toNat:Int) == 46)=false:=by rw [hv];rfl
         have a46:(s[i].toNat == 46)=false:=by rw [hv];rfl
         have b91:((s[i].toNat:Int) == 91)=false:=by rw [hv];rfl
         have a91:(s[i].toNat == 91)=false:=by rw [hv];rfl
         have b42:((s[i].toNat:Int) == 42)=true:=by rw [hv];rfl
         have a42:(s[i].toNat == 42)=true:=by rw [hv];rfl
         have b94:((s[i].toNat:Int) == 94)=false:=by rw [hv];rfl
         have a94:(s[i].toNat == 94)=false:=by rw [hv];rfl
         have b36:((s[i].toNat:Int) == 36)=false:=by rw [hv];rfl
         have a36:(s[i].toNat == 36)=false:=by rw [hv];rfl
         have b92:((s[i].toNat:Int) == 92)=false:=by rw [hv];rfl
         have a92:(s[i].toNat == 92)=false:=by rw [hv];rfl
         have b40:((s[i].toNat:Int) == 40)=false:=by rw [hv];rfl
         have a40:(s[i].toNat == 40)=false:=by rw [hv];rfl
         have b41:((s[i].toNat:Int) == 41)=false:=by rw [hv];rfl
         have a41:(s[i].toNat == 41)=false:=by rw [hv];rfl
         have b43:((s[i].toNat:Int) == 43)=false:=by rw [hv];rfl
         have a43:(s[i].toNat == 43)=false:=by rw [hv];rfl
         have b63:((s[i].toNat:Int) == 63)=false:=by rw [hv];rfl
         have a63:(s[i].toNat == 63)=false:=by rw [hv];rfl
         have b123:((s[i].toNat:Int) == 123)=false:=by rw [hv];rfl
         have a123:(s[i].toNat == 123)=false:=by rw [hv];rfl
         have b124:((s[i].toNat:Int) == 124)=false:=by rw [hv];rfl
         have a124:(s[i].toNat == 124)=false:=by rw [hv];rfl
         clear hv
         go_wp2
         refine ⟨⟨i+1,rfl,by omega,(by rw [ref_step2 _ s i hlt,← HST.out,HQ.out]),trivial⟩, ?_⟩
         simp [intOf];omega
       · have hq:Sp.qb false s[i]=[92,s[i]]:=by unfold Sp.qb Sp.mk Sp.mkX Sp.mkB;rw [hv];rfl
         have HQ:=Lib.hid hq
         clear hq
         have b46:((s[i].toNat:Int) == 46)=false:=by rw [hv];rfl
         have a46:(s[i].toNat == 46)=false:=by rw [hv];rfl
         have b91:((s[i].toNat:Int) == 91)=false:=by rw [hv];rfl
         have a91:(s[i].toNat == 91)=false:=by rw [hv];rfl
         have b42:((s[i].toNat:Int) == 42)=false:=by rw [hv];rfl
         have a42:(s[i].toNat == 42)=false:=by rw [hv];rfl
         have b94:((s[i].toNat:Int) == 94)=true:=by rw [hv];rfl
         have a94:(s[i].toNat == 94)=true:=by rw [hv];rfl
         have b36:((s[i].toNat:Int) == 36)=false:=by rw [hv];rfl
         have a36:(s[i].toNat == 36)=false:=by rw [hv];rfl
         have b92:((s[i].toNat:Int) == 92)=false:=by rw [hv];rfl
         have a92:(s[i].toNat == 92)=false:=by rw [hv];rfl
         have b40:((s[i].toNat:Int) == 40)=false:=by rw [hv];rfl
         have a40:(s[i].toNat == 40)=false:=by rw [hv];rfl
         have b41:((s[i].toNat:Int) == 41)=false:=by rw [hv];rfl
         have a41:(s[i].toNat == 41)=false:=by rw [hv];rfl
         have b43:((s[i].toNat:Int) == 43)=false:=by rw [hv];rfl
         have a43:(s[i].toNat == 43)=false:=by rw [hv];rfl
         have b63:((s[i].toNat:Int) == 63)=false:=by rw [hv];rfl
         have a63:(s[i].toNat == 63)=false:=by rw [hv];rfl
         have b123:((s[i].toNat:Int) == 123)=false:=by rw [hv];rfl
         have a123:(s[i].toNat == 123)=false:=by rw [hv];rfl
         have b124:((s[i].toNat:Int) == 124)=false:=by rw [hv];rfl
         have a124:(s[i].toNat == 124)=false:=by rw [hv];rfl
         clear hv
         go_wp2
         refine ⟨⟨i+1,rfl,by omega,(by rw [ref_step2 _ s i hlt,← HST.out,HQ.out]),trivial⟩, ?_⟩
         simp [intOf];omega
       · have hq:Sp.qb false s[i]=[92,s[i]]:=by unfold Sp.qb Sp.mk Sp.mkX Sp.mkB;rw [hv];rfl
         have HQ:=Lib.hid hq
         clear hq
         have b46:((s[i].toNat:Int) == 46)=false:=by rw [hv];rfl
         have a46:(s[i].toNat == 46)=false:=by rw [hv];rfl
         have b91:((s[i].toNat:Int) == 91)=false:=by rw [hv];rfl
         have a91:(s[i].toNat == 91)=false:=by rw [hv];rfl
         have b42:((s[i].toNat:Int) == 42)=false:=by rw [hv];rfl
         have a42:(s[i].toNat == 42)=false:=by rw [hv];rfl
         have b94:((s[i].toNat:Int) == 94)=false:=by rw [hv];rfl
         have a94:(s[i].toNat == 94)=false:=by rw [hv];rfl
         have b36:((s[i].toNat:Int) == 36)=true:=by rw [hv];rfl
         have a36:(s[i].toNat == 36)=true:=by rw [hv];rfl
         have b92:((s[i].toNat:Int) == 92)=false:=by rw [hv];rfl
         have a92:(s[i].toNat == 92)=false:=by rw [hv];rfl
         have b40:((s[i].toNat:Int) == 40)=false:=by rw [hv];rfl
         have a40:(s[i].toNat == 40)=false:=by rw [hv];rfl
         have b41:((s[i].toNat:Int) == 41)=false:=by rw [hv];rfl
         have a41:(s[i].toNat == 41)=false:=by rw [hv];rfl
         have b43:((s[i].toNat:Int) == 43)=false:=by rw [hv];rfl
         have a43:(s[i].toNat == 43)=false:=by rw [hv];rfl
         have b63:((s[i].toNat:Int) == 63)=false:=by rw [hv];rfl
         have a63:(s[i].toNat == 63)=false:=by rw [hv];rfl
         have b123:((s[i].toNat:Int) == 123)=false:=by rw [hv];rfl
         have a123:(s[i].toNat == 123)=false:=by rw [hv];rfl
         have b124:((s[i].toNat:Int) == 124)=false:=by rw [hv];rfl
         have a124:(s[i].toNat == 124)=false:=by rw [hv];rfl
         clear hv
         go_wp2
         refine ⟨⟨i+1,rfl,by omega,(by rw [ref_step2 _ s i hlt,← HST.out,HQ.out]),trivial⟩, ?_⟩
         simp [intOf];omega
       · have hq:Sp.qb false s[i]=[92,s[i]]:=by unfold Sp.qb Sp.mk Sp.mkX Sp.mkB;rw [hv];rfl
         have HQ:=Lib.hid hq
         clear hq
         have b46:((s[i].toNat:Int) == 46)=false:=by rw [hv];rfl
         have a46:(s[i].toNat == 46)=false:=by rw [hv];rfl
         have b91:((s[i].toNat:Int) == 91)=false:=by rw [hv];rfl
         have a91:(s[i].toNat == 91)=false:=by rw [hv];rfl
         have b42:((s[i].toNat:Int) == 42)=false:=by rw [hv];rfl
         have a42:(s[i].toNat == 42)=false:=by rw [hv];rfl
         have b94:((s[i].toNat:Int) == 94)=false:=by rw [hv];rfl
         have a94:(s[i].toNat == 94)=false:=by rw [hv];rfl
         have b36:((s[i].toNat:Int) == 36)=false:=by rw [hv];rfl
         have a36:(s[i].toNat == 36)=false:=by rw [hv];rfl
         have b92:((s[i].toNat:Int) == 92)=true:=by rw [hv];rfl
         have a92:(s[i].toNat == 92)=true:=by rw [hv];rfl
         have b40:((s[i].toNat:Int) == 40)=false:=by rw [hv];rfl
         have a40:(s[i].toNat == 40)=false:=by rw [hv];rfl
         have b41:((s[i].toNat:Int) == 41)=false:=by rw [hv];rfl
         have a41:(s[i].toNat == 41)=false:=by rw [hv];rfl
         have b43:((s[i].toNat:Int) == 43)=false:=by rw [hv];rfl
         have a43:(s[i].toNat == 43)=false:=by rw [hv];rfl
         have b63:((s[i].toNat:Int) == 63)=false:=by rw [hv];rfl
         have a63:(s[i].toNat == 63)=false:=by rw [hv];rfl
         have b123:((s[i].toNat:Int) == 123)=false:=by rw [hv];rfl
         have a123:(s[i].toNat == 123)=false:=by rw [hv];rfl
         have b124:((s[i].toNat:Int) == 124)=false:=by rw [hv];rfl
         have a124:(s[i].toNat == 124)=false:=by rw [hv];rfl
         clear hv
         go_wp2
         refine ⟨⟨i+1,rfl,by omega,(by rw [ref_step2 _ s i hlt,← HST.out,HQ.out]),trivial⟩, ?_⟩
         simp [intOf];omega
       · have hq:Sp.qb false s[i]=[s[i]]:=by unfold Sp.qb Sp.mk Sp.mkX Sp.mkB;rw [hv];rfl
         have HQ:=Lib.hid hq
         clear hq
         have b46:((s[i].toNat:Int) == 46)=false:=by rw [hv];rfl
         have a46:(s[i].toNat == 46)=false:=by rw [hv];rfl
         have b91:((s[i].toNat:Int) == 91)=false:=by rw [hv];rfl
         have a91:(s[i].toNat == 91)=false:=by rw [hv];rfl
         have b42:((s[i].toNat:Int) == 42)=false:=by rw [hv];rfl
         have a42:(s[i].toNat == 42)=false:=by rw [hv];rfl
         have b94:((s[i].toNat:Int) == 94)=false:=by rw [hv];rfl
         have a94:(s[i].toNat == 94)=false:=by rw [hv];rfl
         have b36:((s[i].toNat:Int) == 36)=false:=by rw [hv];rfl
         have a36:(s[i].toNat == 36)=false:=by rw [hv];rfl
         have b92:((s[i].toNat:Int) == 92)=false:=by rw [hv];rfl
         have a92:(s[i].toNat == 92)=false:=by rw [hv];rfl
         have b40:((s[i].toNat:Int) == 40)=true:=by rw [hv];rfl
         have a40:(s[i].toNat == 40)=true:=by rw [hv];rfl
         have b41:((s[i].toNat:Int) == 41)=false:=by rw [hv];rfl
         have a41:(s[i].toNat == 41)=false:=by rw [hv];rfl
         have b43:((s[i].toNat:Int) == 43)=false:=by rw [hv];rfl
         have a43:(s[i].toNat == 43)=false:=by rw [hv];rfl
         have b63:((s[i].toNat:Int) == 63)=false:=by rw [hv];rfl
         have a63:(s[i].toNat == 63)=false:=by rw [hv];rfl
         have b123:((s[i].toNat:Int) == 123)=false:=by rw [hv];rfl
         have a123:(s[i].toNat == 123)=false:=by rw [hv];rfl
         have b124:((s[i].toNat:Int) == 124)=false:=by rw [hv];rfl
         have a124:(s[i].toNat == 124)=false:=by rw [hv];rfl
         clear hv
         go_wp2
         refine ⟨⟨i+1,rfl,by omega,(by rw [ref_step1 _ s i hlt,← HST.out,HQ.out]),trivial⟩, ?_⟩
         simp [intOf];omega
       · have hq:Sp.qb false s[i]=[s[i]]:=by unfold Sp.qb Sp.mk Sp.mkX Sp.mkB;rw [hv];rfl
         have HQ:=Lib.hid hq
         clear hq
         have b46:((s[i].toNat:Int) == 46)=false:=by rw [hv];rfl
         have a46:(s[i].toNat == 46)=false:=by rw [hv];rfl
         have b91:((s[i].toNat:Int) == 91)=false:=by rw [hv];rfl
         have a91:(s[i].toNat == 91)=false:=by rw [hv];rfl
         have b42:((s[i].toNat:Int) == 42)=false:=by rw [hv];rfl
         have a42:(s[i].toNat == 42)=false:=by rw [hv];rfl
         have b94:((s[i].toNat:Int) == 94)=false:=by rw [hv];rfl
         have a94:(s[i].toNat == 94)=false:=by rw [hv];rfl
         have b36:((s[i].toNat:Int) == 36)=false:=by rw [hv];rfl
         have a36:(s[i].toNat == 36)=false:=by rw [hv];rfl
         have b92:((s[i].toNat:Int) == 92)=false:=by rw [hv];rfl
         have a92:(s[i].toNat == 92)=false:=by rw [hv];rfl
         have b40:((s[i].toNat:Int) == 40)=false:=by rw [hv];rfl
         have a40:(s[i].toNat == 40)=false:=by rw [hv];rfl
         have b41:((s[i].toNat:Int) == 41)=true:=by rw [hv];rfl
         have a41:(s[i].toNat == 41)=true:=by rw [hv];rfl
         have b43:((s[i].toNat:Int) == 43)=false:=by rw [hv];rfl
         have a43:(s[i].toNat == 43)=false:=by rw [hv];rfl
         have b63:((s[i].toNat:Int) == 63)=false:=by rw [hv];rfl
         have a63:(s[i].toNat == 63)=false:=by rw [hv];rfl
         have b123:((s[i].toNat:Int) == 123)=false:=by rw [hv];rfl
         have a123:(s[i].toNat == 123)=false:=by rw [hv];rfl
         have b124:((s[i].toNat:Int) == 124)=false:=by rw [hv];rfl
         have a124:(s[i].toNat == 124)=false:=by rw [hv];rfl
         clear hv
         go_wp2
         refine ⟨⟨i+1,rfl,by omega,(by rw [ref_step1 _ s i hlt,← HST.out,HQ.out]),trivial⟩, ?_⟩
         simp [intOf];omega
       · have hq:Sp.qb false s[i]=[s[i]]:=by unfold Sp.qb Sp.mk Sp.mkX Sp.mkB;rw [hv];rfl
         have HQ:=Lib.hid hq
         clear hq
         have b46:((s[i].toNat:Int) == 46)=false:=by rw [hv];rfl
         have a46:(s[i].toNat == 46)=false:=by rw [hv];rfl
         have b91:((s[i].toNat:Int) == 91)=false:=by rw [hv];rfl
         have a91:(s[i].toNat == 91)=false:=by rw [hv];rfl
         have b42:((s[i].toNat:Int) == 42)=false:=by rw [hv];rfl
         have a42:(s[i].toNat == 42)=false:=by rw [hv];rfl
         have b94:((s[i].toNat:Int) == 94)=false:=by rw [hv];rfl
         have a94:(s[i].toNat == 94)=false:=by rw [hv];rfl
         have b36:((s[i].toNat:Int) == 36)=false:=by rw [hv];rfl
         have a36:(s[i].toNat == 36)=false:=by rw [hv];rfl
         have b92:((s[i].toNat:Int) == 92)=false:=by rw [hv];rfl
         have a92:(s[i].toNat == 92)=false:=by rw [hv];rfl
         have b40:((s[i].toNat:Int) == 40)=false:=by rw [hv];rfl
         have a40:(s[i].toNat == 40)=false:=by rw [hv];rfl
         have b41:((s[i].toNat:Int) == 41)=false:=by rw [hv];rfl
         have a41:(s[i].toNat == 41)=false:=by rw [hv];rfl
         have b43:((s[i].toNat:Int) == 43)=true:=by rw [hv];rfl
         have a43:(s[i].toNat == 43)=true:=by rw [hv];rfl
         have b63:((s[i].toNat:Int) == 63)=false:=by rw [hv];rfl
         have a63:(s[i].toNat == 63)=false:=by rw [hv];rfl
         have b123:((s[i].toNat:Int) == 123)=false:=by rw [hv];rfl
         have a123:(s[i].toNat == 123)=false:=by rw [hv];rfl
         have b124:((s[i].toNat:Int) == 124)=false:=by rw [hv];rfl
         have a124:(s[i].toNat == 124)=false:=by rw [hv];rfl
         clear hv
         go_wp2
         refine ⟨⟨i+1,rfl,by omega,(by rw [ref_step1 _ s i hlt,← HST.out,HQ.out]),trivial⟩, ?_⟩
         simp [intOf];omega
       · have hq:Sp.qb false s[i]=[s[i]]:=by unfold Sp.qb Sp.mk Sp.mkX Sp.mkB;rw [hv];rfl
         have HQ:=Lib.hid hq
         clear hq
         have b46:((s[i].toNat:Int) == 46)=false:=by rw [hv];rfl
         have a46:(s[i].toNat == 46)=false:=by rw [hv];rfl
         have b91:((s[i].toNat:Int) == 91)=false:=by rw [hv];rfl
         have a91:(s[i].toNat == 91)=false:=by rw [hv];rfl
         have b42:((s[i].toNat:Int) == 42)=false:=by rw [hv];rfl
         have a42:(s[i].toNat == 42)=false:=by rw [hv];rfl
         have b94:((s[i].toNat:Int) == 94)=false:=by rw [hv];rfl
         have a94:(s[i].toNat == 94)=false:=by rw [hv];rfl
         have b36:((s[i].toNat:Int) == 36)=false:=by rw [hv];rfl
         have a36:(s[i].toNat == 36)=false:=by rw [hv];rfl
         have b92:((s[i].toNat:Int) == 92)=false:=by rw [hv];rfl
         have a92:(s[i].toNat == 92)=false:=by rw [hv];rfl
         have b40:((s[i].toNat:Int) == 40)=false:=by rw [hv];rfl
         have a40:(s[i].toNat == 40)=false:=by rw [hv];rfl
         have b41:((s[i].toNat:Int) == 41)=false:=by rw [hv];rfl
         have a41:(s[i].toNat == 41)=false:=by rw [hv];rfl
         have b43:((s[i].toNat:Int) == 43)=false:=by rw [hv];rfl
         have a43:(s[i].toNat == 43)=false:=by rw [hv];rfl
         have b63:((s[i].toNat:Int) == 63)=true:=by rw [hv];rfl
         have a63:(s[i].toNat == 63)=true:=by rw [hv];rfl
         have b123:((s[i].toNat:Int) == 123)=false:=by rw [hv];rfl
         have a123:(s[i].toNat == 123)=false:=by rw [hv];rfl
         have b124:((s[i].toNat:Int) == 124)=false:=by rw [hv];rfl
         have a124:(s[i].toNat == 124)=false:=by rw [hv];rfl
         clear hv
         go_wp2
         refine ⟨⟨i+1,rfl,by omega,(by rw [ref_step1 _ s i hlt,← HST.out,HQ.out]),trivial⟩, ?_⟩
         simp [intOf];omega
       · have hq:Sp.qb false s[i]=[s[i]]:=by unfold Sp.qb Sp.mk Sp.mkX Sp.mkB;rw [hv];rfl
         have HQ:=Lib.hid hq
         clear hq
         have b46:((s[i].toNat:Int) == 46)=false:=by rw [hv];rfl
         have a46:(s[i].toNat == 46)=false:=by rw [hv];rfl
         have b91:((s[i].toNat:Int) == 91)=false:=by rw [hv];rfl
         have a91:(s[i].toNat == 91)=false:=by rw [hv];rfl
         have b42:((s[i].toNat:Int) == 42)=false:=by rw [hv];rfl
         have a42:(s[i].toNat == 42)=false:=by rw [hv];rfl
         have b94:((s[i].toNat:Int) == 94)=false:=by rw [hv];rfl
         have a94:(s[i].toNat == 94)=false:=by rw [hv];rfl
         have b36:((s[i].toNat:Int) == 36)=false:=by rw [hv];rfl
         have a36:(s[i].toNat == 36)=false:=by rw [hv];rfl
         have b92:((s[i].toNat:Int) == 92)=false:=by rw [hv];rfl
         have a92:(s[i].toNat == 92)=false:=by rw [hv];rfl
         have b40:((s[i].toNat:Int) == 40)=false:=by rw [hv];rfl
         have a40:(s[i].toNat == 40)=false:=by rw [hv];rfl
         have b41:((s[i].toNat:Int) == 41)=false:=by rw [hv];rfl
         have a41:(s[i].toNat == 41)=false:=by rw [hv];rfl
         have b43:((s[i].toNat:Int) == 43)=false:=by rw [hv];rfl
         have a43:(s[i].toNat == 43)=false:=by rw [hv];rfl
         have b63:((s[i].toNat:Int) == 63)=false:=by rw [hv];rfl
         have a63:(s[i].toNat == 63)=false:=by rw [hv];rfl
         have b123:((s[i].toNat:Int) == 123)=true:=by rw [hv];rfl
         have a123:(s[i].toNat == 123)=true:=by rw [hv];rfl
         have b124:((s[i].toNat:Int) == 124)=false:=by rw [hv];rfl
         have a124:(s[i].toNat == 124)=false:=by rw [hv];rfl
         clear hv
         go_wp2
         refine ⟨⟨i+1,rfl,by omega,(by rw [ref_step1 _ s i hlt,← HST.out,HQ.out]),trivial⟩, ?_⟩
         simp [intOf];omega
       · have hq:Sp.qb false s[i]=[s[i]]:=by unfold Sp.qb Sp.mk Sp.mkX Sp.mkB;rw [hv];rfl
         have HQ:=Lib.hid hq
         clear hq
         have b46:((s[i].toNat:Int) == 46)=false:=by rw [hv];rfl
         have a46:(s[i].toNat == 46)=false:=by rw [hv];rfl
         have b91:((s[i].toNat:Int) == 91)=false:=by rw [hv];rfl
         have a91:(s[i].toNat == 91)=false:=by rw [hv];rfl
         have b42:((s[i].toNat:Int) == 42)=false:=by rw [hv];rfl
         have a42:(s[i].toNat == 42)=false:=by rw [hv];rfl
         have b94:((s[i].toNat:Int) == 94)=false:=by rw [hv];rfl
         have a94:(s[i].toNat == 94)=false:=by rw [hv];rfl
         have b36:((s[i].toNat:Int) == 36)=false:=by rw [hv];rfl
         have a36:(s[i].toNat == 36)=false:=by rw [hv];rfl
         have b92:((s[i].toNat:Int) == 92)=false:=by rw [hv];rfl
         have a92:(s[i].toNat == 92)=false:=by rw [hv];rfl
         have b40:((s[i].toNat:Int) == 40)=false:=by rw [hv];rfl
         have a40:(s[i].toNat == 40)=false:=by rw [hv];rfl
         have b41:((s[i].toNat:Int) == 41)=false:=by rw [hv];rfl
         have a41:(s[i].toNat == 41)=false:=by rw [hv];rfl
         have b43:((s[i].toNat:Int) == 43)=false:=by rw [hv];rfl
         have a43:(s[i].toNat == 43)=false:=by rw [hv];rfl
         have b63:((s[i].toNat:Int) == 63)=false:=by rw [hv];rfl
         have a63:(s[i].toNat == 63)=false:=by rw [hv];rfl
         have b123:((s[i].toNat:Int) == 123)=false:=by rw [hv];rfl
         have a123:(s[i].toNat == 123)=false:=by rw [hv];rfl
         have b124:((s[i].toNat:Int) == 124)=true:=by rw [hv];rfl
         have a124:(s[i].toNat == 124)=true:=by rw [hv];rfl
         clear hv
         go_wp2
         refine ⟨⟨i+1,rfl,by omega,(by rw [ref_step1 _ s i hlt,← HST.out,HQ.out]),trivial⟩, ?_⟩
         simp [intOf];omega
       · have hq:Sp.qb false s[i]=[s[i]]:=by unfold Sp.qb Sp.mk Sp.mkX Sp.mkB;simp;omega
         have HQ:=Lib.hid hq
         clear hq
         have b46:((s[i].toNat:Int) == 46)=false:=by rw [beq_eq_false_iff_ne];omega
         have a46:(s[i].toNat == 46)=false:=by rw [beq_eq_false_iff_ne];omega
         have b91:((s[i].toNat:Int) == 91)=false:=by rw [beq_eq_false_iff_ne];omega
         have a91:(s[i].toNat == 91)=false:=by rw [beq_eq_false_iff_ne];omega
         have b42:((s[i].toNat:Int) == 42)=false:=by rw [beq_eq_false_iff_ne];omega
         have a42:(s[i].toNat == 42)=false:=by rw [beq_eq_false_iff_ne];omega
         have b94:((s[i].toNat:Int) == 94)=false:=by rw [beq_eq_false_iff_ne];omega
         have a94:(s[i].toNat == 94)=false:=by rw [beq_eq_false_iff_ne];omega
         have b36:((s[i].toNat:Int) == 36)=false:=by rw [beq_eq_false_iff_ne];omega
         have a36:(s[i].toNat == 36)=false:=by rw [beq_eq_false_iff_ne];omega
         have b92:((s[i].toNat:Int) == 92)=false:=by rw [beq_eq_false_iff_ne];omega
         have a92:(s[i].toNat == 92)=false:=by rw [beq_eq_false_iff_ne];omega
         have b40:((s[i].toNat:Int) == 40)=false:=by rw [beq_eq_false_iff_ne];omega
         have a40:(s[i].toNat == 40)=false:=by rw [beq_eq_false_iff_ne];omega
         have b41:((s[i].toNat:Int) == 41)=false:=by rw [beq_eq_false_iff_ne];omega
         have a41:(s[i].toNat == 41)=false:=by rw [beq_eq_false_iff_ne];omega
         have b43:((s[i].toNat:Int) == 43)=false:=by rw [beq_eq_false_iff_ne];omega
         have a43:(s[i].toNat == 43)=false:=by rw [beq_eq_false_iff_ne];omega
         have b63:((s[i].toNat:Int) == 63)=false:=by rw [beq_eq_false_iff_ne];omega
         have a63:(s[i].toNat == 63)=false:=by rw [beq_eq_false_iff_ne];omega
         have b123:((s[i].toNat:Int) == 123)=false:=by rw [beq_eq_false_iff_ne];omega
         have a123:(s[i].toNat == 123)=false:=by rw [beq_eq_false_iff_ne];omega
         have b124:((s[i].toNat:Int) == 124)=false:=by rw [beq_eq_false_iff_ne];omega
         have a124:(s[i].toNat == 124)=false:=by rw [beq_eq_false_iff_ne];omega
         clear hv
         go_wp2
         refine ⟨⟨i+1,rfl,by omega,(by rw [ref_step1 _ s i hlt,← HST.out,HQ.out]),trivial⟩, ?_⟩
         simp [intOf];omega
     · have hd:decide ((i:Int) < s.size)=false:=by simp;omega
       have hd':decide (i < s.size)=false:=by simpa using hlt
       have hall:s.data.toList.take i=s.data.toList:=List.take_of_length_le (by simp;omega)
       rw [hall]
       clear hall
       go_wp2
       go_ret
       exact ⟨rfl,rfl⟩
end Go.Proofs.YtnfdknhhkdphhaaGreatDoor
namespace Go.Proofs.YtnfdknhhkdphhaaGreatDoor
open Go.RowKit
theorem dec_small {u:Nat} (h:u < 10):Lib.decDigits u=[UInt8.ofNat (48+u)]:=by rw [Lib.decDigits,dif_pos h]
theorem dec_big {u:Nat} (h:¬ u < 10):Lib.decDigits u=Lib.decDigits (u / 10) ++ [UInt8.ofNat (48+u % 10)]:=by rw [Lib.decDigits,dif_neg h]
theorem nDigits_le:∀ k u:Nat,0 < k→u < 10 ^ k→Lib.nDigits u ≤ k:=by
 intro k
 induction k with
 | zero=>intro u h;omega
 | succ k ih =>
   intro u _ hu
   rw [Lib.nDigits]
   split
   · omega
   · rename_i h
     rcases Nat.eq_zero_or_pos k with rfl | hk
     · omega
     · have:u / 10 < 10 ^ k:=by rw [Nat.pow_succ] at hu;omega
       have:=ih (u / 10) hk this
       omega
theorem dec_len {u:Nat} (h:u ≤ 9223372036854775808):(Lib.decDigits u).length ≤ 19:=by
 rw [Lib.decDigits_length]
 exact nDigits_le 19 u (by omega) (by omega)
def dgt (d:Nat):UInt8:=UInt8.ofNat (48+d)
theorem dgt_nat {d:Nat} (h:d < 10):(dgt d).toNat=48+d:=by unfold dgt;simp;omega
theorem one_text (d:Nat) (hd:d < 10) (w:World):(convert 73 9 (.slice (some ⟨w.heap.size,0,none⟩) 1 1)).run Tryz.prog (w.alloc (.cells #[.int .u8 (48+(d:Int))] 5))=.ok (.string ⟨#[dgt d]⟩) (w.alloc (.cells #[.int .u8 (48+(d:Int))] 5)):=by
 have:=run_convert_bytes_back (P:=Tryz.prog) (w.alloc (.cells #[.int .u8 (48+(d:Int))] 5)) 73 9 5 ⟨w.heap.size,0,none⟩ 1 [dgt d] Tryz.underlying73 Tryz.underlying5 Tryz.underlying9 (fun j hj=>by
   obtain rfl:j=0:=by simpa using hj
   rw [show (⟨w.heap.size,0,none⟩:Addr).add 0=⟨w.heap.size,0,none⟩ from rfl,cell_new]
   simp [dgt_nat hd])
 exact this
def tx (l:List UInt8):ByteArray:=⟨l.toArray⟩
theorem tx_size (l:List UInt8):(tx l).size=l.length:=by simp [tx,ByteArray.size]
theorem tx_cons (c:UInt8) (l:List UInt8):(⟨#[c]⟩:ByteArray) ++ tx l=tx (c :: l):=by
 unfold tx;apply ByteArray.ext;simp [ByteArray.data_append]
theorem decimal_pos (n:Nat) (hn:n ≤ 9223372036854775807) (w:World):Calls Tryz.prog 124 #[.int .i64 n] w fun e w'=>e=.returned (.string (tx (Lib.itoa n)))∧Below w.heap.size w w':=by
 have hi:Lib.itoa (n:Int)=Lib.decDigits n:=by unfold Lib.itoa;rw [if_neg (by omega)];rfl
 have HI:=Lib.hid hi;clear hi
 have hneg:decide ((n:Int) < 0)=false:=by simp
 have hl0:=dec_len (u:=n) (by omega)
 go_enter Tryz.func124,Tryz.ntmps124
 go_wp2
 go_loopw [0,3] (fun v s wr=>∃ (m:Nat) (l:List UInt8),m ≤ n∧v=.int .i64 m∧s=.string (tx l)∧Lib.decDigits n=Lib.decDigits m ++ l∧Below w.heap.size w wr) (fun v _ _=>(intOf v).toNat)
 case atStart=>exact ⟨n,[],Nat.le_refl _,rfl,rfl,by simp,Below.refl _ _⟩
 case round =>
   obtain ⟨m,l,hm,rfl,rfl,hd,hb⟩:=hrel
   have hll:l.length ≤ 19:=by have:=congrArg List.length hd;simp at this;omega
   have hsz:¬ 9223372036854775807 < 1+(tx l).size:=by rw [tx_size];omega
   obtain ⟨d,hd10,hdm,r1⟩:∃ d:Nat,d < 10∧d=m % 10∧(m:Int) % 10=(d:Int):=⟨m % 10,by omega,rfl,by omega⟩
   obtain ⟨q,hqm,q1⟩:∃ q:Nat,q=m / 10∧(m:Int) / 10=(q:Int):=⟨m / 10,rfl,by omega⟩
   have ot:=fun w'=>one_text d hd10 w'
   have tc:=tx_cons (dgt d) l
   have hm63:(m:Int) ≤ 9223372036854775807:=by omega
   have hd0:(0:Int) ≤ (d:Int):=by omega
   have hd9:(d:Int) ≤ 9:=by omega
   have HB:=Lib.hid hb;have HD:=Lib.hid hd;have HDM:=Lib.hid hdm;have HQM:=Lib.hid hqm
   clear hb hd hll hdm hqm
   by_cases hq:q=0
   · subst hq
     have hfin:Lib.itoa (n:Int)=dgt d :: l:=by
       have h9:m < 10:=by have:=HQM.out;omega
       rw [HI.out,HD.out,dec_small h9,show m=d by have:=HDM.out;omega];rfl
     have HF:=Lib.hid hfin;clear hfin
     go_wp2
     go_ret
     exact ⟨by rw [HF.out];rfl,HB.out.alloc HB.out.size _⟩
   · have hq0:¬ (q:Int)=0:=by omega
     go_wp2
     refine ⟨⟨q,dgt d :: l, ?_,rfl,rfl, ?_,HB.out.alloc HB.out.size _⟩, ?_⟩
     · have:=HQM.out;omega
     · have h9:¬ m < 10:=by have:=HQM.out;omega
       rw [HD.out,dec_big h9,← HQM.out,← HDM.out];simp [dgt]
     · have:=HQM.out;simp [intOf];omega
theorem decimal_neg (n:Nat) (h0:0 < n) (hn:n ≤ 9223372036854775808) (w:World):Calls Tryz.prog 124 #[.int .i64 (-(n:Int))] w fun e w'=>e=.returned (.string (tx (Lib.itoa (-(n:Int)))))∧Below w.heap.size w w':=by
 have hi:Lib.itoa (-(n:Int))=45 :: Lib.decDigits n:=by unfold Lib.itoa;rw [if_pos (by omega)];simp
 have HI:=Lib.hid hi;clear hi
 obtain ⟨x0,hx0⟩:∃ x:Int,x = -(n:Int):=⟨_,rfl⟩
 rw [← hx0]
 have HX0:=Lib.hid hx0
 have hneg:x0 < 0:=by omega
 have hl0:=dec_len (u:=n) (by omega)
 clear hx0
 go_enter Tryz.func124,Tryz.ntmps124
 go_wp2
 go_loopw [0,3] (fun v s wr=>∃ (m:Nat) (l:List UInt8) (x:Int),0 < m∧m ≤ n∧Hid (x = -(m:Int))∧v=.int .i64 x∧s=.string (tx l)∧Hid (Lib.decDigits n=Lib.decDigits m ++ l)∧Below w.heap.size w wr) (fun v _ _=>(-(intOf v)).toNat)
 case atStart=>exact ⟨n,[],x0,h0,Nat.le_refl _,HX0,rfl,rfl,Lib.hid (by simp),Below.refl _ _⟩
 case round =>
   obtain ⟨m,l,x,hm0,hm,HX,rfl,rfl,HD,hb⟩:=hrel
   have hll:l.length ≤ 19:=by have:=congrArg List.length HD.out;simp at this;omega
   have hsz:¬ 9223372036854775807 < 1+(tx l).size:=by rw [tx_size];omega
   have hx:=HX.out
   obtain ⟨d,hd10,hdm⟩:∃ d:Nat,d < 10∧d=m % 10:=⟨m % 10,by omega,rfl⟩
   obtain ⟨q,hqm⟩:∃ q:Nat,q=m / 10:=⟨m / 10,rfl⟩
   obtain ⟨y,hy,r1⟩:∃ y:Int,y = -(d:Int)∧x.tmod 10=y:=⟨_,rfl,by rw [hx,Int.neg_tmod,Int.tmod_eq_emod_of_nonneg (by omega)];omega⟩
   obtain ⟨z,hz,q1⟩:∃ z:Int,z = -(q:Int)∧x.tdiv 10=z:=⟨_,rfl,by rw [hx,Int.neg_tdiv,Int.tdiv_eq_ediv_of_nonneg (by omega)];omega⟩
   have ot:=fun w'=>one_text d hd10 w'
   have tc:=tx_cons (dgt d) l
   have hy0:y ≤ 0:=by omega
   have hy9 : -9 ≤ y:=by omega
   have wy:IntKind.i64.wrap y=y:=IntWalk.i64_in _ (by omega)
   have wz:IntKind.i64.wrap z=z:=IntWalk.i64_in _ (by omega)
   have hsz2:¬ 9223372036854775807 < 1+(tx (dgt d :: l)).size:=by rw [tx_size];simp;omega
   have HB:=Lib.hid hb;have HDM:=Lib.hid hdm;have HQM:=Lib.hid hqm;have HY:=Lib.hid hy;have HZ:=Lib.hid hz
   have hd0:(0:Int) ≤ (d:Int):=by omega
   have hd9:(d:Int) ≤ 9:=by omega
   clear hb hll hdm hqm hx hz
   by_cases hd:d=0
   · have hy1:y=0:=by omega
     subst hy1
     have hdz:(d:Int)=0:=by omega
     subst hd
     have ot0:∀ w':World,(convert 73 9 (.slice (some ⟨w'.heap.size,0,none⟩) 1 1)).run Tryz.prog (w'.alloc (.cells #[.int .u8 48] 5))=.ok (.string ⟨#[dgt 0]⟩) (w'.alloc (.cells #[.int .u8 48] 5)):=fun w'=>by simpa using one_text 0 (by omega) w'
     clear hy hdz ot
     by_cases hq:q=0
     · exfalso;have h1:=HQM.out;have h2:=HDM.out;omega
     · have hz0:¬ z=0:=by have:=HZ.out;omega
       go_wp2
       refine ⟨⟨q,dgt 0 :: l,z,by omega, ?_,HZ,rfl,rfl,Lib.hid ?_,HB.out.alloc HB.out.size _⟩, ?_⟩
       · have:=HQM.out;omega
       · have h9:¬ m < 10:=by have:=HQM.out;omega
         rw [HD.out,dec_big h9,← HQM.out,← HDM.out];simp [dgt]
       · have h1:=HQM.out;have h2:=HZ.out;have h3:=HX.out;simp only [intOf];omega
   · have hy1:y < 0:=by omega
     have hny : -y=(d:Int):=by omega
     clear hy
     by_cases hq:q=0
     · have hz0:z=0:=by have:=HZ.out;omega
       subst hz0
       have hfin:Lib.itoa x0=45 :: dgt d :: l:=by
         have h9:m < 10:=by have:=HQM.out;have:=HZ.out;omega
         rw [HX0.out,HI.out,HD.out,dec_small h9,show m=d by have:=HDM.out;omega];rfl
       have HF:=Lib.hid hfin;clear hfin
       have tc2:=tx_cons 45 (dgt d :: l)
       have TC:=Lib.hid tc2;clear tc2
       go_wp2
       go_ret
       exact ⟨by rw [HF.out,← TC.out];rfl,HB.out.alloc HB.out.size _⟩
     · have hz0:¬ z=0:=by have:=HZ.out;omega
       go_wp2
       refine ⟨⟨q,dgt d :: l,z,by omega, ?_,HZ,rfl,rfl,Lib.hid ?_,HB.out.alloc HB.out.size _⟩, ?_⟩
       · have:=HQM.out;omega
       · have h9:¬ m < 10:=by have:=HQM.out;omega
         rw [HD.out,dec_big h9,← HQM.out,← HDM.out];simp [dgt]
       · have h1:=HQM.out;have h2:=HZ.out;have h3:=HX.out;simp only [intOf];omega
end Go.Proofs.YtnfdknhhkdphhaaGreatDoor
namespace Go.Proofs.YtnfdknhhkdphhaaGreatDoor
open Go.RowKit
theorem itoa_len {n:Int} (h0 : -9223372036854775808 ≤ n) (h1:n ≤ 9223372036854775807):(Lib.itoa n).length ≤ 20:=by
 unfold Lib.itoa
 split
 · have:=dec_len (u:=n.natAbs) (by omega);simp;omega
 · have:=dec_len (u:=n.toNat) (by omega);omega
theorem decimal_any (n:Int) (h0 : -9223372036854775808 ≤ n) (h1:n ≤ 9223372036854775807) (w:World):Calls Tryz.prog 124 #[.int .i64 n] w fun e w'=>e=.returned (.string (tx (Lib.itoa n)))∧Below w.heap.size w w':=by
 by_cases h:n < 0
 · obtain ⟨m,rfl⟩:∃ m:Nat,n = -(m:Int):=⟨n.natAbs,by omega⟩
   exact decimal_neg m (by omega) (by omega) w
 · obtain ⟨m,rfl⟩:∃ m:Nat,n=(m:Int):=⟨n.toNat,by omega⟩
   exact decimal_pos m (by omega) w
end Go.Proofs.YtnfdknhhkdphhaaGreatDoor
namespace Go.Proofs.YtnfdknhhkdphhaaGreatDoor
open Go.RowKit
structure SpPow (w:World):Prop where
 pow : Lib.TabIs Tryz.prog w "internal/strconv.uint64pow10" .u64 Lib.pow10Tab
theorem SpPow.later {w w':World} (h:SpPow w) (hb:Below w.heap.size w w'):SpPow w':=⟨Lib.tabBelow_of_tabIs h.pow w' hb⟩
theorem itoa_is (x:Int) (hx : -9223372036854775808 ≤ x∧x ≤ 9223372036854775807) (w:World) (hF:SpPow w):Calls Tryz.prog 114 #[.int .i64 x] w fun e w'=>e=.returned (.string (tx (Lib.itoa x)))∧Below w.heap.size w w':=by
 refine (Tryz.strconv_Itoa x hx.1 hx.2 w hF.pow).mono ?_
 rintro e w' ⟨rfl,k,os,rfl⟩
 exact ⟨rfl,Lib.below_grow _ _ (Nat.le_refl _) _ _⟩
namespace Sp
def repTx (a b:Int):List UInt8 :=
 if b = -1 then (if a=0 then [42] else if a=1 then [43] else [123] ++ Lib.itoa a ++ [44,125])
 else if a=0∧b=1 then [63]
 else if b=a then [123] ++ Lib.itoa a ++ [125]
 else [123] ++ Lib.itoa a ++ [44] ++ Lib.itoa b ++ [125]
theorem repTx_len (a b:Int) (ha : -9223372036854775808 ≤ a∧a ≤ 9223372036854775807) (hb : -9223372036854775808 ≤ b∧b ≤ 9223372036854775807):(repTx a b).length ≤ 43:=by
 have h1:=itoa_len ha.1 ha.2
 have h2:=itoa_len hb.1 hb.2
 unfold repTx
 split
 · split
   · simp
   · split <;> simp <;> omega
 · split
   · simp
   · split <;> simp <;> omega
mutual
def txT (S:Tr→List UInt8):Tr→List UInt8
 | .node k a b c d s n lo hi br =>
   if k=2 then S (.node k a b c d s n lo hi br)
   else if k=3 then [94]
   else if k=4 then [36]
   else if k=5 then txS S [] s
   else if k=6 then txS S [124] s
   else if k=7 then [40] ++ txS S [] s ++ [41]
   else if k=8 then txS S [] s ++ repTx lo hi
   else []
def txS (S:Tr→List UInt8) (sep:List UInt8):List Tr→List UInt8
 | []=>[]
 | t :: l=>txT S t ++ txR S sep l
def txR (S:Tr→List UInt8) (sep:List UInt8):List Tr→List UInt8
 | []=>[]
 | t :: l=>sep ++ txT S t ++ txR S sep l
end
mutual
def lvsT:Tr→List Tr
 | .node k a b c d s n lo hi br=>if k=2 then [.node k a b c d s n lo hi br] else lvsS s
def lvsS:List Tr→List Tr
 | []=>[]
 | t :: l=>lvsT t ++ lvsS l
end
theorem txR_snoc (S:Tr→List UInt8) (sep:List UInt8) (x:Tr):∀ l:List Tr,txR S sep (l ++ [x])=txR S sep l ++ (sep ++ txT S x)
 | []=>by simp [txR]
 | t :: l=>by rw [List.cons_append,txR,txR,txR_snoc S sep x l];simp
theorem txS_snoc (S:Tr→List UInt8) (sep:List UInt8) (x:Tr) (l:List Tr):txS S sep (l ++ [x])=txS S sep l ++ ((if l.length=0 then [] else sep) ++ txT S x):=by
 cases l with
 | nil=>simp [txS,txR]
 | cons t l=>rw [List.cons_append,txS,txS,txR_snoc];simp
theorem txS_take (S:Tr→List UInt8) (sep:List UInt8) (l:List Tr) (m:Nat) (x:Tr) (h:l[m]? = some x):txS S sep (l.take (m+1))=txS S sep (l.take m) ++ ((if m=0 then [] else sep) ++ txT S x):=by
 have hm:m < l.length:=by
   rcases Nat.lt_or_ge m l.length with h' | h'
   · exact h'
   · rw [List.getElem?_eq_none h'] at h;cases h
 rw [List.take_add_one,h,Option.toList_some,txS_snoc,List.length_take,Nat.min_eq_left (by omega)]
theorem txS_le (S:Tr→List UInt8) (sep:List UInt8) (l:List Tr):∀ n m,m+n=l.length→(txS S sep (l.take m)).length ≤ (txS S sep l).length
 | 0,m,h=>by rw [List.take_of_length_le (by omega)];exact Nat.le_refl _
 | n+1,m,h=>by
   have h1:=txS_le S sep l n (m+1) (by omega)
   rw [txS_take S sep l m l[m] (List.getElem?_eq_getElem (by omega)),List.length_append] at h1
   omega
theorem lvsS_mem {x u:Tr} : ∀ {l:List Tr},x ∈ l→u ∈ lvsT x→u ∈ lvsS l
 | [],h,_=>by cases h
 | t :: l,h,hu=>by
   rw [lvsS]
   rcases List.mem_cons.1 h with rfl | h
   · exact List.mem_append_left _ hu
   · exact List.mem_append_right _ (lvsS_mem h hu)
end Sp
theorem Bl.later {B b:Nat} {l:List UInt8} {w w':World} (h:Bl B b l w) (hb:Below w.heap.size w w'):Bl B b l w':=by
 have key:∀ p,Lib.BuilderAtF 75 5 B b p (Lib.byteCells l) w→Lib.BuilderAtF 75 5 B b p (Lib.byteCells l) w':=by
   rintro p ⟨hB,v,hbk,hown,hne⟩
   refine ⟨hB,v,keep_blk hb hbk,hown.kept (row:=none) ⟨hb.os,hb.tape,hb.output,hb.size,fun k hk _=>hb.block k hk⟩ ?_,hne⟩
   cases h:Value.ownBlock v with
   | none=>exact .inl rfl
   | some g=>exact .inr (by simp)
 exact h.elim (fun x=>.inl (key _ x)) (fun x=>.inr (key _ x))
theorem BlTo.of_below {B b:Nat} {w w':World} (hB:B ≤ w.heap.size) (h:Below w.heap.size w w'):BlTo B b w w' :=
 ⟨h.mono hB,fun k o hk _ _=>by rw [h.block k (Array.getElem?_eq_some_iff.1 hk).1];exact hk⟩
theorem Bl.lt {B b:Nat} {l:List UInt8} {w:World} (h:Bl B b l w):b < w.heap.size:=h.elim (fun x=>x.lt) (fun x=>x.lt)
theorem BlTo.node {B b k:Nat} {w w':World} {cs:Array Value} (h:BlTo B b w w') (hk:w.heap[k]? = some (.cells cs 28)) (hb:k ≠ b):w'.heap[k]? = some (.cells cs 28) :=
 h.2 k _ hk (fun e=>hb (Option.some.inj e)) (fun c fz e=>by injection e with e1 e2 e3;exact absurd e2 (by decide))
def WrEnd (B b:Nat) (l:List UInt8) (w:World) (e:Ending) (w':World):Prop:=e=.returned (.tuple #[])∧Bl B b l w'∧BlTo B b w w'
def WrSet (W0:World) (S:Tr→List UInt8) (x:Tr):Prop:=∀ (w:World) (b:Nat) (l:List UInt8),Below W0.heap.size W0 w→Bl W0.heap.size b l w→l.length+(S x).length ≤ 70368744177664 →
 Calls Tryz.prog 75 #[.pointer (some ⟨b,0,none⟩),(.agg #[.int .u64 (Oc.U (x.w0)),.int .u64 (Oc.U (x.w1)),.int .u64 (Oc.U (x.w2)),.int .u64 (Oc.U (x.w3))])] w (WrEnd W0.heap.size b (l ++ S x) w)
theorem sprepeat_any (a b:Int) (ha : -9223372036854775808 ≤ a∧a ≤ 9223372036854775807) (hb : -9223372036854775808 ≤ b∧b ≤ 9223372036854775807) (w:World) (hF:SpPow w) :
   Calls Tryz.prog 79 #[.int .i64 a,.int .i64 b] w fun e w'=>e=.returned (.string (tx (Sp.repTx a b)))∧Below w.heap.size w w':=by
 have HA:=Lib.hid (fun w' (h:Below w.heap.size w w')=>itoa_is a ha w' (hF.later h))
 have HB:=Lib.hid (fun w' (h:Below w.heap.size w w')=>itoa_is b hb w' (hF.later h))
 have H0:=Lib.hid (Below.refl w.heap.size w)
 obtain ⟨R,hR⟩:∃ R,Sp.repTx a b=R:=⟨_,rfl⟩
 rw [hR]
 have hla:(tx (Lib.itoa a)).size ≤ 20:=by rw [tx_size];exact itoa_len ha.1 ha.2
 have hlb:(tx (Lib.itoa b)).size ≤ 20:=by rw [tx_size];exact itoa_len hb.1 hb.2
 unfold Sp.repTx at hR
 generalize hda:Lib.itoa a=da at *
 generalize hdb:Lib.itoa b=db at *
 clear hda hdb ha hb hF
 by_cases hb1:b = -1
 · rw [if_pos hb1] at hR
   subst hb1
   by_cases ha0:a=0
   · rw [if_pos ha0] at hR
     subst ha0;subst hR
     go_enter Tryz.func79,Tryz.ntmps79
     go_wp2
     go_ret
     exact ⟨rfl,H0.out⟩
   · rw [if_neg ha0] at hR
     have e0:(a == 0)=false:=by simpa using ha0
     by_cases ha1:a=1
     · rw [if_pos ha1] at hR
       subst ha1;subst hR
       clear e0
       go_enter Tryz.func79,Tryz.ntmps79
       go_wp2
       go_ret
       exact ⟨rfl,H0.out⟩
     · rw [if_neg ha1] at hR
       have e1:(a == 1)=false:=by simpa using ha1
       have HR:=Lib.hid hR
       clear hR ha0 ha1
       go_enter Tryz.func79,Tryz.ntmps79
       go_wp2_with fail
       refine (HA.out _ H0.out).mono ?_;rintro e w1 ⟨rfl,hb1⟩
       have HB1:=Lib.hid hb1
       clear hb1
       go_wp2
       go_ret
       refine ⟨?_,HB1.out⟩
       rw [← HR.out]
       exact congrArg (fun s=>Ending.returned (.string s)) (ba_mk (by simp [tx,ByteArray.data_append]))
 · rw [if_neg hb1] at hR
   have eb1:(b == -1)=false:=by simpa using hb1
   clear hb1
   by_cases h01:a=0∧b=1
   · rw [if_pos h01] at hR
     obtain ⟨rfl,rfl⟩:=h01
     subst hR
     clear eb1
     go_enter Tryz.func79,Tryz.ntmps79
     go_wp2
     go_ret
     exact ⟨rfl,H0.out⟩
   · rw [if_neg h01] at hR
     by_cases hab:b=a
     · rw [if_pos hab] at hR
       subst hab
       have HR:=Lib.hid hR
       clear hR
       have hx:(b == 0 && b == 1)=false:=by
         rw [Bool.eq_false_iff];intro h;simp only [Bool.and_eq_true,beq_iff_eq] at h;omega
       cases e0:(b == 0) <;> cases e1:(b == 1) <;> first
         | (rw [e0,e1] at hx;cases hx;done)
         | (clear h01 hx
            go_enter Tryz.func79,Tryz.ntmps79
            go_wp2_with fail
            refine (HA.out _ H0.out).mono ?_;rintro e w1 ⟨rfl,hb1⟩
            have HB1:=Lib.hid hb1
            clear hb1
            go_wp2
            go_ret
            refine ⟨?_,HB1.out⟩
            rw [← HR.out]
            exact congrArg (fun s=>Ending.returned (.string s)) (ba_mk (by simp [tx,ByteArray.data_append])))
     · rw [if_neg hab] at hR
       have HR:=Lib.hid hR
       have eab:(b == a)=false:=by simpa using hab
       clear hR hab
       have hx:(a == 0 && b == 1)=false:=by
         rw [Bool.eq_false_iff];intro h;simp only [Bool.and_eq_true,beq_iff_eq] at h;exact h01 h
       clear h01
       cases e0:(a == 0) <;> cases e1:(b == 1) <;> cases e2:(a == 1) <;> first
         | (rw [e0,e1] at hx;cases hx;done)
         | (clear hx
            go_enter Tryz.func79,Tryz.ntmps79
            go_wp2_with fail
            refine (HA.out _ H0.out).mono ?_;rintro e w1 ⟨rfl,hb1⟩
            have HB1:=Lib.hid hb1
            clear hb1
            go_wp2_with fail
            refine (HB.out _ HB1.out).mono ?_;rintro e w2 ⟨rfl,hb2⟩
            have HB2:=Lib.hid (HB1.out.trans (hb2.mono HB1.out.size))
            clear hb2
            go_wp2
            go_ret
            refine ⟨?_,HB2.out⟩
            rw [← HR.out]
            exact congrArg (fun s=>Ending.returned (.string s)) (ba_mk (by simp [tx,ByteArray.data_append])))
end Go.Proofs.YtnfdknhhkdphhaaGreatDoor
namespace Go.Proofs.YtnfdknhhkdphhaaGreatDoor
open Go.RowKit
def WrT (W0:World) (S:Tr→List UInt8) (t:Tr):Prop:=∀ (v:Value) (C:Nat→Prop) (w:World) (b:Nat) (l:List UInt8),NodeV W0 C v t→Below W0.heap.size W0 w→Bl W0.heap.size b l w→l.length+(Sp.txT S t).length ≤ 70368744177664 →
 Calls Tryz.prog 37 #[.pointer (some ⟨b,0,none⟩),v] w (WrEnd W0.heap.size b (l ++ Sp.txT S t) w)
theorem writesubs_of (W0:World) (S:Tr→List UInt8) (t:Tr) (ih:∀ u,u ∈ t.subs→WrT W0 S u) (sep:List UInt8) (v:Value) (C:Nat→Prop) (w:World) (b:Nat) (l:List UInt8) (hv:NodeV W0 C v t) (hb:Below W0.heap.size W0 w) (hl:Bl W0.heap.size b l w) (hlen:l.length+(Sp.txS S sep t.subs).length ≤ 70368744177664) :
   Calls Tryz.prog 77 #[.pointer (some ⟨b,0,none⟩),v,.string (tx sep)] w (WrEnd W0.heap.size b (l ++ Sp.txS S sep t.subs) w):=by
 obtain ⟨s,rfl,hs⟩:=hv
 obtain ⟨p,cap,rfl,hlens⟩:=hs.slice
 generalize hts:t.subs=ts at *
 have IH:=Lib.hid ih;have HS:=Lib.hid hs
 clear ih hs hts
 unfold Tr.cells at *
 have HBS:=Lib.hid blstr_any
 have hwz:=hb.size
 have hbw:Below W0.heap.size w (w.alloc (.cells #[.int .i64 t.kind,.int .u64 (Oc.U t.w0),.int .u64 (Oc.U t.w1),.int .u64 (Oc.U t.w2),.int .u64 (Oc.U t.w3),.slice p ts.length cap,.int .i64 t.num,.int .i64 t.least,.int .i64 t.most,.bool t.bare] 28)):=(Below.refl _ _).alloc hwz _
 have hbw2:Below w.heap.size w (w.alloc (.cells #[.int .i64 t.kind,.int .u64 (Oc.U t.w0),.int .u64 (Oc.U t.w1),.int .u64 (Oc.U t.w2),.int .u64 (Oc.U t.w3),.slice p ts.length cap,.int .i64 t.num,.int .i64 t.least,.int .i64 t.most,.bool t.bare] 28)):=(Below.refl _ _).alloc (Nat.le_refl _) _
 have HW:=Lib.hid (hb.trans hbw)
 have HL0:=Lib.hid (hl.later hbw2)
 have HT0:=Lib.hid (BlTo.of_below (b:=b) hwz hbw2)
 have hbl:b < w.heap.size:=hl.lt
 have hsz0:(w.alloc (.cells #[.int .i64 t.kind,.int .u64 (Oc.U t.w0),.int .u64 (Oc.U t.w1),.int .u64 (Oc.U t.w2),.int .u64 (Oc.U t.w3),.slice p ts.length cap,.int .i64 t.num,.int .i64 t.least,.int .i64 t.most,.bool t.bare] 28)).heap.size=w.heap.size+1:=by simp
 clear hb hl hbw hbw2
 go_enter Tryz.func77,Tryz.ntmps77
 go_wp2
 generalize w.alloc (.cells #[.int .i64 t.kind,.int .u64 (Oc.U t.w0),.int .u64 (Oc.U t.w1),.int .u64 (Oc.U t.w2),.int .u64 (Oc.U t.w3),.slice p ts.length cap,.int .i64 t.num,.int .i64 t.least,.int .i64 t.most,.bool t.bare] 28)=W1 at *
 go_loopw [11] (fun iv wr=>∃ m:Nat,iv=.int .i64 m∧m ≤ ts.length∧Hid (Below W0.heap.size W0 wr)∧Hid (Bl W0.heap.size b (l ++ Sp.txS S sep (ts.take m)) wr)∧Hid (BlTo W0.heap.size b w wr)) (fun iv _=>ts.length - (intOf iv).toNat)
 case atStart=>exact ⟨0,rfl,Nat.zero_le _,HW,Lib.hid (by simpa [Sp.txS] using HL0.out),HT0⟩
 case round =>
   obtain ⟨m,rfl,hm,HB,HL,HT⟩:=hrel
   have wm:IntKind.i64.wrap ((m:Int)+1)=(m:Int)+1:=IntWalk.i64_in _ (by omega)
   by_cases hlt:m < ts.length
   · obtain ⟨x,hx⟩:∃ x,ts[m]? = some x:=⟨_,List.getElem?_eq_getElem hlt⟩
     obtain ⟨b1,o1,s1,rfl,-,t1,sub1⟩:=HS.out.get hx
     obtain ⟨d0,d1,d2,d3,d4,d5,d6,d7,d8,d9⟩:=t1.keep (HB.out.block _ t1.lt)
     have hmem:=List.mem_of_getElem? hx
     obtain ⟨p1,c1,rfl,hl1⟩:=sub1.slice
     have hst:=Sp.txS_take S sep ts m x hx
     have hle:=Sp.txS_le S sep ts (ts.length - (m+1)) (m+1) (by omega)
     have HC:=Lib.hid (IH.out x hmem (.agg (x.cells (.slice p1 x.subs.length c1))) C)
     have HV:=Lib.hid (show NodeV W0 C (.agg (x.cells (.slice p1 x.subs.length c1))) x from ⟨_,rfl,sub1⟩)
     clear t1 sub1 hmem hx
     have hwzr:=HB.out.size
     have hbx:Below wr.heap.size wr (wr.alloc (.cells #[.int .i64 x.kind,.int .u64 (Oc.U x.w0),.int .u64 (Oc.U x.w1),.int .u64 (Oc.U x.w2),.int .u64 (Oc.U x.w3),.slice p1 x.subs.length c1,.int .i64 x.num,.int .i64 x.least,.int .i64 x.most,.bool x.bare] 28)):=(Below.refl _ _).alloc (Nat.le_refl _) _
     have HBX:=Lib.hid (HB.out.trans (hbx.mono hwzr))
     have HLX:=Lib.hid (HL.out.later hbx)
     have HTX:=Lib.hid (HT.out.trans (BlTo.of_below (b:=b) hwzr hbx))
     have hzx:=heap_alloc_new wr (.cells #[.int .i64 x.kind,.int .u64 (Oc.U x.w0),.int .u64 (Oc.U x.w1),.int .u64 (Oc.U x.w2),.int .u64 (Oc.U x.w3),.slice p1 x.subs.length c1,.int .i64 x.num,.int .i64 x.least,.int .i64 x.most,.bool x.bare] 28)
     have HZX:=Lib.hid hzx
     have hnb:wr.heap.size ≠ b:=by have:=HL.out.lt;omega
     clear hbx hzx HL HT HB
     unfold Tr.cells at HC HV
     go_upto_if 17 with (fail)
     generalize wr.alloc (.cells #[.int .i64 x.kind,.int .u64 (Oc.U x.w0),.int .u64 (Oc.U x.w1),.int .u64 (Oc.U x.w2),.int .u64 (Oc.U x.w3),.slice p1 x.subs.length c1,.int .i64 x.num,.int .i64 x.least,.int .i64 x.most,.bool x.bare] 28)=w1 at *
     clear d0 d1 d2 d3 d4 d5 d6 d7 d8 d9
     generalize hT:Sp.txS S sep (ts.take m)=T at *
     generalize hX:Sp.txT S x=X at *
     go_cut [17] (fun _ wx=>Hid (Below W0.heap.size W0 wx)∧Hid (Bl W0.heap.size b (l ++ (T ++ (if m=0 then [] else sep))) wx)∧Hid (BlTo W0.heap.size b w wx)∧Hid (wx.heap[wr.heap.size]? = some (.cells #[.int .i64 x.kind,.int .u64 (Oc.U x.w0),.int .u64 (Oc.U x.w1),.int .u64 (Oc.U x.w2),.int .u64 (Oc.U x.w3),.slice p1 x.subs.length c1,.int .i64 x.num,.int .i64 x.least,.int .i64 x.most,.bool x.bare] 28)))
     case first =>
       by_cases h0:m=0
       · subst h0
         go_wp2
         go_meet
         exact ⟨HBX,Lib.hid (by simpa using HLX.out),HTX,HZX⟩
       · have hd:decide ((0:Int) < (m:Int))=true:=by simp;omega
         have hd':decide (0 < m)=true:=by simp;omega
         rw [hst,if_neg h0] at hle
         have hl2:(l ++ T).length+(tx sep).size ≤ 140737488355328:=by rw [tx_size];simp only [List.length_append] at hle ⊢;omega
         go_wp2_with fail
         refine (HBS.out W0.heap.size b (l ++ T) (tx sep) _ HLX.out hl2 HBX.out.size).mono ?_;rintro e w2 ⟨rfl,h2,t2⟩
         have H2:=Lib.hid h2;have T2:=Lib.hid t2
         clear h2 t2
         go_wp2
         go_meet
         refine ⟨Lib.hid (HBX.out.trans T2.out.1),Lib.hid ?_,Lib.hid (HTX.out.trans T2.out),Lib.hid (T2.out.node HZX.out hnb)⟩
         rw [if_neg h0]
         have:=H2.out
         rw [List.append_assoc] at this
         exact this
     case rest =>
       obtain ⟨HB2,HL2,HT2,HZ2⟩:=hcut
       clear HBX HLX HTX HZX
       obtain ⟨d0,d1,d2,d3,d4,d5,d6,d7,d8,d9⟩:=allTen HZ2.out
       rw [hst] at hle
       have hl3:(l ++ (T ++ (if m=0 then [] else sep))).length+X.length ≤ 70368744177664:=by simp only [List.length_append] at hle ⊢;omega
       have hCall:=HC.out _ b _ HV.out HB2.out HL2.out hl3
       have HCL:=Lib.hid hCall
       have hbz:=HL2.out.lt
       clear hCall HC
       go_wp2_with fail
       refine HCL.out.mono ?_;rintro e w3 ⟨rfl,h3,t3⟩
       have H3:=Lib.hid h3;have T3:=Lib.hid t3
       clear h3 t3 d0 d1 d2 d3 d4 d5 d6 d7 d8 d9 HCL
       go_wp2
       refine ⟨⟨m+1,by go_num,by omega,Lib.hid (HB2.out.trans T3.out.1),Lib.hid ?_,Lib.hid (HT2.out.trans T3.out)⟩,by simp [intOf];omega⟩
       rw [hst]
       have:=H3.out
       simpa [List.append_assoc] using this
   · obtain rfl:m=ts.length:=by omega
     rw [List.take_length] at *
     go_wp2
     go_end0
     exact ⟨rfl,HL.out,HT.out⟩
theorem writetree_any (W0:World) (hF:SpPow W0) (S:Tr→List UInt8):∀ t:Tr,t.InForm→(∀ x,x ∈ Sp.lvsT t→WrSet W0 S x)→WrT W0 S t:=by
 intro t
 induction t using Tr.rec_subs with
 | h t ih =>
   intro hf hset v C w b l hv hb hl hlen
   have hsubs:∀ u,u ∈ t.subs→t.kind ≠ 2→WrT W0 S u:=fun u hu hk=>ih u hu (hf.sub hu) fun x hx=>hset x (by
     cases t with | node k a b c d s n lo hi br =>
     rw [Sp.lvsT,if_neg (show ¬ k=2 from hk)]
     exact Sp.lvsS_mem hu hx)
   have hfl:=hf.fields
   have HV:=Lib.hid hv
   obtain ⟨s,rfl,hs⟩:=hv
   obtain ⟨p,cap,rfl,hlens⟩:=hs.slice
   have hset2:t.kind=2→WrSet W0 S t:=fun hk=>hset t (by
     cases t with | node k a b c d s n lo hi br =>
     rw [Sp.lvsT,if_pos (show k=2 from hk)];exact List.mem_cons_self)
   clear ih hset hf hs
   have HWS:=Lib.hid (fun (h2:t.kind ≠ 2)=>writesubs_of W0 S t (fun u hu=>hsubs u hu h2))
   have HSET:=Lib.hid hset2
   have HBB:=Lib.hid blbyte_any;have HBS:=Lib.hid blstr_any
   have hF':=Lib.hid hF
   clear hsubs hset2 hF
   have hwz:=hb.size
   have hbw:Below W0.heap.size w (w.alloc (.cells #[.int .i64 t.kind,.int .u64 (Oc.U t.w0),.int .u64 (Oc.U t.w1),.int .u64 (Oc.U t.w2),.int .u64 (Oc.U t.w3),.slice p t.subs.length cap,.int .i64 t.num,.int .i64 t.least,.int .i64 t.most,.bool t.bare] 28)):=(Below.refl _ _).alloc hwz _
   have hbw2:Below w.heap.size w (w.alloc (.cells #[.int .i64 t.kind,.int .u64 (Oc.U t.w0),.int .u64 (Oc.U t.w1),.int .u64 (Oc.U t.w2),.int .u64 (Oc.U t.w3),.slice p t.subs.length cap,.int .i64 t.num,.int .i64 t.least,.int .i64 t.most,.bool t.bare] 28)):=(Below.refl _ _).alloc (Nat.le_refl _) _
   have HW:=Lib.hid (hb.trans hbw)
   have HL0:=Lib.hid (hl.later hbw2)
   have HT0:=Lib.hid (BlTo.of_below (b:=b) hwz hbw2)
   have HZ0:=Lib.hid (heap_alloc_new w (.cells #[.int .i64 t.kind,.int .u64 (Oc.U t.w0),.int .u64 (Oc.U t.w1),.int .u64 (Oc.U t.w2),.int .u64 (Oc.U t.w3),.slice p t.subs.length cap,.int .i64 t.num,.int .i64 t.least,.int .i64 t.most,.bool t.bare] 28))
   have hnb:w.heap.size ≠ b:=by have:=hl.lt;omega
   clear hb hl hbw hbw2
   have htx:Sp.txT S t=if t.kind=2 then S t else if t.kind=3 then [94] else if t.kind=4 then [36] else if t.kind=5 then Sp.txS S [] t.subs else if t.kind=6 then Sp.txS S [124] t.subs else if t.kind=7 then [40] ++ Sp.txS S [] t.subs ++ [41] else if t.kind=8 then Sp.txS S [] t.subs ++ Sp.repTx t.least t.most else []:=by
     cases t;rw [Sp.txT];rfl
   rw [htx] at hlen ⊢
   clear htx
   have hk:t.kind=1 ∨ t.kind=2 ∨ t.kind=3 ∨ t.kind=4 ∨ t.kind=5 ∨ t.kind=6 ∨ t.kind=7 ∨ (t.kind=8∧(0 ≤ t.least∧t.least ≤ 255)∧(t.most = -1 ∨ t.least ≤ t.most∧t.most ≤ 255)):=by
     unfold Tr.fieldsOk at hfl
     rcases hfl with ⟨h | h | h,-⟩ | ⟨h,-⟩ | ⟨h | h,-⟩ | ⟨h,-⟩ | ⟨h,-,-,-,-,-,-,h1,h2,h3,-⟩
     · exact .inl h
     · exact .inr (.inr (.inl h))
     · exact .inr (.inr (.inr (.inl h)))
     · exact .inr (.inl h)
     · exact .inr (.inr (.inr (.inr (.inl h))))
     · exact .inr (.inr (.inr (.inr (.inr (.inl h)))))
     · exact .inr (.inr (.inr (.inr (.inr (.inr (.inl h))))))
     · exact .inr (.inr (.inr (.inr (.inr (.inr (.inr ⟨h,⟨h1,h2⟩,h3⟩))))))
   clear hfl
   have hb3:b < w.heap.size+1:=by have:=HL0.out.lt;simp at this;omega
   unfold Tr.cells at *
   generalize t.kind=K at *
   rcases hk with rfl | rfl | rfl | rfl | rfl | rfl | rfl | ⟨rfl,hlo,hhi⟩
   · simp only [reduceIte,Int.reduceEq] at hlen ⊢
     obtain ⟨d0,d1,d2,d3,d4,d5,d6,d7,d8,d9⟩:=allTen HZ0.out
     go_enter Tryz.func37,Tryz.ntmps37
     go_upto_region 1 with (fail)
     generalize w.alloc (.cells #[.int .i64 1,.int .u64 (Oc.U t.w0),.int .u64 (Oc.U t.w1),.int .u64 (Oc.U t.w2),.int .u64 (Oc.U t.w3),.slice p t.subs.length cap,.int .i64 t.num,.int .i64 t.least,.int .i64 t.most,.bool t.bare] 28)=W1 at *
     go_wp2
     go_end0
     exact ⟨rfl,by simpa using HL0.out,HT0.out⟩
   · simp only [reduceIte,Int.reduceEq] at hlen ⊢
     obtain ⟨d0,d1,d2,d3,d4,d5,d6,d7,d8,d9⟩:=allTen HZ0.out
     go_enter Tryz.func37,Tryz.ntmps37
     go_upto_region 1 with (fail)
     generalize w.alloc (.cells #[.int .i64 2,.int .u64 (Oc.U t.w0),.int .u64 (Oc.U t.w1),.int .u64 (Oc.U t.w2),.int .u64 (Oc.U t.w3),.slice p t.subs.length cap,.int .i64 t.num,.int .i64 t.least,.int .i64 t.most,.bool t.bare] 28)=W1 at *
     have HC:=Lib.hid (HSET.out rfl _ b l HW.out HL0.out hlen)
     clear HSET
     go_wp2_with fail
     refine HC.out.mono ?_;rintro e w2 ⟨rfl,h2,t2⟩
     have H2:=Lib.hid h2;have T2:=Lib.hid (HT0.out.trans t2)
     clear h2 t2
     go_wp2
     go_end0
     exact ⟨rfl,H2.out,T2.out⟩
   · simp only [reduceIte,Int.reduceEq] at hlen ⊢
     obtain ⟨d0,d1,d2,d3,d4,d5,d6,d7,d8,d9⟩:=allTen HZ0.out
     go_enter Tryz.func37,Tryz.ntmps37
     go_upto_region 1 with (fail)
     generalize w.alloc (.cells #[.int .i64 3,.int .u64 (Oc.U t.w0),.int .u64 (Oc.U t.w1),.int .u64 (Oc.U t.w2),.int .u64 (Oc.U t.w3),.slice p t.subs.length cap,.int .i64 t.num,.int .i64 t.least,.int .i64 t.most,.bool t.bare] 28)=W1 at *
     have hl1:l.length+1 ≤ 140737488355328:=by simp at hlen;omega
     go_wp2_with fail
     refine (HBB.out W0.heap.size b l 94 (by omega) _ HL0.out hl1 HW.out.size).mono ?_;rintro e w2 ⟨rfl,h2,t2⟩
     have H2:=Lib.hid h2;have T2:=Lib.hid (HT0.out.trans t2)
     clear h2 t2
     go_wp2
     go_end0
     exact ⟨rfl,H2.out,T2.out⟩
   · simp only [reduceIte,Int.reduceEq] at hlen ⊢
     obtain ⟨d0,d1,d2,d3,d4,d5,d6,d7,d8,d9⟩:=allTen HZ0.out
     go_enter Tryz.func37,Tryz.ntmps37
     go_upto_region 1 with (fail)
     generalize w.alloc (.cells #[.int .i64 4,.int .u64 (Oc.U t.w0),.int .u64 (Oc.U t.w1),.int .u64 (Oc.U t.w2),.int .u64 (Oc.U t.w3),.slice p t.subs.length cap,.int .i64 t.num,.int .i64 t.least,.int .i64 t.most,.bool t.bare] 28)=W1 at *
     have hl1:l.length+1 ≤ 140737488355328:=by simp at hlen;omega
     go_wp2_with fail
     refine (HBB.out W0.heap.size b l 36 (by omega) _ HL0.out hl1 HW.out.size).mono ?_;rintro e w2 ⟨rfl,h2,t2⟩
     have H2:=Lib.hid h2;have T2:=Lib.hid (HT0.out.trans t2)
     clear h2 t2
     go_wp2
     go_end0
     exact ⟨rfl,H2.out,T2.out⟩
   · simp only [reduceIte,Int.reduceEq] at hlen ⊢
     obtain ⟨d0,d1,d2,d3,d4,d5,d6,d7,d8,d9⟩:=allTen HZ0.out
     go_enter Tryz.func37,Tryz.ntmps37
     go_upto_region 1 with (fail)
     generalize w.alloc (.cells #[.int .i64 5,.int .u64 (Oc.U t.w0),.int .u64 (Oc.U t.w1),.int .u64 (Oc.U t.w2),.int .u64 (Oc.U t.w3),.slice p t.subs.length cap,.int .i64 t.num,.int .i64 t.least,.int .i64 t.most,.bool t.bare] 28)=W1 at *
     have HC:=Lib.hid (HWS.out (by decide) [] _ C W1 b l HV.out HW.out HL0.out hlen)
     clear HWS
     go_wp2_with fail
     refine HC.out.mono ?_;rintro e w2 ⟨rfl,h2,t2⟩
     have H2:=Lib.hid h2;have T2:=Lib.hid (HT0.out.trans t2)
     clear h2 t2
     go_wp2
     go_end0
     exact ⟨rfl,H2.out,T2.out⟩
   · simp only [reduceIte,Int.reduceEq] at hlen ⊢
     obtain ⟨d0,d1,d2,d3,d4,d5,d6,d7,d8,d9⟩:=allTen HZ0.out
     go_enter Tryz.func37,Tryz.ntmps37
     go_upto_region 1 with (fail)
     generalize w.alloc (.cells #[.int .i64 6,.int .u64 (Oc.U t.w0),.int .u64 (Oc.U t.w1),.int .u64 (Oc.U t.w2),.int .u64 (Oc.U t.w3),.slice p t.subs.length cap,.int .i64 t.num,.int .i64 t.least,.int .i64 t.most,.bool t.bare] 28)=W1 at *
     have HC:=Lib.hid (HWS.out (by decide) [124] _ C W1 b l HV.out HW.out HL0.out hlen)
     clear HWS
     go_wp2_with fail
     refine HC.out.mono ?_;rintro e w2 ⟨rfl,h2,t2⟩
     have H2:=Lib.hid h2;have T2:=Lib.hid (HT0.out.trans t2)
     clear h2 t2
     go_wp2
     go_end0
     exact ⟨rfl,H2.out,T2.out⟩
   · simp only [reduceIte,Int.reduceEq] at hlen ⊢
     obtain ⟨d0,d1,d2,d3,d4,d5,d6,d7,d8,d9⟩:=allTen HZ0.out
     go_enter Tryz.func37,Tryz.ntmps37
     go_upto_region 1 with (fail)
     generalize w.alloc (.cells #[.int .i64 7,.int .u64 (Oc.U t.w0),.int .u64 (Oc.U t.w1),.int .u64 (Oc.U t.w2),.int .u64 (Oc.U t.w3),.slice p t.subs.length cap,.int .i64 t.num,.int .i64 t.least,.int .i64 t.most,.bool t.bare] 28)=W1 at *
     simp only [List.length_append,List.length_cons,List.length_nil] at hlen
     go_wp2_with fail
     refine (HBB.out W0.heap.size b l 40 (by omega) _ HL0.out (by omega) HW.out.size).mono ?_;rintro e w2 ⟨rfl,h2,t2⟩
     have H2:=Lib.hid h2;have T2:=Lib.hid (HT0.out.trans t2);have B2:=Lib.hid (HW.out.trans t2.1)
     have HZ2:=Lib.hid (t2.node HZ0.out hnb)
     clear h2 t2 d0 d1 d2 d3 d4 d5 d6 d7 d8 d9
     obtain ⟨d0,d1,d2,d3,d4,d5,d6,d7,d8,d9⟩:=allTen HZ2.out
     have HC:=Lib.hid (HWS.out (by decide) [] _ C w2 b _ HV.out B2.out H2.out (by simp only [List.length_append,List.length_cons,List.length_nil];omega))
     clear HWS
     go_wp2_with fail
     refine HC.out.mono ?_;rintro e w3 ⟨rfl,h3,t3⟩
     have H3:=Lib.hid h3;have T3:=Lib.hid (T2.out.trans t3);have B3:=Lib.hid (B2.out.trans t3.1)
     clear h3 t3 HC
     go_wp2_with fail
     refine (HBB.out W0.heap.size b _ 41 (by omega) _ H3.out (by simp only [List.length_append,List.length_cons,List.length_nil];omega) B3.out.size).mono ?_;rintro e w4 ⟨rfl,h4,t4⟩
     have H4:=Lib.hid h4;have T4:=Lib.hid (T3.out.trans t4)
     clear h4 t4
     go_wp2
     go_end0
     exact ⟨rfl,by simpa using H4.out,T4.out⟩
   · simp only [reduceIte,Int.reduceEq] at hlen ⊢
     obtain ⟨d0,d1,d2,d3,d4,d5,d6,d7,d8,d9⟩:=allTen HZ0.out
     go_enter Tryz.func37,Tryz.ntmps37
     go_upto_region 1 with (fail)
     generalize w.alloc (.cells #[.int .i64 8,.int .u64 (Oc.U t.w0),.int .u64 (Oc.U t.w1),.int .u64 (Oc.U t.w2),.int .u64 (Oc.U t.w3),.slice p t.subs.length cap,.int .i64 t.num,.int .i64 t.least,.int .i64 t.most,.bool t.bare] 28)=W1 at *
     have hrl:=Sp.repTx_len t.least t.most (by omega) (by omega)
     simp only [List.length_append] at hlen
     have HC:=Lib.hid (HWS.out (by decide) [] _ C W1 b l HV.out HW.out HL0.out (by omega))
     clear HWS
     go_wp2_with fail
     refine HC.out.mono ?_;rintro e w2 ⟨rfl,h2,t2⟩
     have H2:=Lib.hid h2;have T2:=Lib.hid (HT0.out.trans t2);have B2:=Lib.hid (HW.out.trans t2.1)
     have HZ2:=Lib.hid (t2.node HZ0.out hnb)
     clear h2 t2 d0 d1 d2 d3 d4 d5 d6 d7 d8 d9 HC
     obtain ⟨d0,d1,d2,d3,d4,d5,d6,d7,d8,d9⟩:=allTen HZ2.out
     have HR:=Lib.hid (sprepeat_any t.least t.most (by omega) (by omega) w2 (hF'.out.later B2.out))
     go_wp2_with fail
     refine HR.out.mono ?_;rintro e w3 ⟨rfl,hb3⟩
     have H3:=Lib.hid (H2.out.later hb3);have T3:=Lib.hid (T2.out.trans (BlTo.of_below (b:=b) B2.out.size hb3));have B3:=Lib.hid (B2.out.trans (hb3.mono B2.out.size))
     clear hb3 HR
     go_wp2_with fail
     refine (HBS.out W0.heap.size b _ (tx (Sp.repTx t.least t.most)) _ H3.out (by rw [tx_size];simp only [List.length_append];omega) B3.out.size).mono ?_;rintro e w4 ⟨rfl,h4,t4⟩
     have H4:=Lib.hid h4;have T4:=Lib.hid (T3.out.trans t4)
     clear h4 t4
     go_wp2
     go_end0
     exact ⟨rfl,by rw [← List.append_assoc];exact H4.out,T4.out⟩
end Go.Proofs.YtnfdknhhkdphhaaGreatDoor
namespace Go.Proofs.YtnfdknhhkdphhaaGreatDoor
open Go.RowKit
structure Tidy (t:Tr):Prop where
 form:t.InForm
 deep:t.dpT ≤ 200
 size:t.szT ≤ 2000
 few:t.numsT.length ≤ 1000000
 nums:∀ i:Nat,i < t.numsT.length→t.numsT[i]? = some ((i:Int)+1)
 shape:t.shapeT=true
theorem tidy_yes (t:Tr) (ht:Tidy t) (w:World) (B:Nat→Prop) (v:Value) (hv:NodeV w B v t):Calls Tryz.prog 18 #[v] w fun e w'=>e=.returned (.bool true)∧Below w.heap.size w w':=by
 obtain ⟨s,rfl,hs⟩:=hv
 have H1:=Lib.hid (fun w' (hb:Below w.heap.size w w')=>check_any t ht.form ht.deep ht.size w' B (.agg (t.cells s)) ⟨s,rfl,TreesAt.later (w':=w') hs hb⟩)
 have H2:=Lib.hid (fun w' (hb:Below w.heap.size w w')=>isspellable_yes t ht.few ht.nums w' B (.agg (t.cells s)) ⟨s,rfl,TreesAt.later (w':=w') hs hb⟩)
 rw [ht.shape] at H2
 obtain ⟨p,cap,rfl,hlen⟩:=hs.slice
 have Z0:=Lib.hid (heap_alloc_new w (.cells (t.cells (.slice p t.subs.length cap)) 28))
 have HW:=Lib.hid (show Below w.heap.size w (w.alloc (.cells (t.cells (.slice p t.subs.length cap)) 28)) from (Below.refl _ _).alloc (Nat.le_refl _) _)
 clear hs ht
 unfold Tr.cells at *
 go_enter Tryz.func18,Tryz.ntmps18
 go_wp2_with (first
   | (refine wpList_load_row rfl 28 (.tmp 1) rfl w.heap.size rfl 28 _ (0,0) _ Z0.out Tryz.underlying28 rfl (by kernel_rfl) ?_)
   | fail)
 refine (H1.out _ HW.out).mono ?_
 rintro e w1 ⟨rfl,hb1⟩
 have Z1:=Lib.hid (keep_blk (hb1.mono (Nat.le_refl _)) Z0.out)
 have HB1:=Lib.hid (HW.out.trans (hb1.mono HW.out.size))
 obtain ⟨d0,d1,d2,d3,d4,d5,d6,d7,d8,d9⟩:=allTen Z1.out
 clear hb1 Z0 H1
 go_wp2_with fail
 refine (H2.out _ HB1.out).mono ?_
 rintro e w2 ⟨rfl,hb2⟩
 have HB2:=Lib.hid (HB1.out.trans (hb2.mono HB1.out.size))
 clear hb2
 go_wp2
 go_ret
 exact ⟨rfl,HB2.out⟩
theorem ere_yes (t:Tr) (ht:Tidy t) (hn:t.nestT ≤ 32) (S:Tr→List UInt8) (w:World) (hF:SpPow w) (hS:∀ w0,Below w.heap.size w w0→∀ x,x ∈ Sp.lvsT t→WrSet w0 S x) (hlen:(Sp.txT S t).length ≤ 1024) (B:Nat→Prop) (v:Value) (hv:NodeV w B v t) :
   Calls Tryz.prog 16 #[v] w fun e w'=>e=.returned (.tuple #[.string (tx (Sp.txT S t)),.nilIface])∧Below w.heap.size w w':=by
 obtain ⟨s,rfl,hs⟩:=hv
 have H1:=Lib.hid (fun w' (hb:Below w.heap.size w w')=>check_any t ht.form ht.deep ht.size w' B (.agg (t.cells s)) ⟨s,rfl,TreesAt.later (w':=w') hs hb⟩)
 have H2:=Lib.hid (fun w' (hb:Below w.heap.size w w')=>isspellable_yes t ht.few ht.nums w' B (.agg (t.cells s)) ⟨s,rfl,TreesAt.later (w':=w') hs hb⟩)
 rw [ht.shape] at H2
 have H3:=Lib.hid (fun w' (hb:Below w.heap.size w w')=>nesting_any t (by omega) w' B (.agg (t.cells s)) ⟨s,rfl,TreesAt.later (w':=w') hs hb⟩)
 have H4:=Lib.hid (fun W0 (hb:Below w.heap.size w W0)=>writetree_any W0 (hF.later hb) S t ht.form (hS W0 hb) (.agg (t.cells s)) B)
 have HV:=Lib.hid (fun w' (hb:Below w.heap.size w w')=>(show NodeV w' B (.agg (t.cells s)) t from ⟨s,rfl,TreesAt.later (w':=w') hs hb⟩))
 obtain ⟨p,cap,rfl,hlens⟩:=hs.slice
 have Z0:=Lib.hid (heap_alloc_new w (.cells (t.cells (.slice p t.subs.length cap)) 28))
 have HW:=Lib.hid (show Below w.heap.size w (w.alloc (.cells (t.cells (.slice p t.subs.length cap)) 28)) from (Below.refl _ _).alloc (Nat.le_refl _) _)
 have e1:decide ((32:Int) < t.nestT)=false:=by simp;omega
 have e1':decide (32 < t.nestT)=false:=by simp;omega
 clear hs ht hS hF hn
 unfold Tr.cells at *
 generalize t.nestT=NE at *
 generalize hX:Sp.txT S t=X at *
 go_enter Tryz.func16,Tryz.ntmps16
 go_wp2_with (first
   | (refine wpList_load_row rfl 28 (.tmp 1) rfl w.heap.size rfl 28 _ (0,0) _ Z0.out Tryz.underlying28 rfl (by kernel_rfl) ?_)
   | fail)
 refine (H1.out _ HW.out).mono ?_
 rintro e w1 ⟨rfl,hb1⟩
 have Z1:=Lib.hid (keep_blk (hb1.mono (Nat.le_refl _)) Z0.out)
 have HB1:=Lib.hid (HW.out.trans (hb1.mono HW.out.size))
 clear hb1 Z0 H1
 go_wp2_with (first
   | (refine wpList_load_row rfl 28 (.tmp 1) rfl w.heap.size rfl 28 _ (0,0) _ Z1.out Tryz.underlying28 rfl (by kernel_rfl) ?_)
   | fail)
 refine (H2.out _ HB1.out).mono ?_
 rintro e w2 ⟨rfl,hb2⟩
 have Z2:=Lib.hid (keep_blk (hb2.mono (Nat.le_refl _)) Z1.out)
 have HB2:=Lib.hid (HB1.out.trans (hb2.mono HB1.out.size))
 clear hb2 Z1 H2
 go_wp2_with (first
   | (refine wpList_load_row rfl 28 (.tmp 1) rfl w.heap.size rfl 28 _ (0,0) _ Z2.out Tryz.underlying28 rfl (by kernel_rfl) ?_)
   | fail)
 refine (H3.out _ HB2.out).mono ?_
 rintro e w3 ⟨rfl,hb3⟩
 have Z3:=Lib.hid (keep_blk (hb3.mono (Nat.le_refl _)) Z2.out)
 have HB3:=Lib.hid (HB2.out.trans (hb3.mono HB2.out.size))
 clear hb3 Z2 H3
 have hb4:Below w3.heap.size w3 (w3.alloc (.cells #[.pointer none,.slice none 0 0] 75)):=(Below.refl _ _).alloc (Nat.le_refl _) _
 have Z4:=Lib.hid (keep_blk (hb4.mono (Nat.le_refl _)) Z3.out)
 have HN:=Lib.hid (Bl.new w3)
 have HB4:=Lib.hid hb4
 have HC:=Lib.hid (H4.out w3 HB3.out (w3.alloc (.cells #[.pointer none,.slice none 0 0] 75)) w3.heap.size [] (HV.out w3 HB3.out) hb4 HN.out (by simp;omega))
 clear hb4 Z3 H4 HV
 go_upto_region 9 with (fail)
 generalize w3.alloc (.cells #[.pointer none,.slice none 0 0] 75)=W4 at *
 go_wp2_with (first
   | (refine wpList_load_row rfl 28 (.tmp 1) rfl w.heap.size rfl 28 _ (0,0) _ Z4.out Tryz.underlying28 rfl (by kernel_rfl) ?_)
   | fail)
 refine HC.out.mono ?_
 rintro e w5 ⟨rfl,hl5,ht5⟩
 have HB5:=Lib.hid (HB3.out.trans ((HB4.out.trans ht5.1).mono HB3.out.size))
 rw [List.nil_append] at hl5
 have HL5:=Lib.hid hl5
 clear hl5 ht5 Z4 HC HN
 have hbl:(Lib.byteCells X).length=X.length:=by simp [Lib.byteCells]
 have g1:decide ((1024:Int) < ((Lib.byteCells X).length:Nat))=false:=by rw [hbl];simp;omega
 have g1':decide (1024 < (Lib.byteCells X).length)=false:=by rw [hbl];simp;omega
 have hsz5:w3.heap.size ≤ w5.heap.size:=Nat.le_of_lt HL5.out.lt
 clear hbl
 go_wp2_with fail
 refine (Tryz.Builder_Len_f w3.heap.size w3.heap.size (Lib.byteCells X) _ HL5.out).mono ?_
 rintro e w6 ⟨rfl,rfl⟩
 go_wp2_with fail
 refine (Tryz.Builder_String_any_k w3.heap.size w3.heap.size X _ HL5.out hsz5).mono ?_
 rintro e w7 ⟨rfl,-,hb7,-⟩
 have HB7:=Lib.hid (HB5.out.trans (hb7.mono HB3.out.size))
 clear hb7
 go_wp2
 go_ret2
 exact ⟨rfl,HB7.out⟩
end Go.Proofs.YtnfdknhhkdphhaaGreatDoor
namespace Go.Proofs.YtnfdknhhkdphhaaGreatDoor
open Go.RowKit
abbrev noSet:Array Value:=#[.int .u64 0,.int .u64 0,.int .u64 0,.int .u64 0]
end Go.Proofs.YtnfdknhhkdphhaaGreatDoor
namespace Go.Proofs.YtnfdknhhkdphhaaGreatDoor
open Go.RowKit
theorem cnt_zero {M:Nat→Bool} (h:∀ i,i < 256→M i=false):Oc.cnt M 256=0:=by
 rw [Oc.cnt_congr (q:=fun _=>false) 256 (fun i hi=>h i hi)]
 decide +kernel
theorem nx_one {M:Nat→Bool} (h:Oc.cnt M 256=1):Oc.nx M 0 < 256:=by
 obtain ⟨-,h2,h3,-⟩:=Oc.nx_spec M 0 (by omega)
 rcases Nat.lt_or_ge (Oc.nx M 0) 256 with h4 | h4
 · exact h4
 · have:=cnt_zero (M:=M) (fun i hi=>h3 i (by omega) (by omega))
   omega
theorem cnt_single {c:Nat} (hc:c < 256):Oc.cnt (fun x=>x == c) 256=1:=by
 have:∀ c,c < 256→Oc.cnt (fun x=>x == c) 256=1:=by decide +kernel
 exact this c hc
theorem nx_single {M:Nat→Bool} {c:Nat} (hc:c < 256) (h:∀ i,i < 256→M i=(i == c)):Oc.nx M 0=c:=by
 obtain ⟨-,h2,h3,h4⟩:=Oc.nx_spec M 0 (by omega)
 rcases Nat.lt_trichotomy (Oc.nx M 0) c with h5 | h5 | h5
 · have:=h4 (by omega)
   rw [h _ (by omega)] at this
   simp at this
   omega
 · exact h5
 · have:=h3 c (by omega) h5
   rw [h _ hc] at this
   simp at this
def SpTab (w:World):Prop:=TabAt 23 Lib.deBruijn64tab w∧23 < w.heap.size
theorem SpTab.later {w w':World} (h:SpTab w) (hb:Below w.heap.size w w'):SpTab w' :=
 ⟨fun j hj=>(hb.cell (p:=⟨_,j,none⟩) h.2).trans (h.1 j hj),Nat.lt_of_lt_of_le h.2 hb.size⟩
theorem four_of {w:World} {b:Nat} {x0 x1 x2 x3:Value} {t:TypeId} (h:w.heap[b]? = some (.cells #[x0,x1,x2,x3] t)):w.cell? ⟨b,0,none⟩=some x0∧w.cell? ⟨b,1,none⟩=some x1∧w.cell? ⟨b,2,none⟩=some x2∧w.cell? ⟨b,3,none⟩=some x3:=by
 simp [World.cell?,h]
theorem wrset_one (W0:World) (hT:SpTab W0) (S:Tr→List UInt8) (x:Tr) (h1:Oc.cnt (Oc.mem x.w0 x.w1 x.w2 x.w3) 256=1) (hS:S x=Sp.qb true (UInt8.ofNat (Oc.nx (Oc.mem x.w0 x.w1 x.w2 x.w3) 0))):WrSet W0 S x:=by
 intro w b l hb hl hlen
 have hlt:=nx_one h1
 have hcn:=fun w'=>count_any x.w0 x.w1 x.w2 x.w3 w'
 have hfi:=fun w' (h:Below W0.heap.size W0 w')=>first_any x.w0 x.w1 x.w2 x.w3 w' (hT.later h).1 (hT.later h).2
 rw [hS] at hlen ⊢
 clear hS hT
 generalize Oc.nx (Oc.mem x.w0 x.w1 x.w2 x.w3) 0=c at *
 simp only [if_pos hlt] at hfi
 rw [h1] at hcn
 clear h1
 have HCN:=Lib.hid hcn;have HFI:=Lib.hid hfi
 clear hcn hfi
 have hc8:(UInt8.ofNat c).toNat=c:=by rw [UInt8.toNat_ofNat'];omega
 have HSB:=Lib.hid (fun w' (l':List UInt8) h1 h2 h3=>spbyte_any W0.heap.size b l' (UInt8.ofNat c) true w' h1 h2 h3)
 rw [hc8] at HSB
 generalize UInt8.ofNat c=uc at *
 clear hc8
 generalize x.w0=a0 at *
 generalize x.w1=a1 at *
 generalize x.w2=a2 at *
 generalize x.w3=a3 at *
 have hwz:=hb.size
 have hbw:Below w.heap.size w (w.alloc (.cells #[.int .u64 (Oc.U a0),.int .u64 (Oc.U a1),.int .u64 (Oc.U a2),.int .u64 (Oc.U a3)] 25)):=(Below.refl _ _).alloc (Nat.le_refl _) _
 have Z0:=Lib.hid (heap_alloc_new w (.cells #[.int .u64 (Oc.U a0),.int .u64 (Oc.U a1),.int .u64 (Oc.U a2),.int .u64 (Oc.U a3)] 25))
 have HB0:=Lib.hid (hb.trans (hbw.mono hwz));have HL0:=Lib.hid (hl.later hbw);have HT0:=Lib.hid (BlTo.of_below (b:=b) hwz hbw)
 clear hb hl hbw
 go_enter Tryz.func75,Tryz.ntmps75
 go_wp2_with fail
 refine (HCN.out _).mono ?_;rintro e w1 ⟨rfl,hb1⟩
 have Z1:=Lib.hid (keep_blk (hb1.mono (Nat.le_refl _)) Z0.out)
 have hw0:=HB0.out.size
 have HB1:=Lib.hid (HB0.out.trans (hb1.mono hw0));have HL1:=Lib.hid (HL0.out.later hb1);have HT1:=Lib.hid (HT0.out.trans (BlTo.of_below (b:=b) hw0 hb1))
 obtain ⟨d0,d1,d2,d3⟩:=four_of Z1.out
 clear hb1 Z0 HB0 HL0 HT0 hw0
 go_wp2_with fail
 refine (HFI.out _ HB1.out).mono ?_;rintro e w2 ⟨rfl,hb2⟩
 have hw1:=HB1.out.size
 have HB2:=Lib.hid (HB1.out.trans (hb2.mono hw1));have HL2:=Lib.hid (HL1.out.later hb2);have HT2:=Lib.hid (HT1.out.trans (BlTo.of_below (b:=b) hw1 hb2))
 clear hb2 HB1 HL1 HT1 hw1 d0 d1 d2 d3 Z1
 have hql:=Sp.qb_len true uc
 go_wp2_with fail
 refine (HSB.out _ l HL2.out (by omega) HB2.out.size).mono ?_;rintro e w3 ⟨rfl,h3,t3⟩
 have H3:=Lib.hid h3;have T3:=Lib.hid (HT2.out.trans t3)
 clear h3 t3
 go_wp2
 go_end0
 exact ⟨rfl,H3.out,T3.out⟩
end Go.Proofs.YtnfdknhhkdphhaaGreatDoor
namespace Go.Proofs.YtnfdknhhkdphhaaGreatDoor
open Go.RowKit
namespace Sp
def ifTx (M:Nat→Bool) (l:List UInt8):List UInt8:=l.filter fun c=>M c.toNat
def rowTx (x:Nat × Nat):List UInt8:=[UInt8.ofNat x.1] ++ (if 1 < x.2 - 1 - x.1 then [45] else []) ++ (if x.2 - 1 ≠ x.1 then [UInt8.ofNat (x.2 - 1)] else [])
theorem rowTx_len (x:Nat × Nat):(rowTx x).length ≤ 3:=by
 unfold rowTx;split <;> split <;> simp
theorem ifTx_snoc (M:Nat→Bool) (l:List UInt8) (c:UInt8):ifTx M (l ++ [c])=ifTx M l ++ (if M c.toNat then [c] else []):=by
 unfold ifTx;rw [List.filter_append];cases h:M c.toNat <;> simp [h]
theorem ifTx_len (M:Nat→Bool) (l:List UInt8):(ifTx M l).length ≤ l.length:=List.length_filter_le _ _
end Sp
theorem BlTo.other {B b k:Nat} {w w':World} {cs:Array Value} {t:TypeId} (h:BlTo B b w w') (ht:t ≠ 5) (hk:w.heap[k]? = some (.cells cs t)) (hb:k ≠ b):w'.heap[k]? = some (.cells cs t) :=
 h.2 k _ hk (fun e=>hb (Option.some.inj e)) (fun c fz e=>by injection e with e1 e2 e3;exact absurd e2 ht)
theorem writeifin_any (B0:Nat) (s:ByteArray) (hs:s.size ≤ 1000) (a b c d:BitVec 64) (w:World) (q:Nat) (l:List UInt8) (hl:Bl B0 q l w) (hB:B0 ≤ w.heap.size) (hlen:l.length ≤ 105553116266496) :
   Calls Tryz.prog 144 #[.pointer (some ⟨q,0,none⟩),(.agg #[.int .u64 (Oc.U a),.int .u64 (Oc.U b),.int .u64 (Oc.U c),.int .u64 (Oc.U d)]),.string s] w (WrEnd B0 q (l ++ Sp.ifTx (Oc.mem a b c d) s.data.toList) w):=by
 have HBB:=Lib.hid blbyte_any
 have hbw:Below w.heap.size w (w.alloc (.cells #[.int .u64 (Oc.U a),.int .u64 (Oc.U b),.int .u64 (Oc.U c),.int .u64 (Oc.U d)] 25)):=(Below.refl _ _).alloc (Nat.le_refl _) _
 have Z0:=Lib.hid (heap_alloc_new w (.cells #[.int .u64 (Oc.U a),.int .u64 (Oc.U b),.int .u64 (Oc.U c),.int .u64 (Oc.U d)] 25))
 have HL0:=Lib.hid (hl.later hbw);have HT0:=Lib.hid (BlTo.of_below (b:=q) hB hbw)
 have hnb:w.heap.size ≠ q:=by have:=hl.lt;omega
 clear hl hbw
 go_enter Tryz.func144,Tryz.ntmps144
 go_wp2
 generalize w.alloc (.cells #[.int .u64 (Oc.U a),.int .u64 (Oc.U b),.int .u64 (Oc.U c),.int .u64 (Oc.U d)] 25)=W1 at *
 go_loopw [9] (fun iv wr=>∃ m:Nat,iv=.int .i64 m∧m ≤ s.size∧Hid (Bl B0 q (l ++ Sp.ifTx (Oc.mem a b c d) (s.data.toList.take m)) wr)∧Hid (BlTo B0 q w wr)∧Hid (wr.heap[w.heap.size]? = some (.cells #[.int .u64 (Oc.U a),.int .u64 (Oc.U b),.int .u64 (Oc.U c),.int .u64 (Oc.U d)] 25))) (fun iv _=>s.size - (intOf iv).toNat)
 case atStart=>exact ⟨0,rfl,Nat.zero_le _,Lib.hid (by simpa [Sp.ifTx] using HL0.out),HT0,Z0⟩
 case round =>
   obtain ⟨m,rfl,hm,HL,HT,Z⟩:=hrel
   have wm:IntKind.i64.wrap ((m:Int)+1)=(m:Int)+1:=IntWalk.i64_in _ (by omega)
   by_cases hlt:m < s.size
   · have hd1:decide ((m:Int) < s.size)=true:=by simp;omega
     have hd1':decide (m < s.size)=true:=by simpa using hlt
     have hbk:=bt_at hlt
     have hb256:bt s m < 256:=(bt_txt s).1 m hlt
     have hsn:s.data.toList.take (m+1)=s.data.toList.take m ++ [s[m]]:=by
       rw [List.take_succ_eq_append_getElem (by simpa using hlt)];rfl
     have hst:=Sp.ifTx_snoc (Oc.mem a b c d) (s.data.toList.take m) s[m]
     rw [← hsn,hbk] at hst
     have hle:=Sp.ifTx_len (Oc.mem a b c d) (s.data.toList.take m)
     have hle2:(s.data.toList.take m).length ≤ 1000:=by rw [List.length_take];have:s.data.toList.length=s.size:=(by simp);omega
     have hu:UInt8.ofNat (bt s m)=s[m]:=by rw [← hbk];exact UInt8.ofNat_toNat
     rw [← hu] at hst
     have HST:=Lib.hid hst
     clear hst hsn hu
     generalize hT:Sp.ifTx (Oc.mem a b c d) (s.data.toList.take m)=T at *
     have hlt2:(l ++ T).length+1 ≤ 140737488355328:=by rw [List.length_append];omega
     have hw:=HT.out.1.size
     have hBr:B0 ≤ wr.heap.size:=by have:=HT.out.1.size;omega
     clear hle hle2 hT hw
     go_upto_region 4 with (fail)
     refine Ri.wp_region_frame (by kernel_rfl) (by kernel_rfl) (by kernel_rfl) (by kernel_rfl)
       (fun L v w'=>Below wr.heap.size wr w'∧(L 0=true→v 0=.agg #[.int .u64 (Oc.U a),.int .u64 (Oc.U b),.int .u64 (Oc.U c),.int .u64 (Oc.U d)])∧(L 1=true→v 1=.string s)∧(L 2=true→v 2=.int .i64 (m:Int))∧(L 3=true→v 3=.int .u8 (bt s m:Int))∧(L 4=true→v 4=.bool (Oc.mem a b c d (bt s m))))
       ?_ ?_ ?_
     · exact ⟨(Below.refl _ _).drew,by simp,by simp,by simp,by simp,by simp⟩
     · intro i hi9 L v w9 xa hI hL hd hv ho
       have hi':i=0 ∨ i=1 ∨ i=2 ∨ i=3 ∨ i=4:=by simp at hi9;omega
       obtain ⟨hb,q0,q1,q2,q3,q4⟩:=hI
       rcases hi' with rfl | rfl | rfl | rfl | rfl
       · have e4:xa.tmps.getD 4 undef=.pointer (some ⟨w.heap.size,0,none⟩):=ho 4 (by kernel_rfl)
         refine Ri.step_plain rfl rfl (fun K' hK=>?_)
         refine wp_load_row _ _ rfl _ e4 _ _ _ _ (keep_blk hb Z.out) Tryz.underlying25 rfl (by kernel_rfl) ?_
         exact hK _ _ ⟨_,_,rfl,rfl,hb,fun _=>rfl,q1,q2,q3,q4⟩
       · have e2:xa.tmps.getD 2 undef=.string s:=ho 2 (by kernel_rfl)
         refine Ri.step_plain rfl rfl (fun K' hK=>?_)
         go_simp
         exact hK _ _ ⟨_,_,rfl,rfl,hb,q0,fun _=>rfl,q2,q3,q4⟩
       · have e6:xa.tmps.getD 6 undef=.int .i64 (m:Int):=ho 6 (by kernel_rfl)
         refine Ri.step_plain rfl rfl (fun K' hK=>?_)
         go_simp
         exact hK _ _ ⟨_,_,rfl,rfl,hb,q0,q1,fun _=>rfl,q3,q4⟩
       · have l0:L 1=true∧L 2=true:=by have:=hd _ rfl;simp [Region.binds] at this;simp [this]
         have f1:=(hv 1 13 rfl l0.1).trans (q1 l0.1)
         have f2:=(hv 2 14 rfl l0.2).trans (q2 l0.2)
         refine Ri.step_plain rfl rfl (fun K' hK=>?_)
         go_simp
         exact hK _ _ ⟨_,_,rfl,rfl,hb,q0,q1,q2,fun _=>rfl,q4⟩
       · have l0:L 0=true∧L 3=true:=by have:=hd _ rfl;simp [Region.binds] at this;simp [this]
         have f0:=(hv 0 12 rfl l0.1).trans (q0 l0.1)
         have f3:=(hv 3 15 rfl l0.2).trans (q3 l0.2)
         refine Ri.step_plain rfl rfl (fun K' hK=>?_)
         go_simp
         refine (has_any a b c d (bt s m) hb256 w9).mono ?_
         rintro e w8 ⟨rfl,hb8⟩
         exact hK _ _ ⟨_,_,rfl,rfl,hb.trans (hb8.mono hb.size),q0,q1,q2,q3,fun _=>rfl⟩
     · rintro v w9 ⟨hb,-,-,-,-,q4⟩
       have q4':v 4=.bool (Oc.mem a b c d (bt s m)):=q4 rfl
       simp only [Ri.frame,List.zipIdx,List.foldl_cons,List.foldl_nil,if_true,List.setIfInBounds_toArray,List.set_cons_zero,List.set_cons_succ,Nat.reduceAdd,q4']
       clear q4 q4'
       generalize v 0=y0;generalize v 1=y1;generalize v 2=y2;generalize v 3=y3
       have HB9:=Lib.hid hb
       have HL9:=Lib.hid (HL.out.later hb);have HT9:=Lib.hid (HT.out.trans (BlTo.of_below (b:=q) hBr hb));have Z9:=Lib.hid (keep_blk hb Z.out)
       have hB9:=Nat.le_trans hBr hb.size
       clear hb HL HT Z
       cases hmm:Oc.mem a b c d (bt s m) with
       | false =>
         rw [hmm,if_neg (by decide),List.append_nil] at HST
         clear hmm
         go_wp2
         exact ⟨⟨m+1,by go_num,by omega,Lib.hid (by rw [HST.out];exact HL9.out),HT9,Z9⟩,by simp [intOf];omega⟩
       | true =>
         rw [hmm,if_pos rfl] at HST
         clear hmm
         go_wp2_with fail
         refine (HBB.out B0 q (l ++ T) (bt s m) hb256 _ HL9.out hlt2 hB9).mono ?_;rintro e w2 ⟨rfl,h2,t2⟩
         have H2:=Lib.hid h2;have T2:=Lib.hid (HT9.out.trans t2);have Z2:=Lib.hid (t2.other (by decide) Z9.out hnb)
         clear h2 t2
         go_wp2
         exact ⟨⟨m+1,by go_num,by omega,Lib.hid (by rw [HST.out,← List.append_assoc];exact H2.out),T2,Z2⟩,by simp [intOf];omega⟩
   · obtain rfl:m=s.size:=by omega
     have hall:s.data.toList.take s.size=s.data.toList:=List.take_of_length_le (by simp)
     rw [hall] at HL
     go_wp2
     go_end0
     exact ⟨rfl,HL.out,HT.out⟩
theorem writerow_any (B0:Nat) (x:Nat × Nat) (h1:x.1 < x.2) (h2:x.2 ≤ 256) (w:World) (q:Nat) (l:List UInt8) (hl:Bl B0 q l w) (hB:B0 ≤ w.heap.size) (hlen:l.length ≤ 105553116266496) :
   Calls Tryz.prog 147 #[.pointer (some ⟨q,0,none⟩),.int .u8 (x.1:Int),.int .u8 ((x.2:Int) - 1)] w (WrEnd B0 q (l ++ Sp.rowTx x) w):=by
 have HBB:=Lib.hid blbyte_any
 obtain ⟨lo,hi⟩:=x
 simp only at h1 h2 ⊢
 obtain ⟨d,rfl⟩:∃ d,hi=lo+d+1:=⟨hi - lo - 1,by omega⟩
 have hx:(((lo+d+1:Nat):Int) - 1)=((lo+d:Nat):Int):=by omega
 rw [hx]
 have hr:Sp.rowTx (lo,lo+d+1)=[UInt8.ofNat lo] ++ (if 1 < d then [45] else []) ++ (if d ≠ 0 then [UInt8.ofNat (lo+d)] else []):=by
   unfold Sp.rowTx
   simp only [Nat.add_sub_cancel,Nat.add_sub_cancel_left]
   congr 1
   by_cases he:d=0
   · subst he;simp
   · rw [if_pos he,if_pos (by omega)]
 rw [hr]
 have hw1:IntKind.u8.wrap (((lo+d:Nat):Int) - (lo:Int))=(d:Int):=by
   rw [show ((lo+d:Nat):Int) - (lo:Int)=(d:Int) by omega]
   exact IntWalk.u8_in _ (by omega)
 have HL:=Lib.hid hl
 clear hl hr hx
 by_cases he0:d=0
 · subst he0
   have d1:(((lo+0:Nat):Int) != (lo:Int))=false:=by simp
   go_enter Tryz.func147,Tryz.ntmps147
   go_wp2_with fail
   refine (HBB.out B0 q l lo (by omega) _ HL.out (by omega) hB).mono ?_;rintro e w2 ⟨rfl,h2,t2⟩
   have H2:=Lib.hid h2;have T2:=Lib.hid t2
   clear h2 t2
   go_wp2
   go_end0
   exact ⟨rfl,by simpa using H2.out,T2.out⟩
 · have d1:(((lo+d:Nat):Int) != (lo:Int))=true:=by simp;omega
   have d1':((lo:Int)+(d:Int) != (lo:Int))=true:=by simp;omega
   have hw1':IntKind.u8.wrap ((lo:Int)+(d:Int) - (lo:Int))=(d:Int):=by
     rw [show (lo:Int)+(d:Int) - (lo:Int)=(d:Int) by omega]
     exact IntWalk.u8_in _ (by omega)
   by_cases he1:1 < d
   · have g1:decide ((1:Int) < (d:Int))=true:=by simp;omega
     have g1':decide (1 < d)=true:=by simp;omega
     rw [if_pos he1,if_pos he0]
     clear he0 he1
     go_enter Tryz.func147,Tryz.ntmps147
     go_wp2_with fail
     refine (HBB.out B0 q l lo (by omega) _ HL.out (by omega) hB).mono ?_;rintro e w2 ⟨rfl,h2,t2⟩
     have hB2:=Nat.le_trans hB t2.1.size
     have H2:=Lib.hid h2;have T2:=Lib.hid t2
     clear h2 t2
     go_wp2_with fail
     refine (HBB.out B0 q _ 45 (by omega) _ H2.out (by simp;omega) hB2).mono ?_;rintro e w3 ⟨rfl,h3,t3⟩
     have hB3:=Nat.le_trans hB2 t3.1.size
     have H3:=Lib.hid h3;have T3:=Lib.hid (T2.out.trans t3)
     clear h3 t3
     go_wp2_with fail
     have hcall:=HBB.out B0 q _ (lo+d) (by omega) _ H3.out (by simp;omega) hB3
     refine hcall.mono ?_;rintro e w4 ⟨rfl,h4,t4⟩
     have H4:=Lib.hid h4;have T4:=Lib.hid (T3.out.trans t4)
     clear h4 t4 hcall
     go_wp2
     go_end0
     exact ⟨rfl,by simpa using H4.out,T4.out⟩
   · have g1:decide ((1:Int) < (d:Int))=false:=by simp;omega
     have g1':decide (1 < d)=false:=by simp;omega
     rw [if_neg he1,if_pos he0]
     clear he0 he1
     go_enter Tryz.func147,Tryz.ntmps147
     go_wp2_with fail
     refine (HBB.out B0 q l lo (by omega) _ HL.out (by omega) hB).mono ?_;rintro e w2 ⟨rfl,h2,t2⟩
     have hB2:=Nat.le_trans hB t2.1.size
     have H2:=Lib.hid h2;have T2:=Lib.hid t2
     clear h2 t2
     go_wp2_with fail
     have hcall:=HBB.out B0 q _ (lo+d) (by omega) _ H2.out (by simp;omega) hB2
     refine hcall.mono ?_;rintro e w4 ⟨rfl,h4,t4⟩
     have H4:=Lib.hid h4;have T4:=Lib.hid (T2.out.trans t4)
     clear h4 t4 hcall
     go_wp2
     go_end0
     exact ⟨rfl,by simpa using H4.out,T4.out⟩
end Go.Proofs.YtnfdknhhkdphhaaGreatDoor
namespace Go.Proofs.YtnfdknhhkdphhaaGreatDoor
open Go.RowKit Go.Shelf
attribute [local go_sem] Oper.semAt_some
namespace Oc
def rowsFrom (p q:Nat→Bool):Nat→Nat→List (Nat × Nat)
 | 0,_=>[]
 | k+1,m=>if m < 256 then (m,nx q m) :: rowsFrom p q k (nx p (nx q m)) else []
theorem rowsFrom_end (p q:Nat→Bool) (k:Nat):rowsFrom p q k 256=[]:=by cases k <;> rfl
theorem rowsFrom_step (p q:Nat→Bool) (k m:Nat) (h:m < 256):rowsFrom p q (k+1) m=(m,nx q m) :: rowsFrom p q k (nx p (nx q m)):=by simp only [rowsFrom,if_pos h]
def rowsOf (p q:Nat→Bool):List (Nat × Nat):=rowsFrom p q 257 (nx p 0)
end Oc
def KeepsSets (W W':World):Prop:=∀ (b:Nat) c t z,W.heap[b]? = some (.cells c t z)→(t=25 ∨ b=23)→W'.heap[b]? = some (.cells c t z)
theorem KeepsSets.refl (W:World):KeepsSets W W:=fun _ _ _ _ h _=>h
theorem KeepsSets.trans {A B C:World} (h:KeepsSets A B) (k:KeepsSets B C):KeepsSets A C:=fun b c t z hb ht=>k b c t z (h b c t z hb ht) ht
theorem KeepsSets.of_below {W W':World} (h:Below W.heap.size W W'):KeepsSets W W':=fun b _ _ _ hb _=>(h.block b (Array.getElem?_eq_some_iff.1 hb).1).trans hb
theorem keepsSets_b {w:World} (W:World) (l:Nat) (o o':Obj) (_:w.heap.size ≤ l) (h:W.heap[l]? = some o) (hc:o.isCells=false) (_:o.isWalk=false):KeepsSets W (W.putObj l o'):=by
 intro b c t z hb _
 have:b ≠ l:=by rintro rfl;rw [h] at hb;cases hb;cases hc
 rw [World.putObj_heap_other this];exact hb
theorem tab_cells {W:World} (h:TabAt 23 Lib.deBruijn64tab W):∃ c t z,W.heap[23]? = some (.cells c t z):=by
 have h0:=h 0 (by decide)
 simp only [World.cell?] at h0
 split at h0
 · rename_i hh;exact ⟨_,_,_,hh⟩
 all_goals cases h0
theorem tab_kept {W W':World} (h:TabAt 23 Lib.deBruijn64tab W) (k:KeepsSets W W'):TabAt 23 Lib.deBruijn64tab W':=by
 obtain ⟨c,t,z,hb⟩:=tab_cells h
 have hb':=k _ c t z hb (.inr rfl)
 intro j hj
 have:=h j hj
 simp only [World.cell?,hb] at this
 simp only [World.cell?,hb']
 exact this
theorem tab_lt {W:World} (h:TabAt 23 Lib.deBruijn64tab W):23 < W.heap.size:=by
 obtain ⟨c,t,z,hb⟩:=tab_cells h
 exact (Array.getElem?_eq_some_iff.1 hb).1
theorem grown_of_below {W W':World} (h:Below W.heap.size W W'):W.grownBy W' none:=⟨h.os,h.tape,h.output,h.size,fun k hk _=>h.block k hk⟩
def rowArgs (x:Nat × Nat):Array Value:=#[.int .u8 x.1,.int .u8 ((x.2:Int) - 1)]
theorem rows1_in (n:Nat) (hn:1 ≤ n) (l bs:Nat) (a b c d:BitVec 64) (J Jx:List (Nat × Nat)→World→Prop) (W:World)
   (hJ:AbidesFrom W.heap.size J)
   (hY:∀ pre x W1,J pre W1→pre.length < 256→pre.length < (Oc.rowsOf (Oc.mem a b c d) (Oc.mem (~~~a) (~~~b) (~~~c) (~~~d))).length→x.1 < x.2∧x.2 ≤ 256→YieldAt Fence.wide (n - 1) Tryz.prog l (rowArgs x) W1 fun e W' =>
     (e=.returned (.bool true)∧J (pre ++ [x]) W'∧KeepsSets W1 W') ∨ (e=.returned (.bool false)∧Jx (pre ++ [x]) W'))
   (hbs:W.heap[bs]? = some (.cells #[.int .u64 (Oc.U a),.int .u64 (Oc.U b),.int .u64 (Oc.U c),.int .u64 (Oc.U d)] 25)) (hT:TabAt 23 Lib.deBruijn64tab W) (h0:J [] W) :
   CallsIn Fence.wide n Tryz.prog 172 #[.func (.yield l) #[] #[],.pointer (some ⟨bs,0,none⟩)] W fun e W'=>(∃ v,e=.returned v) ∧
     ((∃ ys,ys=Oc.rowsOf (Oc.mem a b c d) (Oc.mem (~~~a) (~~~b) (~~~c) (~~~d))∧J ys W') ∨ (∃ pre,pre <+: Oc.rowsOf (Oc.mem a b c d) (Oc.mem (~~~a) (~~~b) (~~~c) (~~~d))∧Jx pre W')):=by
 refine callsIn_of_wp Tryz.func172 rfl trivial ?_ rfl
 simp only [Tryz.ntmps172,List.size_toArray,List.length_cons,List.length_nil,Nat.reduceAdd,Nat.reduceSub,Array.replicate_succ,Array.replicate_zero,List.push_toArray,List.append_toArray,List.nil_append,List.cons_append]
 obtain ⟨c0,c1,c2,c3,-⟩:=four hbs
 gi_wp2_with fail
 refine ⟨trivial,(callsIn_wide.2 (not_any a b c d W)).mono ?_⟩
 rintro e w1 ⟨rfl,hb1⟩
 have k1:=KeepsSets.of_below hb1
 have J1:J [] w1:=hJ _ _ _ _ h0 (grown_of_below hb1) (fun _ h=>by cases h)
 obtain ⟨W2,hW2⟩:∃ W2,w1.alloc (.cells #[.int .u64 (Oc.U (~~~a)),.int .u64 (Oc.U (~~~b)),.int .u64 (Oc.U (~~~c)),.int .u64 (Oc.U (~~~d))] 25)=W2:=⟨_,rfl⟩
 have hb2:Below w1.heap.size w1 W2:=by rw [← hW2];exact (Below.refl _ _).alloc (Nat.le_refl _) _
 have hgp:W2.heap[w1.heap.size]? = some (.cells #[.int .u64 (Oc.U (~~~a)),.int .u64 (Oc.U (~~~b)),.int .u64 (Oc.U (~~~c)),.int .u64 (Oc.U (~~~d))] 25):=by rw [← hW2];exact heap_alloc_new _ _
 have k2:KeepsSets W W2:=k1.trans (KeepsSets.of_below hb2)
 have J2:J [] W2:=hJ _ _ _ _ J1 (grown_of_below hb2) (fun _ h=>by cases h)
 have hbs2:=k2 _ _ _ _ hbs (.inl rfl)
 have hT2:=tab_kept hT k2
 have HT:=Lib.hid hT2
 clear c0 c1 c2 c3 hT hT2 k1 k2 J1 hb1 hb2
 obtain ⟨c0,c1,c2,c3,-⟩:=four hbs2
 gi_wp2_with fail
 refine ⟨trivial,(callsIn_wide.2 (next_any a b c d 0 (by omega) W2 HT.out (tab_lt HT.out))).mono ?_⟩
 rintro e W3 ⟨rfl,hb3⟩
 have k3:=KeepsSets.of_below hb3
 have J3:J [] W3:=hJ _ _ _ _ J2 (grown_of_below hb3) (fun _ h=>by cases h)
 have hbs3:=k3 _ _ _ _ hbs2 (.inl rfl)
 have hgp3:=k3 _ _ _ _ hgp (.inl rfl)
 have HT3:=Lib.hid (tab_kept HT.out k3)
 have HB3:=Lib.hid hbs3
 have HG3:=Lib.hid hgp3
 clear c0 c1 c2 c3 k3 hbs3 hgp3 hbs2 hgp HT J2 hb3 hbs
 gi_wp2_with fail
 have hn0:=Oc.nx_spec (Oc.mem a b c d) 0 (by omega)
 gi_loopw [4] (fun p wr=>∃ (pre:List (Nat × Nat)) (k m:Nat),p=.int .i64 m∧m ≤ 256∧256 < k+m∧(m < 256→Oc.mem a b c d m=true)∧Oc.rowsOf (Oc.mem a b c d) (Oc.mem (~~~a) (~~~b) (~~~c) (~~~d))=pre ++ Oc.rowsFrom (Oc.mem a b c d) (Oc.mem (~~~a) (~~~b) (~~~c) (~~~d)) k m∧pre.length ≤ m∧J pre wr∧KeepsSets W3 wr) (fun p _=>256 - (intOf p).toNat)
 case atStart =>
   exact ⟨[],257,Oc.nx (Oc.mem a b c d) 0,rfl,hn0.2.1,by omega,hn0.2.2.2,rfl,Nat.zero_le _,J3,KeepsSets.refl _⟩
 case round =>
   obtain ⟨pre,k,m,rfl,hm,hk,hpm,hx,hpl,hJs,hks⟩:=hrel
   clear hn0
   have HX:=Lib.hid hx
   have HPM:=Lib.hid hpm
   clear hx hpm
   by_cases hlt:m < 256
   · obtain ⟨k',rfl⟩:∃ k',k=k'+1:=⟨k - 1,by omega⟩
     have hgp4:=hks _ _ _ _ HG3.out (.inl rfl)
     have hbs4:=hks _ _ _ _ HB3.out (.inl rfl)
     have HT4:=Lib.hid (tab_kept HT3.out hks)
     have HB4:=Lib.hid hbs4
     have HG4:=Lib.hid hgp4
     obtain ⟨c0,c1,c2,c3,-⟩:=four hgp4
     clear hgp4 hbs4
     gi_wp2_with fail
     refine ⟨trivial,(callsIn_wide.2 (next_any (~~~a) (~~~b) (~~~c) (~~~d) m hm wr HT4.out (tab_lt HT4.out))).mono ?_⟩
     rintro e W5 ⟨rfl,hb5⟩
     have J5:J pre W5:=hJ _ _ _ _ hJs (grown_of_below hb5) (fun _ h=>by cases h)
     have k5:=KeepsSets.of_below hb5
     have HT5:=Lib.hid (tab_kept HT4.out k5)
     have HB5:=Lib.hid (k5 _ _ _ _ HB4.out (.inl rfl))
     have HG5:=Lib.hid (k5 _ _ _ _ HG4.out (.inl rfl))
     have hks5:=hks.trans k5
     have hsp:=Oc.nx_spec (Oc.mem (~~~a) (~~~b) (~~~c) (~~~d)) m hm
     have hg1:m < Oc.nx (Oc.mem (~~~a) (~~~b) (~~~c) (~~~d)) m:=by
       rcases Nat.lt_or_ge m (Oc.nx (Oc.mem (~~~a) (~~~b) (~~~c) (~~~d)) m) with h | h
       · exact h
       · have e:Oc.nx (Oc.mem (~~~a) (~~~b) (~~~c) (~~~d)) m=m:=by omega
         have h2:=hsp.2.2.2 (by omega)
         rw [e,Oc.mem_not,HPM.out hlt] at h2
         cases h2
     have hg2:=hsp.2.1
     have HX2:=Lib.hid (HX.out.trans (by rw [Oc.rowsFrom_step _ _ _ _ hlt]))
     clear hb5 k5 HT4 HB4 HG4 hks hJs c0 c1 c2 c3 hsp HX
     generalize Oc.nx (Oc.mem (~~~a) (~~~b) (~~~c) (~~~d)) m=g at *
     obtain ⟨fn,tmps,assign,body,hy,hR⟩:=hY pre (m,g) W5 J5 (by omega) (by rw [HX2.out];simp) ⟨hg1,hg2⟩
     have hsp2:=Oc.nx_spec (Oc.mem a b c d) g hg2
     dsimp only [rowArgs] at hy
     gi_wp2_with fail
     refine hR.mono ?_
     rintro e W6 (⟨rfl,hJ6,hk6⟩ | ⟨rfl,hJx6⟩)
     · have hks6:=hks5.trans hk6
       have HT6:=Lib.hid (tab_kept HT5.out hk6)
       have hbs6:=hk6 _ _ _ _ HB5.out (.inl rfl)
       obtain ⟨c0,c1,c2,c3,-⟩:=four hbs6
       have HB6:=Lib.hid hbs6
       clear hbs6
       gi_wp2_with fail
       refine ⟨trivial,(callsIn_wide.2 (next_any a b c d g hg2 W6 HT6.out (tab_lt HT6.out))).mono ?_⟩
       rintro e W7 ⟨rfl,hb7⟩
       gi_wp2_with fail
       have h1:=hsp2.1
       exact ⟨⟨pre ++ [(m,g)],k',Oc.nx (Oc.mem a b c d) g,rfl,hsp2.2.1,by omega,hsp2.2.2.2,by rw [HX2.out];simp,by simp;omega,hJ _ _ _ _ hJ6 (grown_of_below hb7) (fun _ h=>by cases h),hks6.trans (KeepsSets.of_below hb7)⟩,by simp [intOf];omega⟩
     · gi_wp2_with fail
       refine bodyPost_ret (results_none rfl _ _ _) rfl ?_
       exact ⟨⟨_,rfl⟩,.inr ⟨pre ++ [(m,g)],⟨Oc.rowsFrom (Oc.mem a b c d) (Oc.mem (~~~a) (~~~b) (~~~c) (~~~d)) k' (Oc.nx (Oc.mem a b c d) g),by rw [HX2.out];simp⟩,hJx6⟩⟩
   · obtain rfl:m=256:=by omega
     gi_wp2_with fail
     go_end0
     exact ⟨⟨_,rfl⟩,.inl ⟨pre,by rw [HX.out,Oc.rowsFrom_end,List.append_nil],hJs⟩⟩
theorem rowsOf_in (a b c d:BitVec 64) (n:Nat) (w:World) :
   CallsIn Fence.wide n Tryz.prog 145 #[(.agg #[.int .u64 (Oc.U a),.int .u64 (Oc.U b),.int .u64 (Oc.U c),.int .u64 (Oc.U d)])] w fun e w'=>e=.returned (.func (.func 172) #[] #[.pointer (some ⟨w.heap.size,0,none⟩)])∧w'=w.alloc (.cells #[.int .u64 (Oc.U a),.int .u64 (Oc.U b),.int .u64 (Oc.U c),.int .u64 (Oc.U d)] 25):=by
 refine callsIn_of_wp Tryz.func145 rfl trivial ?_ rfl
 simp only [Tryz.ntmps145,List.size_toArray,List.length_cons,List.length_nil,Nat.reduceAdd,Nat.reduceSub,Array.replicate_succ,Array.replicate_zero,List.push_toArray,List.append_toArray,List.nil_append,List.cons_append]
 gi_wp2
 go_ret
 exact ⟨rfl,rfl⟩
abbrev OkRow:={ x:Nat × Nat // x.1 < x.2∧x.2 ≤ 256 }
theorem rows_stopsG (n:Nat) (hn:1 ≤ n) (bs:Nat) (a b c d:BitVec 64) (w:World) (hbs:w.heap[bs]? = some (.cells #[.int .u64 (Oc.U a),.int .u64 (Oc.U b),.int .u64 (Oc.U c),.int .u64 (Oc.U d)] 25)) (hT:TabAt 23 Lib.deBruijn64tab w) (RL:List (Nat × Nat)) (hRL:Oc.rowsOf (Oc.mem a b c d) (Oc.mem (~~~a) (~~~b) (~~~c) (~~~d))=RL) :
   SeqStopsK Fence.wide n Tryz.prog 172 #[.pointer (some ⟨bs,0,none⟩)] (fun x:OkRow=>rowArgs x.1) KeepsSets (fun ys=>ys.map (·.1)=RL) (fun _=>True) RL.length w:=by
 subst hRL
 intro l J Jx W hW hJ _ hY h0
 refine (rows1_in n hn l bs a b c d (fun pre W=>∃ p:List OkRow,p.map (·.1)=pre∧J p W) (fun pre W=>∃ p:List OkRow,p.map (·.1)=pre∧Jx p W) W ?_ ?_ ((hW.block bs (Array.getElem?_eq_some_iff.1 hbs).1).trans hbs) (tab_kept hT (KeepsSets.of_below hW)) ⟨[],rfl,h0⟩).mono ?_
 · rintro s X Y row ⟨p,h1,h2⟩ hg hr
   exact ⟨p,h1,hJ _ _ _ _ h2 hg hr⟩
 · rintro pre x W1 ⟨p,h1,h2⟩ _ h3 hx
   obtain ⟨fn,tmps,assign,body,hy,hR⟩:=hY p ⟨x,hx⟩ W1 h2 (by rw [← h1,List.length_map] at h3;exact h3)
   refine ⟨fn,tmps,assign,body,hy,hR.mono ?_⟩
   rintro e W' (⟨e1,e2,e3⟩ | ⟨e1,e2⟩)
   · exact .inl ⟨e1,⟨p ++ [⟨x,hx⟩],by rw [List.map_append,h1];rfl,e2⟩,e3⟩
   · exact .inr ⟨e1,p ++ [⟨x,hx⟩],by rw [List.map_append,h1];rfl,e2⟩
 · rintro e W' ⟨h1,⟨ys,rfl,p,hp,hJp⟩ | ⟨pre,_,p,hp,hJp⟩⟩
   · exact ⟨h1,.inl ⟨p,hp,hJp⟩⟩
   · exact ⟨h1,.inr ⟨p,trivial,hJp⟩⟩
end Go.Proofs.YtnfdknhhkdphhaaGreatDoor
namespace Go.Proofs.YtnfdknhhkdphhaaGreatDoor
open Go.RowKit Go.Shelf
attribute [local go_sem] Oper.semAt_some
namespace Sp
def four (x:Nat):Bool:=x == 93 || x == 91 || x == 94 || x == 45
def itemsW (a b c d:BitVec 64):List UInt8 :=
 ifTx (Oc.mem a b c d) [93] ++ (Oc.rowsOf (Oc.mem (a &&& ~~~Oc.mk four 0) (b &&& ~~~Oc.mk four 1) (c &&& ~~~Oc.mk four 2) (d &&& ~~~Oc.mk four 3)) (Oc.mem (~~~(a &&& ~~~Oc.mk four 0)) (~~~(b &&& ~~~Oc.mk four 1)) (~~~(c &&& ~~~Oc.mk four 2)) (~~~(d &&& ~~~Oc.mk four 3)))).flatMap rowTx ++ ifTx (Oc.mem a b c d) [91,94,45]
end Sp
def By4 (w:World) (v:Value):Prop:=∃ g,v=.slice (some ⟨g,0,none⟩) 4 4∧w.heap[g]? = some (.cells #[.int .u8 93,.int .u8 91,.int .u8 94,.int .u8 45] 5)
theorem By4.below {w w':World} {v:Value} (h:By4 w v) (hb:Below w.heap.size w w'):By4 w' v:=by
 obtain ⟨g,e,hg⟩:=h;exact ⟨g,e,keep_blk hb hg⟩
def RowsFn (B:Nat) (w:World) (v:Value) (a b c d:BitVec 64):Prop:=∃ g,v=.func (.func 172) #[] #[.pointer (some ⟨g,0,none⟩)]∧B ≤ g∧w.heap[g]? = some (.cells #[.int .u64 (Oc.U a),.int .u64 (Oc.U b),.int .u64 (Oc.U c),.int .u64 (Oc.U d)] 25)
theorem RowsFn.below {B:Nat} {w w':World} {v:Value} {a b c d:BitVec 64} (h:RowsFn B w v a b c d) (hb:Below w.heap.size w w'):RowsFn B w' v a b c d:=by
 obtain ⟨g,e,h1,hg⟩:=h;exact ⟨g,e,h1,keep_blk hb hg⟩
theorem wp_bytes4 {o:Oper} {x:Act} {w:World} {K:Act→World→Prop} {Q:Exit→Act→World→Prop} (ho:o.op=.buildSlice 73 4 #[(0,.const (.int .u8 93)),(1,.const (.int .u8 91)),(2,.const (.int .u8 94)),(3,.const (.int .u8 45))])
   (h:K (x.put o.dst (.slice (some ⟨w.heap.size,0,none⟩) 4 4)) (w.alloc (.cells #[.int .u8 93,.int .u8 91,.int .u8 94,.int .u8 45] 5))):o.wp Tryz.prog x w K Q:=by
 obtain ⟨ie,hi,hz0,hz1,-⟩:=info_parts Tryz.infoByte
 refine wp_buildSlice 73 5 4 _ ho _ ie _ Tryz.underlying73 hi hz0 (by rw [hz1];decide) (by rw [hz1];decide) ?_ h
 rw [hz1]
 simp only [List.map_toArray,List.map_cons,List.map_nil,Act.eval]
 kernel_rfl
theorem of_four {w:World} {v:Value} (h:By4 w v):Calls Tryz.prog 112 #[v] w fun e w'=>e=.returned (.agg #[.int .u64 (Oc.U (Oc.mk Sp.four 0)),.int .u64 (Oc.U (Oc.mk Sp.four 1)),.int .u64 (Oc.U (Oc.mk Sp.four 2)),.int .u64 (Oc.U (Oc.mk Sp.four 3))])∧Below w.heap.size w w':=by
 obtain ⟨g,rfl,hg⟩:=h
 obtain ⟨bs,hbs⟩:∃ bs:Nat→Nat,bs=fun i=>if i=0 then 93 else if i=1 then 91 else if i=2 then 94 else 45:=⟨_,rfl⟩
 have h4:∀ i,i < 4→i=0 ∨ i=1 ∨ i=2 ∨ i=3:=fun i hi=>by omega
 have h:=of_any (some ⟨g,0,none⟩) 4 4 bs (by decide) w (fun i hi=>by rcases h4 i hi with rfl | rfl | rfl | rfl <;> (rw [hbs];decide)) (fun i hi=>⟨g,0,rfl,(Array.getElem?_eq_some_iff.1 hg).1,by
   rcases h4 i hi with rfl | rfl | rfl | rfl <;> simp [World.cell?,hg,hbs]⟩)
 have e0:Oc.anyB bs 4=Sp.four:=by
   funext x;rw [hbs];simp [Oc.anyB,Sp.four]
 have e:∀ k,Oc.mk (Oc.anyB bs 4) k=Oc.mk Sp.four k:=fun k=>by rw [e0]
 rw [e,e,e,e] at h
 exact h
theorem rows_plain (a b c d:BitVec 64) (w:World):Calls Tryz.prog 145 #[(.agg #[.int .u64 (Oc.U a),.int .u64 (Oc.U b),.int .u64 (Oc.U c),.int .u64 (Oc.U d)])] w fun e w'=>e=.returned (.func (.func 172) #[] #[.pointer (some ⟨w.heap.size,0,none⟩)])∧w'=w.alloc (.cells #[.int .u64 (Oc.U a),.int .u64 (Oc.U b),.int .u64 (Oc.U c),.int .u64 (Oc.U d)] 25) :=
 (callsIn_wide (n:=9)).1 (rowsOf_in a b c d 9 w)
theorem Bl.grown {B q:Nat} {l:List UInt8} {W W':World} {row:Option Nat} (h:Bl B q l W) (hg:W.grownBy W' row) (hr:∀ r,row=some r→∃ o:Obj,W.heap[r]? = some o∧o.isCells=false):Bl B q l W':=by
 have key:∀ p,Lib.BuilderAtF 75 5 B q p (Lib.byteCells l) W→Lib.BuilderAtF 75 5 B q p (Lib.byteCells l) W':=by
   rintro p ⟨hB,v,hbk,hown,hne⟩
   refine ⟨hB,v,(hg.block q (Array.getElem?_eq_some_iff.1 hbk).1 (fun e=>?_)).trans hbk,hown.kept hg ?_,hne⟩
   · obtain ⟨o,ho,hc⟩:=hr q e.symm
     rw [hbk] at ho;cases ho;cases hc
   · cases h:Value.ownBlock v with
     | none=>exact .inl rfl
     | some g =>
       refine .inr fun e=>?_
       obtain ⟨o,ho,hc⟩:=hr g e.symm
       obtain ⟨c,fz,hk⟩:=Lib.ownsRowF_kind hown g h
       rw [hk] at ho;cases ho;cases hc
 exact h.elim (fun x=>.inl (key _ x)) (fun x=>.inr (key _ x))
theorem BlTo.grown {B q:Nat} {w W W':World} {row:Option Nat} (h:BlTo B q w W) (hg:W.grownBy W' row) (hB:B ≤ w.heap.size) (hr:∀ r,row=some r→w.heap.size ≤ r):BlTo B q w W':=by
 have hne:∀ k,k < w.heap.size→some k ≠ row:=fun k hk e=>by have:=hr k e.symm;omega
 refine ⟨⟨hg.os.trans h.1.os,hg.tape.trans h.1.tape,hg.output.trans h.1.output,Nat.le_trans h.1.size hg.size,fun k hk=>?_⟩,fun k o hk hq ho=>?_⟩
 · exact (hg.block k (Nat.lt_of_lt_of_le hk (Nat.le_trans hB h.1.size)) (hne k (by omega))).trans (h.1.block k hk)
 · have hlt:=(Array.getElem?_eq_some_iff.1 hk).1
   exact (hg.block k (Nat.lt_of_lt_of_le hlt h.1.size) (hne k hlt)).trans (h.2 k o hk hq ho)
def ItI (B0 q:Nat) (w:World) (l:List UInt8) (a b c d:BitVec 64) (pre:List OkRow) (W:World):Prop :=
 Bl B0 q (l ++ (pre.map (·.1)).flatMap Sp.rowTx) W∧BlTo B0 q w W∧W.heap[w.heap.size]? = some (.cells #[.pointer (some ⟨q,0,none⟩)] 72)∧W.heap[w.heap.size+1]? = some (.cells #[.int .u64 (Oc.U a),.int .u64 (Oc.U b),.int .u64 (Oc.U c),.int .u64 (Oc.U d)] 25)
theorem iti_own (B0 q n:Nat) (w:World) (l:List UInt8) (a b c d:BitVec 64) (hB:B0 ≤ w.heap.size) (hn:w.heap.size+2 ≤ n):OwnFrom n (ItI B0 q w l a b c d):=by
 rintro pre W W' row ⟨h1,h2,h3,h4⟩ hg hr
 refine ⟨h1.grown hg fun r e=>(hr r e).2,h2.grown hg hB fun r e=>by have:=(hr r e).1;omega, ?_, ?_⟩
 · exact (hg.block _ (Array.getElem?_eq_some_iff.1 h3).1 (fun e=>by have:=(hr _ e.symm).1;omega)).trans h3
 · exact (hg.block _ (Array.getElem?_eq_some_iff.1 h4).1 (fun e=>by have:=(hr _ e.symm).1;omega)).trans h4
theorem Bl.block {B q:Nat} {l:List UInt8} {W:World} (h:Bl B q l W):∃ p v,W.heap[q]? = some (.cells #[p,v] 75 (0,0)):=by
 rcases h with ⟨_,v,h,_⟩ | ⟨_,v,h,_⟩ <;> exact ⟨_,v,h⟩
theorem blTo_from {B q n:Nat} {l:List UInt8} {W W':World} (hl:Bl B q l W) (h:BlTo B q W W'):KeepsFrom n W W':=by
 obtain ⟨p,v,hq⟩:=hl.block
 refine ⟨h.1.size,fun k o _ hk ho=>h.2 k o hk (fun e=>?_) (fun c fz e=>?_)⟩
 · obtain rfl:=Option.some.inj e
   rw [hq] at hk;cases hk;cases ho
 · subst e;cases ho
theorem blTo_sets {B q:Nat} {l:List UInt8} {W W':World} (hl:Bl B q l W) (h:BlTo B q W W') (hT:23 < B):KeepsSets W W':=by
 obtain ⟨p,v,hq⟩:=hl.block
 intro b c t z hb ht
 rcases ht with rfl | rfl
 · refine h.2 b _ hb (fun e=>?_) (fun c' fz e=>?_)
   · obtain rfl:=Option.some.inj e
     rw [hq] at hb;cases hb
   · injection e with e1 e2 e3;exact absurd e2 (by decide)
 · exact (h.1.block _ hT).trans hb
theorem rowsFrom_len (p q:Nat→Bool):∀ k m,(Oc.rowsFrom p q k m).length ≤ k
 | 0,m=>by simp [Oc.rowsFrom]
 | k+1,m=>by
   unfold Oc.rowsFrom
   split
   · have:=rowsFrom_len p q k (Oc.nx p (Oc.nx q m));simp;omega
   · simp
theorem flat_len:∀ pre:List (Nat × Nat),(pre.flatMap Sp.rowTx).length ≤ 3 * pre.length
 | []=>by simp
 | x :: l=>by
   have h1:=flat_len l
   have h2:=Sp.rowTx_len x
   rw [List.flatMap_cons,List.length_append,List.length_cons];omega
theorem writeitems_any (B0:Nat) (a b c d:BitVec 64) (w:World) (q:Nat) (l:List UInt8) (hl:Bl B0 q l w) (hB:B0 ≤ w.heap.size) (hT:SpTab w) (hTB:23 < B0) (hlen:l.length ≤ 87960930222080) :
   Calls Tryz.prog 110 #[.pointer (some ⟨q,0,none⟩),(.agg #[.int .u64 (Oc.U a),.int .u64 (Oc.U b),.int .u64 (Oc.U c),.int .u64 (Oc.U d)])] w (WrEnd B0 q (l ++ Sp.itemsW a b c d) w):=by
 have hbw:Below w.heap.size w ((w.alloc (.cells #[.pointer (some ⟨q,0,none⟩)] 72)).alloc (.cells #[.int .u64 (Oc.U a),.int .u64 (Oc.U b),.int .u64 (Oc.U c),.int .u64 (Oc.U d)] 25)):=by go_grown
 have z2:=two_new w (.cells #[.pointer (some ⟨q,0,none⟩)] 72) (.cells #[.int .u64 (Oc.U a),.int .u64 (Oc.U b),.int .u64 (Oc.U c),.int .u64 (Oc.U d)] 25)
 have Z2:=Lib.hid z2.1;have Z3:=Lib.hid z2.2
 have HL0:=Lib.hid (hl.later hbw);have HT0:=Lib.hid (BlTo.of_below (b:=q) hB hbw);have HTB:=Lib.hid (hT.later hbw)
 have hnb:w.heap.size ≠ q∧w.heap.size+1 ≠ q:=by have:=hl.lt;omega
 clear hl hbw z2 hT
 refine (callsIn_wide (n:=9)).1 ?_
 refine callsIn_of_wp_marks Tryz.func110 rfl trivial ?_ rfl
 simp only [Tryz.ntmps110,List.size_toArray,List.length_cons,List.length_nil,Nat.reduceAdd,Nat.reduceSub,Array.replicate_succ,Array.replicate_zero,List.push_toArray,List.append_toArray,List.nil_append,List.cons_append]
 refine wpIn_wide.2 ?_
 go_upto_region 1 with (fail)
 generalize (w.alloc (.cells #[.pointer (some ⟨q,0,none⟩)] 72)).alloc (.cells #[.int .u64 (Oc.U a),.int .u64 (Oc.U b),.int .u64 (Oc.U c),.int .u64 (Oc.U d)] 25)=W1 at *
 have c0:W1.cell? ⟨w.heap.size,0,none⟩=some (.pointer (some ⟨q,0,none⟩)):=by simp [World.cell?,Z2.out]
 obtain ⟨d0,d1,d2,d3⟩:=four_of Z3.out
 have hw1:B0 ≤ W1.heap.size:=Nat.le_trans hB HT0.out.1.size
 have HC:=Lib.hid (writeifin_any B0 ⟨#[93]⟩ (by decide) a b c d W1 q l HL0.out hw1 (by omega))
 go_wp2_with fail
 refine HC.out.mono ?_
 rintro e W3 ⟨rfl,hl3,ht3⟩
 have HT3:=Lib.hid (HT0.out.trans ht3)
 have Y2:=Lib.hid (ht3.other (by decide) Z2.out hnb.1);have Y3:=Lib.hid (ht3.other (by decide) Z3.out hnb.2)
 have HL3:=Lib.hid hl3
 have HTB3:=Lib.hid (show SpTab W3 from ⟨fun j hj=>(ht3.1.cell (p:=⟨_,j,none⟩) hTB).trans (HTB.out.1 j hj),Nat.lt_of_lt_of_le hTB (Nat.le_trans hw1 ht3.1.size)⟩)
 have hw3:B0 ≤ W3.heap.size:=Nat.le_trans hw1 ht3.1.size
 clear hl3 ht3 Z2 Z3 HL0 HT0 HTB HC d0 d1 d2 d3 c0 hw1
 have Z3:=Y3
 clear Y3
 go_upto_region 2 with (fail)
 refine Ri.wp_region_frame (by kernel_rfl) (by kernel_rfl) (by kernel_rfl) (by kernel_rfl)
   (fun L v w'=>Below W3.heap.size W3 w'∧(L 0=true→v 0=.agg #[.int .u64 (Oc.U a),.int .u64 (Oc.U b),.int .u64 (Oc.U c),.int .u64 (Oc.U d)])∧(L 1=true→By4 w' (v 1))∧(L 2=true→v 2=.agg #[.int .u64 (Oc.U (Oc.mk Sp.four 0)),.int .u64 (Oc.U (Oc.mk Sp.four 1)),.int .u64 (Oc.U (Oc.mk Sp.four 2)),.int .u64 (Oc.U (Oc.mk Sp.four 3))])∧(L 3=true→v 3=.agg #[.int .u64 (Oc.U (a &&& ~~~Oc.mk Sp.four 0)),.int .u64 (Oc.U (b &&& ~~~Oc.mk Sp.four 1)),.int .u64 (Oc.U (c &&& ~~~Oc.mk Sp.four 2)),.int .u64 (Oc.U (d &&& ~~~Oc.mk Sp.four 3))])∧(L 4=true→RowsFn W3.heap.size w' (v 4) (a &&& ~~~Oc.mk Sp.four 0) (b &&& ~~~Oc.mk Sp.four 1) (c &&& ~~~Oc.mk Sp.four 2) (d &&& ~~~Oc.mk Sp.four 3)))
   ?_ ?_ ?_
 · exact ⟨(Below.refl _ _).drew,by simp,by simp,by simp,by simp,by simp⟩
 · intro i hi9 L v w9 xa hI hL hd hv ho
   have hi':i=0 ∨ i=1 ∨ i=2 ∨ i=3 ∨ i=4:=by simp at hi9;omega
   obtain ⟨hb,q0,q1,q2,q3,q4⟩:=hI
   rcases hi' with rfl | rfl | rfl | rfl | rfl
   · have e3:xa.tmps.getD 3 undef=.pointer (some ⟨w.heap.size+1,0,none⟩):=ho 3 (by kernel_rfl)
     refine Ri.step_plain rfl rfl (fun K' hK=>?_)
     refine wp_load_row _ _ rfl _ e3 _ _ _ _ (keep_blk hb Z3.out) Tryz.underlying25 rfl (by kernel_rfl) ?_
     exact hK _ _ ⟨_,_,rfl,rfl,hb,fun _=>rfl,q1,q2,q3,q4⟩
   · refine Ri.step_plain rfl rfl (fun K' hK=>?_)
     refine wp_bytes4 rfl ?_
     exact hK _ _ ⟨_,_,rfl,rfl,hb.alloc hb.size _,q0,fun _=>⟨_,rfl,heap_alloc_new _ _⟩,q2,q3,fun l=>(q4 l).below ((Below.refl _ _).alloc (Nat.le_refl _) _)⟩
   · have l0:L 1=true:=by have:=hd _ rfl;simp [Region.binds] at this;simp [this]
     have f1:=hv 1 10 rfl l0
     refine Ri.step_plain rfl rfl (fun K' hK=>?_)
     go_simp
     refine (of_four (q1 l0)).mono ?_
     rintro e w8 ⟨rfl,hb8⟩
     exact hK _ _ ⟨_,_,rfl,rfl,hb.trans (hb8.mono hb.size),q0,fun l=>(q1 l).below hb8,fun _=>rfl,q3,fun l=>(q4 l).below hb8⟩
   · have l0:L 0=true∧L 2=true:=by have:=hd _ rfl;simp [Region.binds] at this;simp [this]
     have f0:=(hv 0 9 rfl l0.1).trans (q0 l0.1)
     have f2:=(hv 2 11 rfl l0.2).trans (q2 l0.2)
     refine Ri.step_plain rfl rfl (fun K' hK=>?_)
     go_simp
     refine (less_any a b c d _ _ _ _ w9).mono ?_
     rintro e w8 ⟨rfl,hb8⟩
     exact hK _ _ ⟨_,_,rfl,rfl,hb.trans (hb8.mono hb.size),q0,fun l=>(q1 l).below hb8,q2,fun _=>rfl,fun l=>(q4 l).below hb8⟩
   · have l0:L 3=true:=by have:=hd _ rfl;simp [Region.binds] at this;simp [this]
     have f3:=(hv 3 12 rfl l0).trans (q3 l0)
     refine Ri.step_plain rfl rfl (fun K' hK=>?_)
     go_simp
     refine (rows_plain _ _ _ _ w9).mono ?_
     rintro e w8 ⟨rfl,rfl⟩
     exact hK _ _ ⟨_,_,rfl,rfl,hb.alloc hb.size _,q0,fun l=>(q1 l).below ((Below.refl _ _).alloc (Nat.le_refl _) _),q2,q3,fun _=>⟨_,rfl,hb.size,heap_alloc_new _ _⟩⟩
 · rintro v w9 ⟨hb,-,-,-,-,q4⟩
   have E4:=Lib.hid (q4 rfl)
   simp only [Ri.frame,List.zipIdx,List.foldl_cons,List.foldl_nil,if_true,List.setIfInBounds_toArray,List.set_cons_zero,List.set_cons_succ,Nat.reduceAdd]
   clear q4
   generalize v 0=y0;generalize v 1=y1;generalize v 2=y2;generalize v 3=y3;generalize v 4=y4 at *
   obtain ⟨g,rfl,hg0,hgz⟩:=E4.out
   have Y2':=Lib.hid (keep_blk hb Y2.out);have Y3':=Lib.hid (keep_blk hb Z3.out)
   have HLg:=Lib.hid (HL3.out.later hb);have HTg:=Lib.hid (HT3.out.trans (BlTo.of_below (b:=q) hw3 hb));have HTBg:=Lib.hid (HTB3.out.later hb)
   have GZ:=Lib.hid hgz
   have hw9:=Nat.le_trans hw3 hb.size
   clear hb HL3 HT3 HTB3 Y2 Z3 E4 hgz
   go_wp2_with fail
   have HIT:Hid (Sp.itemsW a b c d=Sp.ifTx (Oc.mem a b c d) [93] ++ (Oc.rowsOf (Oc.mem (a &&& ~~~Oc.mk Sp.four 0) (b &&& ~~~Oc.mk Sp.four 1) (c &&& ~~~Oc.mk Sp.four 2) (d &&& ~~~Oc.mk Sp.four 3)) (Oc.mem (~~~(a &&& ~~~Oc.mk Sp.four 0)) (~~~(b &&& ~~~Oc.mk Sp.four 1)) (~~~(c &&& ~~~Oc.mk Sp.four 2)) (~~~(d &&& ~~~Oc.mk Sp.four 3)))).flatMap Sp.rowTx ++ Sp.ifTx (Oc.mem a b c d) [91,94,45]):=Lib.hid rfl
   generalize a &&& ~~~Oc.mk Sp.four 0=a' at *
   generalize b &&& ~~~Oc.mk Sp.four 1=b' at *
   generalize c &&& ~~~Oc.mk Sp.four 2=c' at *
   generalize d &&& ~~~Oc.mk Sp.four 3=d' at *
   have hRL:(Oc.rowsOf (Oc.mem a' b' c' d') (Oc.mem (~~~a') (~~~b') (~~~c') (~~~d'))).length ≤ 257:=rowsFrom_len _ _ _ _
   generalize hrows:Oc.rowsOf (Oc.mem a' b' c' d') (Oc.mem (~~~a') (~~~b') (~~~c') (~~~d'))=RL at *
   refine (wpIn_wide (n:=9)).1 ?_
   refine wpIn_rangeFunc_ownG rfl (by omega) (gf:=172) (lb:=#[.pointer (some ⟨g,0,none⟩)]) rfl trivial (enters_of Tryz.func172 (by kernel_rfl) rfl)
     (rows_stopsG _ (by omega) g a' b' c' d' w9 GZ.out HTBg.out.1 RL hrows) (fun h k=>KeepsSets.trans h k) keepsSets_b (Below.refl _ _) (fun _=>rfl)
     (fun pre W=>ItI B0 q w (l ++ Sp.ifTx (Oc.mem a b c d) [93]) a b c d pre W) (fun _ _ _=>False) (iti_own B0 q _ w _ a b c d hB (by have:=Array.getElem?_eq_some_iff.1 Y3'.out |>.1;omega)) (fun _=>ownFrom_pure _ (fun _=>False))
     ⟨by simpa using HLg.out,HTg.out,Y2'.out,Y3'.out⟩
     (fun x=>{ tmps:=#[.pointer (some ⟨q,0,none⟩),(.agg #[.int .u64 (Oc.U a),.int .u64 (Oc.U b),.int .u64 (Oc.U c),.int .u64 (Oc.U d)]),.pointer (some ⟨w.heap.size,0,none⟩),.pointer (some ⟨w.heap.size+1,0,none⟩),.int .u8 x.1.1,.int .u8 ((x.1.2:Int) - 1),.pointer (some ⟨q,0,none⟩),(.agg #[.int .u64 (Oc.U a),.int .u64 (Oc.U b),.int .u64 (Oc.U c),.int .u64 (Oc.U d)]),.tuple #[],y0,y1,y2,y3,.func (.func 172) #[] #[.pointer (some ⟨g,0,none⟩)],.int .u8 x.1.1,.int .u8 ((x.1.2:Int) - 1),undef,undef,undef,undef,undef,undef,undef],defers:=[] }) ?assign ?body ?done ?stop
   case assign =>
     intro l x W K hK
     dsimp only [rowArgs]
     gi_wp2
     exact hK
   case body =>
     rintro lp pre x W ⟨h1,h2,h3,h4⟩ hlt
     have c0:W.cell? ⟨w.heap.size,0,none⟩=some (.pointer (some ⟨q,0,none⟩)):=by simp [World.cell?,h3]
     have hfl:=flat_len (pre.map (·.1))
     have hif:=Sp.ifTx_len (Oc.mem a b c d) [93]
     rw [List.length_map] at hfl
     simp only [List.length_cons,List.length_nil] at hif
     have hcall:=writerow_any B0 x.1 x.2.1 x.2.2 W q _ h1 (Nat.le_trans hB h2.1.size) (by simp only [List.length_append];omega)
     have HBL:=Lib.hid h1
     have H1:=Lib.hid hcall;have H2:=Lib.hid h2;have H3:=Lib.hid h3;have H4:=Lib.hid h4
     clear hcall h1 h2 h3 h4 hfl hif
     gi_wp2_with fail
     refine ⟨trivial,(CallsIn.inRound lp (callsIn_wide.2 H1.out)).mono ?_⟩
     rintro e W5 ⟨rfl,h5,t5⟩
     have H5:=Lib.hid h5;have T5:=Lib.hid t5
     clear h5 t5
     gi_wp2
     exact ⟨blTo_from HBL.out T5.out,blTo_sets HBL.out T5.out hTB,by rw [List.map_append,List.flatMap_append,← List.append_assoc];simpa using H5.out,H2.out.trans T5.out,T5.out.other (by decide) H3.out hnb.1,T5.out.other (by decide) H4.out hnb.2⟩
   case done =>
     rintro D xs W hD hxs ⟨h1,h2,h3,h4⟩ hK
     rw [hxs] at h1
     have c0:W.cell? ⟨w.heap.size,0,none⟩=some (.pointer (some ⟨q,0,none⟩)):=by simp [World.cell?,h3]
     obtain ⟨d0,d1,d2,d3⟩:=four_of h4
     have hfl:=flat_len RL
     have hif:=Sp.ifTx_len (Oc.mem a b c d) [93]
     simp only [List.length_cons,List.length_nil] at hif
     have hD2:w.heap.size ≤ D:=by have:=Array.getElem?_eq_some_iff.1 Y3'.out |>.1;omega
     have HC:=Lib.hid (writeifin_any B0 ⟨#[91,94,45]⟩ (by decide) a b c d W q _ h1 (Nat.le_trans hB h2.1.size) (by simp only [List.length_append];omega))
     obtain ⟨p0,v0,hq⟩:=h1.block
     have hDq:D ≠ q:=fun e=>by subst e;rw [hK] at hq;cases hq
     have H2:=Lib.hid h2;have HK:=Lib.hid hK
     clear h1 h2 h3 h4 hq hK hfl hif
     go_wp2_with fail
     refine HC.out.mono ?_
     rintro e W6 ⟨rfl,h6,t6⟩
     have H6:=Lib.hid h6;have T6:=Lib.hid (H2.out.trans t6)
     have hK6:W6.heap[D]? = some (.deferred (some [])):=t6.2 D _ HK.out (fun e=>hDq (Option.some.inj e)) (fun c fz e=>by cases e)
     clear h6 t6 d0 d1 d2 d3 c0
     go_wp2
     refine ⟨by simp,.inl ⟨_,_,rfl,run_takeDeferred hK6, ?_⟩⟩
     refine ⟨.tuple #[],by simp [results,Tryz.results110,go_sem],rfl, ?_,T6.out.grown (grownBy_putObj' W6 D (.deferred none)) hB (fun r e=>by cases e;exact hD2)⟩
     refine Bl.grown ?_ (grownBy_putObj' W6 D (.deferred none)) (fun r e=>by cases e;exact ⟨_,hK6,rfl⟩)
     rw [HIT.out]
     simpa [List.append_assoc] using H6.out
   case stop=>intro D c pre W _ _ h;exact h.elim
end Go.Proofs.YtnfdknhhkdphhaaGreatDoor
namespace Go.Proofs.YtnfdknhhkdphhaaGreatDoor
open Go.RowKit
namespace Sp
def two (x:Nat):Bool:=x == 94 || x == 45
def setW (a b c d:BitVec 64):List UInt8 :=
 if Oc.cnt (Oc.mem a b c d) 256=256 then [46]
 else if Oc.cnt (Oc.mem a b c d) 256=1 then qb true (UInt8.ofNat (Oc.nx (Oc.mem a b c d) 0))
 else if Oc.cnt (Oc.mem a b c d) 256=0 ∨ 128 < Oc.cnt (Oc.mem a b c d) 256 then [91,94] ++ itemsW (~~~a) (~~~b) (~~~c) (~~~d) ++ [93]
 else if a=Oc.mk two 0∧b=Oc.mk two 1∧c=Oc.mk two 2∧d=Oc.mk two 3 then [91,45,94,93]
 else [91] ++ itemsW a b c d ++ [93]
def setTx (x:Tr):List UInt8:=setW x.w0 x.w1 x.w2 x.w3
theorem itemsW_len (a b c d:BitVec 64):(itemsW a b c d).length ≤ 800:=by
 unfold itemsW
 have h1:=ifTx_len (Oc.mem a b c d) [93]
 have h2:=ifTx_len (Oc.mem a b c d) [91,94,45]
 have h3:=flat_len (Oc.rowsOf (Oc.mem (a &&& ~~~Oc.mk four 0) (b &&& ~~~Oc.mk four 1) (c &&& ~~~Oc.mk four 2) (d &&& ~~~Oc.mk four 3)) (Oc.mem (~~~(a &&& ~~~Oc.mk four 0)) (~~~(b &&& ~~~Oc.mk four 1)) (~~~(c &&& ~~~Oc.mk four 2)) (~~~(d &&& ~~~Oc.mk four 3))))
 have h4:(Oc.rowsOf (Oc.mem (a &&& ~~~Oc.mk four 0) (b &&& ~~~Oc.mk four 1) (c &&& ~~~Oc.mk four 2) (d &&& ~~~Oc.mk four 3)) (Oc.mem (~~~(a &&& ~~~Oc.mk four 0)) (~~~(b &&& ~~~Oc.mk four 1)) (~~~(c &&& ~~~Oc.mk four 2)) (~~~(d &&& ~~~Oc.mk four 3)))).length ≤ 257:=rowsFrom_len _ _ _ _
 simp only [List.length_append,List.length_cons,List.length_nil] at *
 omega
end Sp
def By2 (w:World) (v:Value):Prop:=∃ g,v=.slice (some ⟨g,0,none⟩) 2 2∧w.heap[g]? = some (.cells #[.int .u8 94,.int .u8 45] 5)
theorem By2.below {w w':World} {v:Value} (h:By2 w v) (hb:Below w.heap.size w w'):By2 w' v:=by
 obtain ⟨g,e,hg⟩:=h;exact ⟨g,e,keep_blk hb hg⟩
theorem spof_two {w:World} {v:Value} (h:By2 w v):Calls Tryz.prog 112 #[v] w fun e w'=>e=.returned (.agg #[.int .u64 (Oc.U (Oc.mk Sp.two 0)),.int .u64 (Oc.U (Oc.mk Sp.two 1)),.int .u64 (Oc.U (Oc.mk Sp.two 2)),.int .u64 (Oc.U (Oc.mk Sp.two 3))])∧Below w.heap.size w w':=by
 obtain ⟨g,rfl,hg⟩:=h
 obtain ⟨bs,hbs⟩:∃ bs:Nat→Nat,bs=fun i=>if i=0 then 94 else 45:=⟨_,rfl⟩
 have h4:∀ i,i < 2→i=0 ∨ i=1:=fun i hi=>by omega
 have h:=of_any (some ⟨g,0,none⟩) 2 2 bs (by decide) w (fun i hi=>by rcases h4 i hi with rfl | rfl <;> (rw [hbs];decide)) (fun i hi=>⟨g,0,rfl,(Array.getElem?_eq_some_iff.1 hg).1,by
   rcases h4 i hi with rfl | rfl <;> simp [World.cell?,hg,hbs]⟩)
 have e0:Oc.anyB bs 2=Sp.two:=by
   funext x;rw [hbs];simp [Oc.anyB,Sp.two]
 have e:∀ k,Oc.mk (Oc.anyB bs 2) k=Oc.mk Sp.two k:=fun k=>by rw [e0]
 rw [e,e,e,e] at h
 exact h
theorem wrset_any (W0:World) (hT:SpTab W0) (x:Tr):WrSet W0 Sp.setTx x:=by
 intro w q l hb hl hlen
 by_cases h1:Oc.cnt (Oc.mem x.w0 x.w1 x.w2 x.w3) 256=1
 · have hS:Sp.setTx x=Sp.qb true (UInt8.ofNat (Oc.nx (Oc.mem x.w0 x.w1 x.w2 x.w3) 0)):=by
     unfold Sp.setTx Sp.setW;rw [if_neg (by omega),if_pos h1]
   exact wrset_one W0 hT Sp.setTx x h1 hS w q l hb hl hlen
 have hS:Sp.setTx x=Sp.setW x.w0 x.w1 x.w2 x.w3:=rfl
 rw [hS] at hlen ⊢
 clear hS
 have hcn:=fun w'=>count_any x.w0 x.w1 x.w2 x.w3 w'
 have hno:=fun w'=>not_any x.w0 x.w1 x.w2 x.w3 w'
 have hcl:=Oc.cnt_le (Oc.mem x.w0 x.w1 x.w2 x.w3) 256
 have HTT:=Lib.hid (fun w' (h:Below W0.heap.size W0 w')=>hT.later h)
 have hTB:23 < W0.heap.size:=hT.2
 clear hT
 generalize x.w0=a at *
 generalize x.w1=b at *
 generalize x.w2=c at *
 generalize x.w3=d at *
 unfold Sp.setW at hlen ⊢
 have HW1:=Lib.hid (fun w' l' h1 h2 h3 h4=>writeitems_any W0.heap.size a b c d w' q l' h1 h2 h3 hTB h4)
 have HW2:=Lib.hid (fun w' l' h1 h2 h3 h4=>writeitems_any W0.heap.size (~~~a) (~~~b) (~~~c) (~~~d) w' q l' h1 h2 h3 hTB h4)
 have hil:=Sp.itemsW_len a b c d;have hil2:=Sp.itemsW_len (~~~a) (~~~b) (~~~c) (~~~d)
 generalize hn:Oc.cnt (Oc.mem a b c d) 256=n at *
 clear hn hil hil2
 have HCN:=Lib.hid hcn;have HNO:=Lib.hid hno
 have HBB:=Lib.hid blbyte_any;have HBS:=Lib.hid blstr_any
 clear hcn hno
 have n1:((n:Int) == 1)=false:=by simp;omega
 have n1':(n == 1)=false:=by simp;omega
 by_cases h256:n=256
 · subst h256
   rw [if_pos rfl] at hlen ⊢
   simp only [List.length_cons,List.length_nil] at hlen
   clear n1 n1' HW1 HW2 HNO HTT
   have hwz:=hb.size
   have hbw:Below w.heap.size w (w.alloc (.cells #[.int .u64 (Oc.U a),.int .u64 (Oc.U b),.int .u64 (Oc.U c),.int .u64 (Oc.U d)] 25)):=(Below.refl _ _).alloc (Nat.le_refl _) _
   have Z0:=Lib.hid (heap_alloc_new w (.cells #[.int .u64 (Oc.U a),.int .u64 (Oc.U b),.int .u64 (Oc.U c),.int .u64 (Oc.U d)] 25))
   have HB0:=Lib.hid (hb.trans (hbw.mono hwz));have HL0:=Lib.hid (hl.later hbw);have HT0:=Lib.hid (BlTo.of_below (b:=q) hwz hbw)
   have hnb:w.heap.size ≠ q:=by have:=hl.lt;omega
   clear hb hl hbw
   go_enter Tryz.func75,Tryz.ntmps75
   go_wp2_with fail
   refine (HCN.out _).mono ?_;rintro e W1 ⟨rfl,hb1⟩
   have Z1:=Lib.hid (keep_blk (hb1.mono (Nat.le_refl _)) Z0.out)
   have hw0:=HB0.out.size
   have HB1:=Lib.hid (HB0.out.trans (hb1.mono hw0));have HL1:=Lib.hid (HL0.out.later hb1);have HT1:=Lib.hid (HT0.out.trans (BlTo.of_below (b:=q) hw0 hb1))
   obtain ⟨d0,d1,d2,d3⟩:=four_of Z1.out
   have hB1:=Nat.le_trans hw0 hb1.size
   clear hb1 Z0 HB0 HL0 HT0 hw0 HCN
   go_wp2_with fail
   refine (HBB.out W0.heap.size q l 46 (by omega) _ HL1.out (by omega) hB1).mono ?_;rintro e W2 ⟨rfl,h2,t2⟩
   have H2:=Lib.hid h2;have T2:=Lib.hid (HT1.out.trans t2)
   clear h2 t2
   go_wp2
   go_end0
   exact ⟨rfl,H2.out,T2.out⟩
 rw [if_neg h256,if_neg h1] at hlen ⊢
 have n256:((n:Int) == 256)=false:=by simp;omega
 have n256':(n == 256)=false:=by simpa using h256
 by_cases h0:n=0 ∨ 128 < n
 · rw [if_pos h0] at hlen ⊢
   simp only [List.length_append,List.length_cons,List.length_nil] at hlen
   have hp:(((n:Int) == 0)=true∧(n == 0)=true) ∨ ((((n:Int) == 0)=false∧(n == 0)=false)∧decide ((128:Int) < n)=true∧decide (128 < n)=true):=by
     by_cases hz:n=0
     · exact .inl (by subst hz;exact ⟨rfl,rfl⟩)
     · refine .inr ⟨⟨by simp;omega,by simpa using hz⟩, ?_⟩
       rcases h0 with h | h
       · exact absurd h hz
       · exact ⟨by simp;omega,by simpa using h⟩
   clear HW1 h0 h1 h256
   rcases hp with ⟨z0,z0'⟩ | ⟨⟨z0,z0'⟩,z1,z1'⟩
   all_goals
     have hwz:=hb.size
     have hbw:Below w.heap.size w (w.alloc (.cells #[.int .u64 (Oc.U a),.int .u64 (Oc.U b),.int .u64 (Oc.U c),.int .u64 (Oc.U d)] 25)):=(Below.refl _ _).alloc (Nat.le_refl _) _
     have Z0:=Lib.hid (heap_alloc_new w (.cells #[.int .u64 (Oc.U a),.int .u64 (Oc.U b),.int .u64 (Oc.U c),.int .u64 (Oc.U d)] 25))
     have HB0:=Lib.hid (hb.trans (hbw.mono hwz));have HL0:=Lib.hid (hl.later hbw);have HT0:=Lib.hid (BlTo.of_below (b:=q) hwz hbw)
     have hnb:w.heap.size ≠ q:=by have:=hl.lt;omega
     clear hb hl hbw
     go_enter Tryz.func75,Tryz.ntmps75
     go_wp2_with fail
     refine (HCN.out _).mono ?_;rintro e W1 ⟨rfl,hb1⟩
     have Z1:=Lib.hid (keep_blk (hb1.mono (Nat.le_refl _)) Z0.out)
     have hw0:=HB0.out.size
     have HB1:=Lib.hid (HB0.out.trans (hb1.mono hw0));have HL1:=Lib.hid (HL0.out.later hb1);have HT1:=Lib.hid (HT0.out.trans (BlTo.of_below (b:=q) hw0 hb1))
     obtain ⟨d0,d1,d2,d3⟩:=four_of Z1.out
     have hB1:=Nat.le_trans hw0 hb1.size
     clear hb1 Z0 HB0 HL0 HT0 hw0 HCN
     go_upto_region 11 with (fail)
     go_wp2_with fail
     refine (HBS.out W0.heap.size q l ⟨#[91,94]⟩ _ HL1.out (by show l.length+2 ≤ _;omega) hB1).mono ?_;rintro e W2 ⟨rfl,h2,t2⟩
     have H2:=Lib.hid h2;have T2:=Lib.hid (HT1.out.trans t2);have B2:=Lib.hid (HB1.out.trans t2.1);have hB2:=Nat.le_trans hB1 t2.1.size
     have Z2:=Lib.hid (t2.other (by decide) Z1.out hnb)
     clear h2 t2 d0 d1 d2 d3 Z1 HL1 HT1
     obtain ⟨d0,d1,d2,d3⟩:=four_of Z2.out
     go_wp2_with fail
     refine (HNO.out _).mono ?_;rintro e W3 ⟨rfl,hb3⟩
     have H3:=Lib.hid (H2.out.later hb3);have T3:=Lib.hid (T2.out.trans (BlTo.of_below (b:=q) hB2 hb3));have B3:=Lib.hid (B2.out.trans (hb3.mono hB2));have hB3:=Nat.le_trans hB2 hb3.size
     clear hb3 H2 T2 B2 Z2 d0 d1 d2 d3
     go_wp2_with fail
     refine (HW2.out _ _ H3.out hB3 (HTT.out _ B3.out) (by simp;omega)).mono ?_;rintro e W4 ⟨rfl,h4,t4⟩
     have H4:=Lib.hid h4;have T4:=Lib.hid (T3.out.trans t4);have hB4:=Nat.le_trans hB3 t4.1.size
     clear h4 t4 H3 T3 HW2
     go_wp2_with fail
     refine (HBB.out W0.heap.size q _ 93 (by omega) _ H4.out (by simp;omega) hB4).mono ?_;rintro e W5 ⟨rfl,h5,t5⟩
     have H5:=Lib.hid h5;have T5:=Lib.hid (T4.out.trans t5)
     clear h5 t5
     go_wp2
     go_end0
     exact ⟨rfl,by simpa [List.append_assoc] using H5.out,T5.out⟩
 rw [if_neg h0] at hlen ⊢
 have z0:((n:Int) == 0)=false:=by simp;omega
 have z0':(n == 0)=false:=by simp;omega
 have z1:decide ((128:Int) < n)=false:=by simp;omega
 have z1':decide (128 < n)=false:=by simp;omega
 clear HW2 HNO h0 h1 h256
 have hof:∀ w v,By2 w v→Calls Tryz.prog 112 #[v] w fun e w'=>e=.returned (.agg #[.int .u64 (Oc.U (Oc.mk Sp.two 0)),.int .u64 (Oc.U (Oc.mk Sp.two 1)),.int .u64 (Oc.U (Oc.mk Sp.two 2)),.int .u64 (Oc.U (Oc.mk Sp.two 3))])∧Below w.heap.size w w':=fun w v h=>spof_two h
 generalize Oc.mk Sp.two 0=t0 at *
 generalize Oc.mk Sp.two 1=t1 at *
 generalize Oc.mk Sp.two 2=t2 at *
 generalize Oc.mk Sp.two 3=t3 at *
 have HOF:=Lib.hid hof
 clear hof
 have he:=eq4
 by_cases h2:a=t0∧b=t1∧c=t2∧d=t3
 · rw [if_pos h2] at hlen ⊢
   simp only [List.length_cons,List.length_nil] at hlen
   obtain ⟨rfl,rfl,rfl,rfl⟩:=h2
   clear HW1 HTT
   have hwz:=hb.size
   have hbw:Below w.heap.size w (w.alloc (.cells #[.int .u64 (Oc.U a),.int .u64 (Oc.U b),.int .u64 (Oc.U c),.int .u64 (Oc.U d)] 25)):=(Below.refl _ _).alloc (Nat.le_refl _) _
   have Z0:=Lib.hid (heap_alloc_new w (.cells #[.int .u64 (Oc.U a),.int .u64 (Oc.U b),.int .u64 (Oc.U c),.int .u64 (Oc.U d)] 25))
   have HB0:=Lib.hid (hb.trans (hbw.mono hwz));have HL0:=Lib.hid (hl.later hbw);have HT0:=Lib.hid (BlTo.of_below (b:=q) hwz hbw)
   have hnb:w.heap.size ≠ q:=by have:=hl.lt;omega
   clear hb hl hbw
   go_enter Tryz.func75,Tryz.ntmps75
   go_wp2_with fail
   refine (HCN.out _).mono ?_;rintro e W1 ⟨rfl,hb1⟩
   have Z1:=Lib.hid (keep_blk (hb1.mono (Nat.le_refl _)) Z0.out)
   have hw0:=HB0.out.size
   have HB1:=Lib.hid (HB0.out.trans (hb1.mono hw0));have HL1:=Lib.hid (HL0.out.later hb1);have HT1:=Lib.hid (HT0.out.trans (BlTo.of_below (b:=q) hw0 hb1))
   obtain ⟨d0,d1,d2,d3⟩:=four_of Z1.out
   have hB1:=Nat.le_trans hw0 hb1.size
   clear hb1 Z0 HB0 HL0 HT0 hw0 HCN
   go_upto_region 14 with (fail)
   refine Ri.wp_region_frame (by kernel_rfl) (by kernel_rfl) (by kernel_rfl) (by kernel_rfl)
     (fun L v w'=>Below W1.heap.size W1 w'∧(L 0=true→v 0=.agg #[.int .u64 (Oc.U a),.int .u64 (Oc.U b),.int .u64 (Oc.U c),.int .u64 (Oc.U d)])∧(L 1=true→By2 w' (v 1))∧(L 2=true→v 2=.agg #[.int .u64 (Oc.U a),.int .u64 (Oc.U b),.int .u64 (Oc.U c),.int .u64 (Oc.U d)])∧(L 3=true→v 3=.bool true)∧(L 4=true→v 4=.bool true))
     ?_ ?_ ?_
   · exact ⟨(Below.refl _ _).drew,by simp,by simp,by simp,by simp,by simp⟩
   · intro i hi9 L v w9 xa hI hL hd hv ho
     have hi':i=0 ∨ i=1 ∨ i=2 ∨ i=3 ∨ i=4:=by simp at hi9;omega
     obtain ⟨hb,q0,q1,q2,q3,q4⟩:=hI
     rcases hi' with rfl | rfl | rfl | rfl | rfl
     · have e3:xa.tmps.getD 3 undef=.pointer (some ⟨w.heap.size,0,none⟩):=ho 3 (by kernel_rfl)
       refine Ri.step_plain rfl rfl (fun K' hK=>?_)
       refine wp_load_row _ _ rfl _ e3 _ _ _ _ (keep_blk hb Z1.out) Tryz.underlying25 rfl (by kernel_rfl) ?_
       exact hK _ _ ⟨_,_,rfl,rfl,hb,fun _=>rfl,q1,q2,q3,q4⟩
     · refine Ri.step_plain rfl rfl (fun K' hK=>?_)
       refine wp_bytes2 _ _ rfl ?_
       exact hK _ _ ⟨_,_,rfl,rfl,hb.alloc hb.size _,q0,fun _=>⟨_,rfl,heap_alloc_new _ _⟩,q2,q3,q4⟩
     · have l0:L 1=true:=by have:=hd _ rfl;simp [Region.binds] at this;simp [this]
       have f1:=hv 1 49 rfl l0
       refine Ri.step_plain rfl rfl (fun K' hK=>?_)
       go_simp
       refine (HOF.out w9 _ (q1 l0)).mono ?_
       rintro e w8 ⟨rfl,hb8⟩
       exact hK _ _ ⟨_,_,rfl,rfl,hb.trans (hb8.mono hb.size),q0,fun l=>(q1 l).below hb8,fun _=>rfl,q3,q4⟩
     · have l0:L 0=true∧L 2=true:=by have:=hd _ rfl;simp [Region.binds] at this;simp [this]
       have f0:=(hv 0 48 rfl l0.1).trans (q0 l0.1)
       have f2:=(hv 2 50 rfl l0.2).trans (q2 l0.2)
       refine Ri.step_plain rfl rfl (fun K' hK=>?_)
       go_simp
       exact hK _ _ ⟨_,_,rfl,rfl,hb,q0,q1,q2,fun _=>rfl,q4⟩
     · have l0:L 3=true:=by have:=hd _ rfl;simp [Region.binds] at this;simp [this]
       have f3:=(hv 3 51 rfl l0).trans (q3 l0)
       refine Ri.step_plain rfl rfl (fun K' hK=>?_)
       go_simp
       exact hK _ _ ⟨_,_,rfl,rfl,hb,q0,q1,q2,q3,fun _=>rfl⟩
   · rintro v w9 ⟨hb,-,-,-,-,q4⟩
     have q4':v 4=.bool true:=q4 rfl
     simp only [Ri.frame,List.zipIdx,List.foldl_cons,List.foldl_nil,if_true,List.setIfInBounds_toArray,List.set_cons_zero,List.set_cons_succ,Nat.reduceAdd,q4']
     clear q4 q4'
     generalize v 0=y0;generalize v 1=y1;generalize v 2=y2;generalize v 3=y3
     have hB2:=Nat.le_trans hB1 hb.size
     have H2:=Lib.hid (HL1.out.later hb);have T2:=Lib.hid (HT1.out.trans (BlTo.of_below (b:=q) hB1 hb))
     clear hb HL1 HT1 Z1
     go_wp2_with fail
     refine (HBS.out W0.heap.size q l ⟨#[91,45,94,93]⟩ _ H2.out (by show l.length+4 ≤ _;omega) hB2).mono ?_;rintro e W3 ⟨rfl,h3,t3'⟩
     have H3:=Lib.hid h3;have T3:=Lib.hid (T2.out.trans t3')
     clear h3 t3'
     go_wp2
     go_end0
     exact ⟨rfl,H3.out,T3.out⟩
 · rw [if_neg h2] at hlen ⊢
   simp only [List.length_append,List.length_cons,List.length_nil] at hlen
   have hne:=U_ne h2
   clear h2
   have hwz:=hb.size
   have hbw:Below w.heap.size w (w.alloc (.cells #[.int .u64 (Oc.U a),.int .u64 (Oc.U b),.int .u64 (Oc.U c),.int .u64 (Oc.U d)] 25)):=(Below.refl _ _).alloc (Nat.le_refl _) _
   have Z0:=Lib.hid (heap_alloc_new w (.cells #[.int .u64 (Oc.U a),.int .u64 (Oc.U b),.int .u64 (Oc.U c),.int .u64 (Oc.U d)] 25))
   have HB0:=Lib.hid (hb.trans (hbw.mono hwz));have HL0:=Lib.hid (hl.later hbw);have HT0:=Lib.hid (BlTo.of_below (b:=q) hwz hbw)
   have hnb:w.heap.size ≠ q:=by have:=hl.lt;omega
   clear hb hl hbw
   go_enter Tryz.func75,Tryz.ntmps75
   go_wp2_with fail
   refine (HCN.out _).mono ?_;rintro e W1 ⟨rfl,hb1⟩
   have Z1:=Lib.hid (keep_blk (hb1.mono (Nat.le_refl _)) Z0.out)
   have hw0:=HB0.out.size
   have HB1:=Lib.hid (HB0.out.trans (hb1.mono hw0));have HL1:=Lib.hid (HL0.out.later hb1);have HT1:=Lib.hid (HT0.out.trans (BlTo.of_below (b:=q) hw0 hb1))
   obtain ⟨d0,d1,d2,d3⟩:=four_of Z1.out
   have hB1:=Nat.le_trans hw0 hb1.size
   clear hb1 Z0 HB0 HL0 HT0 hw0 HCN
   go_upto_region 14 with (fail)
   refine Ri.wp_region_frame (by kernel_rfl) (by kernel_rfl) (by kernel_rfl) (by kernel_rfl)
     (fun L v w'=>Below W1.heap.size W1 w'∧(L 0=true→v 0=.agg #[.int .u64 (Oc.U a),.int .u64 (Oc.U b),.int .u64 (Oc.U c),.int .u64 (Oc.U d)])∧(L 1=true→By2 w' (v 1))∧(L 2=true→v 2=.agg #[.int .u64 (Oc.U t0),.int .u64 (Oc.U t1),.int .u64 (Oc.U t2),.int .u64 (Oc.U t3)])∧(L 3=true→v 3=.bool false)∧(L 4=true→v 4=.bool false))
     ?_ ?_ ?_
   · exact ⟨(Below.refl _ _).drew,by simp,by simp,by simp,by simp,by simp⟩
   · intro i hi9 L v w9 xa hI hL hd hv ho
     have hi':i=0 ∨ i=1 ∨ i=2 ∨ i=3 ∨ i=4:=by simp at hi9;omega
     obtain ⟨hb,q0,q1,q2,q3,q4⟩:=hI
     rcases hi' with rfl | rfl | rfl | rfl | rfl
     · have e3:xa.tmps.getD 3 undef=.pointer (some ⟨w.heap.size,0,none⟩):=ho 3 (by kernel_rfl)
       refine Ri.step_plain rfl rfl (fun K' hK=>?_)
       refine wp_load_row _ _ rfl _ e3 _ _ _ _ (keep_blk hb Z1.out) Tryz.underlying25 rfl (by kernel_rfl) ?_
       exact hK _ _ ⟨_,_,rfl,rfl,hb,fun _=>rfl,q1,q2,q3,q4⟩
     · refine Ri.step_plain rfl rfl (fun K' hK=>?_)
       refine wp_bytes2 _ _ rfl ?_
       exact hK _ _ ⟨_,_,rfl,rfl,hb.alloc hb.size _,q0,fun _=>⟨_,rfl,heap_alloc_new _ _⟩,q2,q3,q4⟩
     · have l0:L 1=true:=by have:=hd _ rfl;simp [Region.binds] at this;simp [this]
       have f1:=hv 1 49 rfl l0
       refine Ri.step_plain rfl rfl (fun K' hK=>?_)
       go_simp
       refine (HOF.out w9 _ (q1 l0)).mono ?_
       rintro e w8 ⟨rfl,hb8⟩
       exact hK _ _ ⟨_,_,rfl,rfl,hb.trans (hb8.mono hb.size),q0,fun l=>(q1 l).below hb8,fun _=>rfl,q3,q4⟩
     · have l0:L 0=true∧L 2=true:=by have:=hd _ rfl;simp [Region.binds] at this;simp [this]
       have f0:=(hv 0 48 rfl l0.1).trans (q0 l0.1)
       have f2:=(hv 2 50 rfl l0.2).trans (q2 l0.2)
       refine Ri.step_plain rfl rfl (fun K' hK=>?_)
       go_simp
       exact hK _ _ ⟨_,_,rfl,rfl,hb,q0,q1,q2,fun _=>rfl,q4⟩
     · have l0:L 3=true:=by have:=hd _ rfl;simp [Region.binds] at this;simp [this]
       have f3:=(hv 3 51 rfl l0).trans (q3 l0)
       refine Ri.step_plain rfl rfl (fun K' hK=>?_)
       go_simp
       exact hK _ _ ⟨_,_,rfl,rfl,hb,q0,q1,q2,q3,fun _=>rfl⟩
   · rintro v w9 ⟨hb,-,-,-,-,q4⟩
     have q4':v 4=.bool false:=q4 rfl
     simp only [Ri.frame,List.zipIdx,List.foldl_cons,List.foldl_nil,if_true,List.setIfInBounds_toArray,List.set_cons_zero,List.set_cons_succ,Nat.reduceAdd,q4']
     clear q4 q4'
     generalize v 0=y0;generalize v 1=y1;generalize v 2=y2;generalize v 3=y3
     have hB2:=Nat.le_trans hB1 hb.size
     have H2:=Lib.hid (HL1.out.later hb);have T2:=Lib.hid (HT1.out.trans (BlTo.of_below (b:=q) hB1 hb));have B2:=Lib.hid (HB1.out.trans (hb.mono HB1.out.size));have Z2:=Lib.hid (keep_blk hb Z1.out)
     clear hb HL1 HT1 Z1 HB1 d0 d1 d2 d3
     go_wp2_with fail
     refine (HBB.out W0.heap.size q l 91 (by omega) _ H2.out (by omega) hB2).mono ?_;rintro e W3 ⟨rfl,h3,t3'⟩
     have H3:=Lib.hid h3;have T3:=Lib.hid (T2.out.trans t3');have B3:=Lib.hid (B2.out.trans t3'.1);have hB3:=Nat.le_trans hB2 t3'.1.size
     have Z3:=Lib.hid (t3'.other (by decide) Z2.out hnb)
     clear h3 t3' H2 T2 B2 Z2
     obtain ⟨d0,d1,d2,d3⟩:=four_of Z3.out
     go_wp2_with fail
     refine (HW1.out _ _ H3.out hB3 (HTT.out _ B3.out) (by simp;omega)).mono ?_;rintro e W4 ⟨rfl,h4,t4⟩
     have H4:=Lib.hid h4;have T4:=Lib.hid (T3.out.trans t4);have hB4:=Nat.le_trans hB3 t4.1.size
     clear h4 t4 H3 T3 HW1
     go_wp2_with fail
     refine (HBB.out W0.heap.size q _ 93 (by omega) _ H4.out (by simp;omega) hB4).mono ?_;rintro e W5 ⟨rfl,h5,t5⟩
     have H5:=Lib.hid h5;have T5:=Lib.hid (T4.out.trans t5)
     clear h5 t5
     go_wp2
     go_end0
     exact ⟨rfl,by simpa [List.append_assoc] using H5.out,T5.out⟩
end Go.Proofs.YtnfdknhhkdphhaaGreatDoor
namespace Go.Proofs.YtnfdknhhkdphhaaGreatDoor
open Go.RowKit
theorem ba_tx {x:ByteArray} {l:List UInt8} (h:x.data.toList=l):Ending.returned (.string x)=.returned (.string (tx l)) :=
 congrArg (fun s=>Ending.returned (.string s)) (ba_mk h)
theorem refrepeat_any (a b:Int) (ha : -9223372036854775808 ≤ a∧a ≤ 9223372036854775807) (hb : -9223372036854775808 ≤ b∧b ≤ 9223372036854775807) (w:World) :
   Calls Tryz.prog 84 #[.int .i64 a,.int .i64 b] w fun e w'=>e=.returned (.string (tx (Sp.repTx a b)))∧Below w.heap.size w w':=by
 have HA:=Lib.hid (fun w'=>decimal_any a ha.1 ha.2 w')
 have HB:=Lib.hid (fun w'=>decimal_any b hb.1 hb.2 w')
 obtain ⟨R,hR⟩:∃ R,Sp.repTx a b=R:=⟨_,rfl⟩
 rw [hR]
 have hla:(tx (Lib.itoa a)).size ≤ 20:=by rw [tx_size];exact itoa_len ha.1 ha.2
 have hlb:(tx (Lib.itoa b)).size ≤ 20:=by rw [tx_size];exact itoa_len hb.1 hb.2
 unfold Sp.repTx at hR
 generalize hda:Lib.itoa a=da at *
 generalize hdb:Lib.itoa b=db at *
 clear hda hdb ha hb
 have HR:=Lib.hid hR
 clear hR
 go_enter Tryz.func84,Tryz.ntmps84
 go_wp2_with fail
 refine (HA.out _).mono ?_;rintro e w1 ⟨rfl,hb1⟩
 have HB1:=Lib.hid hb1
 clear hb1
 by_cases hb1:b = -1
 · have hR:=HR.out
   rw [if_pos hb1] at hR
   subst hb1
   by_cases ha0:a=0
   · rw [if_pos ha0] at hR
     subst ha0
     have HQ:=Lib.hid hR
     clear hR
     go_wp2
     go_ret
     exact ⟨by rw [← HQ.out];rfl,HB1.out⟩
   · rw [if_neg ha0] at hR
     have e0:(a == 0)=false:=by simpa using ha0
     by_cases ha1:a=1
     · rw [if_pos ha1] at hR
       subst ha1
       have HQ:=Lib.hid hR
       clear hR e0
       go_wp2
       go_ret
       exact ⟨by rw [← HQ.out];rfl,HB1.out⟩
     · rw [if_neg ha1] at hR
       have e1:(a == 1)=false:=by simpa using ha1
       have HQ:=Lib.hid hR
       clear hR ha0 ha1
       go_wp2
       go_ret
       refine ⟨?_,HB1.out⟩
       rw [← HQ.out]
       exact ba_tx (by simp [tx,ByteArray.data_append])
 · have hR:=HR.out
   rw [if_neg hb1] at hR
   have eb1:(b == -1)=false:=by simpa using hb1
   clear hb1
   by_cases h01:a=0∧b=1
   · rw [if_pos h01] at hR
     obtain ⟨rfl,rfl⟩:=h01
     have HQ:=Lib.hid hR
     clear hR eb1
     go_wp2
     go_ret
     exact ⟨by rw [← HQ.out];rfl,HB1.out⟩
   · rw [if_neg h01] at hR
     have hx:(a == 0 && b == 1)=false:=by
       rw [Bool.eq_false_iff];intro h;simp only [Bool.and_eq_true,beq_iff_eq] at h;exact h01 h
     clear h01
     by_cases hab:b=a
     · rw [if_pos hab] at hR
       subst hab
       have HQ:=Lib.hid hR
       clear hR
       cases e0:(b == 0) <;> cases e1:(b == 1) <;> first
         | (rw [e0,e1] at hx;cases hx;done)
         | (clear hx
            go_wp2
            go_ret
            refine ⟨?_,HB1.out⟩
            rw [← HQ.out]
            exact ba_tx (by simp [tx,ByteArray.data_append]))
     · rw [if_neg hab] at hR
       have HQ:=Lib.hid hR
       have eab:(a == b)=false:=by rw [beq_eq_false_iff_ne];exact fun h=>hab h.symm
       clear hR hab
       cases e0:(a == 0) <;> cases e1:(b == 1) <;> first
         | (rw [e0,e1] at hx;cases hx;done)
         | (clear hx
            go_wp2_with fail
            refine (HB.out _).mono ?_;rintro e w2 ⟨rfl,hb2⟩
            have HB2:=Lib.hid (HB1.out.trans (hb2.mono HB1.out.size))
            clear hb2
            go_wp2
            go_ret
            refine ⟨?_,HB2.out⟩
            rw [← HQ.out]
            exact ba_tx (by simp [tx,ByteArray.data_append]))
end Go.Proofs.YtnfdknhhkdphhaaGreatDoor
namespace Go.Proofs.YtnfdknhhkdphhaaGreatDoor
open Go.RowKit
theorem ba_vs {x:ByteArray} {l:List UInt8} (h:x.data.toList=l):Value.string x=.string (tx l):=congrArg Value.string (ba_mk h)
def RefSet (S:Tr→List UInt8) (x:Tr):Prop:=∀ w:World,Calls Tryz.prog 83 #[.agg #[.int .u64 (Oc.U x.w0),.int .u64 (Oc.U x.w1),.int .u64 (Oc.U x.w2),.int .u64 (Oc.U x.w3)]] w fun e w'=>e=.returned (.string (tx (S x)))∧Below w.heap.size w w'
theorem txT_le (S:Tr→List UInt8) (sep:List UInt8) {l:List Tr} {x:Tr} (h:x ∈ l):(Sp.txT S x).length ≤ (Sp.txS S sep l).length:=by
 obtain ⟨m,hm,rfl⟩:=List.getElem_of_mem h
 have h1:=Sp.txS_take S sep l m l[m] (List.getElem?_eq_getElem hm)
 have h2:=Sp.txS_le S sep l (l.length - (m+1)) (m+1) (by omega)
 rw [h1] at h2
 simp only [List.length_append] at h2
 omega
theorem reftext_any (S:Tr→List UInt8):∀ t:Tr,t.InForm→(∀ x,x ∈ Sp.lvsT t→RefSet S x)→(Sp.txT S t).length ≤ 70368744177664→∀ (w:World) (B:Nat→Prop) (v:Value),NodeV w B v t→Calls Tryz.prog 42 #[v] w fun e w'=>e=.returned (.string (tx (Sp.txT S t)))∧Below w.heap.size w w':=by
 intro t
 induction t using Tr.rec_subs with
 | h t ih =>
   intro hf hset hlen w B v hv
   have hfl:=hf.fields
   have hk:((t.kind=1 ∨ t.kind=2 ∨ t.kind=3 ∨ t.kind=4)∧t.subs=[]) ∨ t.kind=5 ∨ t.kind=6 ∨ t.kind=7 ∨ (t.kind=8∧(0 ≤ t.least∧t.least ≤ 255)∧(t.most = -1 ∨ t.least ≤ t.most∧t.most ≤ 255)):=by
     unfold Tr.fieldsOk at hfl
     rcases hfl with ⟨h,-,-,-,-,hl,-⟩ | ⟨h,hl,-⟩ | ⟨h | h,-⟩ | ⟨h,-⟩ | ⟨h,-,-,-,-,-,-,h1,h2,h3,-⟩
     · have e:t.subs=[]:=by first | exact hl | exact List.length_eq_zero_iff.1 hl
       refine .inl ⟨?_,e⟩;omega
     · have e:t.subs=[]:=by first | exact hl | exact List.length_eq_zero_iff.1 hl
       exact .inl ⟨by omega,e⟩
     · exact .inr (.inl h)
     · exact .inr (.inr (.inl h))
     · exact .inr (.inr (.inr (.inl h)))
     · exact .inr (.inr (.inr (.inr ⟨h,⟨h1,h2⟩,h3⟩)))
   have htx:Sp.txT S t=if t.kind=2 then S t else if t.kind=3 then [94] else if t.kind=4 then [36] else if t.kind=5 then Sp.txS S [] t.subs else if t.kind=6 then Sp.txS S [124] t.subs else if t.kind=7 then [40] ++ Sp.txS S [] t.subs ++ [41] else if t.kind=8 then Sp.txS S [] t.subs ++ Sp.repTx t.least t.most else []:=by
     cases t;rw [Sp.txT];rfl
   obtain ⟨sep,hsep⟩:∃ sep:List UInt8,(if t.kind=6 then [124] else [])=sep:=⟨_,rfl⟩
   have hsum:(Sp.txS S sep t.subs).length ≤ 70368744177664:=by
     rw [← hsep]
     rcases hk with ⟨-,h⟩ | h | h | h | ⟨h,-⟩
     · rw [h];split <;> simp [Sp.txS]
     all_goals
       rw [htx] at hlen
       simp only [h,reduceIte,Int.reduceEq,List.length_append,List.length_cons,List.length_nil] at hlen ⊢
       omega
   have hsubs:∀ u,u ∈ t.subs→∀ (w:World) (B:Nat→Prop) (v:Value),NodeV w B v u→Calls Tryz.prog 42 #[v] w fun e w'=>e=.returned (.string (tx (Sp.txT S u)))∧Below w.heap.size w w':=fun u hu =>
     ih u hu (hf.sub hu) (fun x hx=>hset x (by
       cases t with | node k a b c d s n lo hi br =>
       have hk2:¬ k=2:=by
         intro h
         rcases hk with ⟨-,h'⟩ | h' | h' | h' | ⟨h',-⟩
         · rw [h'] at hu;cases hu
         all_goals (simp only [Tr.kind] at h';omega)
       rw [Sp.lvsT,if_neg hk2]
       exact Sp.lvsS_mem hu hx)) (Nat.le_trans (txT_le S sep hu) hsum)
   have hset2:t.kind=2→RefSet S t:=fun hk=>hset t (by
     cases t with | node k a b c d s n lo hi br =>
     rw [Sp.lvsT,if_pos (show k=2 from hk)];exact List.mem_cons_self)
   have hXS:t.kind=2→(S t).length ≤ 70368744177664:=fun h=>by rw [htx,if_pos h] at hlen;exact hlen
   obtain ⟨s,rfl,hs⟩:=hv
   obtain ⟨p,cap,rfl,hlens⟩:=hs.slice
   obtain ⟨R,hR⟩:∃ R,Sp.txT S t=R:=⟨_,rfl⟩
   rw [hR]
   rw [htx] at hR
   clear htx hlen hset ih hf hfl
   have IH:=Lib.hid hsubs;have HS:=Lib.hid hs;have HR:=Lib.hid hR;have HK:=Lib.hid hk;have HSET:=Lib.hid hset2;have HXS:=Lib.hid hXS;have HSEP:=Lib.hid hsep;have HSUM:=Lib.hid hsum
   clear hsubs hs hR hk hset2 hXS hsep hsum
   generalize t.subs=ts at *
   unfold Tr.cells at *
   generalize t.kind=K at *
   have Z0:=Lib.hid (heap_alloc_new w (.cells #[.int .i64 K,.int .u64 (Oc.U t.w0),.int .u64 (Oc.U t.w1),.int .u64 (Oc.U t.w2),.int .u64 (Oc.U t.w3),.slice p ts.length cap,.int .i64 t.num,.int .i64 t.least,.int .i64 t.most,.bool t.bare] 28))
   have HW:=Lib.hid (show Below w.heap.size w (w.alloc (.cells #[.int .i64 K,.int .u64 (Oc.U t.w0),.int .u64 (Oc.U t.w1),.int .u64 (Oc.U t.w2),.int .u64 (Oc.U t.w3),.slice p ts.length cap,.int .i64 t.num,.int .i64 t.least,.int .i64 t.most,.bool t.bare] 28)) from (Below.refl _ _).alloc (Nat.le_refl _) _)
   go_enter Tryz.func42,Tryz.ntmps42
   go_wp2
   generalize w.alloc (.cells #[.int .i64 K,.int .u64 (Oc.U t.w0),.int .u64 (Oc.U t.w1),.int .u64 (Oc.U t.w2),.int .u64 (Oc.U t.w3),.slice p ts.length cap,.int .i64 t.num,.int .i64 t.least,.int .i64 t.most,.bool t.bare] 28)=W0 at *
   go_loopw [3,4] (fun sv iv wr=>∃ m:Nat,iv=.int .i64 m∧m ≤ ts.length∧sv=.string (tx (Sp.txS S sep (ts.take m)))∧Hid (Below W0.heap.size W0 wr)) (fun _ iv _=>ts.length - (intOf iv).toNat)
   case atStart=>exact ⟨0,rfl,Nat.zero_le _,rfl,Lib.hid (Below.refl _ _)⟩
   case round =>
     obtain ⟨m,rfl,hm,rfl,HB⟩:=hrel
     have wm:IntKind.i64.wrap ((m:Int)+1)=(m:Int)+1:=IntWalk.i64_in _ (by omega)
     have HBW:=Lib.hid (HW.out.trans (HB.out.mono HW.out.size))
     have Z1:=Lib.hid (keep_blk (HB.out.mono (Nat.le_refl _)) Z0.out)
     by_cases hlt:m < ts.length
     · have z5:=(allTen Z1.out).2.2.2.2.2.1
       have z0:=(allTen Z1.out).1
       obtain ⟨x,hx⟩:∃ x,ts[m]? = some x:=⟨_,List.getElem?_eq_getElem hlt⟩
       obtain ⟨b1,o1,s1,rfl,-,t1,sub1⟩:=HS.out.get hx
       obtain ⟨d0,d1,d2,d3,d4,d5,d6,d7,d8,d9⟩:=t1.keep (HBW.out.block _ t1.lt)
       have hmem:=List.mem_of_getElem? hx
       obtain ⟨p1,c1,rfl,hl1⟩:=sub1.slice
       have HC:=Lib.hid (fun w9 hb=>IH.out x hmem w9 B (.agg (x.cells (.slice p1 x.subs.length c1))) ⟨_,rfl,sub1.later hb⟩)
       have HSTP:=Lib.hid (Sp.txS_take S sep ts m x hx)
       have hP:(tx (Sp.txS S sep (ts.take m))).size ≤ 70368744177664:=by rw [tx_size];exact Nat.le_trans (Sp.txS_le S sep ts (ts.length - m) m (by omega)) HSUM.out
       have hX:(tx (Sp.txT S x)).size ≤ 70368744177664:=by rw [tx_size];exact Nat.le_trans (txT_le S sep hmem) HSUM.out
       clear t1 sub1 hmem hx
       generalize Sp.txS S sep (ts.take m)=P at *
       generalize Sp.txT S x=X at *
       unfold Tr.cells at HC
       by_cases hm0:m=0
       · have HG:=Lib.hid (show (if m=0 then ([]:List UInt8) else sep)=[] from if_pos hm0)
         have q1:decide ((0:Int) < m)=false:=by rw [decide_eq_false_iff_not];omega
         have q2:decide (0 < m)=false:=by rw [decide_eq_false_iff_not];omega
         clear hm0
         go_wp2_with fail
         refine (HC.out wr HBW.out).mono ?_
         rintro e w2 ⟨rfl,hb2⟩
         have HB2:=Lib.hid (HB.out.trans (hb2.mono HB.out.size))
         clear d0 d1 d2 d3 d4 d5 d6 d7 d8 d9 z0 z5 hb2 HC
         go_wp2
         exact ⟨⟨m+1,by go_num,by omega,by rw [HSTP.out,HG.out];exact ba_vs (by simp [tx,ByteArray.data_append]),HB2⟩,by simp [intOf];omega⟩
       · have q1:decide ((0:Int) < m)=true:=by rw [decide_eq_true_eq];omega
         have q2:decide (0 < m)=true:=by rw [decide_eq_true_eq];omega
         by_cases h6:K=6
         · have HG:=Lib.hid (show (if m=0 then ([]:List UInt8) else sep)=[124] by rw [if_neg hm0,← HSEP.out,if_pos h6])
           have e6:(K == 6)=true:=beq_iff_eq.2 h6
           clear hm0 h6
           go_wp2_with fail
           refine (HC.out wr HBW.out).mono ?_
           rintro e w2 ⟨rfl,hb2⟩
           have HB2:=Lib.hid (HB.out.trans (hb2.mono HB.out.size))
           clear d0 d1 d2 d3 d4 d5 d6 d7 d8 d9 z0 z5 hb2 HC
           go_wp2
           exact ⟨⟨m+1,by go_num,by omega,by rw [HSTP.out,HG.out];exact ba_vs (by simp [tx,ByteArray.data_append]),HB2⟩,by simp [intOf];omega⟩
         · have HG:=Lib.hid (show (if m=0 then ([]:List UInt8) else sep)=[] by rw [if_neg hm0,← HSEP.out,if_neg h6])
           have e6:(K == 6)=false:=beq_eq_false_iff_ne.2 h6
           clear hm0 h6
           go_wp2_with fail
           refine (HC.out wr HBW.out).mono ?_
           rintro e w2 ⟨rfl,hb2⟩
           have HB2:=Lib.hid (HB.out.trans (hb2.mono HB.out.size))
           clear d0 d1 d2 d3 d4 d5 d6 d7 d8 d9 z0 z5 hb2 HC
           go_wp2
           exact ⟨⟨m+1,by go_num,by omega,by rw [HSTP.out,HG.out];exact ba_vs (by simp [tx,ByteArray.data_append]),HB2⟩,by simp [intOf];omega⟩
     · obtain rfl:m=ts.length:=by omega
       rw [List.take_length] at *
       have hP:(tx (Sp.txS S sep ts)).size ≤ 70368744177664:=by rw [tx_size];exact HSUM.out
       have hR:=HR.out
       have hsep:=HSEP.out
       clear HSUM HR HSEP IH HS
       have hk:=HK.out
       clear HK
       rcases hk with ⟨rfl | rfl | rfl | rfl,h0⟩ | rfl | rfl | rfl | ⟨rfl,hlo,hhi⟩
       · simp only [reduceIte,Int.reduceEq] at hR hsep
         subst hsep;subst hR
         rw [h0] at *
         simp only [Sp.txS] at *
         obtain ⟨d0,d1,d2,d3,d4,d5,d6,d7,d8,d9⟩:=allTen Z1.out
         go_wp2
         go_ret
         exact ⟨rfl,HBW.out⟩
       · simp only [reduceIte,Int.reduceEq] at hR hsep
         subst hsep;subst hR
         obtain ⟨d0,d1,d2,d3,d4,d5,d6,d7,d8,d9⟩:=allTen Z1.out
         have hX:=HXS.out rfl
         go_wp2_with fail
         refine (HSET.out (by trivial) _).mono ?_
         rintro e w2 ⟨rfl,hb2⟩
         have HB2:=Lib.hid (HBW.out.trans (hb2.mono HBW.out.size))
         clear hb2
         go_wp2
         go_ret
         exact ⟨rfl,HB2.out⟩
       · simp only [reduceIte,Int.reduceEq] at hR hsep
         subst hsep;subst hR
         obtain ⟨d0,d1,d2,d3,d4,d5,d6,d7,d8,d9⟩:=allTen Z1.out
         go_wp2
         go_ret
         exact ⟨rfl,HBW.out⟩
       · simp only [reduceIte,Int.reduceEq] at hR hsep
         subst hsep;subst hR
         obtain ⟨d0,d1,d2,d3,d4,d5,d6,d7,d8,d9⟩:=allTen Z1.out
         go_wp2
         go_ret
         exact ⟨rfl,HBW.out⟩
       · simp only [reduceIte,Int.reduceEq] at hR hsep
         subst hsep;subst hR
         obtain ⟨d0,d1,d2,d3,d4,d5,d6,d7,d8,d9⟩:=allTen Z1.out
         go_wp2
         go_ret
         exact ⟨rfl,HBW.out⟩
       · simp only [reduceIte,Int.reduceEq] at hR hsep
         subst hsep;subst hR
         obtain ⟨d0,d1,d2,d3,d4,d5,d6,d7,d8,d9⟩:=allTen Z1.out
         go_wp2
         go_ret
         exact ⟨rfl,HBW.out⟩
       · simp only [reduceIte,Int.reduceEq] at hR hsep
         subst hsep;subst hR
         obtain ⟨d0,d1,d2,d3,d4,d5,d6,d7,d8,d9⟩:=allTen Z1.out
         go_wp2
         go_ret
         exact ⟨ba_tx (by simp [tx,ByteArray.data_append]),HBW.out⟩
       · simp only [reduceIte,Int.reduceEq] at hR hsep
         subst hsep;subst hR
         obtain ⟨d0,d1,d2,d3,d4,d5,d6,d7,d8,d9⟩:=allTen Z1.out
         have hrl:(tx (Sp.repTx t.least t.most)).size ≤ 43:=by rw [tx_size];exact Sp.repTx_len _ _ (by omega) (by omega)
         have HREP:=Lib.hid (fun w=>refrepeat_any t.least t.most (by omega) (by omega) w)
         clear hlo hhi
         go_wp2_with fail
         refine (HREP.out _).mono ?_
         rintro e w2 ⟨rfl,hb2⟩
         have HB2:=Lib.hid (HBW.out.trans (hb2.mono HBW.out.size))
         clear hb2
         go_wp2
         go_ret
         exact ⟨ba_tx (by simp [tx,ByteArray.data_append]),HB2.out⟩
end Go.Proofs.YtnfdknhhkdphhaaGreatDoor
