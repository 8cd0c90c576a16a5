/- Part 1 of what these proofs need. -/
import Derived.WalkKit
import Derived.WalkSpells
import Derived.WalkLawsBesides
import Derived.Handy
import Derived.Lib.Hide
import Derived.Test.YtllfgppjobinnaaDoorRows
import Derived.Deep.MidRow
import Derived.Laws.AppendOwn
import Derived.Great.BuildSlice
import Derived.Laws.MakeOwn
import Derived.Deep.RegionWith
import Derived.Deep.RegionHeld3
import Derived.StillTailTactics
import Derived.Deep.QuietTactic
import Derived.BigQuiet
import Derived.RegionTactic
import Derived.Deep.DeepCutAuto
import Derived.Test.YtllfgppjobinnaaDoorChecked
import Derived.LaidEql
import Derived.Stop.Asserts
import Derived.Stop.IfaceNil
import Derived.RowKitTokens
import Derived.Deep.LoopGhost
import Derived.ProofKit
import Derived.LaidMore
import Derived.LaidHandle
import Derived.OpenShut
import Derived.MakeChecks
import Derived.Stop.LaidErr
import Derived.Lib.ItoaNum
import Derived.Lib.ItoaLen
set_option maxRecDepth 100000
set_option maxHeartbeats 16000000
namespace Go.Proofs.YtllfgppjobinnaaDoor
open Go.RowKit
theorem ret_int {k:IntKind} {a b:Int} (h:a=b):Ending.returned (.int k a)=.returned (.int k b):=by rw [h]
theorem ret_bool {a b:Bool} (h:a=b):Ending.returned (.bool a)=.returned (.bool b):=by rw [h]
theorem four {w:World} {b:Nat} {x0 x1 x2 x3:Value} {t:TypeId} (h:w.heap[b]? = some (.cells #[x0,x1,x2,x3] t)) :
   w.cell? ⟨b,0,none⟩=some x0∧w.cell? ⟨b,1,none⟩=some x1∧w.cell? ⟨b,2,none⟩=some x2∧w.cell? ⟨b,3,none⟩=some x3 ∧
   w.frozen? ⟨b,0,none⟩=false∧w.frozen? ⟨b,1,none⟩=false∧w.frozen? ⟨b,2,none⟩=false∧w.frozen? ⟨b,3,none⟩=false:=by
 simp [World.cell?,World.frozen?,h]
theorem heap_alloc_lt {w:World} {b:Nat} {o x:Obj} (h:w.heap[b]? = some x):(w.alloc o).heap[b]? = some x:=by
 rw [Below.heap_alloc _ _ _ (by have:=Array.getElem?_eq_some_iff.1 h;exact this.1)];exact h
theorem set4 {w:World} {b:Nat} {x0 x1 x2 x3:Value} {t:TypeId} (v0 v1 v2 v3:Value) (h:w.heap[b]? = some (.cells #[x0,x1,x2,x3] t)) :
   ((((w.setCell ⟨b,0,none⟩ v0).setCell ⟨b,1,none⟩ v1).setCell ⟨b,2,none⟩ v2).setCell ⟨b,3,none⟩ v3).heap[b]? = some (.cells #[v0,v1,v2,v3] t):=by
 simp [World.setCell,Array.getElem?_modify,h]
theorem set4_other {w:World} {b b':Nat} {x:Obj} (v0 v1 v2 v3:Value) (h:w.heap[b']? = some x) (hb:b' ≠ b) :
   ((((w.setCell ⟨b,0,none⟩ v0).setCell ⟨b,1,none⟩ v1).setCell ⟨b,2,none⟩ v2).setCell ⟨b,3,none⟩ v3).heap[b']? = some x:=by
 rw [Below.heap_setCell _ _ _ _ hb,Below.heap_setCell _ _ _ _ hb,Below.heap_setCell _ _ _ _ hb,Below.heap_setCell _ _ _ _ hb];exact h
theorem four_on {w:World} {b:Nat} {x0 x1 x2 x3:Value} {t:TypeId} (h:w.heap[b]? = some (.cells #[x0,x1,x2,x3] t)) :
   (∀ o,(w.alloc o).cell? ⟨b,0,none⟩=some x0)∧(∀ o,(w.alloc o).frozen? ⟨b,0,none⟩=false) ∧
   (∀ v o,((w.setCell ⟨b,0,none⟩ v).alloc o).cell? ⟨b,1,none⟩=some x1)∧(∀ v o,((w.setCell ⟨b,0,none⟩ v).alloc o).frozen? ⟨b,1,none⟩=false) ∧
   (∀ v v' o,(((w.setCell ⟨b,0,none⟩ v).setCell ⟨b,1,none⟩ v').alloc o).cell? ⟨b,2,none⟩=some x2)∧(∀ v v' o,(((w.setCell ⟨b,0,none⟩ v).setCell ⟨b,1,none⟩ v').alloc o).frozen? ⟨b,2,none⟩=false) ∧
   (∀ v v' v'' o,((((w.setCell ⟨b,0,none⟩ v).setCell ⟨b,1,none⟩ v').setCell ⟨b,2,none⟩ v'').alloc o).cell? ⟨b,3,none⟩=some x3)∧(∀ v v' v'' o,((((w.setCell ⟨b,0,none⟩ v).setCell ⟨b,1,none⟩ v').setCell ⟨b,2,none⟩ v'').alloc o).frozen? ⟨b,3,none⟩=false):=by
 have k1:∀ v,(w.setCell ⟨b,0,none⟩ v).heap[b]? = some (.cells #[v,x1,x2,x3] t):=fun v=>by simp [World.setCell,Array.getElem?_modify,h]
 have k2:∀ v v',((w.setCell ⟨b,0,none⟩ v).setCell ⟨b,1,none⟩ v').heap[b]? = some (.cells #[v,v',x2,x3] t):=fun v v'=>by simp [World.setCell,Array.getElem?_modify,h]
 have k3:∀ v v' v'',(((w.setCell ⟨b,0,none⟩ v).setCell ⟨b,1,none⟩ v').setCell ⟨b,2,none⟩ v'').heap[b]? = some (.cells #[v,v',v'',x3] t):=fun v v' v''=>by simp [World.setCell,Array.getElem?_modify,h]
 refine ⟨fun o=>?_,fun o=>?_,fun v o=>?_,fun v o=>?_,fun v v' o=>?_,fun v v' o=>?_,fun v v' v'' o=>?_,fun v v' v'' o=>?_⟩
 · exact (four (heap_alloc_lt (o:=o) h)).1
 · exact (four (heap_alloc_lt (o:=o) h)).2.2.2.2.1
 · exact (four (heap_alloc_lt (o:=o) (k1 v))).2.1
 · exact (four (heap_alloc_lt (o:=o) (k1 v))).2.2.2.2.2.1
 · exact (four (heap_alloc_lt (o:=o) (k2 v v'))).2.2.1
 · exact (four (heap_alloc_lt (o:=o) (k2 v v'))).2.2.2.2.2.2.1
 · exact (four (heap_alloc_lt (o:=o) (k3 v v' v''))).2.2.2.1
 · exact (four (heap_alloc_lt (o:=o) (k3 v v' v''))).2.2.2.2.2.2.2
theorem four_st {w:World} {b:Nat} {x0 x1 x2 x3:Value} {t:TypeId} (h:w.heap[b]? = some (.cells #[x0,x1,x2,x3] t)) :
   w.cell? ⟨b,0,none⟩=some x0∧w.frozen? ⟨b,0,none⟩=false ∧
   (∀ v,(w.setCell ⟨b,0,none⟩ v).cell? ⟨b,1,none⟩=some x1)∧(∀ v,(w.setCell ⟨b,0,none⟩ v).frozen? ⟨b,1,none⟩=false) ∧
   (∀ v v',((w.setCell ⟨b,0,none⟩ v).setCell ⟨b,1,none⟩ v').cell? ⟨b,2,none⟩=some x2)∧(∀ v v',((w.setCell ⟨b,0,none⟩ v).setCell ⟨b,1,none⟩ v').frozen? ⟨b,2,none⟩=false) ∧
   (∀ v v' v'',(((w.setCell ⟨b,0,none⟩ v).setCell ⟨b,1,none⟩ v').setCell ⟨b,2,none⟩ v'').cell? ⟨b,3,none⟩=some x3)∧(∀ v v' v'',(((w.setCell ⟨b,0,none⟩ v).setCell ⟨b,1,none⟩ v').setCell ⟨b,2,none⟩ v'').frozen? ⟨b,3,none⟩=false) ∧
   (∀ v,(w.setCell ⟨b,0,none⟩ v).cell? ⟨b,0,none⟩=some v) ∧
   (∀ v v',((w.setCell ⟨b,0,none⟩ v).setCell ⟨b,1,none⟩ v').cell? ⟨b,1,none⟩=some v') ∧
   (∀ v v' v'',(((w.setCell ⟨b,0,none⟩ v).setCell ⟨b,1,none⟩ v').setCell ⟨b,2,none⟩ v'').cell? ⟨b,2,none⟩=some v'') ∧
   (∀ v v' v'' v3,((((w.setCell ⟨b,0,none⟩ v).setCell ⟨b,1,none⟩ v').setCell ⟨b,2,none⟩ v'').setCell ⟨b,3,none⟩ v3).cell? ⟨b,3,none⟩=some v3):=by
 have k1:∀ v,(w.setCell ⟨b,0,none⟩ v).heap[b]? = some (.cells #[v,x1,x2,x3] t):=fun v=>by simp [World.setCell,Array.getElem?_modify,h]
 have k2:∀ v v',((w.setCell ⟨b,0,none⟩ v).setCell ⟨b,1,none⟩ v').heap[b]? = some (.cells #[v,v',x2,x3] t):=fun v v'=>by simp [World.setCell,Array.getElem?_modify,h]
 have k3:∀ v v' v'',(((w.setCell ⟨b,0,none⟩ v).setCell ⟨b,1,none⟩ v').setCell ⟨b,2,none⟩ v'').heap[b]? = some (.cells #[v,v',v'',x3] t):=fun v v' v''=>by simp [World.setCell,Array.getElem?_modify,h]
 have k4:=fun v v' v'' v3=>set4 v v' v'' v3 h
 exact ⟨(four h).1,(four h).2.2.2.2.1,fun v=>(four (k1 v)).2.1,fun v=>(four (k1 v)).2.2.2.2.2.1,fun v v'=>(four (k2 v v')).2.2.1,fun v v'=>(four (k2 v v')).2.2.2.2.2.2.1,fun v v' v''=>(four (k3 v v' v'')).2.2.2.1,fun v v' v''=>(four (k3 v v' v'')).2.2.2.2.2.2.2,
   fun v=>(four (k1 v)).1,fun v v'=>(four (k2 v v')).2.1,fun v v' v''=>(four (k3 v v' v'')).2.2.1,fun v v' v'' v3=>(four (k4 v v' v'' v3)).2.2.2.1⟩
theorem two_new (w:World) (x y:Obj):((w.alloc x).alloc y).heap[w.heap.size]? = some x∧((w.alloc x).alloc y).heap[w.heap.size+1]? = some y:=by
 show ((w.heap.push x).push y)[w.heap.size]? = _∧((w.heap.push x).push y)[w.heap.size+1]? = _
 constructor
 · simp [Array.getElem?_push]
 · rw [Array.getElem?_push,if_pos (by simp)]
theorem cell_new (w:World) (cs:Array Value) (t:TypeId) (j:Nat):(w.alloc (.cells cs t)).cell? ⟨w.heap.size,j,none⟩=cs[j]?:=by
 have e:(w.alloc (.cells cs t)).heap[w.heap.size]? = some (.cells cs t):=by show (w.heap.push _)[w.heap.size]? = _;simp
 unfold World.cell?;rw [e];rfl
theorem three_new (w:World) (x y z:Obj):(((w.alloc x).alloc y).alloc z).heap[w.heap.size]? = some x∧(((w.alloc x).alloc y).alloc z).heap[w.heap.size+1]? = some y∧(((w.alloc x).alloc y).alloc z).heap[w.heap.size+1+1]? = some z:=by
 show (((w.heap.push x).push y).push z)[w.heap.size]? = _∧(((w.heap.push x).push y).push z)[w.heap.size+1]? = _∧(((w.heap.push x).push y).push z)[w.heap.size+1+1]? = _
 refine ⟨?_, ?_, ?_⟩
 · simp [Array.getElem?_push];omega
 · rw [Array.getElem?_push,if_neg (by simp),Array.getElem?_push,if_pos (by simp)]
 · rw [Array.getElem?_push,if_pos (by simp)]
theorem below_setRow {B g:Nat} {a w:World} (h:Below B a w) (hg:B ≤ g) (cs:Array Value):Below B a (w.setRow g cs) :=
 h.trans ⟨rfl,rfl,rfl,by simp,fun k hk=>by simp only [World.setRow,Array.getElem?_modify];rw [if_neg (by omega)]⟩
theorem heap_setRow {w:World} {g:Nat} {old cs:Array Value} {t:TypeId} (h:w.heap[g]? = some (.cells old t)):(w.setRow g cs).heap[g]? = some (.cells cs t):=by
 simp [World.setRow,Array.getElem?_modify,h]
theorem keep_blk {w w':World} {g:Nat} {x:Obj} (hb:Below w.heap.size w w') (h:w.heap[g]? = some x):w'.heap[g]? = some x :=
 (hb.block g (Array.getElem?_eq_some_iff.1 h).1).trans h
theorem heap_setRow_other (w:World) (g:Nat) (cs:Array Value) {k:Nat} (h:k ≠ g):(w.setRow g cs).heap[k]? = w.heap[k]?:=by
 simp only [World.setRow,Array.getElem?_modify];rw [if_neg (Ne.symm h)]
end Go.Proofs.YtllfgppjobinnaaDoor
namespace Go.Proofs.YtllfgppjobinnaaDoor
namespace Oc
def U (x:BitVec 64):Int:=x.toNat
theorem U_inj {x y:BitVec 64} (h:U x=U y):x=y:=by
 unfold U at h;exact BitVec.eq_of_toNat_eq (by omega)
theorem ofInt_U (x:BitVec 64):BitVec.ofInt 64 (U x)=x:=by
 unfold U;rw [BitVec.ofInt_natCast];exact BitVec.eq_of_toNat_eq (by rw [BitVec.toNat_ofNat];exact Nat.mod_eq_of_lt x.isLt)
theorem wrapU (n:Int):IntKind.u64.wrap n=U (BitVec.ofInt 64 n):=by
 rw [IntKind.wrap_u64];unfold U;rw [BitVec.toNat_ofInt];omega
theorem orU (x y:BitVec 64):bits .or .u64 (U x) (U y)=U (x ||| y):=by
 show IntKind.u64.wrap ((BitVec.ofInt 64 (U x) ||| BitVec.ofInt 64 (U y)).toNat:Int)=_
 rw [ofInt_U,ofInt_U,wrapU];exact congrArg U (ofInt_U (x ||| y))
theorem shlBit (k:Nat):IntKind.u64.wrap ((2:Int) ^ k)=U (1#64 <<< k):=by
 rw [wrapU];refine congrArg U ?_
 apply BitVec.eq_of_toNat_eq
 rw [BitVec.toNat_shiftLeft,show ((2:Int) ^ k)=((2 ^ k:Nat):Int) by simp,BitVec.ofInt_natCast,BitVec.toNat_ofNat,Nat.shiftLeft_eq]
 simp
def cnt (p:Nat→Bool):Nat→Nat
 | 0=>0
 | n+1=>cnt p n+(p n).toNat
theorem cnt_le (p:Nat→Bool):∀ n,cnt p n ≤ n
 | 0=>Nat.le_refl _
 | n+1=>by have:=cnt_le p n;have:=(p n).toNat_le;simp only [cnt];omega
def wn (p:Nat→Bool) (k:Nat):Nat→Nat
 | 0=>0
 | n+1=>wn p k n+(if p (64 * k+n) then 2 ^ n else 0)
theorem wn_lt (p:Nat→Bool) (k:Nat):∀ n,wn p k n < 2 ^ n
 | 0=>by simp [wn]
 | n+1=>by have:=wn_lt p k n;simp only [wn];split <;> omega
theorem wn_bit (p:Nat→Bool) (k:Nat):∀ n i,i < n→(wn p k n).testBit i=p (64 * k+i)
 | 0,i,h=>by omega
 | n+1,i,h=>by
   have hl:=wn_lt p k n
   simp only [wn]
   by_cases e:i=n
   · subst e
     by_cases q:p (64 * k+i)=true
     · rw [if_pos q,q,Nat.add_comm,Nat.testBit_two_pow_add_eq,Nat.testBit_lt_two_pow hl];rfl
     · rw [if_neg q,Nat.add_zero,Nat.testBit_lt_two_pow hl];simpa using q
   · rw [← wn_bit p k n i (by omega)]
     split
     · rw [Nat.add_comm,Nat.testBit_two_pow_add_gt (by omega)]
     · rw [Nat.add_zero]
def mk (p:Nat→Bool) (k:Nat):BitVec 64:=BitVec.ofNat 64 (wn p k 64)
theorem mk_bit (p:Nat→Bool) (k i:Nat) (h:i < 64):(mk p k).getLsbD i=p (64 * k+i):=by
 unfold mk;rw [BitVec.getLsbD_ofNat,wn_bit p k 64 i h];simp [h]
theorem mk_eq {p:Nat→Bool} {k:Nat} {x:BitVec 64} (h:∀ i,i < 64→p (64 * k+i)=x.getLsbD i):mk p k=x:=by
 apply BitVec.eq_of_getLsbD_eq;intro i hi;rw [mk_bit p k i hi,h i hi]
def orAll (A:Nat→BitVec 64):Nat→BitVec 64
 | 0=>0#64
 | n+1=>orAll A n ||| A n
theorem mk_same {p q:Nat→Bool} {v k:Nat} (hq:∀ j,q j=(p j || j == v)) (hk:v / 64 ≠ k):mk q k=mk p k:=by
 refine mk_eq fun i hi=>?_
 rw [mk_bit p k i hi,hq,show (64 * k+i == v)=false from by simp;omega];simp
theorem mk_turn {p q:Nat→Bool} {v k:Nat} (hq:∀ j,q j=(p j || j == v)) (hk:v / 64=k):mk q k=mk p k ||| (1#64 <<< (v % 64)):=by
 refine mk_eq fun i hi=>?_
 rw [hq,BitVec.getLsbD_or,mk_bit p k i hi]
 congr 1
 rw [BitVec.getLsbD_shiftLeft,BitVec.getLsbD_one,Bool.eq_iff_iff]
 simp [hi];omega
theorem mk_none (k:Nat):mk (fun _=>false) k=0#64:=by
 refine mk_eq fun i _=>?_
 simp
end Oc
end Go.Proofs.YtllfgppjobinnaaDoor
namespace Go.Proofs.YtllfgppjobinnaaDoor
open Go.RowKit
inductive Tr
 | node (kind:Int) (a b c d:BitVec 64) (subs:List Tr) (num least most:Int) (bare:Bool)
namespace Tr
def kind:Tr→Int | .node k _ _ _ _ _ _ _ _ _=>k
def w0:Tr→BitVec 64 | .node _ a _ _ _ _ _ _ _ _=>a
def w1:Tr→BitVec 64 | .node _ _ b _ _ _ _ _ _ _=>b
def w2:Tr→BitVec 64 | .node _ _ _ c _ _ _ _ _ _=>c
def w3:Tr→BitVec 64 | .node _ _ _ _ d _ _ _ _ _=>d
def subs:Tr→List Tr | .node _ _ _ _ _ s _ _ _ _=>s
def num:Tr→Int | .node _ _ _ _ _ _ n _ _ _=>n
def least:Tr→Int | .node _ _ _ _ _ _ _ m _ _=>m
def most:Tr→Int | .node _ _ _ _ _ _ _ _ m _=>m
def bare:Tr→Bool | .node _ _ _ _ _ _ _ _ _ b=>b
theorem size_sub {t u:Tr} (h:u ∈ t.subs):SizeOf.sizeOf u < SizeOf.sizeOf t:=by
 cases t with
 | node k a b c d s n lo hi br =>
   have:=List.sizeOf_lt_of_mem h
   simp only [subs] at this
   simp only [node.sizeOf_spec]
   omega
theorem rec_subs {P:Tr→Prop} (h:∀ t,(∀ u,u ∈ t.subs→P u)→P t) (t:Tr):P t:=by
 induction hn:SizeOf.sizeOf t using Nat.strongRecOn generalizing t with
 | _ n ih=>exact h t fun u hu=>ih _ (by have:=size_sub hu;omega) u rfl
theorem eta:∀ t:Tr,t=.node t.kind t.w0 t.w1 t.w2 t.w3 t.subs t.num t.least t.most t.bare
 | .node _ _ _ _ _ _ _ _ _ _=>rfl
def cells (t:Tr) (s:Value):Array Value :=
 #[.int .i64 t.kind,.int .u64 (Oc.U t.w0),.int .u64 (Oc.U t.w1),.int .u64 (Oc.U t.w2),.int .u64 (Oc.U t.w3),s,.int .i64 t.num,.int .i64 t.least,.int .i64 t.most,.bool t.bare]
end Tr
structure TenAt (w:World) (b o:Nat) (t:Tr) (s:Value):Prop where
 c0:w.cell? ⟨b,o,none⟩=some (.int .i64 t.kind)
 c1:w.cell? ⟨b,o+1,none⟩=some (.int .u64 (Oc.U t.w0))
 c2:w.cell? ⟨b,o+2,none⟩=some (.int .u64 (Oc.U t.w1))
 c3:w.cell? ⟨b,o+3,none⟩=some (.int .u64 (Oc.U t.w2))
 c4:w.cell? ⟨b,o+4,none⟩=some (.int .u64 (Oc.U t.w3))
 c5:w.cell? ⟨b,o+5,none⟩=some s
 c6:w.cell? ⟨b,o+6,none⟩=some (.int .i64 t.num)
 c7:w.cell? ⟨b,o+7,none⟩=some (.int .i64 t.least)
 c8:w.cell? ⟨b,o+8,none⟩=some (.int .i64 t.most)
 c9:w.cell? ⟨b,o+9,none⟩=some (.bool t.bare)
inductive TreesAt (w:World) (B:Nat→Prop):Value→List Tr→Prop
 | mk (p:Option Addr) (cap:Nat) (ts:List Tr) (S:Nat→Value) (hlen:ts.length * 96 ≤ 140737488351232)
     (hc:∀ i t,ts[i]? = some t→∃ b o,p=some ⟨b,o,none⟩∧B b∧TenAt w b (o+i * 10) t (S i))
     (hs:∀ i t,ts[i]? = some t→TreesAt w B (S i) t.subs):TreesAt w B (.slice p ts.length cap) ts
def NodeV (w:World) (B:Nat→Prop) (v:Value) (t:Tr):Prop:=∃ s,v=.agg (t.cells s)∧TreesAt w B s t.subs
theorem TenAt.keep {w w':World} {b o:Nat} {t:Tr} {s:Value} (h:TenAt w b o t s) (hk:w'.heap[b]? = w.heap[b]?):TenAt w' b o t s:=by
 have e:∀ k,w'.cell? ⟨b,k,none⟩=w.cell? ⟨b,k,none⟩:=fun k=>by unfold World.cell?;rw [hk]
 exact ⟨(e _).trans h.c0,(e _).trans h.c1,(e _).trans h.c2,(e _).trans h.c3,(e _).trans h.c4,(e _).trans h.c5,(e _).trans h.c6,(e _).trans h.c7,(e _).trans h.c8,(e _).trans h.c9⟩
theorem TenAt.lt {w:World} {b o:Nat} {t:Tr} {s:Value} (h:TenAt w b o t s):b < w.heap.size:=block_lt_of_cell h.c0
theorem TreesAt.keep {w w':World} {B:Nat→Prop} {s:Value} {ts:List Tr} (h:TreesAt w B s ts) (hk:∀ b,b < w.heap.size→B b→w'.heap[b]? = w.heap[b]?):TreesAt w' B s ts:=by
 induction h with
 | mk p cap ts S hlen hc hs ih =>
   refine .mk p cap ts S hlen (fun i t hi=>?_) (fun i t hi=>ih i t hi)
   obtain ⟨b,o,hp,hB,h10⟩:=hc i t hi
   exact ⟨b,o,hp,hB,h10.keep (hk b h10.lt hB)⟩
theorem TreesAt.later {w w':World} {B:Nat→Prop} {s:Value} {ts:List Tr} (h:TreesAt w B s ts) (hb:Below w.heap.size w w'):TreesAt w' B s ts :=
 h.keep fun b hb' _=>hb.block b hb'
theorem TreesAt.mono {w:World} {B B':Nat→Prop} {s:Value} {ts:List Tr} (h:TreesAt w B s ts) (hB:∀ b,b < w.heap.size→B b→B' b):TreesAt w B' s ts:=by
 induction h with
 | mk p cap ts S hlen hc hs ih =>
   refine .mk p cap ts S hlen (fun i t hi=>?_) (fun i t hi=>ih i t hi)
   obtain ⟨b,o,hp,hb,h10⟩:=hc i t hi
   exact ⟨b,o,hp,hB b h10.lt hb,h10⟩
theorem NodeV.later {w w':World} {B:Nat→Prop} {v:Value} {t:Tr} (h:NodeV w B v t) (hb:Below w.heap.size w w'):NodeV w' B v t:=by
 obtain ⟨s,e,hs⟩:=h;exact ⟨s,e,hs.later hb⟩
theorem TreesAt.nil {w:World} {B:Nat→Prop} {p:Option Addr} {cap:Nat} : TreesAt w B (.slice p 0 cap) [] :=
 .mk p cap [] (fun _=>.nilIface) (by simp) (fun i t h=>by simp at h) (fun i t h=>by simp at h)
theorem TreesAt.slice {w:World} {B:Nat→Prop} {s:Value} {ts:List Tr} (h:TreesAt w B s ts):∃ p cap,s=.slice p ts.length cap∧ts.length * 96 ≤ 140737488351232:=by
 cases h with | mk p cap _ S hlen hc hs=>exact ⟨p,cap,rfl,hlen⟩
theorem TreesAt.get {w:World} {B:Nat→Prop} {p:Option Addr} {len cap:Nat} {ts:List Tr} (h:TreesAt w B (.slice p len cap) ts) {i:Nat} {t:Tr} (hi:ts[i]? = some t) :
   ∃ b o s,p=some ⟨b,o,none⟩∧B b∧TenAt w b (o+i * 10) t s∧TreesAt w B s t.subs:=by
 cases h with
 | mk _ _ _ S hlen hc hs =>
   obtain ⟨b,o,hp,hB,h10⟩:=hc i t hi
   exact ⟨b,o,S i,hp,hB,h10,hs i t hi⟩
end Go.Proofs.YtllfgppjobinnaaDoor
namespace Go.Proofs.YtllfgppjobinnaaDoor
open Go.RowKit
theorem at0 (a b c d:Value) (w:World):(Instr.index 24 (.agg #[a,b,c,d]) (.int .i64 0)).run Tryd.prog w=.ok a w:=by kernel_rfl
theorem at1 (a b c d:Value) (w:World):(Instr.index 24 (.agg #[a,b,c,d]) (.int .i64 1)).run Tryd.prog w=.ok b w:=by kernel_rfl
theorem at2 (a b c d:Value) (w:World):(Instr.index 24 (.agg #[a,b,c,d]) (.int .i64 2)).run Tryd.prog w=.ok c w:=by kernel_rfl
theorem at3 (a b c d:Value) (w:World):(Instr.index 24 (.agg #[a,b,c,d]) (.int .i64 3)).run Tryd.prog w=.ok d w:=by kernel_rfl
end Go.Proofs.YtllfgppjobinnaaDoor
namespace Go.Proofs.YtllfgppjobinnaaDoor
open Go.RowKit
namespace Tr
def fieldsOk (t:Tr):Prop :=
 ((t.kind=1 ∨ t.kind=3 ∨ t.kind=4)∧t.w0=0#64∧t.w1=0#64∧t.w2=0#64∧t.w3=0#64∧t.subs=[]∧t.num=0∧t.least=0∧t.most=0∧t.bare=false) ∨
 (t.kind=2∧t.subs=[]∧t.num=0∧t.least=0∧t.most=0∧t.bare=false) ∨
 ((t.kind=5 ∨ t.kind=6)∧t.w0=0#64∧t.w1=0#64∧t.w2=0#64∧t.w3=0#64∧2 ≤ t.subs.length∧t.num=0∧t.least=0∧t.most=0∧t.bare=false) ∨
 (t.kind=7∧t.w0=0#64∧t.w1=0#64∧t.w2=0#64∧t.w3=0#64∧t.subs.length=1∧1 ≤ t.num∧t.num ≤ 999∧t.least=0∧t.most=0∧t.bare=false) ∨
 (t.kind=8∧t.w0=0#64∧t.w1=0#64∧t.w2=0#64∧t.w3=0#64∧t.subs.length=1∧t.num=0∧0 ≤ t.least∧t.least ≤ 255∧(t.most = -1 ∨ (t.least ≤ t.most∧t.most ≤ 255))∧(t.bare=true→t.least=0))
inductive InForm:Tr→Prop
 | mk (t:Tr) (h:fieldsOk t) (hs:∀ u,u ∈ t.subs→InForm u):InForm t
theorem InForm.fields {t:Tr} (h:InForm t):fieldsOk t:=by cases h;assumption
theorem InForm.sub {t u:Tr} (h:InForm t) (hu:u ∈ t.subs):InForm u:=by cases h with | mk _ _ hs=>exact hs u hu
def sat (n:Nat):Nat:=min 2001 n
theorem sat_sat (a b:Nat):sat (sat a+b)=sat (a+b):=by unfold sat;omega
theorem sat_le (a:Nat):sat a ≤ 2001:=by unfold sat;omega
def repSz (lo hi:Int) (n:Nat):Nat :=
 if hi=0 then 1
 else if lo=1∧hi=1 then n
 else if lo=0∧(hi=1 ∨ hi = -1) then sat (1+n)
 else if hi = -1 then sat (1+lo.toNat * n+(1+n))
 else sat (1+lo.toNat * n+(hi - lo).toNat * (1+n))
mutual
def szT:Tr→Nat
 | .node k _ _ _ _ s _ lo hi _=>if k=8 then repSz lo hi (szH s) else sat (1+szS s)
def szS:List Tr→Nat
 | []=>0
 | t :: l=>szT t+szS l
def szH:List Tr→Nat
 | []=>0
 | t :: _=>szT t
end
theorem repSz_le {lo hi:Int} {n:Nat} (h:n ≤ 2001):repSz lo hi n ≤ 2001:=by
 unfold repSz
 split
 · omega
 split
 · exact h
 split
 · exact sat_le _
 split <;> exact sat_le _
theorem szT_le:∀ t:Tr,szT t ≤ 2001:=by
 intro t
 induction t using Tr.rec_subs with
 | h t ih =>
   cases t with
   | node k a b c d s n lo hi br =>
     rw [szT]
     split
     · refine repSz_le ?_
       cases s with
       | nil=>simp [szH]
       | cons x l=>rw [szH];exact ih x (by simp [subs])
     · exact sat_le _
theorem szS_append:∀ (l m:List Tr),szS (l ++ m)=szS l+szS m
 | [],m=>by simp [szS]
 | t :: l,m=>by rw [List.cons_append,szS,szS,szS_append l m];omega
theorem szS_take (l:List Tr) (m:Nat) (x:Tr) (h:l[m]? = some x):szS (l.take (m+1))=szS (l.take m)+szT x:=by
 rw [List.take_add_one,h,Option.toList_some,szS_append,szS,szS];rfl
end Tr
theorem box5 {w:World} {b:Nat} {t:Tr} {s:Value} {ty:TypeId} (h:w.heap[b]? = some (.cells (t.cells s) ty)) :
   w.cell? ⟨b,0,none⟩=some (.int .i64 t.kind)∧w.cell? ⟨b,4+1,none⟩=some s∧w.cell? ⟨b,5,none⟩=some s∧w.cell? ⟨b,7,none⟩=some (.int .i64 t.least)∧w.cell? ⟨b,8,none⟩=some (.int .i64 t.most):=by
 simp [World.cell?,h,Tr.cells]
def SizeEnd (n:Nat) (w:World) (e:Ending) (w':World):Prop:=e=.returned (.int .i64 n)∧Below w.heap.size w w'
end Go.Proofs.YtllfgppjobinnaaDoor
namespace Go.Proofs.YtllfgppjobinnaaDoor
open Go.RowKit
theorem stays_is (t:Tr) (s:Value) (hs:∃ p l c,s=.slice p l c) (b:Bool) (hb:b=decide (t.least=0∧(t.most=1 ∨ t.most = -1))) (w:World):Calls Tryd.prog 89 #[.agg (t.cells s)] w fun e w'=>e=.returned (.bool b)∧Below w.heap.size w w':=by
 obtain ⟨p,l,c,rfl⟩:=hs
 unfold Tr.cells
 by_cases h0:t.least=0
 · by_cases h1:t.most=1
   · have hb1:b=true:=by rw [hb];simp [h0,h1]
     subst hb1
     rw [h0,h1]
     clear hb
     go_enter Tryd.func89,Tryd.ntmps89
     go_wp2
     go_ret
     exact ⟨rfl,by go_grown⟩
   · by_cases h2:t.most = -1
     · have hb1:b=true:=by rw [hb];simp [h0,h2]
       subst hb1
       rw [h0,h2]
       clear hb
       go_enter Tryd.func89,Tryd.ntmps89
       go_wp2
       go_ret
       exact ⟨rfl,by go_grown⟩
     · have hb1:b=false:=by rw [hb];simp [h1,h2]
       subst hb1
       rw [h0]
       have e1:(t.most == 1)=false:=by simpa using h1
       have e2:(t.most == -1)=false:=by simpa using h2
       clear hb h1 h2
       go_enter Tryd.func89,Tryd.ntmps89
       go_wp2
       go_ret
       exact ⟨rfl,by go_grown⟩
 · have hb1:b=false:=by rw [hb];simp [h0]
   subst hb1
   have e1:(t.least == 0)=false:=by simpa using h0
   clear hb h0
   go_enter Tryd.func89,Tryd.ntmps89
   go_wp2
   go_ret
   exact ⟨rfl,by go_grown⟩
theorem treerep (t x:Tr) (ih:∀ (w:World) (B:Nat→Prop) (v:Value),NodeV w B v x→Calls Tryd.prog 62 #[v] w (SizeEnd x.szT w)) (hsub:t.subs=[x]) (h0:0 ≤ t.least) (h1:t.least ≤ 255) (h2:t.most = -1 ∨ (t.least ≤ t.most∧t.most ≤ 255))
   (w:World) (B:Nat→Prop) (v:Value) (hv:NodeV w B v t):Calls Tryd.prog 97 #[v] w (SizeEnd (Tr.repSz t.least t.most x.szT) w):=by
 obtain ⟨s,rfl,hs⟩:=hv
 rw [hsub] at hs
 obtain ⟨p,cap,rfl,hlen⟩:=hs.slice
 have hs:TreesAt w B (.slice p 1 cap) [x]:=hs
 obtain ⟨b1,o1,s1,rfl,-,t1,sub1⟩:=hs.get (i:=0) (t:=x) rfl
 have t1':TenAt w b1 o1 x s1:=by simpa using t1
 have HC:=Lib.hid ih
 have T1:=Lib.hid t1';have SUB:=Lib.hid sub1
 have hN:=Tr.szT_le x
 have HST:=Lib.hid (fun b hb=>stays_is t (.slice (some ⟨b1,o1,none⟩) 1 cap) ⟨_,_,_,rfl⟩ b hb)
 clear ih hs hsub t1 t1' sub1 hlen
 obtain ⟨m,hm⟩:∃ m:Nat,t.least=m:=⟨t.least.toNat,by omega⟩
 have HM:=Lib.hid hm
 rw [hm] at h0 h1 h2
 have hm255:m ≤ 255:=by omega
 have hmul:m * x.szT ≤ 510255:=Nat.le_trans (Nat.mul_le_mul hm255 hN) (by omega)
 have wmul:IntKind.i64.wrap ((m:Int) * (x.szT:Int))=((m * x.szT:Nat):Int):=by rw [← Int.natCast_mul];exact IntWalk.i64_in _ (by omega)
 generalize hhi:t.most=hi at *
 have HHI:=Lib.hid hhi
 unfold Tr.cells
 rw [hm,hhi]
 clear hm hhi
 go_enter Tryd.func97,Tryd.ntmps97
 have d:=fun (o:Obj)=>T1.out.keep (w':=w.alloc o) (Below.heap_alloc w o b1 T1.out.lt)
 have e0:=fun o=>(d o).c0;have e1:=fun o=>(d o).c1;have e2:=fun o=>(d o).c2;have e3:=fun o=>(d o).c3;have e4:=fun o=>(d o).c4
 have e5:=fun o=>(d o).c5;have e6:=fun o=>(d o).c6;have e7:=fun o=>(d o).c7;have e8:=fun o=>(d o).c8;have e9:=fun o=>(d o).c9
 clear d
 go_wp2_with fail
 generalize hw1:World.alloc w _=w1
 have hb1:Below w.heap.size w w1:=by rw [← hw1];exact (Below.refl _ _).alloc (Nat.le_refl _) _
 have Z1:Hid (w1.heap[w.heap.size]? = some (.cells (t.cells (.slice (some ⟨b1,o1,none⟩) 1 cap)) 37)):=Lib.hid (by rw [← hw1,heap_alloc_new];unfold Tr.cells;rw [HM.out,HHI.out])
 have hs1:w.heap.size < w1.heap.size:=by rw [← hw1];simp
 have hcall:=HC.out w1 B (.agg (x.cells s1)) ⟨_,rfl,SUB.out.later hb1⟩
 unfold Tr.cells at hcall
 have HB1:=Lib.hid hb1
 clear hw1 e0 e1 e2 e3 e4 e5 e6 e7 e8 e9 hb1
 refine hcall.mono ?_
 rintro e w2 ⟨rfl,hb2⟩
 have HB2:=Lib.hid (HB1.out.trans (hb2.mono HB1.out.size));have Z2:=Lib.hid (keep_blk hb2 Z1.out)
 have hs2:w.heap.size < w2.heap.size:=Nat.lt_of_lt_of_le hs1 hb2.size
 clear hb2 hcall HB1 Z1
 generalize hNe:x.szT=N at *
 clear hNe
 obtain ⟨-,-,f5,f7,f8⟩:=box5 Z2.out
 rw [HM.out] at f7
 rw [HHI.out] at f8
 generalize hA:m * N=A at *
 have HA:=Lib.hid hA
 clear hA
 by_cases h11:m=1∧hi=1
 · obtain ⟨rfl,rfl⟩:=h11
   go_wp2
   go_ret
   exact ⟨ret_int (by unfold Tr.repSz;simp),HB2.out⟩
 · have H11:=Lib.hid h11
   clear h11 f5 f7 f8
   obtain ⟨-,-,f5,f7,f8⟩:=box5 Z2.out
   rw [HM.out] at f7
   rw [HHI.out] at f8
   by_cases hst:m=0∧(hi=1 ∨ hi = -1)
   · have HX:=Lib.hid (show Tr.repSz m hi N=Tr.sat (1+N) by unfold Tr.repSz;rw [if_neg (by omega),if_neg (by omega),if_pos ⟨by omega,hst.2⟩])
     obtain ⟨rfl,hst2⟩:=hst
     have HS2:=Lib.hid hst2
     have w1n:IntKind.i64.wrap (1+(N:Int))=1+(N:Int):=IntWalk.i64_in _ (by omega)
     clear hst2
     go_wp2_with (first
       | (refine wpList_load_row rfl 37 (.tmp 1) rfl w.heap.size rfl 37 _ (0,0) _ Z2.out Tryd.underlying37 rfl (by kernel_rfl) ?_)
       | fail)
     refine (HST.out true (by rw [HM.out];have:=HS2.out;simp [this]) _).mono ?_
     rintro e w3 ⟨rfl,hb3⟩
     obtain ⟨-,-,f5,f7,f8⟩:=box5 (keep_blk hb3 Z2.out)
     rw [HM.out] at f7
     rw [HHI.out] at f8
     have HB3:=Lib.hid (HB2.out.trans (hb3.mono HB2.out.size))
     clear hb3
     go_wp2
     all_goals
       go_ret
       exact ⟨ret_int (by have h:=HX.out;(first | rw [h] | (push_cast at h;rw [h]));unfold Tr.sat;have ha:=HA.out;(try simp only [Nat.zero_mul] at ha);omega),HB3.out⟩
   · by_cases hend:hi = -1
     · have hmpos:1 ≤ m:=by omega
       subst hend
       have HX:=Lib.hid (show Tr.repSz m (-1) N=Tr.sat (1+A+(1+N)) by unfold Tr.repSz;rw [if_neg (by omega),if_neg (by omega),if_neg (by omega),if_pos rfl];have:=HA.out;simp [this])
       have HS2:=Lib.hid hst
       have w1n:IntKind.i64.wrap (1+(N:Int))=1+(N:Int):=IntWalk.i64_in _ (by omega)
       have w1a:IntKind.i64.wrap (1+(A:Int))=1+(A:Int):=IntWalk.i64_in _ (by omega)
       have w1s:IntKind.i64.wrap (1+(A:Int)+(1+(N:Int)))=1+(A:Int)+(1+(N:Int)):=IntWalk.i64_in _ (by omega)
       clear hst
       by_cases hm1:m=1
       · subst hm1
         go_wp2_with (first
           | (refine wpList_load_row rfl 37 (.tmp 1) rfl w.heap.size rfl 37 _ (0,0) _ Z2.out Tryd.underlying37 rfl (by kernel_rfl) ?_)
           | fail)
         refine (HST.out false (by rw [HM.out];have:=HS2.out;first | (simp;done) | (simp;omega)) _).mono ?_
         rintro e w3 ⟨rfl,hb3⟩
         obtain ⟨-,-,f5,f7,f8⟩:=box5 (keep_blk hb3 Z2.out)
         rw [HM.out] at f7
         rw [HHI.out] at f8
         have HB3:=Lib.hid (HB2.out.trans (hb3.mono HB2.out.size))
         clear hb3
         go_wp2
         all_goals
           go_ret
           exact ⟨ret_int (by have h:=HX.out;(first | rw [h] | (push_cast at h;rw [h]));unfold Tr.sat;have ha:=HA.out;(try simp only [Nat.one_mul] at ha);omega),HB3.out⟩
       · have g1:((m:Int) == 1)=false:=by simp;omega
         clear hm1
         go_wp2_with (first
           | (refine wpList_load_row rfl 37 (.tmp 1) rfl w.heap.size rfl 37 _ (0,0) _ Z2.out Tryd.underlying37 rfl (by kernel_rfl) ?_)
           | fail)
         refine (HST.out false (by rw [HM.out];have:=HS2.out;first | (simp;done) | (simp;omega)) _).mono ?_
         rintro e w3 ⟨rfl,hb3⟩
         obtain ⟨-,-,f5,f7,f8⟩:=box5 (keep_blk hb3 Z2.out)
         rw [HM.out] at f7
         rw [HHI.out] at f8
         have HB3:=Lib.hid (HB2.out.trans (hb3.mono HB2.out.size))
         clear hb3
         go_wp2
         all_goals
           go_ret
           exact ⟨ret_int (by have h:=HX.out;(first | rw [h] | (push_cast at h;rw [h]));unfold Tr.sat;have ha:=HA.out;(try simp only [Nat.one_mul,Nat.zero_mul] at ha);omega),HB3.out⟩
     · obtain ⟨d,hd⟩:∃ d:Nat,hi=(m:Int)+d:=⟨(hi - m).toNat,by omega⟩
       have hdm:d * (1+N) ≤ 510510:=Nat.le_trans (Nat.mul_le_mul (show d ≤ 255 by omega) (show 1+N ≤ 2002 by omega)) (by omega)
       obtain ⟨B2,hB⟩:∃ B2,d * (1+N)=B2:=⟨_,rfl⟩
       have HX:=Lib.hid (show Tr.repSz m hi N=Tr.sat (1+A+B2) by
         rw [← hB]
         unfold Tr.repSz
         by_cases hz:hi=0
         · rw [if_pos hz]
           have hm0:m=0:=by omega
           have hd0:d=0:=by omega
           have:=HA.out
           subst hm0 hd0
           simp at this
           subst this
           simp [Tr.sat]
         · rw [if_neg hz,if_neg (by have:=H11.out;omega),if_neg (by omega),if_neg hend]
           have:=HA.out
           have hdd:(hi - (m:Int)).toNat=d:=by omega
           rw [hdd];simp [this])
       have HS2:=Lib.hid hst
       have eend:(hi == -1)=false:=by simpa using hend
       have w1n:IntKind.i64.wrap (1+(N:Int))=1+(N:Int):=IntWalk.i64_in _ (by omega)
       have w1a:IntKind.i64.wrap (1+(A:Int))=1+(A:Int):=IntWalk.i64_in _ (by omega)
       have wsub:IntKind.i64.wrap (hi - (m:Int))=(d:Int):=by rw [hd,show (m:Int)+d - m=d by omega];exact IntWalk.i64_in _ (by omega)
       have wmul2:IntKind.i64.wrap ((d:Int) * (1+(N:Int)))=((d * (1+N):Nat):Int):=by
         rw [show (d:Int) * (1+(N:Int))=((d * (1+N):Nat):Int) by push_cast;rfl];exact IntWalk.i64_in _ (by omega)
       have HD:=Lib.hid hd
       rw [hB] at hdm wmul2
       have w1s:IntKind.i64.wrap (1+(A:Int)+(B2:Int))=1+(A:Int)+(B2:Int):=IntWalk.i64_in _ (by omega)
       clear hst hd hB
       by_cases hm1:m=1
       · subst hm1
         have g2:(hi == 1)=false:=by have:=H11.out;simp;omega
         have wsub':IntKind.i64.wrap (hi - 1)=(d:Int):=by simpa using wsub
         have w1s':IntKind.i64.wrap (1+(N:Int)+(B2:Int))=1+(N:Int)+(B2:Int):=IntWalk.i64_in _ (by omega)
         clear wsub w1s w1a wmul
         go_wp2_with (first
           | (refine wpList_load_row rfl 37 (.tmp 1) rfl w.heap.size rfl 37 _ (0,0) _ Z2.out Tryd.underlying37 rfl (by kernel_rfl) ?_)
           | fail)
         refine (HST.out false (by rw [HM.out];have:=HS2.out;first | (simp;done) | (simp;omega)) _).mono ?_
         rintro e w3 ⟨rfl,hb3⟩
         obtain ⟨-,-,f5,f7,f8⟩:=box5 (keep_blk hb3 Z2.out)
         rw [HM.out] at f7
         rw [HHI.out] at f8
         have HB3:=Lib.hid (HB2.out.trans (hb3.mono HB2.out.size))
         clear hb3
         go_wp2
         all_goals
           go_ret
           exact ⟨ret_int (by have h:=HX.out;(first | rw [h] | (push_cast at h;rw [h]));unfold Tr.sat;have ha:=HA.out;(try simp only [Nat.one_mul] at ha);omega),HB3.out⟩
       · have g1:((m:Int) == 1)=false:=by simp;omega
         clear hm1
         go_wp2_with (first
           | (refine wpList_load_row rfl 37 (.tmp 1) rfl w.heap.size rfl 37 _ (0,0) _ Z2.out Tryd.underlying37 rfl (by kernel_rfl) ?_)
           | fail)
         refine (HST.out false (by rw [HM.out];have:=HS2.out;first | (simp;done) | (simp;omega)) _).mono ?_
         rintro e w3 ⟨rfl,hb3⟩
         obtain ⟨-,-,f5,f7,f8⟩:=box5 (keep_blk hb3 Z2.out)
         rw [HM.out] at f7
         rw [HHI.out] at f8
         have HB3:=Lib.hid (HB2.out.trans (hb3.mono HB2.out.size))
         clear hb3
         go_wp2
         all_goals
           go_ret
           exact ⟨ret_int (by have h:=HX.out;(first | rw [h] | (push_cast at h;rw [h]));unfold Tr.sat;have ha:=HA.out;(try simp only [Nat.one_mul,Nat.zero_mul] at ha);omega),HB3.out⟩
end Go.Proofs.YtllfgppjobinnaaDoor
namespace Go.Proofs.YtllfgppjobinnaaDoor
open Go.RowKit
theorem heap_setCells_other {b k:Nat} (hk:k ≠ b):∀ (vs:List Value) (o:Nat) (w:World),(w.setCells b o vs).heap[k]? = w.heap[k]?
 | [],_,_=>rfl
 | v :: r,o,w=>by rw [World.setCells,heap_setCells_other hk r (o+1) _,Below.heap_setCell _ _ _ _ hk]
theorem size_setCells (b:Nat):∀ (vs:List Value) (o:Nat) (w:World),(w.setCells b o vs).heap.size=w.heap.size
 | [],_,_=>rfl
 | v :: r,o,w=>by rw [World.setCells,size_setCells b r (o+1) _];simp [World.setCell]
theorem streams_setCells (b:Nat):∀ (vs:List Value) (o:Nat) (w:World),(w.setCells b o vs).os=w.os∧(w.setCells b o vs).tape=w.tape∧(w.setCells b o vs).output=w.output
 | [],_,_=>⟨rfl,rfl,rfl⟩
 | v :: r,o,w=>by rw [World.setCells];exact streams_setCells b r (o+1) _
inductive Owned (w:World):Value→List Tr→List Nat→Prop
 | nil (p:Option Addr) (cap:Nat):Owned w (.slice p 0 cap) [] []
 | row (g o cap:Nat) (ts:List Tr) (S:Nat→Value) (L:Nat→List Nat) (hlen:ts.length * 96 ≤ 140737488351232) (hf:∃ cs ty,w.heap[g]? = some (.cells cs ty (0,0)))
     (hc:∀ i t,ts[i]? = some t→TenAt w g (o+i * 10) t (S i)) (hs:∀ i t,ts[i]? = some t→Owned w (S i) t.subs (L i))
     (hg:∀ i,i < ts.length→g ∉ L i) (hd:∀ i j b,i < ts.length→j < ts.length→i ≠ j→b ∈ L i→b ∉ L j) :
     Owned w (.slice (some ⟨g,o,none⟩) ts.length cap) ts (g :: (List.range ts.length).flatMap L)
theorem mem_range_flatMap {L:Nat→List Nat} {n b:Nat} : b ∈ (List.range n).flatMap L ↔ ∃ i,i < n∧b ∈ L i:=by
 simp [List.mem_flatMap,List.mem_range]
theorem lt_of_some {ts:List Tr} {i:Nat} {t:Tr} (h:ts[i]? = some t):i < ts.length:=by
 by_cases hi:i < ts.length
 · exact hi
 · rw [List.getElem?_eq_none (by omega)] at h;cases h
theorem Owned.trees {w:World} {s:Value} {ts:List Tr} {F:List Nat} (h:Owned w s ts F):TreesAt w (fun b=>b ∈ F) s ts:=by
 induction h with
 | nil p cap=>exact TreesAt.nil
 | row g o cap ts S L hlen hf hc hs hg hd ih =>
   refine .mk _ cap ts S hlen (fun i t hi=>⟨g,o,rfl,List.mem_cons_self,hc i t hi⟩) (fun i t hi=>?_)
   exact (ih i t hi).mono fun b _ hb=>List.mem_cons_of_mem _ (mem_range_flatMap.2 ⟨i,lt_of_some hi,hb⟩)
theorem Owned.lt {w:World} {s:Value} {ts:List Tr} {F:List Nat} (h:Owned w s ts F):∀ b,b ∈ F→b < w.heap.size:=by
 induction h with
 | nil p cap=>intro b hb;cases hb
 | row g o cap ts S L hlen hf hc hs hg hd ih =>
   intro b hb
   rcases List.mem_cons.1 hb with rfl | hb
   · obtain ⟨cs,ty,h⟩:=hf;exact (Array.getElem?_eq_some_iff.1 h).1
   · obtain ⟨i,hi,hb⟩:=mem_range_flatMap.1 hb
     exact ih i ts[i] (List.getElem?_eq_getElem hi) b hb
theorem Owned.keep {w w':World} {s:Value} {ts:List Tr} {F:List Nat} (h:Owned w s ts F) (hk:∀ b,b ∈ F→w'.heap[b]? = w.heap[b]?):Owned w' s ts F:=by
 induction h with
 | nil p cap=>exact .nil p cap
 | row g o cap ts S L hlen hf hc hs hg hd ih =>
   refine .row g o cap ts S L hlen ?_ (fun i t hi=>(hc i t hi).keep (hk g List.mem_cons_self)) (fun i t hi=>ih i t hi fun b hb=>hk b (List.mem_cons_of_mem _ (mem_range_flatMap.2 ⟨i,lt_of_some hi,hb⟩))) hg hd
   obtain ⟨cs,ty,h⟩:=hf
   exact ⟨cs,ty,(hk g List.mem_cons_self).trans h⟩
theorem Owned.later {w w':World} {s:Value} {ts:List Tr} {F:List Nat} (h:Owned w s ts F) (hb:Below w.heap.size w w'):Owned w' s ts F:=h.keep fun b hbF=>hb.block b (h.lt b hbF)
end Go.Proofs.YtllfgppjobinnaaDoor
namespace Go.Proofs.YtllfgppjobinnaaDoor
open Go.RowKit
theorem frozen_of {w:World} {g o:Nat} (h:∃ cs ty,w.heap[g]? = some (.cells cs ty (0,0))):w.frozen? ⟨g,o,none⟩=false:=by
 obtain ⟨cs,ty,h⟩:=h;simp [World.frozen?,h]
theorem TenAt.setCells {w:World} {g o o':Nat} {t:Tr} {s:Value} {vs:List Value} (h:TenAt w g o t s) (hv:vs.length=10) (ho:o'+10 ≤ o ∨ o+10 ≤ o'):TenAt (w.setCells g o' vs) g o t s:=by
 have e:∀ k,o ≤ k→k < o+10→(w.setCells g o' vs).cell? ⟨g,k,none⟩=w.cell? ⟨g,k,none⟩:=fun k h1 h2=>World.cell?_setCells_out g vs o' w _ (fun _ _=>by simp;omega)
 exact ⟨(e _ (by omega) (by omega)).trans h.c0,(e _ (by omega) (by omega)).trans h.c1,(e _ (by omega) (by omega)).trans h.c2,(e _ (by omega) (by omega)).trans h.c3,(e _ (by omega) (by omega)).trans h.c4,(e _ (by omega) (by omega)).trans h.c5,(e _ (by omega) (by omega)).trans h.c6,(e _ (by omega) (by omega)).trans h.c7,(e _ (by omega) (by omega)).trans h.c8,(e _ (by omega) (by omega)).trans h.c9⟩
end Go.Proofs.YtllfgppjobinnaaDoor
namespace Go.Proofs.YtllfgppjobinnaaDoor
open Go.RowKit
def rowOf (ps:List (Tr × Value)):List Value:=ps.flatMap fun x=>(x.1.cells x.2).toList
theorem rowOf_snoc (ps:List (Tr × Value)) (t:Tr) (s:Value):rowOf (ps ++ [(t,s)])=rowOf ps ++ (t.cells s).toList:=by
 unfold rowOf;simp
theorem rowOf_length (ps:List (Tr × Value)):(rowOf ps).length=ps.length * 10:=by
 unfold rowOf
 induction ps with
 | nil=>rfl
 | cons x ps ih=>rw [List.flatMap_cons,List.length_append,ih];simp [Tr.cells];omega
theorem rowOf_get:∀ (ps:List (Tr × Value)) (i:Nat) (t:Tr) (s:Value),ps[i]? = some (t,s)→∀ j,j < 10→(rowOf ps)[i * 10+j]? = (t.cells s)[j]?
 | [],i,t,s,h,_,_=>by simp at h
 | x :: ps,0,t,s,h,j,hj=>by
   simp only [List.getElem?_cons_zero,Option.some.injEq] at h
   subst h
   unfold rowOf
   rw [List.flatMap_cons,Nat.zero_mul,Nat.zero_add,List.getElem?_append_left (by simp [Tr.cells];omega)]
   simp
 | x :: ps,i+1,t,s,h,j,hj=>by
   have ih:=rowOf_get ps i t s (by simpa using h) j hj
   unfold rowOf at ih ⊢
   rw [List.flatMap_cons,List.getElem?_append_right (by simp [Tr.cells];omega)]
   rw [← ih]
   congr 1
   simp [Tr.cells];omega
theorem trees_of_row {w:World} {base:Nat} {B B':Nat→Prop} {v:Value} {n:Nat} {ps:List (Tr × Value)} (h:w.ownsRow base 37 10 v n (rowOf ps)) (hn:ps.length * 96 ≤ 140737488351232)
   (hs:∀ (i:Nat) (t:Tr) (s:Value),ps[i]? = some (t,s)→TreesAt w B s t.subs) (hB:∀ b,B b→B' b) (hg:∀ g,v.ownBlock=some g→B' g):TreesAt w B' v (ps.map (·.1)):=by
 have hlen:ps.length=n:=by have:=h.1;rw [rowOf_length] at this;omega
 have hcells:=fun g hv=>World.ownsRow.cells h (g:=g) hv
 rcases h.2 with ⟨rfl,hn0⟩ | ⟨g,cap,cur,rfl,hbg,hheap,-⟩
 · have:ps=[]:=List.length_eq_zero_iff.1 (by omega)
   subst this
   exact TreesAt.nil
 · have hc:=hcells g rfl
   have key:∀ (i:Nat) (t:Tr) (s:Value),ps[i]? = some (t,s)→TenAt w g (0+i * 10) t s:=by
     intro i t s hi
     have get:∀ j u,j < 10→(t.cells s)[j]? = some u→w.cell? ⟨g,0+i * 10+j,none⟩=some u:=by
       intro j u hj hu
       have:=hc (i * 10+j) u (by rw [rowOf_get ps i t s hi j hj];exact hu)
       have ea:(⟨g,0,none⟩:Addr).add (i * 10+j)=⟨g,0+i * 10+j,none⟩:=by unfold Addr.add;split <;> simp_all <;> omega
       rw [ea] at this;exact this
     exact ⟨get 0 _ (by omega) rfl,get 1 _ (by omega) rfl,get 2 _ (by omega) rfl,get 3 _ (by omega) rfl,get 4 _ (by omega) rfl,get 5 _ (by omega) rfl,get 6 _ (by omega) rfl,get 7 _ (by omega) rfl,get 8 _ (by omega) rfl,get 9 _ (by omega) rfl⟩
   have hl2:n=(ps.map (·.1)).length:=by rw [List.length_map];omega
   rw [hl2]
   have split:∀ (i:Nat) (t:Tr),(ps.map (·.1))[i]? = some t→∃ s,ps[i]? = some (t,s):=by
     intro i t hi
     rw [List.getElem?_map] at hi
     cases hx:ps[i]? with
     | none=>rw [hx] at hi;cases hi
     | some x=>rw [hx] at hi;cases x with | mk a b=>simp only [Option.map_some,Option.some.injEq] at hi;subst hi;exact ⟨b,rfl⟩
   refine .mk (some ⟨g,0,none⟩) cap (ps.map (·.1)) (fun i=>((ps[i]?).map (·.2)).getD undef) (by rw [List.length_map];exact hn) (fun i t hi=>?_) (fun i t hi=>?_)
   · obtain ⟨s,hs'⟩:=split i t hi
     exact ⟨g,0,rfl,hg g rfl,by simp only [hs',Option.map_some,Option.getD_some];exact key i t s hs'⟩
   · obtain ⟨s,hs'⟩:=split i t hi
     simp only [hs',Option.map_some,Option.getD_some]
     exact (hs i t s hs').mono fun b _ hb=>hB b hb
end Go.Proofs.YtllfgppjobinnaaDoor
namespace Go.Proofs.YtllfgppjobinnaaDoor
open Go.RowKit
theorem append_block {P:Program} {w w':World} (base:Nat) (t ty e:TypeId) (i:TypeInfo) (z:Value) (size bytes:Nat) (ht:P.underlying t=some (.slice e)) (hi:P.info? e=some i) (hz:i.zero=some z)
   (hsize:i.size=size) (hby:i.bytes=bytes) (v v':Value) (n:Nat) (xs:List Value) (hown:w.ownsRow base e size v n xs)
   (a:Addr) (m c:Nat) (news:List Value) (hl:news.length=m * size) (hnews:∀ j u,news[j]? = some u→w.cell? (a.add j)=some u) (h1:∀ u ∈ news,u.oneCell'=true) (hm:0 < m)
   (h63:n+m ≤ maxLen) (hbytes:(n+m) * bytes ≤ 140737488355328) (hr:(Builtin.append_ #[t,t] ty #[v,.slice (some a) m c]).run P w=.ok v' w') :
   v'.ownBlock=v.ownBlock ∨ v'.ownBlock=some w.heap.size:=by
 subst hsize hby
 unfold maxLen at h63
 have hxl:=hown.1
 have hcells:=fun g hg=>World.ownsRow.cells hown (g:=g) hg
 rcases hown.2 with ⟨rfl,rfl⟩ | ⟨g,cap,cur,rfl,-,hg,hnc,hcm,hcs,-⟩
 · rw [run_append_nil (P:=P) w t ty e i z ht hi hz a m c news hl hnews hm (by omega) (by rw [Nat.zero_add] at hbytes;omega)] at hr
   injection hr with h2 h3
   right;rw [← h2];rfl
 · by_cases hroom:n+m ≤ cap
   · rw [run_append_room (P:=P) w t ty e i ht hi g n cap cur hg a m c news hl hnews h1 hroom (by rw [hl,hcs,← Nat.add_mul];exact Nat.mul_le_mul_right _ hroom)] at hr
     injection hr with h2 h3
     left;rw [← h2];rfl
   · rw [run_append_grow (P:=P) w t ty e i z ht hi hz ⟨g,0,none⟩ n cap xs hxl (hcells g rfl) a m c news hl hnews (by omega) (by omega) (growslice_fits (by omega) hbytes)] at hr
     injection hr with h2 h3
     right;rw [← h2];rfl
theorem wpList_append_fresh {P:Program} (w:World) {ops:Array Oper} {rest:List Oper} {o:Oper} {a:Act} {Q:Exit→Act→World→Prop} (hgd:o.guard=none) (s x:Operand) (t:TypeId)
   (ho:o.op=.call { callee:=.builtin .append,args:=#[s,x],argTypes:=#[t,t] })
   (base:Nat) (e:TypeId) (i:TypeInfo) (z:Value) (size bytes:Nat) (ht:P.underlying t=some (.slice e)) (hi:P.info? e=some i) (hz:i.zero=some z)
   (hsize:i.size=size) (hby:i.bytes=bytes) (hzs:z.cells.size=size) (hsz:0 < size)
   (v:Value) (n:Nat) (xs:List Value) (hs:a.eval s=v) (hown:w.ownsRow base e size v n xs)
   (ad:Addr) (m c:Nat) (news:List Value) (hx:a.eval x=.slice (some ad) m c) (hl:news.length=m * size) (hnews:∀ j u,news[j]? = some u→w.cell? (ad.add j)=some u) (h1:∀ u ∈ news,u.oneCell'=true) (hm:0 < m)
   (h63:n+m ≤ maxLen) (hbytes:(n+m) * bytes ≤ 140737488355328) (hbase:base ≤ w.heap.size)
   (h:∀ v' w',w'.ownsRow base e size v' (n+m) (xs ++ news)→w.grownBy w' v.ownBlock→(v'.ownBlock=v.ownBlock ∨ v'.ownBlock=some w.heap.size)→wpList P ops Q rest (a.put o.dst v') w'):wpList P ops Q (o :: rest) a w:=by
 refine wpList_plain hgd fun K hK=>?_
 obtain ⟨v',w',hr,h2,h3,-⟩:=run_append_own (P:=P) w base t o.type e i z size bytes ht hi hz hsize hby hzs hsz v n xs hown ad m c news hl hnews h1 h63 hbytes hbase
 have h4:=append_block base t o.type e i z size bytes ht hi hz hsize hby v v' n xs hown ad m c news hl hnews h1 hm h63 hbytes hr
 unfold Oper.wp execOp
 simp only [ho,resolve,invoke,builtin,Sem.run_bind,Sem.run_pure,Result.andThen_ok,List.map_toArray,List.map_cons,List.map_nil,hs,hx,hr]
 exact hK _ _ (h v' w' h2 h3 h4)
end Go.Proofs.YtllfgppjobinnaaDoor
namespace Go.Proofs.YtllfgppjobinnaaDoor
open Go.RowKit
theorem Tryd.infoNode:(Tryd.prog.info? 37).map (fun i=>(i.zero,i.size,i.bytes))=some (some (.agg #[.int .i64 0,.int .u64 0,.int .u64 0,.int .u64 0,.int .u64 0,.slice none 0 0,.int .i64 0,.int .i64 0,.int .i64 0,.bool false]),10,96):=by kernel_rfl
theorem nodeC_one (x:Tr) (p:Option Addr) (l c:Nat):∀ u ∈ (x.cells (.slice p l c)).toList,u.oneCell'=true:=by simp [Tr.cells,Value.oneCell']
theorem wpList_node1 {ops:Array Oper} {rest:List Oper} {o:Oper} {a:Act} {w:World} {Q:Exit→Act→World→Prop} (hgd:o.guard=none) (x:Operand) (t:Tr) (p:Option Addr) (len cap:Nat) (ho:o.op=.buildSlice 35 1 #[(0,x)]) (hx:a.eval x=.agg (t.cells (.slice p len cap)))
   (h:wpList Tryd.prog ops Q rest (a.put o.dst (.slice (some ⟨w.heap.size,0,none⟩) 1 1)) (w.alloc (.cells (t.cells (.slice p len cap)) 37))):wpList Tryd.prog ops Q (o :: rest) a w:=by
 refine wpList_plain hgd fun K hK=>?_
 obtain ⟨ie,hi,hz0,hz1,-⟩:=info_parts Tryd.infoNode
 refine wp_buildSlice 35 37 1 _ ho _ ie _ Tryd.underlying35 hi hz0 (by rw [hz1];decide) (by rw [hz1];decide) ?_ (hK _ _ h)
 rw [hz1]
 simp only [List.map_toArray,List.map_cons,List.map_nil,hx]
 kernel_rfl
theorem subs_step {w3 w4:World} {base:Nat} {v v':Value} {s:Value} {ts:List Tr} (h:TreesAt w3 (fun b=>base ≤ b∧v.ownBlock ≠ some b) s ts) (hg:w3.grownBy w4 v.ownBlock) (hw:v'.ownBlock=v.ownBlock ∨ v'.ownBlock=some w3.heap.size) :
   TreesAt w4 (fun b=>base ≤ b∧v'.ownBlock ≠ some b) s ts:=by
 have h1:TreesAt w3 (fun b=>(base ≤ b∧v.ownBlock ≠ some b)∧v'.ownBlock ≠ some b) s ts:=h.mono fun b hb hB=>⟨hB,by
   rcases hw with e | e
   · rw [e];exact hB.2
   · rw [e];intro h;have:=Option.some.inj h;omega⟩
 exact (h1.keep (w':=w4) fun b hb hB=>hg.block b hb (fun e=>hB.1.2 e.symm)).mono fun b _ hB=>⟨hB.1.1,hB.2⟩
theorem set5 {w:World} {b:Nat} {x0 x1 x2 x3 x4 x5 x6 x7 x8 x9 y:Value} {t:TypeId} (h:w.heap[b]? = some (.cells #[x0,x1,x2,x3,x4,x5,x6,x7,x8,x9] t)):(w.setCell ⟨b,5,none⟩ y).heap[b]? = some (.cells #[x0,x1,x2,x3,x4,y,x6,x7,x8,x9] t):=by
 simp [World.setCell,Array.getElem?_modify,h]
theorem at5 {w:World} {b:Nat} {x0 x1 x2 x3 x4 x5 x6 x7 x8 x9:Value} {t:TypeId} (h:w.heap[b]? = some (.cells #[x0,x1,x2,x3,x4,x5,x6,x7,x8,x9] t)):w.cell? ⟨b,5,none⟩=some x5∧w.frozen? ⟨b,5,none⟩=false:=by
 simp [World.cell?,World.frozen?,h]
end Go.Proofs.YtllfgppjobinnaaDoor
namespace Go.Proofs.YtllfgppjobinnaaDoor
open Go.RowKit
def OwnEnd (t:Tr) (w:World) (e:Ending) (w':World):Prop:=∃ s F,e=.returned (.agg (t.cells s))∧Owned w' s t.subs F∧(∀ b,b ∈ F→w.heap.size ≤ b)∧Below w.heap.size w w'
def OwnsEnd (ts:List Tr) (w:World) (e:Ending) (w':World):Prop:=∃ v F,e=.returned v∧Owned w' v ts F∧(∀ b,b ∈ F→w.heap.size ≤ b)∧Below w.heap.size w w'
theorem Owned.slice {w:World} {s:Value} {ts:List Tr} {F:List Nat} (h:Owned w s ts F):∃ p cap,s=.slice p ts.length cap∧ts.length * 96 ≤ 140737488351232:=h.trees.slice
theorem nodeC_all (x:Tr) (p:Option Addr) (l c:Nat):(x.cells (.slice p l c)).all (·.oneCell')=true:=by simp [Tr.cells,Value.oneCell']
def pick {α:Type} (f:Nat→α) (m:Nat) (x:α) (i:Nat):α:=if i=m then x else f i
theorem pick_eq {α:Type} (f:Nat→α) (m:Nat) (x:α):pick f m x m=x:=if_pos rfl
theorem pick_ne {α:Type} (f:Nat→α) (m:Nat) (x:α) {i:Nat} (h:i ≠ m):pick f m x i=f i:=if_neg h
def CopiedTo (w:World) (g:Nat) (ts:List Tr) (m:Nat):Prop :=
 ∃ (S:Nat→Value) (L:Nat→List Nat),(∀ i t,i < m→ts[i]? = some t→TenAt w g (i * 10) t (S i)∧Owned w (S i) t.subs (L i))∧(∀ i,i < m→∀ b,b ∈ L i→g < b) ∧
   (∀ i j b,i < m→j < m→i ≠ j→b ∈ L i→b ∉ L j)∧(∀ i,i < m→∀ b,b ∈ L i→b < w.heap.size)
theorem CopiedTo.zero (w:World) (g:Nat) (ts:List Tr):CopiedTo w g ts 0:=⟨fun _=>undef,fun _=>[],fun i t h=>by omega,fun i h=>by omega,fun i j b h=>by omega,fun i h=>by omega⟩
theorem TenAt.of_range {w:World} {g o:Nat} {t:Tr} {s:Value} (h:w.rangeAt g o (t.cells s).toList):TenAt w g o t s:=by
 have get:=fun j u (hu:(t.cells s).toList[j]? = some u)=>h j u hu
 exact ⟨get 0 _ rfl,get 1 _ rfl,get 2 _ rfl,get 3 _ rfl,get 4 _ rfl,get 5 _ rfl,get 6 _ rfl,get 7 _ rfl,get 8 _ rfl,get 9 _ rfl⟩
theorem there_row {w:World} {g o n:Nat} {cs:Array Value} {ty:TypeId} (h:w.heap[g]? = some (.cells cs ty (0,0))) (hn:o+n ≤ cs.size):w.there g o n:=by
 intro j hj
 refine ⟨?_,frozen_of ⟨cs,ty,h⟩⟩
 have hlt:o+j < cs.size:=by omega
 simp [World.cell?,h,hlt]
theorem CopiedTo.step {wr w2:World} {g m:Nat} {ts:List Tr} {x:Tr} {s:Value} {F:List Nat} (h:CopiedTo wr g ts m) (hx:ts[m]? = some x) (hb:Below wr.heap.size wr w2) (hg:g < wr.heap.size)
   (ho:Owned w2 s x.subs F) (hF:∀ b,b ∈ F→wr.heap.size ≤ b) (ht:w2.there g (m * 10) 10):CopiedTo (w2.setCells g (m * 10) (x.cells s).toList) g ts (m+1):=by
 obtain ⟨S,L,h1,h2,h3,h4⟩:=h
 have hg2:w2.heap[g]? = wr.heap[g]?:=hb.block g hg
 have hsz:=hb.size
 have hoth:∀ b,b ≠ g→(w2.setCells g (m * 10) (x.cells s).toList).heap[b]? = w2.heap[b]?:=fun b hbg=>heap_setCells_other hbg _ _ _
 refine ⟨pick S m s,pick L m F,fun i t hi hti=>?_,fun i hi b hbL=>?_,fun i j b hi hj hij h5 h6=>?_,fun i hi b hbL=>?_⟩
 · by_cases e:i=m
   · subst e
     rw [pick_eq,pick_eq]
     rw [hx] at hti
     obtain rfl:=Option.some.inj hti
     refine ⟨TenAt.of_range (World.rangeAt_setCells_same _ _ _ _ (by simpa [Tr.cells] using ht)),ho.keep fun b hb'=>hoth b (fun e=>by subst e;have:=hF _ hb';omega)⟩
   · rw [pick_ne _ _ _ e,pick_ne _ _ _ e]
     obtain ⟨q1,q2⟩:=h1 i t (by omega) hti
     refine ⟨(q1.keep hg2).setCells rfl (by omega),(q2.later hb).keep fun b hb'=>hoth b (fun e=>by subst e;exact absurd (h2 i (by omega) _ hb') (by omega))⟩
 · by_cases e:i=m
   · subst e;rw [pick_eq] at hbL;have:=hF b hbL;omega
   · rw [pick_ne _ _ _ e] at hbL;exact h2 i (by omega) b hbL
 · by_cases e:i=m
   · subst e
     rw [pick_eq] at h5;rw [pick_ne _ _ _ (Ne.symm hij)] at h6
     have:=hF b h5;have:=h4 j (by omega) b h6;omega
   · rw [pick_ne _ _ _ e] at h5
     by_cases e2:j=m
     · subst e2;rw [pick_eq] at h6
       have:=hF b h6;have:=h4 i (by omega) b h5;omega
     · rw [pick_ne _ _ _ e2] at h6;exact h3 i j b (by omega) (by omega) hij h5 h6
 · rw [size_setCells]
   by_cases e:i=m
   · subst e;rw [pick_eq] at hbL;exact ho.lt b hbL
   · rw [pick_ne _ _ _ e] at hbL;have:=h4 i (by omega) b hbL;omega
theorem CopiedTo.owned {w:World} {g:Nat} {ts:List Tr} (h:CopiedTo w g ts ts.length) (hlen:ts.length * 96 ≤ 140737488351232) (hf:∃ cs ty,w.heap[g]? = some (.cells cs ty (0,0))) (cap:Nat) :
   ∃ F,Owned w (.slice (some ⟨g,0,none⟩) ts.length cap) ts F∧∀ b,b ∈ F→g ≤ b:=by
 obtain ⟨S,L,h1,h2,h3,h4⟩:=h
 refine ⟨_,.row g 0 cap ts S L hlen hf (fun i t hi=>by rw [Nat.zero_add];exact (h1 i t (lt_of_some hi) hi).1) (fun i t hi=>(h1 i t (lt_of_some hi) hi).2) (fun i hi hm=>absurd (h2 i hi g hm) (by omega)) h3,fun b hb=>?_⟩
 rcases List.mem_cons.1 hb with rfl | hb
 · omega
 · obtain ⟨i,hi,hb⟩:=mem_range_flatMap.1 hb
   have:=h2 i hi b hb;omega
theorem row_setCells {b n:Nat} {ty:TypeId} : ∀ {vs:List Value} {o:Nat} {w:World} {C:Array Value},w.heap[b]? = some (.cells C ty)→C.size=n→∃ C':Array Value,(w.setCells b o vs).heap[b]? = some (.cells C' ty)∧C'.size=n
 | [],_,_,C,h,hn=>⟨C,h,hn⟩
 | v :: r,o,w,C,h,hn=>by
   rw [World.setCells]
   exact row_setCells (vs:=r) (o:=o+1) (C:=C.setIfInBounds o v) (by simp [World.setCell,Array.getElem?_modify,h]) (by simpa using hn)
theorem setCells_below {B b:Nat} {a w:World} (h:Below B a w) (hb:B ≤ b) (o:Nat) (vs:List Value):Below B a (w.setCells b o vs):=by
 obtain ⟨h1,h2,h3⟩:=streams_setCells b vs o w
 exact h.trans ⟨h1,h2,h3,by rw [size_setCells];omega,fun k hk=>heap_setCells_other (by omega) _ _ _⟩
theorem make_nodes (n:Nat) (hn:n * 96 ≤ 140737488351232):∃ CS:Array Value,CS.size=n * 10∧∀ w:World,(Instr.makeSlice 35 (.int .i64 n) (.int .i64 n)).run Tryd.prog w=.ok (.slice (some ⟨w.heap.size,0,none⟩) n n) (w.alloc (.cells CS 37)):=by
 obtain ⟨ie,hi,hz0,hz1,hz2⟩:=info_parts Tryd.infoNode
 refine ⟨madeCells (Value.agg #[.int .i64 0,.int .u64 0,.int .u64 0,.int .u64 0,.int .u64 0,.slice none 0 0,.int .i64 0,.int .i64 0,.int .i64 0,.bool false]).cells (n * 10),size_madeCells _ _,fun w=>?_⟩
 have h:=run_make (P:=Tryd.prog) w 35 37 ie _ Tryd.underlying35 hi hz0 .i64 .i64 n n (by omega) (Int.le_refl _) (by rw [hz2];omega) (by omega)
 simp only [Int.toNat_natCast,hz1] at h
 exact h
theorem copies_of (ts:List Tr) (ih:∀ u,u ∈ ts→∀ (w:World) (B:Nat→Prop) (v:Value),NodeV w B v u→Calls Tryd.prog 98 #[v] w (OwnEnd u w)) (w:World) (B:Nat→Prop) (v:Value) (hs:TreesAt w B v ts) :
   Calls Tryd.prog 63 #[v] w (OwnsEnd ts w):=by
 obtain ⟨p,cap,rfl,hlen⟩:=hs.slice
 by_cases h0:ts.length=0
 · obtain rfl:=List.length_eq_zero_iff.1 h0
   simp only [List.length_nil] at *
   clear hs
   go_enter Tryd.func63,Tryd.ntmps63
   go_wp2
   go_ret
   exact ⟨_,[],rfl,.nil _ _,fun b hb=>(by cases hb),Below.refl _ _⟩
 · have e0:((ts.length:Int) == 0)=false:=by simp;exact fun h=>h0 (by rw [h];rfl)
   obtain ⟨CS,hCS,hmk⟩:=make_nodes ts.length hlen
   have IH:=Lib.hid ih;have HS:=Lib.hid hs;have HCS:=Lib.hid hCS;have H0:=Lib.hid h0
   clear ih hs hCS h0
   go_enter Tryd.func63,Tryd.ntmps63
   go_wp2
   go_loopw [14] (fun iv wr=>∃ m:Nat,iv=.int .i64 m∧m ≤ ts.length∧Hid (Below w.heap.size w wr)∧w.heap.size < wr.heap.size∧Hid (∃ C:Array Value,wr.heap[w.heap.size]? = some (.cells C 37)∧C.size=ts.length * 10)∧Hid (CopiedTo wr w.heap.size ts m)) (fun iv _=>ts.length - (intOf iv).toNat)
   case atStart=>exact ⟨0,rfl,Nat.zero_le _,Lib.hid (by go_grown),by simp,Lib.hid ⟨CS,heap_alloc_new _ _,HCS.out⟩,Lib.hid (CopiedTo.zero _ _ _)⟩
   case round =>
     obtain ⟨m,rfl,hm,HB,hsz,HC,HD⟩:=hrel
     have wm:IntKind.i64.wrap ((m:Int)+1)=(m:Int)+1:=IntWalk.i64_in _ (by omega)
     by_cases hlt:m < ts.length
     · obtain ⟨x,hx⟩:∃ x,ts[m]? = some x:=⟨_,List.getElem?_eq_getElem hlt⟩
       obtain ⟨b1,o1,s1,rfl,-,t1,sub1⟩:=HS.out.get hx
       obtain ⟨d0,d1,d2,d3,d4,d5,d6,d7,d8,d9⟩:=t1.keep (HB.out.block _ t1.lt)
       obtain ⟨p1,c1,rfl,hl1⟩:=sub1.slice
       have HCALL:=Lib.hid (fun w9 hb=>IH.out x (List.mem_of_getElem? hx) w9 B (.agg (x.cells (.slice p1 x.subs.length c1))) ⟨_,rfl,sub1.later hb⟩)
       have HX:=Lib.hid hx
       clear t1 sub1 hx
       go_wp2_with fail
       generalize hw1:World.alloc wr _=w1
       have hb1:Below wr.heap.size wr w1:=by rw [← hw1];exact (Below.refl _ _).alloc (Nat.le_refl _) _
       clear hw1
       refine (HCALL.out w1 (HB.out.trans (hb1.mono HB.out.size))).mono ?_
       rintro e w2 ⟨s2,F2,rfl,ho2,hF2,hb2⟩
       obtain ⟨p2,c2,rfl,hl2⟩:=ho2.slice
       have hb12:Below wr.heap.size wr w2:=hb1.trans (hb2.mono hb1.size)
       obtain ⟨C,hC1,hC2⟩:=HC.out
       have hC3:=keep_blk hb12 hC1
       have hth:w2.there w.heap.size (m * 10) 10:=there_row hC3 (by omega)
       have HTH:=Lib.hid hth
       have HST:=Lib.hid (HD.out.step HX.out hb12 hsz ho2 (fun b hb=>Nat.le_trans hb1.size (hF2 b hb)) hth)
       have HB2:=Lib.hid (HB.out.trans (hb12.mono HB.out.size))
       have HC4:Hid (∃ C:Array Value,(w2.setCells w.heap.size (m * 10) (x.cells (.slice p2 x.subs.length c2)).toList).heap[w.heap.size]? = some (.cells C 37)∧C.size=ts.length * 10):=Lib.hid (row_setCells hC3 hC2)
       have hs2:w.heap.size < w2.heap.size:=Nat.lt_of_lt_of_le hsz hb12.size
       clear hb1 hb2 hb12 ho2 hF2 hC1 hC2 hC3 hth d0 d1 d2 d3 d4 d5 d6 d7 d8 d9
       go_wp2_with (first
         | (refine wpList_store_mid rfl 37 (.tmp 23) (.tmp 22) rfl w.heap.size (m * 10) (x.cells (.slice p2 x.subs.length c2)) rfl rfl HTH.out (by kernel_rfl) (nodeC_all _ _ _ _) ?_;generalize hw3:World.setCells w2 _ _ _=w3;have HW3:=Lib.hid hw3;clear hw3)
         | fail)
       rw [← HW3.out]
       refine ⟨⟨m+1,by go_num,by omega,Lib.hid (setCells_below HB2.out (Nat.le_refl _) _ _),by rw [size_setCells];exact hs2,HC4,HST⟩,by simp [intOf];omega⟩
     · obtain rfl:m=ts.length:=by omega
       go_wp2
       go_ret
       obtain ⟨C,hC1,-⟩:=HC.out
       obtain ⟨F,hF,hF2⟩:=HD.out.owned hlen ⟨C,_,hC1⟩ ts.length
       exact ⟨_,F,rfl,hF,hF2,HB.out⟩
theorem copy_any:∀ t:Tr,∀ (w:World) (B:Nat→Prop) (v:Value),NodeV w B v t→Calls Tryd.prog 98 #[v] w (OwnEnd t w):=by
 intro t
 induction t using Tr.rec_subs with
 | h t ih =>
   intro w B v hv
   obtain ⟨s,rfl,hs⟩:=hv
   obtain ⟨p,cap,rfl,hlen⟩:=hs.slice
   have HC:=Lib.hid (fun w9 (hb:Below w.heap.size w w9)=>copies_of t.subs ih w9 B _ (hs.later hb))
   cases t with | node k a b c d ts n lo hi br =>
   simp only [Tr.cells,Tr.kind,Tr.w0,Tr.w1,Tr.w2,Tr.w3,Tr.num,Tr.least,Tr.most,Tr.bare,Tr.subs] at *
   clear ih hs
   go_enter Tryd.func98,Tryd.ntmps98
   go_wp2_with fail
   obtain ⟨z0,z1⟩:=two_new w (.cells #[.int .i64 k,.int .u64 (Oc.U a),.int .u64 (Oc.U b),.int .u64 (Oc.U c),.int .u64 (Oc.U d),.slice p ts.length cap,.int .i64 n,.int .i64 lo,.int .i64 hi,.bool br] 37) (.cells #[.int .i64 0,.int .u64 0,.int .u64 0,.int .u64 0,.int .u64 0,.slice none 0 0,.int .i64 0,.int .i64 0,.int .i64 0,.bool false] 37)
   have hb1:Below w.heap.size w ((w.alloc (.cells #[.int .i64 k,.int .u64 (Oc.U a),.int .u64 (Oc.U b),.int .u64 (Oc.U c),.int .u64 (Oc.U d),.slice p ts.length cap,.int .i64 n,.int .i64 lo,.int .i64 hi,.bool br] 37)).alloc (.cells #[.int .i64 0,.int .u64 0,.int .u64 0,.int .u64 0,.int .u64 0,.slice none 0 0,.int .i64 0,.int .i64 0,.int .i64 0,.bool false] 37)):=by go_grown
   have hs1:((w.alloc (.cells #[.int .i64 k,.int .u64 (Oc.U a),.int .u64 (Oc.U b),.int .u64 (Oc.U c),.int .u64 (Oc.U d),.slice p ts.length cap,.int .i64 n,.int .i64 lo,.int .i64 hi,.bool br] 37)).alloc (.cells #[.int .i64 0,.int .u64 0,.int .u64 0,.int .u64 0,.int .u64 0,.slice none 0 0,.int .i64 0,.int .i64 0,.int .i64 0,.bool false] 37)).heap.size=w.heap.size+2:=by simp
   generalize World.alloc (World.alloc _ _) _=w1 at *
   have Z0:=Lib.hid z0;have Z1:=Lib.hid z1;have HB1:=Lib.hid hb1
   clear z0 z1 hb1
   refine (HC.out w1 HB1.out).mono ?_
   rintro e w2 ⟨s2,F,rfl,ho,hF,hb2⟩
   obtain ⟨p2,c2,rfl,hl2⟩:=ho.slice
   have HO:=Lib.hid ho;have HF:=Lib.hid hF
   have Y0:=Lib.hid (keep_blk hb2 Z0.out);have Y1:=Lib.hid (keep_blk hb2 Z1.out)
   have HB2:=Lib.hid (HB1.out.trans (hb2.mono HB1.out.size))
   obtain ⟨f5,g5⟩:=at5 Y0.out
   have Y0s:=Lib.hid (set5 (y:=.slice p2 ts.length c2) Y0.out)
   have Y1s:Hid ((w2.setCell ⟨w.heap.size,5,none⟩ (.slice p2 ts.length c2)).heap[w.heap.size+1]? = some (.cells #[.int .i64 0,.int .u64 0,.int .u64 0,.int .u64 0,.int .u64 0,.slice none 0 0,.int .i64 0,.int .i64 0,.int .i64 0,.bool false] 37)):=Lib.hid (by rw [Below.heap_setCell _ _ _ _ (by simp)];exact Y1.out)
   clear ho hF hb2
   go_wp2_with (first
     | (refine wpList_load_row rfl 37 (.tmp 1) rfl w.heap.size rfl 37 _ (0,0) _ Y0s.out Tryd.underlying37 rfl (by kernel_rfl) ?_)
     | (refine wpList_store_row rfl 37 (.tmp 2) (.tmp 7) rfl (w.heap.size+1) #[.int .i64 k,.int .u64 (Oc.U a),.int .u64 (Oc.U b),.int .u64 (Oc.U c),.int .u64 (Oc.U d),.slice p2 ts.length c2,.int .i64 n,.int .i64 lo,.int .i64 hi,.bool br] rfl rfl 37 _ Y1s.out (by kernel_rfl) rfl (by simp [Value.oneCell']) ?_)
     | fail)
   refine bodyPost_ret (results_cell_row rfl _ _ (w.heap.size+1) 37 #[.int .i64 k,.int .u64 (Oc.U a),.int .u64 (Oc.U b),.int .u64 (Oc.U c),.int .u64 (Oc.U d),.slice p2 ts.length c2,.int .i64 n,.int .i64 lo,.int .i64 hi,.bool br] (0,0) _ rfl (heap_setRow Y1s.out) Tryd.underlying37 rfl (by kernel_rfl)) rfl ⟨_,F,rfl, ?_, ?_, ?_⟩
   · exact HO.out.keep fun b hb=>by
       have:=HF.out b hb
       rw [heap_setRow_other _ _ _ (by omega),Below.heap_setCell _ _ _ _ (by simp;omega)]
   · intro b hb;have:=HF.out b hb;omega
   · exact below_setRow (HB2.out.setCell (Nat.le_refl _) _) (Nat.le_succ _) _
theorem copies_any (ts:List Tr) (w:World) (B:Nat→Prop) (v:Value) (hs:TreesAt w B v ts):Calls Tryd.prog 63 #[v] w (OwnsEnd ts w) :=
 copies_of ts (fun u _ w B v h=>copy_any u w B v h) w B v hs
end Go.Proofs.YtllfgppjobinnaaDoor
namespace Go.Proofs.YtllfgppjobinnaaDoor
open Go.RowKit
def SetsAt (w:World) (p:Option Addr) (len:Nat) (A B C D:Nat→BitVec 64):Prop :=
 ∀ i,i < len→∃ b o,p=some ⟨b,o,none⟩∧b < w.heap.size∧w.cell? ⟨b,o+i * 4,none⟩=some (.int .u64 (Oc.U (A i)))∧w.cell? ⟨b,o+i * 4+1,none⟩=some (.int .u64 (Oc.U (B i))) ∧
   w.cell? ⟨b,o+i * 4+2,none⟩=some (.int .u64 (Oc.U (C i)))∧w.cell? ⟨b,o+i * 4+3,none⟩=some (.int .u64 (Oc.U (D i)))
theorem SetsAt.below {w w':World} {p:Option Addr} {len:Nat} {A B C D:Nat→BitVec 64} (h:SetsAt w p len A B C D) (hb:Below w.heap.size w w'):SetsAt w' p len A B C D:=by
 intro i hi
 obtain ⟨b,o,e,hlt,h0,h1,h2,h3⟩:=h i hi
 exact ⟨b,o,e,Nat.lt_of_lt_of_le hlt hb.size,(hb.cell (p:=⟨b,_,none⟩) hlt).trans h0,(hb.cell (p:=⟨b,_,none⟩) hlt).trans h1,(hb.cell (p:=⟨b,_,none⟩) hlt).trans h2,(hb.cell (p:=⟨b,_,none⟩) hlt).trans h3⟩
theorem join_any (p:Option Addr) (len cap:Nat) (A B C D:Nat→BitVec 64) (hlen:len ≤ 9223372036854775807) (w:World) (hs:SetsAt w p len A B C D) :
   Calls Tryd.prog 209 #[.slice p len cap] w fun e w'=>e=.returned (.agg #[.int .u64 (Oc.U (Oc.orAll A len)),.int .u64 (Oc.U (Oc.orAll B len)),.int .u64 (Oc.U (Oc.orAll C len)),.int .u64 (Oc.U (Oc.orAll D len))])∧Below w.heap.size w w':=by
 go_enter Tryd.func209,Tryd.ntmps209
 go_wp2
 go_loopw [10] (fun i wr=>∃ k:Nat,k ≤ len∧i=.int .i64 k∧Below w.heap.size w wr∧w.heap.size+1 < wr.heap.size∧wr.heap[w.heap.size]? = some (.cells #[.int .u64 0,.int .u64 0,.int .u64 0,.int .u64 0] 24)∧wr.heap[w.heap.size+1]? = some (.cells #[.int .u64 (Oc.U (Oc.orAll A k)),.int .u64 (Oc.U (Oc.orAll B k)),.int .u64 (Oc.U (Oc.orAll C k)),.int .u64 (Oc.U (Oc.orAll D k))] 24)) (fun i _=>len - (intOf i).toNat)
 case atStart =>
   exact ⟨0,Nat.zero_le _,rfl,by go_grown,by simp,(two_new _ _ _).1,(two_new _ _ _).2⟩
 case round =>
   obtain ⟨k,hk,rfl,hbel,hsz,hz0,hz1⟩:=hrel
   by_cases hlt:k < len
   · obtain ⟨b,o,rfl,hbs,h0,h1,h2,h3⟩:=hs.below hbel k hlt
     have i0:=at0;have i1:=at1;have i2:=at2;have i3:=at3
     obtain ⟨c0,f0,c1,f1,c2,f2,c3,f3⟩:=four_on hz1
     have HZ0:=Lib.hid hz0
     have HZ1:=Lib.hid hz1
     clear hs hz0 hz1
     go_wp2
     go_rounds 5
     refine ⟨⟨k+1,by omega,by go_num, ?_, ?_, ?_, ?_⟩,by simp [intOf];omega⟩
     · go_grown
     · simp;omega
     · exact heap_alloc_lt (set4_other _ _ _ _ HZ0.out (by omega))
     · rw [Oc.orU,Oc.orU,Oc.orU,Oc.orU];exact heap_alloc_lt (set4 _ _ _ _ HZ1.out)
   · obtain rfl:k=len:=by omega
     obtain ⟨c0,c1,c2,c3,-,-,-,-⟩:=four hz1
     obtain ⟨d0,e0,d1,e1,d2,e2,d3,e3,r0,r1,r2,r3⟩:=four_st hz0
     clear hs
     go_wp2
     refine bodyPost_ret (v:=(.agg #[.int .u64 (Oc.U (Oc.orAll A k)),.int .u64 (Oc.U (Oc.orAll B k)),.int .u64 (Oc.U (Oc.orAll C k)),.int .u64 (Oc.U (Oc.orAll D k))])) (by simp [results,Tryd.results209,go_sem,r0,r1,r2,r3]) rfl ⟨rfl, ?_⟩
     go_grown
end Go.Proofs.YtllfgppjobinnaaDoor
namespace Go.Proofs.YtllfgppjobinnaaDoor
open Go.RowKit
theorem part0 (a b c d:Value) (w:World):(Go.part 22 #[a,b,c,d] 0).run Tryd.prog w=.ok a w:=by kernel_rfl
theorem part1 (a b c d:Value) (w:World):(Go.part 22 #[a,b,c,d] 1).run Tryd.prog w=.ok b w:=by kernel_rfl
theorem part2 (a b c d:Value) (w:World):(Go.part 22 #[a,b,c,d] 2).run Tryd.prog w=.ok c w:=by kernel_rfl
theorem part3 (a b c d:Value) (w:World):(Go.part 22 #[a,b,c,d] 3).run Tryd.prog w=.ok d w:=by kernel_rfl
theorem eqi (a b:Int) (w:World):(Op.equalIn 9999 22 (.int .u64 a) (.int .u64 b)).run Tryd.prog w=.ok (a == b) w:=run_equalIn_int w 9998 22 .u64 .u64 a b Tryd.underlying22
theorem eq4 (a b c d a' b' c' d':Int) (w:World):(Op.equalIn 10000 24 (.agg #[.int .u64 a,.int .u64 b,.int .u64 c,.int .u64 d]) (.agg #[.int .u64 a',.int .u64 b',.int .u64 c',.int .u64 d'])).run Tryd.prog w=.ok (a == a' && (b == b' && (c == c' && d == d'))) w:=by
 have h0:=run_underlying (P:=Tryd.prog) (w:=w) Tryd.underlying24
 unfold Op.equalIn
 simp only [Sem.run_bind,h0,Result.andThen_ok]
 simp
 rw [show List.range' 0 4=[0,1,2,3] from rfl]
 simp only [List.forIn_cons,List.forIn_nil,Sem.run_bind,part0,eqi,Result.andThen_ok]
 by_cases h1:a=a'
 · by_cases h2:b=b'
   · by_cases h3:c=c'
     · by_cases h4:d=d' <;> simp [h1,h2,h3,h4,part1,part2,part3,eqi]
     · simp [h1,h2,h3,part1,part2,eqi]
   · simp [h1,h2,part1,eqi]
 · simp [h1]
end Go.Proofs.YtllfgppjobinnaaDoor
namespace Go.Proofs.YtllfgppjobinnaaDoor
open Go.RowKit
namespace Ri
def up {T:Type} (f:Nat→T) (i:Nat) (x:T):Nat→T:=fun j=>if j=i then x else f j
theorem up_same {T:Type} (f:Nat→T) (i:Nat) (x:T):up f i x i=x:=by simp [up]
theorem up_other {T:Type} (f:Nat→T) (i:Nat) (x:T) (j:Nat) (h:j ≠ i):up f i x j=f j:=by simp [up,h]
def backward (ops:Array Oper):Bool:=(List.range ops.size).all fun i=>((ops[i]?).map fun o=>o.after.all fun e=>!Region.binds .any e || decide (e.on < i)).getD true
variable {P:Program} {ops:Array Oper} {Q:Exit→Act→World→Prop}
theorem all_listed (hb:backward ops=true) {listed:Array Bool} (hr:Region.ready .any ops listed=[]) (hs:listed.size=ops.size):∀ i,i < ops.size→listed.getD i false=true:=by
 intro i
 induction i using Nat.strongRecOn with
 | _ i ih =>
   intro hi
   cases hl:listed.getD i false with
   | true=>rfl
   | false =>
     exfalso
     have hmem:i ∈ Region.ready .any ops listed:=by
       unfold Region.ready
       refine List.mem_filter.2 ⟨List.mem_range.2 hi, ?_⟩
       have h1:listed.getD i true=false:=by
         have:i < listed.size:=by omega
         simp only [Array.getD,this,dif_pos] at hl ⊢
         exact hl
       have ho:ops[i]? = some ops[i]:=Array.getElem?_eq_getElem hi
       rw [h1,ho]
       simp only [Bool.not_false,Bool.true_and,Option.map_some,Option.getD_some]
       rw [Array.all_eq_true_iff_forall_mem]
       intro e he
       cases hbi:Region.binds .any e with
       | false=>rfl
       | true =>
         have hlt:e.on < i:=by
           have h2:=List.all_eq_true.1 hb i (List.mem_range.2 hi)
           rw [ho] at h2
           simp only [Option.map_some,Option.getD_some] at h2
           have h3:=(Array.all_eq_true_iff_forall_mem.1 h2) e he
           rw [hbi] at h3
           simpa using h3
         simp [ih e.on hlt (by omega)]
     rw [hr] at hmem
     cases hmem
theorem wpAny_inv (hb:backward ops=true) (I:(Nat→Bool)→(Nat→Value)→World→Prop) (A:(Nat→Bool)→(Nat→Value)→Act)
   (step:∀ i,i < ops.size→∀ L v w,I L v w→L i=false→(∀ o,ops[i]? = some o→∀ e ∈ o.after,Region.binds .any e=true→L e.on=true) →
     wpOp P ops Q i (fun a' w'=>∃ u,a'=A (up L i true) (up v i u)∧I (up L i true) (up v i u) w') (A L v) w)
   (fin:∀ L v w,(∀ i,i < ops.size→L i=true)→I L v w→Q .normal (A L v) w) :
   ∀ (fuel:Nat) (U:List Nat) (listed:Array Bool) (v:Nat→Value) (w:World),listed.size=ops.size→U.length ≤ fuel→(∀ i,i < ops.size→listed.getD i false=false→i ∈ U) →
     I (fun i=>listed.getD i false) v w→wpAny P .any ops Q fuel listed (A (fun i=>listed.getD i false) v) w:=by
 intro fuel
 induction fuel with
 | zero =>
   intro U listed v w hs hU hin hI
   have hnil:U=[]:=List.eq_nil_of_length_eq_zero (by omega)
   subst hnil
   have hall:∀ i,i < ops.size→listed.getD i false=true:=fun i hi=>by
     cases h:listed.getD i false with
     | true=>rfl
     | false=>exact absurd (hin i hi h) (by simp)
   refine ⟨?_,fin _ v w hall hI⟩
   unfold Region.ready
   rw [List.filter_eq_nil_iff]
   intro i hi
   have hi':=List.mem_range.1 hi
   have h1:listed.getD i true=true:=by
     have h0:=hall i hi'
     have:i < listed.size:=by omega
     simp only [Array.getD,this,dif_pos] at h0 ⊢
     exact h0
   simp [h1]
 | succ fuel ih =>
   intro U listed v w hs hU hin hI
   refine ⟨fun hr=>fin _ v w (all_listed hb hr hs) hI,fun i hi=>?_⟩
   unfold Region.ready at hi
   obtain ⟨hir,hcond⟩:=List.mem_filter.1 hi
   have hin':=List.mem_range.1 hir
   have ho:ops[i]? = some ops[i]:=Array.getElem?_eq_getElem hin'
   rw [ho] at hcond
   simp only [Bool.and_eq_true,Option.map_some,Option.getD_some] at hcond
   obtain ⟨hl,hafter⟩:=hcond
   have hlf:listed.getD i false=false:=by
     have:i < listed.size:=by omega
     simp only [Array.getD,this,dif_pos] at hl ⊢
     simpa using hl
   have hst:=step i hin' (fun j=>listed.getD j false) v w hI hlf (fun o hoo e he hbi=>by
     rw [ho] at hoo;cases hoo
     have h3:=(Array.all_eq_true_iff_forall_mem.1 hafter) e he
     rw [hbi] at h3
     simpa using h3)
   refine wpOp_mono (fun a' w' h=>?_) hst
   obtain ⟨u,rfl,hI'⟩:=h
   have hup:(fun j=>(listed.setIfInBounds i true).getD j false)=up (fun j=>listed.getD j false) i true:=by
     funext j
     unfold up
     by_cases e:j=i
     · subst e
       have:j < (listed.setIfInBounds j true).size:=by simp;omega
       simp [Array.getD];omega
     · rw [if_neg e]
       simp only [Array.getD,Array.size_setIfInBounds]
       split
       · rename_i h;exact Array.getElem_setIfInBounds_ne h (Ne.symm e)
       · rfl
   have hmemU:i ∈ U:=hin i hin' hlf
   have:=ih (U.erase i) (listed.setIfInBounds i true) (up v i u) w' (by simpa using hs) (by rw [List.length_erase_of_mem hmemU];have:=List.length_pos_of_mem hmemU;omega)
     (fun j hj hjl=>by
       have hj2:(up (fun j=>listed.getD j false) i true) j=false:=by rw [← hup];exact hjl
       by_cases e:j=i
       · subst e;rw [up_same] at hj2;cases hj2
       · rw [up_other _ _ _ _ e] at hj2
         exact (List.mem_erase_of_ne e).2 (hin j hj hj2))
     (by rw [hup];exact hI')
   rw [hup] at this
   exact this
theorem wp_region_inv {id:Nat} {a:Act} {w:World} (hm:P.follows .mixedOrders=true) (hb:backward ops=true) (I:(Nat→Bool)→(Nat→Value)→World→Prop) (A:(Nat→Bool)→(Nat→Value)→Act)
   (ha:a=A (fun _=>false) (fun _=>undef)) (hi:I (fun _=>false) (fun _=>undef) w.drew)
   (step:∀ i,i < ops.size→∀ L v w,I L v w→L i=false→(∀ o,ops[i]? = some o→∀ e ∈ o.after,Region.binds .any e=true→L e.on=true) →
     wpOp P ops Q i (fun a' w'=>∃ u,a'=A (up L i true) (up v i u)∧I (up L i true) (up v i u) w') (A L v) w)
   (fin:∀ L v w,(∀ i,i < ops.size→L i=true)→I L v w→Q .normal (A L v) w) :
   (Code.region id ops true).wp P Q a w:=by
 refine wp_region_any hm ?_
 have hz:(fun i=>(Array.replicate ops.size false).getD i false)=fun _=>false:=by
   funext i;simp only [Array.getD,Array.size_replicate];split <;> simp
 have:=wpAny_inv (P:=P) hb I A step fin ops.size (List.range ops.size) (Array.replicate ops.size false) (fun _=>undef) w.drew (by simp) (by simp) (fun i hi _=>List.mem_range.2 hi) (by rw [hz];exact hi)
 rw [hz,← ha] at this
 exact this
def frame (ops:Array Oper) (a:Act) (L:Nat→Bool) (v:Nat→Value):Act :=
 { a with tmps:=ops.toList.zipIdx.foldl (fun t p=>match p.1.dst with | some d=>if L p.2 then t.setIfInBounds d (v p.2) else t | none=>t) a.tmps }
def apart (ops:Array Oper):Bool:=(ops.toList.filterMap (·.dst)).eraseDups.length == (ops.toList.filterMap (·.dst)).length && ops.toList.zipIdx.all fun p=>ops.toList.zipIdx.all fun q=>p.2 == q.2 || p.1.dst == none || p.1.dst != q.1.dst
theorem fold_size (L:Nat→Bool) (v:Nat→Value):∀ (l:List (Oper × Nat)) (t:Array Value),
   (l.foldl (fun t p=>match p.1.dst with | some d=>if L p.2 then t.setIfInBounds d (v p.2) else t | none=>t) t).size=t.size:=by
 intro l
 induction l with
 | nil=>intro t;rfl
 | cons p l ih =>
   intro t
   rw [List.foldl_cons,ih]
   split
   · split <;> simp
   · rfl
theorem fold_other (L:Nat→Bool) (v:Nat→Value) (s:Nat):∀ (l:List (Oper × Nat)) (t:Array Value),(∀ p ∈ l,p.1.dst ≠ some s) →
   (l.foldl (fun t p=>match p.1.dst with | some d=>if L p.2 then t.setIfInBounds d (v p.2) else t | none=>t) t)[s]? = t[s]?:=by
 intro l
 induction l with
 | nil=>intro t _;rfl
 | cons p l ih =>
   intro t h
   rw [List.foldl_cons,ih _ (fun q hq=>h q (List.mem_cons_of_mem _ hq))]
   have hp:=h p (List.mem_cons_self ..)
   split
   · rename_i d hd
     split
     · rw [Array.getElem?_setIfInBounds_ne];intro e;subst e;exact hp hd
     · rfl
   · rfl
theorem fold_own (L:Nat→Bool) (v:Nat→Value) (s:Nat) (i:Nat):∀ (l:List (Oper × Nat)) (t:Array Value),s < t.size→(∃ p ∈ l,p.1.dst=some s∧p.2=i)→(∀ p ∈ l,p.1.dst=some s→p.2=i) →
   (l.foldl (fun t p=>match p.1.dst with | some d=>if L p.2 then t.setIfInBounds d (v p.2) else t | none=>t) t)[s]? = if L i then some (v i) else t[s]?:=by
 intro l
 induction l with
 | nil=>rintro t _ ⟨p,hp,_⟩ _;cases hp
 | cons p l ih =>
   intro t hs hex hun
   rw [List.foldl_cons]
   by_cases hp:p.1.dst=some s
   · have hi:=hun p (List.mem_cons_self ..) hp
     rw [hp,hi]
     simp only []
     by_cases hl:∃ q ∈ l,q.1.dst=some s∧q.2=i
     · rw [ih _ (by split <;> simpa using hs) hl (fun q hq=>hun q (List.mem_cons_of_mem _ hq))]
       cases L i <;> simp
     · rw [fold_other L v s l _ (fun q hq e=>hl ⟨q,hq,e,hun q (List.mem_cons_of_mem _ hq) e⟩)]
       cases L i <;> simp [hs]
   · obtain ⟨q,hq,hqd,hqi⟩:=hex
     rcases List.mem_cons.1 hq with rfl | hq
     · exact absurd hqd hp
     · have hne:∀ d,p.1.dst=some d→d ≠ s:=fun d hd e=>hp (by rw [hd,e])
       rw [ih _ (by split <;> (try split) <;> simpa using hs) ⟨q,hq,hqd,hqi⟩ (fun q hq=>hun q (List.mem_cons_of_mem _ hq))]
       congr 1
       split
       · rename_i d hd
         split
         · rw [Array.getElem?_setIfInBounds_ne (hne d hd)]
         · rfl
       · rfl
theorem mem_zip {ops:Array Oper} {p:Oper × Nat} (h:p ∈ ops.toList.zipIdx):ops[p.2]? = some p.1:=by
 obtain ⟨_,_,h3⟩:=List.mem_zipIdx (x:=p.1) (i:=p.2) (k:=0) h
 rw [Array.getElem?_eq_some_iff]
 exact ⟨by rename_i h2;simpa using h2,by rw [h3];simp⟩
theorem zip_mem {ops:Array Oper} {i:Nat} {o:Oper} (h:ops[i]? = some o):(o,i) ∈ ops.toList.zipIdx:=by
 rw [List.mem_zipIdx_iff_getElem?]
 simpa using h
theorem apart_un (hap:apart ops=true) {i j:Nat} {o o':Oper} {d:Nat} (hi:ops[i]? = some o) (hj:ops[j]? = some o') (h1:o.dst=some d) (h2:o'.dst=some d):i=j:=by
 unfold apart at hap
 rw [Bool.and_eq_true] at hap
 have h3:=List.all_eq_true.1 (List.all_eq_true.1 hap.2 _ (zip_mem hi)) _ (zip_mem hj)
 simpa [h1,h2] using h3
theorem frame_size (a:Act) (L:Nat→Bool) (v:Nat→Value):(frame ops a L v).tmps.size=a.tmps.size:=fold_size L v _ _
theorem frame_own (hap:apart ops=true) (a:Act) (L:Nat→Bool) (v:Nat→Value) {i d:Nat} {o:Oper} (ho:ops[i]? = some o) (hd:o.dst=some d) (hs:d < a.tmps.size) :
   (frame ops a L v).tmps[d]? = if L i then some (v i) else a.tmps[d]? :=
 fold_own L v d i _ _ hs ⟨_,zip_mem ho,hd,rfl⟩ (fun _ hp e=>(apart_un hap ho (mem_zip hp) hd e).symm)
theorem frame_other (a:Act) (L:Nat→Bool) (v:Nat→Value) {d:Nat} (h:∀ (i:Nat) (o:Oper),ops[i]? = some o→o.dst ≠ some d):(frame ops a L v).tmps[d]? = a.tmps[d]? :=
 fold_other L v d _ _ (fun p hp=>h p.2 p.1 (mem_zip hp))
theorem frame_put (hap:apart ops=true) (a:Act) (L:Nat→Bool) (v:Nat→Value) {i:Nat} {o:Oper} (ho:ops[i]? = some o) (u:Value) :
   (frame ops a L v).put o.dst u=frame ops a (up L i true) (up v i u):=by
 have key:∀ s:Nat,((frame ops a L v).put o.dst u).tmps[s]? = (frame ops a (up L i true) (up v i u)).tmps[s]?:=by
   intro s
   by_cases hs:s < a.tmps.size
   · by_cases hex:∃ (j:Nat) (o':Oper),ops[j]? = some o'∧o'.dst=some s
     · obtain ⟨j,o',hj,hd⟩:=hex
       rw [frame_own hap a _ _ hj hd hs]
       by_cases e:j=i
       · subst e
         rw [ho] at hj;cases hj
         rw [hd,up_same,up_same]
         simp only [Act.put,if_true]
         rw [Array.getElem?_setIfInBounds_self,if_pos (by rw [frame_size];exact hs)]
       · rw [up_other _ _ _ _ e,up_other _ _ _ _ e,← frame_own hap a L v hj hd hs]
         cases hod:o.dst with
         | none=>rfl
         | some d =>
           simp only [Act.put]
           rw [Array.getElem?_setIfInBounds_ne]
           intro e';subst e';exact e (apart_un hap hj ho hd hod)
     · have hno:∀ (j:Nat) (o':Oper),ops[j]? = some o'→o'.dst ≠ some s:=fun j o' h1 h2=>hex ⟨j,o',h1,h2⟩
       rw [frame_other a _ _ hno,← frame_other a L v hno]
       cases hod:o.dst with
       | none=>rfl
       | some d =>
         simp only [Act.put]
         rw [Array.getElem?_setIfInBounds_ne]
         intro e';subst e';exact hno i o ho hod
   · have h1:(frame ops a (up L i true) (up v i u)).tmps[s]? = none:=Array.getElem?_eq_none (by rw [frame_size];omega)
     have h2:((frame ops a L v).put o.dst u).tmps[s]? = none:=by
       refine Array.getElem?_eq_none ?_
       cases o.dst <;> simp [Act.put,frame_size] <;> omega
     rw [h1,h2]
 have ht:((frame ops a L v).put o.dst u).tmps=(frame ops a (up L i true) (up v i u)).tmps:=Array.ext_getElem? key
 have hd:((frame ops a L v).put o.dst u).defers=(frame ops a (up L i true) (up v i u)).defers:=by cases o.dst <;> rfl
 generalize (frame ops a L v).put o.dst u=x at *
 generalize frame ops a (up L i true) (up v i u)=y at *
 cases x;cases y;simp_all
theorem fold_none (v:Nat→Value):∀ (l:List (Oper × Nat)) (t:Array Value),
   l.foldl (fun t p=>match p.1.dst with | some d=>if (fun _:Nat=>false) p.2 then t.setIfInBounds d (v p.2) else t | none=>t) t=t:=by
 intro l
 induction l with
 | nil=>intro t;rfl
 | cons p l ih=>intro t;rw [List.foldl_cons];cases p.1.dst <;> exact ih t
theorem wp_region_frame {id:Nat} {a:Act} {w:World} (hm:P.follows .mixedOrders=true) (hb:backward ops=true) (hap:apart ops=true) (hsz0:(ops.toList.all fun o=>o.dst.all fun d=>decide (d < a.tmps.size))=true)
   (I:(Nat→Bool)→(Nat→Value)→World→Prop)
   (hi:I (fun _=>false) (fun _=>undef) w.drew)
   (step:∀ i,i < ops.size→∀ L v w (a':Act),I L v w→L i=false→(∀ o,ops[i]? = some o→∀ e ∈ o.after,Region.binds .any e=true→L e.on=true) →
     (∀ j d:Nat,(ops[j]?).bind (·.dst)=some d→L j=true→a'.tmps.getD d undef=v j)→(∀ d,ops.toList.all (fun o=>o.dst != some d)=true→a'.tmps.getD d undef=a.tmps.getD d undef) →
     wpOp P ops Q i (fun b w'=>∃ (o:Oper) (u:Value),ops[i]? = some o∧b=a'.put o.dst u∧I (up L i true) (up v i u) w') a' w)
   (fin:∀ v w,I (fun i=>decide (i < ops.size)) v w→Q .normal (frame ops a (fun _=>true) v) w) :
   (Code.region id ops true).wp P Q a w:=by
 have hsz:∀ (i:Nat) (o:Oper) (d:Nat),ops[i]? = some o→o.dst=some d→d < a.tmps.size:=fun i o d h1 h2=>by
   have:=List.all_eq_true.1 hsz0 o (Array.mem_toList_iff.2 (Array.mem_of_getElem? h1))
   rw [h2] at this
   simpa using this
 refine wp_region_inv hm hb (fun L v w=>I L v w∧∀ i,ops.size ≤ i→L i=false) (frame ops a) ?_ ⟨hi,fun _ _=>rfl⟩ ?_ ?_
 · have:=fold_none (fun _=>undef) ops.toList.zipIdx a.tmps
   unfold frame;rw [show (List.foldl _ a.tmps _)=a.tmps from this]
 · intro i hin L v w ⟨hI,hL⟩ hLi hd
   refine wpOp_mono ?_ (step i hin L v w (frame ops a L v) hI hLi hd ?_ ?_)
   · rintro b w' ⟨o,u,ho,rfl,hI'⟩
     exact ⟨u,frame_put hap a L v ho u,hI',fun j hj=>by rw [up_other _ _ _ _ (by omega)];exact hL j hj⟩
   · intro j d hjd hlj
     obtain ⟨o,ho,hod⟩:=Option.bind_eq_some_iff.1 hjd
     have hs:=hsz j o d ho hod
     have:=frame_own hap a L v ho hod hs
     rw [hlj,if_pos rfl] at this
     rw [Array.getD_eq_getD_getElem?,this];rfl
   · intro d hall
     have hno:∀ (j:Nat) (o:Oper),ops[j]? = some o→o.dst ≠ some d:=fun j o ho=>by
       have:=List.all_eq_true.1 hall o (Array.mem_toList_iff.2 (Array.mem_of_getElem? ho))
       simpa using this
     rw [Array.getD_eq_getD_getElem?,Array.getD_eq_getD_getElem?,frame_other a L v hno]
 · intro L v w hall ⟨hI,hL⟩
   have e:L=fun i=>decide (i < ops.size):=by
     funext i
     by_cases h:i < ops.size
     · rw [hall i h];simp [h]
     · rw [hL i (by omega)];simp [h]
   have e2:frame ops a L v=frame ops a (fun _=>true) v:=by
     have:∀ s:Nat,(frame ops a L v).tmps[s]? = (frame ops a (fun _=>true) v).tmps[s]?:=by
       intro s
       by_cases hex:∃ (j:Nat) (o':Oper),ops[j]? = some o'∧o'.dst=some s
       · obtain ⟨j,o',hj,hd⟩:=hex
         have hs:=hsz j o' s hj hd
         rw [frame_own hap a _ _ hj hd hs,frame_own hap a _ _ hj hd hs,hall j (Array.getElem?_eq_some_iff.1 hj).1]
       · have hno:∀ (j:Nat) (o':Oper),ops[j]? = some o'→o'.dst ≠ some s:=fun j o' h1 h2=>hex ⟨j,o',h1,h2⟩
         rw [frame_other a _ _ hno,frame_other a _ _ hno]
     have ht:=Array.ext_getElem? this
     have hd:(frame ops a L v).defers=(frame ops a (fun _=>true) v).defers:=rfl
     generalize frame ops a L v=x at *
     generalize frame ops a (fun _=>true) v=y at *
     cases x;cases y;simp_all
   rw [e2]
   exact fin v w (e ▸ hI)
theorem step_plain {i:Nat} {o:Oper} {K:Act→World→Prop} {a:Act} {w:World} (ho:ops[i]? = some o) (hg:o.guard=none)
   (h:∀ K':Act→World→Prop,(∀ a w,K a w→K' a w)→Oper.wp P o a w K' Q):wpOp P ops Q i K a w :=
 wpOp_step ho fun K' hK=>by rw [if_pos (by simp [Region.wanted,hg])];exact h K' hK
theorem some_of_getD {t:Array Value} {i:Nat} {b:Bool} (h:t.getD i undef=.bool b):t[i]? = some (.bool b):=by
 rw [Array.getD_eq_getD_getElem?] at h
 cases hx:t[i]? with
 | none=>rw [hx] at h;cases h
 | some v=>rw [hx] at h;exact congrArg some h
theorem step_wanted {i j d:Nat} {b:Bool} {o:Oper} {K:Act→World→Prop} {a:Act} {w:World} (ho:ops[i]? = some o) (hg:o.guard=some (j,b)) (hd:(ops[j]?).bind (·.dst)=some d) (hv:a.tmps.getD d undef=.bool b)
   (h:∀ K':Act→World→Prop,(∀ a w,K a w→K' a w)→Oper.wp P o a w K' Q):wpOp P ops Q i K a w :=
 wpOp_step ho fun K' hK=>by
   rw [if_pos (by simp [Region.wanted,hg,yielded,hd,some_of_getD hv])];exact h K' hK
theorem step_unwanted {i j d:Nat} {b:Bool} {o:Oper} {K:Act→World→Prop} {a:Act} {w:World} (ho:ops[i]? = some o) (hg:o.guard=some (j,!b)) (hd:(ops[j]?).bind (·.dst)=some d) (hv:a.tmps.getD d undef=.bool b)
   (h:K (a.put o.dst undef) w):wpOp P ops Q i K a w :=
 wpOp_step ho fun K' hK=>by
   rw [if_neg (by cases b <;> simp [Region.wanted,hg,yielded,hd,some_of_getD hv])];exact hK _ _ h
end Ri
end Go.Proofs.YtllfgppjobinnaaDoor
namespace Go.Proofs.YtllfgppjobinnaaDoor
open Go.RowKit
def SameEnd (t u:Tr) (w:World) (e:Ending) (w':World):Prop:=∃ b:Bool,e=.returned (.bool b)∧(b=true ↔ t=u)∧Below w.heap.size w w'
theorem sameEnd_no {t u:Tr} {w w':World} (h:t ≠ u) (hb:Below w.heap.size w w'):SameEnd t u w (.returned (.bool false)) w':=⟨false,rfl,⟨fun h=>(by cases h),fun e=>absurd e h⟩,hb⟩
theorem sameEnd_yes {t u:Tr} {w w':World} (h:t=u) (hb:Below w.heap.size w w'):SameEnd t u w (.returned (.bool true)) w':=⟨true,rfl,⟨fun _=>h,fun _=>rfl⟩,hb⟩
theorem SameEnd.yes {t u:Tr} {w w':World} {e:Ending} (h:SameEnd t u w e w') (ht:t=u):e=.returned (.bool true)∧Below w.heap.size w w':=by
 obtain ⟨b,rfl,hb,hw⟩:=h;rw [hb.2 ht];exact ⟨rfl,hw⟩
theorem SameEnd.no {t u:Tr} {w w':World} {e:Ending} (h:SameEnd t u w e w') (ht:t ≠ u):e=.returned (.bool false)∧Below w.heap.size w w':=by
 obtain ⟨b,rfl,hb,hw⟩:=h
 cases b with
 | false=>exact ⟨rfl,hw⟩
 | true=>exact absurd (hb.1 rfl) ht
theorem U_ne {a b c d a' b' c' d':BitVec 64} (h:¬ (a=a'∧b=b'∧c=c'∧d=d')):(Oc.U a == Oc.U a' && (Oc.U b == Oc.U b' && (Oc.U c == Oc.U c' && Oc.U d == Oc.U d')))=false:=by
 cases hb:(Oc.U a == Oc.U a' && (Oc.U b == Oc.U b' && (Oc.U c == Oc.U c' && Oc.U d == Oc.U d'))) with
 | false=>rfl
 | true =>
   simp only [Bool.and_eq_true,beq_iff_eq] at hb
   exact absurd ⟨Oc.U_inj hb.1,Oc.U_inj hb.2.1,Oc.U_inj hb.2.2.1,Oc.U_inj hb.2.2.2⟩ h
theorem field5 {w:World} {b:Nat} {x0 x1 x2 x3 x4 x5 x6 x7 x8 x9:Value} {t:TypeId} (h:w.heap[b]? = some (.cells #[x0,x1,x2,x3,x4,x5,x6,x7,x8,x9] t)):w.cell? ⟨b,5,none⟩=some x5:=by
 simp [World.cell?,h]
theorem samenodes_any:∀ t u:Tr,∀ (w:World) (B C:Nat→Prop) (va vb:Value),NodeV w B va t→NodeV w C vb u →
   Calls Tryd.prog 46 #[va,vb] w (SameEnd t u w):=by
 intro t
 induction t using Tr.rec_subs with
 | h t ih =>
   intro u w B C va vb ha hb
   obtain ⟨sa,rfl,hsa⟩:=ha
   obtain ⟨sb,rfl,hsb⟩:=hb
   obtain ⟨p,cap,rfl,hla⟩:=hsa.slice
   obtain ⟨q,cbp,rfl,hlb⟩:=hsb.slice
   have he:=eq4
   cases t with | node k a b c d ts n lo hi br =>
   cases u with | node k' a' b' c' d' us n' lo' hi' br' =>
   simp only [Tr.cells,Tr.kind,Tr.w0,Tr.w1,Tr.w2,Tr.w3,Tr.num,Tr.least,Tr.most,Tr.bare,Tr.subs] at *
   have IH:=Lib.hid ih
   clear ih
   by_cases hx:k=k'
   case neg =>
     have HN:=Lib.hid (show Tr.node k a b c d ts n lo hi br ≠ .node k' a' b' c' d' us n' lo' hi' br' from fun h=>by cases h;exact hx rfl)
     have e1:(k != k')=true:=by simpa using hx
     clear hx
     go_enter Tryd.func46,Tryd.ntmps46
     go_wp2
     go_ret
     exact sameEnd_no HN.out (by go_grown)
   obtain rfl:=hx
   by_cases hx:a=a'∧b=b'∧c=c'∧d=d'
   case neg =>
     have HN:=Lib.hid (show Tr.node k a b c d ts n lo hi br ≠ .node k a' b' c' d' us n' lo' hi' br' from fun h=>by cases h;exact hx ⟨rfl,rfl,rfl,rfl⟩)
     have e2:=U_ne hx
     clear hx
     go_enter Tryd.func46,Tryd.ntmps46
     go_wp2
     go_ret
     exact sameEnd_no HN.out (by go_grown)
   obtain ⟨rfl,rfl,rfl,rfl⟩:=hx
   by_cases hx:n=n'
   case neg =>
     have HN:=Lib.hid (show Tr.node k a b c d ts n lo hi br ≠ .node k a b c d us n' lo' hi' br' from fun h=>by cases h;exact hx rfl)
     have e1:(n != n')=true:=by simpa using hx
     clear hx
     go_enter Tryd.func46,Tryd.ntmps46
     go_wp2
     go_ret
     exact sameEnd_no HN.out (by go_grown)
   obtain rfl:=hx
   by_cases hx:lo=lo'
   case neg =>
     have HN:=Lib.hid (show Tr.node k a b c d ts n lo hi br ≠ .node k a b c d us n lo' hi' br' from fun h=>by cases h;exact hx rfl)
     have e1:(lo != lo')=true:=by simpa using hx
     clear hx
     go_enter Tryd.func46,Tryd.ntmps46
     go_wp2
     go_ret
     exact sameEnd_no HN.out (by go_grown)
   obtain rfl:=hx
   by_cases hx:hi=hi'
   case neg =>
     have HN:=Lib.hid (show Tr.node k a b c d ts n lo hi br ≠ .node k a b c d us n lo hi' br' from fun h=>by cases h;exact hx rfl)
     have e1:(hi != hi')=true:=by simpa using hx
     clear hx
     go_enter Tryd.func46,Tryd.ntmps46
     go_wp2
     go_ret
     exact sameEnd_no HN.out (by go_grown)
   obtain rfl:=hx
   by_cases hx:br=br'
   case neg =>
     have HN:=Lib.hid (show Tr.node k a b c d ts n lo hi br ≠ .node k a b c d us n lo hi br' from fun h=>by cases h;exact hx rfl)
     have hbb:(br=true∧br'=false) ∨ (br=false∧br'=true):=by cases br <;> cases br' <;> simp at hx ⊢
     clear hx
     rcases hbb with ⟨rfl,rfl⟩ | ⟨rfl,rfl⟩
     all_goals
       go_enter Tryd.func46,Tryd.ntmps46
       go_wp2
       go_ret
       exact sameEnd_no HN.out (by go_grown)
   obtain rfl:=hx
   by_cases hx:ts.length=us.length
   case neg =>
     have HN:=Lib.hid (show Tr.node k a b c d ts n lo hi br ≠ .node k a b c d us n lo hi br from fun h=>by cases h;exact hx rfl)
     have e1:((ts.length:Int) != (us.length:Int))=true:=by simp;omega
     have e2:(ts.length != us.length)=true:=by simpa using hx
     have e3:(ts.length == us.length)=false:=by simpa using hx
     clear hx
     go_enter Tryd.func46,Tryd.ntmps46
     go_wp2
     go_ret
     exact sameEnd_no HN.out (by go_grown)
   have hlen:us.length=ts.length:=hx.symm
   clear hx
   have HSA:=Lib.hid hsa;have HSB:=Lib.hid hsb
   clear hsa hsb
   rw [hlen] at HSB hlb ⊢
   go_enter Tryd.func46,Tryd.ntmps46
   go_wp2
   go_loopw [58] (fun iv wr=>∃ m:Nat,iv=.int .i64 m∧m ≤ ts.length∧Hid (∀ j,j < m→ts[j]? = us[j]?)∧Below w.heap.size w wr∧w.heap.size+1 < wr.heap.size ∧
     wr.heap[w.heap.size]? = some (.cells #[.int .i64 k,.int .u64 (Oc.U a),.int .u64 (Oc.U b),.int .u64 (Oc.U c),.int .u64 (Oc.U d),.slice p ts.length cap,.int .i64 n,.int .i64 lo,.int .i64 hi,.bool br] 37)∧wr.heap[w.heap.size+1]? = some (.cells #[.int .i64 k,.int .u64 (Oc.U a),.int .u64 (Oc.U b),.int .u64 (Oc.U c),.int .u64 (Oc.U d),.slice q ts.length cbp,.int .i64 n,.int .i64 lo,.int .i64 hi,.bool br] 37)) (fun iv _=>ts.length - (intOf iv).toNat)
   case atStart=>exact ⟨0,rfl,Nat.zero_le _,Lib.hid (fun j hj=>absurd hj (Nat.not_lt_zero _)),by go_grown,by simp,(two_new _ _ _).1,(two_new _ _ _).2⟩
   case round =>
     obtain ⟨m,rfl,hm,hall,hbel,hsz,z2,z3⟩:=hrel
     have Z2:=Lib.hid z2;have Z3:=Lib.hid z3;have HB:=Lib.hid hbel
     clear z2 z3 hbel
     have wm:IntKind.i64.wrap ((m:Int)+1)=(m:Int)+1:=IntWalk.i64_in _ (by omega)
     by_cases hlt:m < ts.length
     · obtain ⟨x,hx⟩:∃ x,ts[m]? = some x:=⟨_,List.getElem?_eq_getElem hlt⟩
       obtain ⟨y,hy⟩:∃ y,us[m]? = some y:=⟨_,List.getElem?_eq_getElem (by omega)⟩
       obtain ⟨b1,o1,s1,rfl,-,t1,sub1⟩:=HSA.out.get hx
       obtain ⟨b2,o2,s2,rfl,-,t2,sub2⟩:=HSB.out.get hy
       have T1:=Lib.hid t1;have T2:=Lib.hid t2
       have l1:=t1.lt;have l2:=t2.lt
       have HS:=Lib.hid (fun w9 (hb:Below wr.heap.size wr w9)=>IH.out x (List.mem_of_getElem? hx) y w9 B C (.agg #[.int .i64 x.kind,.int .u64 (Oc.U x.w0),.int .u64 (Oc.U x.w1),.int .u64 (Oc.U x.w2),.int .u64 (Oc.U x.w3),s1,.int .i64 x.num,.int .i64 x.least,.int .i64 x.most,.bool x.bare]) (.agg #[.int .i64 y.kind,.int .u64 (Oc.U y.w0),.int .u64 (Oc.U y.w1),.int .u64 (Oc.U y.w2),.int .u64 (Oc.U y.w3),s2,.int .i64 y.num,.int .i64 y.least,.int .i64 y.most,.bool y.bare]) ⟨s1,rfl,sub1.later (HB.out.trans (hb.mono HB.out.size))⟩ ⟨s2,rfl,sub2.later (HB.out.trans (hb.mono HB.out.size))⟩)
       clear t1 t2 sub1 sub2
       have HX:=Lib.hid hx;have HY:=Lib.hid hy
       clear hx hy
       by_cases heq:x=y
       · have HQ:=Lib.hid heq
         clear heq
         go_wp2
         refine Ri.wp_region_frame (by kernel_rfl) (by kernel_rfl) (by kernel_rfl) (by kernel_rfl)
           (fun L v w'=>Below wr.heap.size wr w'∧(L 0=true→v 0=.pointer (some ⟨w.heap.size,5,none⟩))∧(L 1=true→v 1=.slice (some ⟨b1,o1,none⟩) ts.length cap)∧(L 2=true→v 2=.int .i64 m)∧(L 3=true→v 3=.pointer (some ⟨b1,o1+m * 10,none⟩))∧(L 4=true→v 4=.agg #[.int .i64 x.kind,.int .u64 (Oc.U x.w0),.int .u64 (Oc.U x.w1),.int .u64 (Oc.U x.w2),.int .u64 (Oc.U x.w3),s1,.int .i64 x.num,.int .i64 x.least,.int .i64 x.most,.bool x.bare])∧(L 5=true→v 5=.pointer (some ⟨w.heap.size+1,5,none⟩))∧(L 6=true→v 6=.slice (some ⟨b2,o2,none⟩) ts.length cbp)∧(L 7=true→v 7=.int .i64 m)∧(L 8=true→v 8=.pointer (some ⟨b2,o2+m * 10,none⟩))∧(L 9=true→v 9=.agg #[.int .i64 y.kind,.int .u64 (Oc.U y.w0),.int .u64 (Oc.U y.w1),.int .u64 (Oc.U y.w2),.int .u64 (Oc.U y.w3),s2,.int .i64 y.num,.int .i64 y.least,.int .i64 y.most,.bool y.bare])∧(L 10=true→v 10=.bool true)∧(L 11=true→v 11=.bool false))
           ?_ ?_ ?_
         · exact ⟨(Below.refl _ _).drew,by simp,by simp,by simp,by simp,by simp,by simp,by simp,by simp,by simp,by simp,by simp,by simp⟩
         · intro i hi9 L v w9 xa hI hL hd hv ho
           have hi':i=0 ∨ i=1 ∨ i=2 ∨ i=3 ∨ i=4 ∨ i=5 ∨ i=6 ∨ i=7 ∨ i=8 ∨ i=9 ∨ i=10 ∨ i=11:=by simp at hi9;omega
           obtain ⟨hb,q0,q1,q2,q3,q4,q5,q6,q7,q8,q9,q10,q11⟩:=hI
           rcases hi' with rfl | rfl | rfl | rfl | rfl | rfl | rfl | rfl | rfl | rfl | rfl | rfl
           · have e2:xa.tmps.getD 2 undef=.pointer (some ⟨w.heap.size,0,none⟩):=ho 2 (by kernel_rfl)
             refine Ri.step_plain rfl rfl (fun K' hK=>?_)
             go_simp
             exact hK _ _ ⟨_,_,rfl,rfl,hb,fun _=>rfl,q1,q2,q3,q4,q5,q6,q7,q8,q9,q10,q11⟩
           · have l0:L 0=true:=by have:=hd _ rfl;simp [Region.binds] at this;simp [this]
             have f0:=(hv 0 61 rfl l0).trans (q0 l0)
             refine Ri.step_plain rfl rfl (fun K' hK=>?_)
             obtain c5:=field5 (keep_blk hb Z2.out)
             go_simp
             exact hK _ _ ⟨_,_,rfl,rfl,hb,q0,fun _=>rfl,q2,q3,q4,q5,q6,q7,q8,q9,q10,q11⟩
           · have e5:xa.tmps.getD 5 undef=.int .i64 m:=ho 5 (by kernel_rfl)
             refine Ri.step_plain rfl rfl (fun K' hK=>?_)
             go_simp
             exact hK _ _ ⟨_,_,rfl,rfl,hb,q0,q1,fun _=>rfl,q3,q4,q5,q6,q7,q8,q9,q10,q11⟩
           · have l0:L 1=true∧L 2=true:=by have:=hd _ rfl;simp [Region.binds] at this;simp [this]
             have f1:=(hv 1 62 rfl l0.1).trans (q1 l0.1)
             have f2:=(hv 2 63 rfl l0.2).trans (q2 l0.2)
             refine Ri.step_plain rfl rfl (fun K' hK=>?_)
             go_simp
             exact hK _ _ ⟨_,_,rfl,rfl,hb,q0,q1,q2,fun _=>rfl,q4,q5,q6,q7,q8,q9,q10,q11⟩
           · have l0:L 3=true:=by have:=hd _ rfl;simp [Region.binds] at this;simp [this]
             have f3:=(hv 3 64 rfl l0).trans (q3 l0)
             refine Ri.step_plain rfl rfl (fun K' hK=>?_)
             obtain ⟨d0,d1,d2,d3,d4,d5,d6,d7,d8,d9⟩:=(T1.out.keep ((HB.out.trans (hb.mono HB.out.size)).block _ l1))
             go_simp
             exact hK _ _ ⟨_,_,rfl,rfl,hb,q0,q1,q2,q3,fun _=>rfl,q5,q6,q7,q8,q9,q10,q11⟩
           · have e3:xa.tmps.getD 3 undef=.pointer (some ⟨w.heap.size+1,0,none⟩):=ho 3 (by kernel_rfl)
             refine Ri.step_plain rfl rfl (fun K' hK=>?_)
             go_simp
             exact hK _ _ ⟨_,_,rfl,rfl,hb,q0,q1,q2,q3,q4,fun _=>rfl,q6,q7,q8,q9,q10,q11⟩
           · have l0:L 5=true:=by have:=hd _ rfl;simp [Region.binds] at this;simp [this]
             have f5:=(hv 5 66 rfl l0).trans (q5 l0)
             refine Ri.step_plain rfl rfl (fun K' hK=>?_)
             obtain c5:=field5 (keep_blk hb Z3.out)
             go_simp
             exact hK _ _ ⟨_,_,rfl,rfl,hb,q0,q1,q2,q3,q4,q5,fun _=>rfl,q7,q8,q9,q10,q11⟩
           · have e5:xa.tmps.getD 5 undef=.int .i64 m:=ho 5 (by kernel_rfl)
             refine Ri.step_plain rfl rfl (fun K' hK=>?_)
             go_simp
             exact hK _ _ ⟨_,_,rfl,rfl,hb,q0,q1,q2,q3,q4,q5,q6,fun _=>rfl,q8,q9,q10,q11⟩
           · have l0:L 6=true∧L 7=true:=by have:=hd _ rfl;simp [Region.binds] at this;simp [this]
             have f6:=(hv 6 67 rfl l0.1).trans (q6 l0.1)
             have f7:=(hv 7 68 rfl l0.2).trans (q7 l0.2)
             refine Ri.step_plain rfl rfl (fun K' hK=>?_)
             go_simp
             exact hK _ _ ⟨_,_,rfl,rfl,hb,q0,q1,q2,q3,q4,q5,q6,q7,fun _=>rfl,q9,q10,q11⟩
           · have l0:L 8=true:=by have:=hd _ rfl;simp [Region.binds] at this;simp [this]
             have f8:=(hv 8 69 rfl l0).trans (q8 l0)
             refine Ri.step_plain rfl rfl (fun K' hK=>?_)
             obtain ⟨d0,d1,d2,d3,d4,d5,d6,d7,d8,d9⟩:=(T2.out.keep ((HB.out.trans (hb.mono HB.out.size)).block _ l2))
             go_simp
             exact hK _ _ ⟨_,_,rfl,rfl,hb,q0,q1,q2,q3,q4,q5,q6,q7,q8,fun _=>rfl,q10,q11⟩
           · have l0:L 4=true∧L 9=true:=by have:=hd _ rfl;simp [Region.binds] at this;simp [this]
             have f4:=(hv 4 65 rfl l0.1).trans (q4 l0.1)
             have f9:=(hv 9 70 rfl l0.2).trans (q9 l0.2)
             refine Ri.step_plain rfl rfl (fun K' hK=>?_)
             go_simp
             refine ((HS.out _ hb).mono fun _ _ h=>h.yes HQ.out).mono ?_
             rintro e w8 ⟨rfl,hb8⟩
             exact hK _ _ ⟨_,_,rfl,rfl,hb.trans (hb8.mono hb.size),q0,q1,q2,q3,q4,q5,q6,q7,q8,q9,fun _=>rfl,q11⟩
           · have l0:L 10=true:=by have:=hd _ rfl;simp [Region.binds] at this;simp [this]
             have f10:=(hv 10 71 rfl l0).trans (q10 l0)
             refine Ri.step_plain rfl rfl (fun K' hK=>?_)
             go_simp
             exact hK _ _ ⟨_,_,rfl,rfl,hb,q0,q1,q2,q3,q4,q5,q6,q7,q8,q9,q10,fun _=>rfl⟩
         · rintro v w9 ⟨hb,-,-,-,-,-,-,-,-,-,-,-,q11⟩
           have q11':v 11=.bool false:=q11 rfl
           simp only [Ri.frame,List.zipIdx,List.foldl_cons,List.foldl_nil,if_true,List.setIfInBounds_toArray,List.set_cons_zero,List.set_cons_succ,Nat.reduceAdd,q11']
           clear q11 q11'
           generalize v 0=y0;generalize v 1=y1;generalize v 2=y2;generalize v 3=y3;generalize v 4=y4;generalize v 5=y5;generalize v 6=y6;generalize v 7=y7;generalize v 8=y8;generalize v 9=y9;generalize v 10=y10
           have Y2:=keep_blk hb Z2.out;have Y3:=keep_blk hb Z3.out;have HB9:=HB.out.trans (hb.mono HB.out.size);have hz9:=hb.size
           have W2:=Lib.hid Y2;have W3:=Lib.hid Y3;have HB10:=Lib.hid HB9
           clear hb Y2 Y3 HB9
           go_wp2
           exact ⟨⟨m+1,by go_num,by omega,Lib.hid (fun j hj=>by
             by_cases hjm:j=m
             · rw [hjm,HX.out,HY.out,HQ.out]
             · exact hall.out j (by omega)),HB10.out,by omega,W2.out,W3.out⟩,by simp [intOf];omega⟩
       · have HQ:=Lib.hid heq
         clear heq
         go_wp2
         refine Ri.wp_region_frame (by kernel_rfl) (by kernel_rfl) (by kernel_rfl) (by kernel_rfl)
           (fun L v w'=>Below wr.heap.size wr w'∧(L 0=true→v 0=.pointer (some ⟨w.heap.size,5,none⟩))∧(L 1=true→v 1=.slice (some ⟨b1,o1,none⟩) ts.length cap)∧(L 2=true→v 2=.int .i64 m)∧(L 3=true→v 3=.pointer (some ⟨b1,o1+m * 10,none⟩))∧(L 4=true→v 4=.agg #[.int .i64 x.kind,.int .u64 (Oc.U x.w0),.int .u64 (Oc.U x.w1),.int .u64 (Oc.U x.w2),.int .u64 (Oc.U x.w3),s1,.int .i64 x.num,.int .i64 x.least,.int .i64 x.most,.bool x.bare])∧(L 5=true→v 5=.pointer (some ⟨w.heap.size+1,5,none⟩))∧(L 6=true→v 6=.slice (some ⟨b2,o2,none⟩) ts.length cbp)∧(L 7=true→v 7=.int .i64 m)∧(L 8=true→v 8=.pointer (some ⟨b2,o2+m * 10,none⟩))∧(L 9=true→v 9=.agg #[.int .i64 y.kind,.int .u64 (Oc.U y.w0),.int .u64 (Oc.U y.w1),.int .u64 (Oc.U y.w2),.int .u64 (Oc.U y.w3),s2,.int .i64 y.num,.int .i64 y.least,.int .i64 y.most,.bool y.bare])∧(L 10=true→v 10=.bool false)∧(L 11=true→v 11=.bool true))
           ?_ ?_ ?_
         · exact ⟨(Below.refl _ _).drew,by simp,by simp,by simp,by simp,by simp,by simp,by simp,by simp,by simp,by simp,by simp,by simp⟩
         · intro i hi9 L v w9 xa hI hL hd hv ho
           have hi':i=0 ∨ i=1 ∨ i=2 ∨ i=3 ∨ i=4 ∨ i=5 ∨ i=6 ∨ i=7 ∨ i=8 ∨ i=9 ∨ i=10 ∨ i=11:=by simp at hi9;omega
           obtain ⟨hb,q0,q1,q2,q3,q4,q5,q6,q7,q8,q9,q10,q11⟩:=hI
           rcases hi' with rfl | rfl | rfl | rfl | rfl | rfl | rfl | rfl | rfl | rfl | rfl | rfl
           · have e2:xa.tmps.getD 2 undef=.pointer (some ⟨w.heap.size,0,none⟩):=ho 2 (by kernel_rfl)
             refine Ri.step_plain rfl rfl (fun K' hK=>?_)
             go_simp
             exact hK _ _ ⟨_,_,rfl,rfl,hb,fun _=>rfl,q1,q2,q3,q4,q5,q6,q7,q8,q9,q10,q11⟩
           · have l0:L 0=true:=by have:=hd _ rfl;simp [Region.binds] at this;simp [this]
             have f0:=(hv 0 61 rfl l0).trans (q0 l0)
             refine Ri.step_plain rfl rfl (fun K' hK=>?_)
             obtain c5:=field5 (keep_blk hb Z2.out)
             go_simp
             exact hK _ _ ⟨_,_,rfl,rfl,hb,q0,fun _=>rfl,q2,q3,q4,q5,q6,q7,q8,q9,q10,q11⟩
           · have e5:xa.tmps.getD 5 undef=.int .i64 m:=ho 5 (by kernel_rfl)
             refine Ri.step_plain rfl rfl (fun K' hK=>?_)
             go_simp
             exact hK _ _ ⟨_,_,rfl,rfl,hb,q0,q1,fun _=>rfl,q3,q4,q5,q6,q7,q8,q9,q10,q11⟩
           · have l0:L 1=true∧L 2=true:=by have:=hd _ rfl;simp [Region.binds] at this;simp [this]
             have f1:=(hv 1 62 rfl l0.1).trans (q1 l0.1)
             have f2:=(hv 2 63 rfl l0.2).trans (q2 l0.2)
             refine Ri.step_plain rfl rfl (fun K' hK=>?_)
             go_simp
             exact hK _ _ ⟨_,_,rfl,rfl,hb,q0,q1,q2,fun _=>rfl,q4,q5,q6,q7,q8,q9,q10,q11⟩
           · have l0:L 3=true:=by have:=hd _ rfl;simp [Region.binds] at this;simp [this]
             have f3:=(hv 3 64 rfl l0).trans (q3 l0)
             refine Ri.step_plain rfl rfl (fun K' hK=>?_)
             obtain ⟨d0,d1,d2,d3,d4,d5,d6,d7,d8,d9⟩:=(T1.out.keep ((HB.out.trans (hb.mono HB.out.size)).block _ l1))
             go_simp
             exact hK _ _ ⟨_,_,rfl,rfl,hb,q0,q1,q2,q3,fun _=>rfl,q5,q6,q7,q8,q9,q10,q11⟩
           · have e3:xa.tmps.getD 3 undef=.pointer (some ⟨w.heap.size+1,0,none⟩):=ho 3 (by kernel_rfl)
             refine Ri.step_plain rfl rfl (fun K' hK=>?_)
             go_simp
             exact hK _ _ ⟨_,_,rfl,rfl,hb,q0,q1,q2,q3,q4,fun _=>rfl,q6,q7,q8,q9,q10,q11⟩
           · have l0:L 5=true:=by have:=hd _ rfl;simp [Region.binds] at this;simp [this]
             have f5:=(hv 5 66 rfl l0).trans (q5 l0)
             refine Ri.step_plain rfl rfl (fun K' hK=>?_)
             obtain c5:=field5 (keep_blk hb Z3.out)
             go_simp
             exact hK _ _ ⟨_,_,rfl,rfl,hb,q0,q1,q2,q3,q4,q5,fun _=>rfl,q7,q8,q9,q10,q11⟩
           · have e5:xa.tmps.getD 5 undef=.int .i64 m:=ho 5 (by kernel_rfl)
             refine Ri.step_plain rfl rfl (fun K' hK=>?_)
             go_simp
             exact hK _ _ ⟨_,_,rfl,rfl,hb,q0,q1,q2,q3,q4,q5,q6,fun _=>rfl,q8,q9,q10,q11⟩
           · have l0:L 6=true∧L 7=true:=by have:=hd _ rfl;simp [Region.binds] at this;simp [this]
             have f6:=(hv 6 67 rfl l0.1).trans (q6 l0.1)
             have f7:=(hv 7 68 rfl l0.2).trans (q7 l0.2)
             refine Ri.step_plain rfl rfl (fun K' hK=>?_)
             go_simp
             exact hK _ _ ⟨_,_,rfl,rfl,hb,q0,q1,q2,q3,q4,q5,q6,q7,fun _=>rfl,q9,q10,q11⟩
           · have l0:L 8=true:=by have:=hd _ rfl;simp [Region.binds] at this;simp [this]
             have f8:=(hv 8 69 rfl l0).trans (q8 l0)
             refine Ri.step_plain rfl rfl (fun K' hK=>?_)
             obtain ⟨d0,d1,d2,d3,d4,d5,d6,d7,d8,d9⟩:=(T2.out.keep ((HB.out.trans (hb.mono HB.out.size)).block _ l2))
             go_simp
             exact hK _ _ ⟨_,_,rfl,rfl,hb,q0,q1,q2,q3,q4,q5,q6,q7,q8,fun _=>rfl,q10,q11⟩
           · have l0:L 4=true∧L 9=true:=by have:=hd _ rfl;simp [Region.binds] at this;simp [this]
             have f4:=(hv 4 65 rfl l0.1).trans (q4 l0.1)
             have f9:=(hv 9 70 rfl l0.2).trans (q9 l0.2)
             refine Ri.step_plain rfl rfl (fun K' hK=>?_)
             go_simp
             refine ((HS.out _ hb).mono fun _ _ h=>h.no HQ.out).mono ?_
             rintro e w8 ⟨rfl,hb8⟩
             exact hK _ _ ⟨_,_,rfl,rfl,hb.trans (hb8.mono hb.size),q0,q1,q2,q3,q4,q5,q6,q7,q8,q9,fun _=>rfl,q11⟩
           · have l0:L 10=true:=by have:=hd _ rfl;simp [Region.binds] at this;simp [this]
             have f10:=(hv 10 71 rfl l0).trans (q10 l0)
             refine Ri.step_plain rfl rfl (fun K' hK=>?_)
             go_simp
             exact hK _ _ ⟨_,_,rfl,rfl,hb,q0,q1,q2,q3,q4,q5,q6,q7,q8,q9,q10,fun _=>rfl⟩
         · rintro v w9 ⟨hb,-,-,-,-,-,-,-,-,-,-,-,q11⟩
           have q11':v 11=.bool true:=q11 rfl
           simp only [Ri.frame,List.zipIdx,List.foldl_cons,List.foldl_nil,if_true,List.setIfInBounds_toArray,List.set_cons_zero,List.set_cons_succ,Nat.reduceAdd,q11']
           clear q11 q11'
           generalize v 0=y0;generalize v 1=y1;generalize v 2=y2;generalize v 3=y3;generalize v 4=y4;generalize v 5=y5;generalize v 6=y6;generalize v 7=y7;generalize v 8=y8;generalize v 9=y9;generalize v 10=y10
           have HB10:=Lib.hid (HB.out.trans (hb.mono HB.out.size))
           clear hb
           go_wp2
           go_ret
           refine sameEnd_no (fun h=>?_) HB10.out
           have hts:ts=us:=by injection h
           have:=HX.out
           rw [hts,HY.out] at this
           exact HQ.out (Option.some.inj this).symm
     · obtain rfl:m=ts.length:=by omega
       have hts:ts=us:=List.ext_getElem? fun j=>by
         by_cases hj:j < ts.length
         · exact hall.out j hj
         · rw [List.getElem?_eq_none (by omega),List.getElem?_eq_none (by omega)]
       have HTS:=Lib.hid hts
       clear hts hlt
       go_wp2
       go_ret
       exact sameEnd_yes (by rw [HTS.out]) HB.out
end Go.Proofs.YtllfgppjobinnaaDoor
namespace Go.Proofs.YtllfgppjobinnaaDoor
open Go.RowKit
theorem treesize_seq (t:Tr) (ih:∀ u,u ∈ t.subs→u.InForm→∀ (w:World) (B:Nat→Prop) (v:Value),NodeV w B v u→Calls Tryd.prog 62 #[v] w (SizeEnd u.szT w)) (hf:t.InForm) (hk:t.kind ≠ 8)
   (w:World) (B:Nat→Prop) (v:Value) (hv:NodeV w B v t):Calls Tryd.prog 62 #[v] w (SizeEnd t.szT w):=by
 obtain ⟨s,rfl,hs⟩:=hv
 obtain ⟨p,cap,rfl,hlen⟩:=hs.slice
 have HE:=Lib.hid (show t.szT=Tr.sat (1+Tr.szS t.subs) by cases t;rw [Tr.szT];simp only [Tr.kind] at hk;rw [if_neg hk];rfl)
 have HF:=Lib.hid hf
 generalize hts:t.subs=ts at *
 have HTS:=Lib.hid hts;have IH:=Lib.hid ih;have HS:=Lib.hid hs
 have e8:(t.kind == 8)=false:=by simpa using hk
 clear ih hs hf hk hts
 unfold Tr.cells
 go_enter Tryd.func62,Tryd.ntmps62
 go_wp2
 go_loopw [3,14] (fun nv iv wr=>∃ m:Nat,iv=.int .i64 m∧m ≤ ts.length∧nv=.int .i64 (Tr.sat (1+Tr.szS (ts.take m)):Nat)∧Hid (Below w.heap.size w wr)) (fun _ iv _=>ts.length - (intOf iv).toNat)
 case atStart=>exact ⟨0,rfl,Nat.zero_le _,rfl,Lib.hid (by go_grown)⟩
 case round =>
   obtain ⟨m,rfl,hm,rfl,HB⟩:=hrel
   have wm:IntKind.i64.wrap ((m:Int)+1)=(m:Int)+1:=IntWalk.i64_in _ (by omega)
   by_cases hlt:m < ts.length
   · obtain ⟨x,hx⟩:∃ x,ts[m]? = some x:=⟨_,List.getElem?_eq_getElem hlt⟩
     obtain ⟨b1,o1,s1,rfl,-,t1,sub1⟩:=HS.out.get hx
     obtain ⟨d0,d1,d2,d3,d4,d5,d6,d7,d8,d9⟩:=t1.keep (HB.out.block _ t1.lt)
     have hmem:=List.mem_of_getElem? hx
     obtain ⟨p1,c1,rfl,hl1⟩:=sub1.slice
     have HC:=Lib.hid (fun w9 hb=>IH.out x hmem (HF.out.sub (by rw [HTS.out];exact hmem)) w9 B (.agg (x.cells (.slice p1 x.subs.length c1))) ⟨_,rfl,sub1.later hb⟩)
     have hle:=Tr.sat_le (1+Tr.szS (ts.take m));have hlx:=Tr.szT_le x
     have HST:=Lib.hid (Tr.szS_take ts m x hx)
     clear t1 sub1 hmem hx
     generalize hn:Tr.sat (1+Tr.szS (ts.take m))=n at *
     have HN:=Lib.hid hn
     clear hn
     unfold Tr.cells at HC
     go_wp2_with fail
     generalize hw1:World.alloc wr _=w1
     have hb1:Below wr.heap.size wr w1:=by rw [← hw1];exact (Below.refl _ _).alloc (Nat.le_refl _) _
     clear hw1
     refine (HC.out w1 (HB.out.trans (hb1.mono HB.out.size))).mono ?_
     rintro e w2 ⟨rfl,hb2⟩
     have HB2:=Lib.hid (HB.out.trans ((hb1.trans (hb2.mono hb1.size)).mono HB.out.size))
     have wsum:IntKind.i64.wrap ((n:Int)+(x.szT:Int))=(n:Int)+x.szT:=IntWalk.i64_in _ (by omega)
     have HSUM:=Lib.hid (show Tr.sat (n+x.szT)=Tr.sat (1+Tr.szS (ts.take (m+1))) by rw [← HN.out,Tr.sat_sat,HST.out];congr 1;omega)
     generalize x.szT=N at *
     clear d0 d1 d2 d3 d4 d5 d6 d7 d8 d9 hb1 hb2 HC
     go_wp2
     all_goals
       exact ⟨⟨m+1,by go_num,by omega,by rw [← HSUM.out];unfold Tr.sat;congr 1;omega,HB2⟩,by simp [intOf];omega⟩
   · obtain rfl:m=ts.length:=by omega
     have HX:=Lib.hid (show Tr.sat (1+Tr.szS (ts.take ts.length))=t.szT by rw [List.take_length,HE.out])
     go_wp2
     go_ret
     exact ⟨ret_int (by rw [HX.out]),HB.out⟩
theorem treesize_rep (t x:Tr) (ih:∀ (w:World) (B:Nat→Prop) (v:Value),NodeV w B v x→Calls Tryd.prog 62 #[v] w (SizeEnd x.szT w)) (hsub:t.subs=[x]) (hk:t.kind=8) (h0:0 ≤ t.least) (h1:t.least ≤ 255) (h2:t.most = -1 ∨ (t.least ≤ t.most∧t.most ≤ 255))
   (w:World) (B:Nat→Prop) (v:Value) (hv:NodeV w B v t):Calls Tryd.prog 62 #[v] w (SizeEnd t.szT w):=by
 obtain ⟨s,rfl,hs⟩:=hv
 have hsz0:t.szT=Tr.repSz t.least t.most x.szT:=by
   cases t;simp only [Tr.kind,Tr.subs] at hk hsub;subst hk hsub;rw [Tr.szT,if_pos rfl,Tr.szH];rfl
 have HSZ:=Lib.hid hsz0
 have HC:=Lib.hid (fun w9 (hb:Below w.heap.size w w9)=>treerep t x ih hsub h0 h1 h2 w9 B _ ⟨s,rfl,hs.later hb⟩)
 obtain ⟨p,cap,rfl,hlen⟩:=hs.slice
 have z0:=heap_alloc_new w (.cells (t.cells (.slice p t.subs.length cap)) 37)
 have Z0:=Lib.hid z0
 clear hsz0 ih hsub h0 h1 h2 hs z0
 unfold Tr.cells at *
 rw [hk] at *
 clear hk
 go_enter Tryd.func62,Tryd.ntmps62
 go_wp2_with (first
   | (refine wpList_load_row rfl 37 (.tmp 1) rfl w.heap.size rfl 37 _ (0,0) _ Z0.out Tryd.underlying37 rfl (by kernel_rfl) ?_)
   | fail)
 refine (HC.out _ ((Below.refl _ _).alloc (Nat.le_refl _) _)).mono ?_
 rintro e w2 ⟨rfl,hb2⟩
 have HB2:=Lib.hid (((Below.refl w.heap.size w).alloc (Nat.le_refl _) _).trans (hb2.mono (by simp)))
 clear hb2
 go_wp2
 go_ret
 exact ⟨ret_int (by rw [HSZ.out]),HB2.out⟩
theorem treesize_any:∀ t:Tr,t.InForm→∀ (w:World) (B:Nat→Prop) (v:Value),NodeV w B v t→Calls Tryd.prog 62 #[v] w (SizeEnd t.szT w):=by
 intro t
 induction t using Tr.rec_subs with
 | h t ih =>
   intro hf w B v hv
   by_cases hk:t.kind=8
   · have hfl:=hf.fields
     unfold Tr.fieldsOk at hfl
     obtain ⟨-,-,-,-,-,hl,-,h0,h1,h2,-⟩:t.kind=8∧t.w0=0#64∧t.w1=0#64∧t.w2=0#64∧t.w3=0#64∧t.subs.length=1∧t.num=0∧0 ≤ t.least∧t.least ≤ 255∧(t.most = -1 ∨ (t.least ≤ t.most∧t.most ≤ 255))∧(t.bare=true→t.least=0):=by
       rcases hfl with h | h | h | h | h
       · omega
       · omega
       · omega
       · omega
       · exact h
     obtain ⟨x,hx⟩:=List.length_eq_one_iff.1 hl
     have hmem:x ∈ t.subs:=by rw [hx];exact List.mem_cons_self
     exact treesize_rep t x (fun w B v hv=>ih x hmem (hf.sub hmem) w B v hv) hx hk h0 h1 h2 w B v hv
   · exact treesize_seq t ih hf hk w B v hv
theorem counts_yes (k a b c d n lo hi:Int) (br:Bool) (p:Option Addr) (l cap:Nat) (h0:0 ≤ lo) (h1:lo ≤ 255) (h2:hi = -1 ∨ (lo ≤ hi∧hi ≤ 255)) (h3:br=true→lo=0) (w:World) :
   Calls Tryd.prog 130 #[.agg #[.int .i64 k,.int .u64 a,.int .u64 b,.int .u64 c,.int .u64 d,.slice p l cap,.int .i64 n,.int .i64 lo,.int .i64 hi,.bool br]] w fun e w'=>e=.returned (.bool true)∧Below w.heap.size w w':=by
 have e1:decide (lo < 0)=false:=by simpa using h0
 have e2:decide (255 < lo)=false:=by simpa using h1
 have H3:=Lib.hid h3
 rcases h2 with rfl | ⟨h2,h4⟩
 · cases br with
   | true =>
     have h5:=H3.out rfl
     subst h5
     clear e1 e2 h0 h1 h3
     go_enter Tryd.func130,Tryd.ntmps130
     go_wp2
     go_ret
     exact ⟨rfl,by go_grown⟩
   | false =>
     clear h3
     go_enter Tryd.func130,Tryd.ntmps130
     go_wp2
     go_ret
     exact ⟨rfl,by go_grown⟩
 · have e3:(hi == -1)=false:=by rw [beq_eq_false_iff_ne];omega
   have e4:decide (lo ≤ hi)=true:=by simpa using h2
   have e5:decide (hi ≤ 255)=true:=by simpa using h4
   cases br with
   | true =>
     have h5:=H3.out rfl
     subst h5
     clear e1 e2 h0 h1 h3
     go_enter Tryd.func130,Tryd.ntmps130
     go_wp2
     go_ret
     exact ⟨rfl,by go_grown⟩
   | false =>
     clear h3
     go_enter Tryd.func130,Tryd.ntmps130
     go_wp2
     go_ret
     exact ⟨rfl,by go_grown⟩
theorem fields_rep (lo hi:Int) (br:Bool) (p:Option Addr) (cap:Nat) (h1:0 ≤ lo) (h2:lo ≤ 255) (h3:hi = -1 ∨ (lo ≤ hi∧hi ≤ 255)) (h4:br=true→lo=0) (w:World) :
   Calls Tryd.prog 96 #[.agg #[.int .i64 8,.int .u64 0,.int .u64 0,.int .u64 0,.int .u64 0,.slice p 1 cap,.int .i64 0,.int .i64 lo,.int .i64 hi,.bool br]] w fun e w'=>e=.returned (.bool true)∧Below w.heap.size w w':=by
 have he:=eq4
 have HC:=Lib.hid (fun w=>counts_yes 8 0 0 0 0 0 lo hi br p 1 cap h1 h2 h3 h4 w)
 have z0:=heap_alloc_new w (.cells #[.int .i64 8,.int .u64 0,.int .u64 0,.int .u64 0,.int .u64 0,.slice p 1 cap,.int .i64 0,.int .i64 lo,.int .i64 hi,.bool br] 37)
 have Z0:=Lib.hid z0
 clear h1 h2 h3 h4 z0
 by_cases hl:lo=0
 · subst hl
   by_cases hh:hi=0
   · subst hh
     cases br
     all_goals
       go_enter Tryd.func96,Tryd.ntmps96
       go_wp2_with (first
         | (refine wpList_load_row rfl 37 (.tmp 1) rfl w.heap.size rfl 37 _ (0,0) _ Z0.out Tryd.underlying37 rfl (by kernel_rfl) ?_)
         | fail)
       refine (HC.out _).mono ?_
       rintro e w2 ⟨rfl,hb2⟩
       have HB2:=Lib.hid (((Below.refl w.heap.size w).alloc (Nat.le_refl _) _).trans (hb2.mono (by simp)))
       clear hb2
       go_wp2
       go_ret
       exact ⟨rfl,HB2.out⟩
   · have e2:(hi == 0)=false:=by simpa using hh
     clear hh
     go_enter Tryd.func96,Tryd.ntmps96
     go_wp2_with (first
       | (refine wpList_load_row rfl 37 (.tmp 1) rfl w.heap.size rfl 37 _ (0,0) _ Z0.out Tryd.underlying37 rfl (by kernel_rfl) ?_)
       | fail)
     refine (HC.out _).mono ?_
     rintro e w2 ⟨rfl,hb2⟩
     have HB2:=Lib.hid (((Below.refl w.heap.size w).alloc (Nat.le_refl _) _).trans (hb2.mono (by simp)))
     clear hb2
     go_wp2
     go_ret
     exact ⟨rfl,HB2.out⟩
 · have e1:(lo == 0)=false:=by simpa using hl
   clear hl
   go_enter Tryd.func96,Tryd.ntmps96
   go_wp2_with (first
     | (refine wpList_load_row rfl 37 (.tmp 1) rfl w.heap.size rfl 37 _ (0,0) _ Z0.out Tryd.underlying37 rfl (by kernel_rfl) ?_)
     | fail)
   refine (HC.out _).mono ?_
   rintro e w2 ⟨rfl,hb2⟩
   have HB2:=Lib.hid (((Below.refl w.heap.size w).alloc (Nat.le_refl _) _).trans (hb2.mono (by simp)))
   clear hb2
   go_wp2
   go_ret
   exact ⟨rfl,HB2.out⟩
theorem fields_yes (t:Tr) (p:Option Addr) (cap:Nat) (hfl:t.fieldsOk) (hlen:t.subs.length * 96 ≤ 140737488351232) (w:World) :
   Calls Tryd.prog 96 #[.agg (t.cells (.slice p t.subs.length cap))] w fun e w'=>e=.returned (.bool true)∧Below w.heap.size w w':=by
 have he:=eq4
 cases t with | node k a b c d us n lo hi br =>
 unfold Tr.fieldsOk at hfl
 simp only [Tr.cells,Tr.kind,Tr.w0,Tr.w1,Tr.w2,Tr.w3,Tr.num,Tr.least,Tr.most,Tr.bare,Tr.subs] at *
 rcases hfl with ⟨h | h | h,rfl,rfl,rfl,rfl,hl,rfl,rfl,rfl,rfl⟩ | ⟨h,hl,rfl,rfl,rfl,rfl⟩ | ⟨h | h,rfl,rfl,rfl,rfl,hl,rfl,rfl,rfl,rfl⟩ | ⟨h,rfl,rfl,rfl,rfl,hl,hn1,hn2,rfl,rfl,rfl⟩ | ⟨h,rfl,rfl,rfl,rfl,hl,rfl,h1,h2,h3,h4⟩
 · subst h hl
   go_enter Tryd.func96,Tryd.ntmps96
   go_wp2
   go_ret
   exact ⟨rfl,by go_grown⟩
 · subst h hl
   go_enter Tryd.func96,Tryd.ntmps96
   go_wp2
   go_ret
   exact ⟨rfl,by go_grown⟩
 · subst h hl
   go_enter Tryd.func96,Tryd.ntmps96
   go_wp2
   go_ret
   exact ⟨rfl,by go_grown⟩
 · subst h hl
   go_enter Tryd.func96,Tryd.ntmps96
   go_wp2
   go_ret
   exact ⟨rfl,by go_grown⟩
 · subst h
   go_enter Tryd.func96,Tryd.ntmps96
   go_wp2
   go_ret
   exact ⟨ret_bool (by simp;omega),by go_grown⟩
 · subst h
   go_enter Tryd.func96,Tryd.ntmps96
   go_wp2
   go_ret
   exact ⟨ret_bool (by simp;omega),by go_grown⟩
 · subst h
   rw [hl]
   have e1:decide (1 ≤ n)=true:=by simpa using hn1
   have e2:decide (n ≤ 999)=true:=by simpa using hn2
   clear hl
   go_enter Tryd.func96,Tryd.ntmps96
   go_wp2
   go_ret
   exact ⟨rfl,by go_grown⟩
 · subst h
   rw [hl]
   have hu:Oc.U 0#64=0:=by decide
   simp only [hu]
   exact fields_rep lo hi br p cap h1 h2 h3 h4 w
theorem inform_yes:∀ t:Tr,t.InForm→∀ (w:World) (B:Nat→Prop) (v:Value),NodeV w B v t→Calls Tryd.prog 61 #[v] w fun e w'=>e=.returned (.bool true)∧Below w.heap.size w w':=by
 intro t
 induction t using Tr.rec_subs with
 | h t ih =>
   intro hf w B v hv
   obtain ⟨s,rfl,hs⟩:=hv
   obtain ⟨p,cap,rfl,hlen⟩:=hs.slice
   have HFL:=Lib.hid (fun w=>fields_yes t p cap hf.fields hlen w)
   have z0:=heap_alloc_new w (.cells (t.cells (.slice p t.subs.length cap)) 37)
   have Z0:=Lib.hid z0
   have HF:=Lib.hid hf
   generalize hts:t.subs=ts at *
   have HTS:=Lib.hid hts;have IH:=Lib.hid ih;have HS:=Lib.hid hs
   clear ih hs hf hts z0
   unfold Tr.cells at *
   go_enter Tryd.func61,Tryd.ntmps61
   go_wp2_with (first
     | (refine wpList_load_row rfl 37 (.tmp 1) rfl w.heap.size rfl 37 _ (0,0) _ Z0.out Tryd.underlying37 rfl (by kernel_rfl) ?_)
     | fail)
   refine (HFL.out _).mono ?_
   rintro e w1 ⟨rfl,hb1⟩
   have z1:=keep_blk hb1 Z0.out
   have HB1:=Lib.hid (((Below.refl w.heap.size w).alloc (Nat.le_refl _) _).trans (hb1.mono (by simp)))
   have f5:=field5 z1
   clear hb1 Z0 z1
   go_wp2
   clear f5
   go_loopw [11] (fun iv wr=>∃ m:Nat,iv=.int .i64 m∧m ≤ ts.length∧Hid (Below w.heap.size w wr)) (fun iv _=>ts.length - (intOf iv).toNat)
   case atStart=>exact ⟨0,rfl,Nat.zero_le _,HB1⟩
   case round =>
     obtain ⟨m,rfl,hm,HB⟩:=hrel
     have wm:IntKind.i64.wrap ((m:Int)+1)=(m:Int)+1:=IntWalk.i64_in _ (by omega)
     by_cases hlt:m < ts.length
     · obtain ⟨x,hx⟩:∃ x,ts[m]? = some x:=⟨_,List.getElem?_eq_getElem hlt⟩
       obtain ⟨b1,o1,s1,rfl,-,t1,sub1⟩:=HS.out.get hx
       obtain ⟨d0,d1,d2,d3,d4,d5,d6,d7,d8,d9⟩:=t1.keep (HB.out.block _ t1.lt)
       have hmem:=List.mem_of_getElem? hx
       obtain ⟨p1,c1,rfl,hl1⟩:=sub1.slice
       have HC:=Lib.hid (fun w9 hb=>IH.out x hmem (HF.out.sub (by rw [HTS.out];exact hmem)) w9 B (.agg (x.cells (.slice p1 x.subs.length c1))) ⟨_,rfl,sub1.later hb⟩)
       clear t1 sub1 hmem hx
       unfold Tr.cells at HC
       go_wp2_with fail
       generalize hw1:World.alloc wr _=w1
       have hb1:Below wr.heap.size wr w1:=by rw [← hw1];exact (Below.refl _ _).alloc (Nat.le_refl _) _
       clear hw1
       refine (HC.out w1 (HB.out.trans (hb1.mono HB.out.size))).mono ?_
       rintro e w2 ⟨rfl,hb2⟩
       have HB2:=Lib.hid (HB.out.trans ((hb1.trans (hb2.mono hb1.size)).mono HB.out.size))
       clear d0 d1 d2 d3 d4 d5 d6 d7 d8 d9 hb1 hb2 HC
       go_wp2
       exact ⟨⟨m+1,by go_num,by omega,HB2⟩,by simp [intOf];omega⟩
     · obtain rfl:m=ts.length:=by omega
       go_wp2
       go_ret
       exact ⟨rfl,HB.out⟩
theorem treeSize_any (t:Tr) (hf:t.InForm) (w:World) (B:Nat→Prop) (v:Value) (hv:NodeV w B v t):Calls Tryd.prog 51 #[v] w (SizeEnd t.szT w):=by
 obtain ⟨s,rfl,hs⟩:=hv
 have H1:=Lib.hid (fun w' hb=>inform_yes t hf w' B (.agg (t.cells s)) ⟨s,rfl,TreesAt.later (w':=w') hs hb⟩)
 have H2:=Lib.hid (fun w' hb=>treesize_any t hf w' B (.agg (t.cells s)) ⟨s,rfl,TreesAt.later (w':=w') hs hb⟩)
 obtain ⟨p,cap,rfl,hlen⟩:=hs.slice
 have z0:=heap_alloc_new w (.cells (t.cells (.slice p t.subs.length cap)) 37)
 have Z0:=Lib.hid z0
 clear hs hf z0
 unfold Tr.cells at *
 go_enter Tryd.func51,Tryd.ntmps51
 go_wp2_with (first
   | (refine wpList_load_row rfl 37 (.tmp 1) rfl w.heap.size rfl 37 _ (0,0) _ Z0.out Tryd.underlying37 rfl (by kernel_rfl) ?_)
   | fail)
 refine (H1.out _ ((Below.refl _ _).alloc (Nat.le_refl _) _)).mono ?_
 rintro e w1 ⟨rfl,hb1⟩
 have Z1:=Lib.hid (keep_blk hb1 Z0.out)
 have HB1:=Lib.hid (((Below.refl w.heap.size w).alloc (Nat.le_refl _) _).trans (hb1.mono (by simp)))
 clear hb1 Z0
 go_wp2_with (first
   | (refine wpList_load_row rfl 37 (.tmp 1) rfl w.heap.size rfl 37 _ (0,0) _ Z1.out Tryd.underlying37 rfl (by kernel_rfl) ?_)
   | fail)
 refine (H2.out _ HB1.out).mono ?_
 rintro e w2 ⟨rfl,hb2⟩
 have HB2:=Lib.hid (HB1.out.trans (hb2.mono HB1.out.size))
 clear hb2
 go_wp2
 go_ret
 exact ⟨rfl,HB2.out⟩
end Go.Proofs.YtllfgppjobinnaaDoor
namespace Go.Proofs.YtllfgppjobinnaaDoor
namespace Tr
mutual
def dpT:Tr→Nat
 | .node k _ _ _ _ s _ lo hi _=>if s.length=0 then 1 else dpS s+(if k=8∧¬ (lo=0∧(hi=1 ∨ hi = -1)) then 2 else 1)
def dpS:List Tr→Nat
 | []=>0
 | t :: l=>max (dpT t) (dpS l)
end
theorem dpS_append:∀ (l m:List Tr),dpS (l ++ m)=max (dpS l) (dpS m)
 | [],m=>by simp [dpS]
 | t :: l,m=>by rw [List.cons_append,dpS,dpS,dpS_append l m];omega
theorem dpS_take (l:List Tr) (m:Nat) (x:Tr) (h:l[m]? = some x):dpS (l.take (m+1))=max (dpS (l.take m)) (dpT x):=by
 rw [List.take_add_one,h,Option.toList_some,dpS_append,dpS,dpS];omega
theorem dpT_le_dpS {l:List Tr} {x:Tr} (h:x ∈ l):dpT x ≤ dpS l:=by
 induction l with
 | nil=>cases h
 | cons a l ih =>
   rw [dpS]
   rcases List.mem_cons.1 h with rfl | h
   · omega
   · have:=ih h;omega
end Tr
end Go.Proofs.YtllfgppjobinnaaDoor
namespace Go.Proofs.YtllfgppjobinnaaDoor
open Go.RowKit
theorem allTen {w:World} {b:Nat} {x0 x1 x2 x3 x4 x5 x6 x7 x8 x9:Value} {t:TypeId} (h:w.heap[b]? = some (.cells #[x0,x1,x2,x3,x4,x5,x6,x7,x8,x9] t)):w.cell? ⟨b,0,none⟩=some x0∧w.cell? ⟨b,1,none⟩=some x1∧w.cell? ⟨b,2,none⟩=some x2∧w.cell? ⟨b,3,none⟩=some x3∧w.cell? ⟨b,4,none⟩=some x4∧w.cell? ⟨b,5,none⟩=some x5∧w.cell? ⟨b,6,none⟩=some x6∧w.cell? ⟨b,7,none⟩=some x7∧w.cell? ⟨b,8,none⟩=some x8∧w.cell? ⟨b,9,none⟩=some x9:=by
 simp [World.cell?,h]
theorem Tr.dpT_eq (t:Tr):t.dpT=if t.subs.length=0 then 1 else Tr.dpS t.subs+(if t.kind=8∧¬ (t.least=0∧(t.most=1 ∨ t.most = -1)) then 2 else 1):=by
 cases t;rw [Tr.dpT];rfl
theorem treedepth_any:∀ t:Tr,t.dpT ≤ 1000000→∀ (w:World) (B:Nat→Prop) (v:Value),NodeV w B v t→Calls Tryd.prog 52 #[v] w (SizeEnd t.dpT w):=by
 intro t
 induction t using Tr.rec_subs with
 | h t ih =>
   intro hd w B v hv
   obtain ⟨s,rfl,hs⟩:=hv
   obtain ⟨p,cap,rfl,hlen⟩:=hs.slice
   have heq:=Tr.dpT_eq t
   rw [heq] at hd ⊢
   have HST:=Lib.hid (fun w'=>stays_is t (.slice p t.subs.length cap) ⟨_,_,_,rfl⟩ _ rfl w')
   clear heq
   generalize hts:t.subs=ts at *
   have HTS:=Lib.hid hts;have IH:=Lib.hid ih;have HS:=Lib.hid hs
   clear ih hs hts
   unfold Tr.cells at *
   by_cases h0:ts.length=0
   · rw [if_pos h0]
     rw [h0]
     clear hd hlen HST HTS IH HS
     go_enter Tryd.func52,Tryd.ntmps52
     go_wp2
     go_ret
     exact ⟨rfl,by go_grown⟩
   · rw [if_neg h0] at hd ⊢
     generalize hD:Tr.dpS ts+(if t.kind=8∧¬ (t.least=0∧(t.most=1 ∨ t.most = -1)) then 2 else 1)=D at hd ⊢
     have HD:=Lib.hid (show D ≤ 1000000∧Tr.dpS ts+1 ≤ D∧D ≤ Tr.dpS ts+2 from ⟨hd,by rw [← hD];split <;> omega,by rw [← hD];split <;> omega⟩)
     have HDE:=Lib.hid hD
     have e0:((ts.length:Int) == 0)=false:=by simpa using h0
     have e0':(ts.length == 0)=false:=by simpa using h0
     have Z0:=Lib.hid (heap_alloc_new w (.cells #[.int .i64 t.kind,.int .u64 (Oc.U t.w0),.int .u64 (Oc.U t.w1),.int .u64 (Oc.U t.w2),.int .u64 (Oc.U t.w3),.slice p ts.length cap,.int .i64 t.num,.int .i64 t.least,.int .i64 t.most,.bool t.bare] 37))
     have HW:=Lib.hid (show Below w.heap.size w (w.alloc (.cells #[.int .i64 t.kind,.int .u64 (Oc.U t.w0),.int .u64 (Oc.U t.w1),.int .u64 (Oc.U t.w2),.int .u64 (Oc.U t.w3),.slice p ts.length cap,.int .i64 t.num,.int .i64 t.least,.int .i64 t.most,.bool t.bare] 37)) from (Below.refl _ _).alloc (Nat.le_refl _) _)
     have hz:w.heap.size < (w.alloc (.cells #[.int .i64 t.kind,.int .u64 (Oc.U t.w0),.int .u64 (Oc.U t.w1),.int .u64 (Oc.U t.w2),.int .u64 (Oc.U t.w3),.slice p ts.length cap,.int .i64 t.num,.int .i64 t.least,.int .i64 t.most,.bool t.bare] 37)).heap.size:=by simp
     clear hd h0 hD
     go_enter Tryd.func52,Tryd.ntmps52
     go_wp2
     generalize w.alloc (.cells #[.int .i64 t.kind,.int .u64 (Oc.U t.w0),.int .u64 (Oc.U t.w1),.int .u64 (Oc.U t.w2),.int .u64 (Oc.U t.w3),.slice p ts.length cap,.int .i64 t.num,.int .i64 t.least,.int .i64 t.most,.bool t.bare] 37)=W0 at *
     go_loopw [3,13] (fun gv iv wr=>∃ m:Nat,iv=.int .i64 m∧m ≤ ts.length∧gv=.int .i64 (Tr.dpS (ts.take m):Nat)∧Hid (Below W0.heap.size W0 wr)) (fun _ iv _=>ts.length - (intOf iv).toNat)
     case atStart=>exact ⟨0,rfl,Nat.zero_le _,rfl,Lib.hid (Below.refl _ _)⟩
     case round =>
       obtain ⟨m,rfl,hm,rfl,HB⟩:=hrel
       have wm:IntKind.i64.wrap ((m:Int)+1)=(m:Int)+1:=IntWalk.i64_in _ (by omega)
       have HBW:=Lib.hid (HW.out.trans (HB.out.mono HW.out.size))
       by_cases hlt:m < ts.length
       · obtain ⟨x,hx⟩:∃ x,ts[m]? = some x:=⟨_,List.getElem?_eq_getElem hlt⟩
         obtain ⟨b1,o1,s1,rfl,-,t1,sub1⟩:=HS.out.get hx
         obtain ⟨d0,d1,d2,d3,d4,d5,d6,d7,d8,d9⟩:=t1.keep (HBW.out.block _ t1.lt)
         have hmem:=List.mem_of_getElem? hx
         obtain ⟨p1,c1,rfl,hl1⟩:=sub1.slice
         have hdx:x.dpT ≤ 1000000:=by have:=Tr.dpT_le_dpS hmem;have:=HD.out;omega
         have HC:=Lib.hid (fun w9 hb=>IH.out x hmem hdx w9 B (.agg (x.cells (.slice p1 x.subs.length c1))) ⟨_,rfl,sub1.later hb⟩)
         have HSTP:=Lib.hid (Tr.dpS_take ts m x hx)
         clear t1 sub1 hmem hx hdx
         generalize hn:Tr.dpS (ts.take m)=n at *
         clear hn
         unfold Tr.cells at HC
         go_wp2_with fail
         generalize hw1:World.alloc wr _=w1
         have hb1:Below wr.heap.size wr w1:=by rw [← hw1];exact (Below.refl _ _).alloc (Nat.le_refl _) _
         clear hw1
         refine (HC.out w1 (HBW.out.trans (hb1.mono HBW.out.size))).mono ?_
         rintro e w2 ⟨rfl,hb2⟩
         have HB2:=Lib.hid (HB.out.trans ((hb1.trans (hb2.mono hb1.size)).mono HB.out.size))
         clear d0 d1 d2 d3 d4 d5 d6 d7 d8 d9 hb1 hb2 HC
         generalize x.dpT=N at *
         go_wp2
         all_goals
           exact ⟨⟨m+1,by go_num,by omega,by rw [HSTP.out];simp;try omega,HB2⟩,by simp [intOf];omega⟩
       · obtain rfl:m=ts.length:=by omega
         rw [List.take_length] at *
         have Z1:=Lib.hid (keep_blk (HB.out.mono (Nat.le_refl _)) Z0.out)
         have hdp:=HD.out
         have w2':IntKind.i64.wrap ((Tr.dpS ts:Int)+2)=(Tr.dpS ts:Int)+2:=IntWalk.i64_in _ (by omega)
         have w1':IntKind.i64.wrap ((Tr.dpS ts:Int)+1)=(Tr.dpS ts:Int)+1:=IntWalk.i64_in _ (by omega)
         have hde:=HDE.out
         clear hdp
         obtain ⟨d0,d1,d2,d3,d4,d5,d6,d7,d8,d9⟩:=allTen Z1.out
         by_cases h8:t.kind=8
         · rw [h8] at HST Z1 HDE d0 hde
           by_cases hst:t.least=0∧(t.most=1 ∨ t.most = -1)
           · have hst':decide (t.least=0∧(t.most=1 ∨ t.most = -1))=true:=by simpa using hst
             rw [hst'] at HST
             rw [if_neg (by intro h;exact h.2 hst)] at hde
             have HDF:=Lib.hid hde
             clear hst hst' hde
             go_wp2_with fail
             refine (HST.out _).mono ?_
             rintro e w5 ⟨rfl,hb5⟩
             have HB5:=Lib.hid (HBW.out.trans (hb5.mono HBW.out.size))
             clear hb5
             go_wp2
             go_ret
             exact ⟨ret_int (by have:=HDF.out;omega),HB5.out⟩
           · have hst':decide (t.least=0∧(t.most=1 ∨ t.most = -1))=false:=by simpa using hst
             rw [hst'] at HST
             rw [if_pos ⟨rfl,hst⟩] at hde
             have HDF:=Lib.hid hde
             clear hst hst' hde
             go_wp2_with fail
             refine (HST.out _).mono ?_
             rintro e w5 ⟨rfl,hb5⟩
             have HB5:=Lib.hid (HBW.out.trans (hb5.mono HBW.out.size))
             clear hb5
             go_wp2
             go_ret
             exact ⟨ret_int (by have:=HDF.out;omega),HB5.out⟩
         · rw [if_neg (by intro h;exact h8 h.1)] at hde
           have e8:(t.kind == 8)=false:=by simpa using h8
           have HDF:=Lib.hid hde
           clear h8 hde
           go_wp2
           go_ret
           exact ⟨ret_int (by have:=HDF.out;omega),HBW.out⟩
end Go.Proofs.YtllfgppjobinnaaDoor
namespace Go.Proofs.YtllfgppjobinnaaDoor
open Go.RowKit
namespace Tr
def noSet (t:Tr):Bool:=Oc.U t.w0 == 0 && (Oc.U t.w1 == 0 && (Oc.U t.w2 == 0 && Oc.U t.w3 == 0))
def noCounts (t:Tr):Bool:=t.least == 0 && t.most == 0 && !t.bare
def countsV (lo hi:Int) (br:Bool):Bool:=!(decide (lo < 0) || decide (255 < lo) || (br && lo != 0)) && (hi == -1 || (decide (lo ≤ hi) && decide (hi ≤ 255)))
def countsB (t:Tr):Bool:=countsV t.least t.most t.bare
def fieldsB (t:Tr):Bool :=
 if t.kind=1 ∨ t.kind=3 ∨ t.kind=4 then t.noSet && (t.num == 0) && t.noCounts && (t.subs.length == 0)
 else if t.kind=2 then (t.num == 0) && t.noCounts && (t.subs.length == 0)
 else if t.kind=5 ∨ t.kind=6 then t.noSet && (t.num == 0) && t.noCounts && decide (2 ≤ t.subs.length)
 else if t.kind=7 then t.noSet && t.noCounts && (t.subs.length == 1) && decide (1 ≤ t.num) && decide (t.num ≤ 999)
 else if t.kind=8 then t.noSet && (t.num == 0) && (t.subs.length == 1) && t.countsB
 else false
mutual
def formB:Tr→Bool
 | .node k a b c d s n lo hi br=>fieldsB (.node k a b c d s n lo hi br) && formS s
def formS:List Tr→Bool
 | []=>true
 | t :: l=>formB t && formS l
end
theorem formB_eq (t:Tr):t.formB=(t.fieldsB && formS t.subs):=by cases t;rw [formB];rfl
theorem formS_append:∀ a b:List Tr,formS (a ++ b)=(formS a && formS b)
 | [],b=>by simp [formS]
 | t :: a,b=>by rw [List.cons_append,formS,formS,formS_append a b,Bool.and_assoc]
theorem formS_take (l:List Tr) (m:Nat) (x:Tr) (h:l[m]? = some x):formS (l.take (m+1))=(formS (l.take m) && x.formB):=by
 rw [List.take_add_one,h,Option.toList_some,formS_append,formS,formS];simp
theorem formS_no {l:List Tr} {m:Nat} (h:formS (l.take m)=false):formS l=false:=by
 have e:=congrArg formS (List.take_append_drop m l)
 rw [formS_append,h] at e
 rw [← e];rfl
theorem U_zero {x:BitVec 64} : (Oc.U x == 0)=true ↔ x=0#64:=by
 rw [beq_iff_eq]
 refine ⟨fun h=>Oc.U_inj (h.trans (by decide)),fun h=>by subst h;decide⟩
theorem noSet_iff (t:Tr):t.noSet=true ↔ t.w0=0#64∧t.w1=0#64∧t.w2=0#64∧t.w3=0#64:=by
 unfold noSet;rw [Bool.and_eq_true,Bool.and_eq_true,Bool.and_eq_true,U_zero,U_zero,U_zero,U_zero]
theorem fieldsB_iff (t:Tr):t.fieldsB=true ↔ t.fieldsOk:=by
 have hs:=noSet_iff t
 have hn:t.noCounts=true ↔ t.least=0∧t.most=0∧t.bare=false:=by
   unfold noCounts;simp [and_assoc]
 have hc:t.countsB=true ↔ 0 ≤ t.least∧t.least ≤ 255∧(t.most = -1 ∨ (t.least ≤ t.most∧t.most ≤ 255))∧(t.bare=true→t.least=0):=by
   unfold countsB countsV
   cases t.bare <;> simp <;> omega
 unfold fieldsB fieldsOk
 by_cases h1:t.kind=1 ∨ t.kind=3 ∨ t.kind=4
 · rw [if_pos h1]
   simp only [Bool.and_eq_true,hs,hn,beq_iff_eq,List.length_eq_zero_iff]
   constructor
   · rintro ⟨⟨⟨⟨a,b,c,d⟩,e⟩,f,g,h⟩,i⟩;exact .inl ⟨h1,a,b,c,d,i,e,f,g,h⟩
   · rintro (⟨-,a,b,c,d,i,e,f,g,h⟩ | ⟨h,-⟩ | ⟨h,-⟩ | ⟨h,-⟩ | ⟨h,-⟩)
     · exact ⟨⟨⟨⟨a,b,c,d⟩,e⟩,f,g,h⟩,i⟩
     all_goals omega
 rw [if_neg h1]
 by_cases h2:t.kind=2
 · rw [if_pos h2]
   simp only [Bool.and_eq_true,hn,beq_iff_eq,List.length_eq_zero_iff]
   constructor
   · rintro ⟨⟨e,f,g,h⟩,i⟩;exact .inr (.inl ⟨h2,i,e,f,g,h⟩)
   · rintro (⟨h,-⟩ | ⟨-,i,e,f,g,h⟩ | ⟨h,-⟩ | ⟨h,-⟩ | ⟨h,-⟩)
     · omega
     · exact ⟨⟨e,f,g,h⟩,i⟩
     all_goals omega
 rw [if_neg h2]
 by_cases h5:t.kind=5 ∨ t.kind=6
 · rw [if_pos h5]
   simp only [Bool.and_eq_true,hs,hn,beq_iff_eq,decide_eq_true_eq]
   constructor
   · rintro ⟨⟨⟨⟨a,b,c,d⟩,e⟩,f,g,h⟩,i⟩;exact .inr (.inr (.inl ⟨h5,a,b,c,d,i,e,f,g,h⟩))
   · rintro (⟨h,-⟩ | ⟨h,-⟩ | ⟨-,a,b,c,d,i,e,f,g,h⟩ | ⟨h,-⟩ | ⟨h,-⟩)
     · omega
     · omega
     · exact ⟨⟨⟨⟨a,b,c,d⟩,e⟩,f,g,h⟩,i⟩
     all_goals omega
 rw [if_neg h5]
 by_cases h7:t.kind=7
 · rw [if_pos h7]
   simp only [Bool.and_eq_true,hs,hn,beq_iff_eq,decide_eq_true_eq]
   constructor
   · rintro ⟨⟨⟨⟨⟨a,b,c,d⟩,f,g,h⟩,i⟩,j⟩,l⟩;exact .inr (.inr (.inr (.inl ⟨h7,a,b,c,d,i,j,l,f,g,h⟩)))
   · rintro (⟨h,-⟩ | ⟨h,-⟩ | ⟨h,-⟩ | ⟨-,a,b,c,d,i,j,l,f,g,h⟩ | ⟨h,-⟩)
     · omega
     · omega
     · omega
     · exact ⟨⟨⟨⟨⟨a,b,c,d⟩,f,g,h⟩,i⟩,j⟩,l⟩
     · omega
 rw [if_neg h7]
 by_cases h8:t.kind=8
 · rw [if_pos h8]
   simp only [Bool.and_eq_true,hs,hc,beq_iff_eq]
   constructor
   · rintro ⟨⟨⟨⟨a,b,c,d⟩,e⟩,i⟩,f,g,h,j⟩;exact .inr (.inr (.inr (.inr ⟨h8,a,b,c,d,i,e,f,g,h,j⟩)))
   · rintro (⟨h,-⟩ | ⟨h,-⟩ | ⟨h,-⟩ | ⟨h,-⟩ | ⟨-,a,b,c,d,i,e,f,g,h,j⟩)
     · omega
     · omega
     · omega
     · omega
     · exact ⟨⟨⟨⟨a,b,c,d⟩,e⟩,i⟩,f,g,h,j⟩
 rw [if_neg h8]
 constructor
 · intro h;cases h
 · rintro (⟨h,-⟩ | ⟨h,-⟩ | ⟨h,-⟩ | ⟨h,-⟩ | ⟨h,-⟩) <;> omega
theorem formS_all:∀ {l:List Tr},(∀ t,t ∈ l→(t.formB=true ↔ t.InForm))→(formS l=true ↔ ∀ t,t ∈ l→t.InForm)
 | [],_=>by simp [formS]
 | t :: l,h=>by
   rw [formS,Bool.and_eq_true,h t List.mem_cons_self,formS_all (fun u hu=>h u (List.mem_cons_of_mem _ hu))]
   constructor
   · rintro ⟨h1,h2⟩ u hu
     rcases List.mem_cons.1 hu with rfl | hu
     · exact h1
     · exact h2 u hu
   · intro h1;exact ⟨h1 t List.mem_cons_self,fun u hu=>h1 u (List.mem_cons_of_mem _ hu)⟩
theorem formB_iff (t:Tr):t.formB=true ↔ t.InForm:=by
 induction t using Tr.rec_subs with
 | h t ih =>
   rw [formB_eq,Bool.and_eq_true,fieldsB_iff,formS_all (fun u hu=>ih u hu)]
   exact ⟨fun h=>.mk t h.1 h.2,fun h=>⟨h.fields,fun u hu=>h.sub hu⟩⟩
end Tr
theorem counts_any (k:Int) (a b c d:BitVec 64) (us:List Tr) (n lo hi:Int) (br:Bool) (p:Option Addr) (l cap:Nat) (w:World) :
   Calls Tryd.prog 130 #[.agg #[.int .i64 k,.int .u64 (Oc.U a),.int .u64 (Oc.U b),.int .u64 (Oc.U c),.int .u64 (Oc.U d),.slice p l cap,.int .i64 n,.int .i64 lo,.int .i64 hi,.bool br]] w fun e w'=>e=.returned (.bool (Tr.countsB (.node k a b c d us n lo hi br)))∧Below w.heap.size w w':=by
 obtain ⟨R,hR⟩:∃ R,Tr.countsV lo hi br=R:=⟨_,rfl⟩
 rw [show Tr.countsB (.node k a b c d us n lo hi br)=Tr.countsV lo hi br from rfl,hR]
 unfold Tr.countsV at hR
 have c1:decide (lo < 0)=true ∨ decide (lo < 0)=false:=by cases decide (lo < 0) <;> simp
 have c2:decide (255 < lo)=true ∨ decide (255 < lo)=false:=by cases decide (255 < lo) <;> simp
 have c3:(lo != 0)=true ∨ (lo != 0)=false:=by cases (lo != 0) <;> simp
 have c4:(hi == -1)=true ∨ (hi == -1)=false:=by cases (hi == -1) <;> simp
 have c5:decide (lo ≤ hi)=true ∨ decide (lo ≤ hi)=false:=by cases decide (lo ≤ hi) <;> simp
 have c6:decide (hi ≤ 255)=true ∨ decide (hi ≤ 255)=false:=by cases decide (hi ≤ 255) <;> simp
 rcases c1 with c1 | c1 <;> rcases c2 with c2 | c2 <;> rcases c3 with c3 | c3 <;> rcases c4 with c4 | c4 <;> rcases c5 with c5 | c5 <;> rcases c6 with c6 | c6 <;> cases br <;> (
   rw [c1,c2,c3,c4,c5,c6] at hR
   subst hR
   go_enter Tryd.func130,Tryd.ntmps130
   go_wp2
   go_ret
   exact ⟨rfl,by go_grown⟩)
theorem bool_or (x:Bool):x=true ∨ x=false:=by cases x <;> simp
theorem treefields_any (k:Int) (a b c d:BitVec 64) (us:List Tr) (n lo hi:Int) (br:Bool) (p:Option Addr) (cap:Nat) (hlen:us.length * 96 ≤ 140737488351232) (w:World) :
   Calls Tryd.prog 96 #[.agg #[.int .i64 k,.int .u64 (Oc.U a),.int .u64 (Oc.U b),.int .u64 (Oc.U c),.int .u64 (Oc.U d),.slice p us.length cap,.int .i64 n,.int .i64 lo,.int .i64 hi,.bool br]] w fun e w'=>e=.returned (.bool (Tr.fieldsB (.node k a b c d us n lo hi br)))∧Below w.heap.size w w':=by
 have he:=eq4
 obtain ⟨S,hS⟩:∃ S,(Oc.U a == 0 && (Oc.U b == 0 && (Oc.U c == 0 && Oc.U d == 0)))=S:=⟨_,rfl⟩
 obtain ⟨NB,hN⟩:∃ NB,(n == 0)=NB:=⟨_,rfl⟩
 obtain ⟨C,hC⟩:∃ C,(lo == 0 && hi == 0 && !br)=C:=⟨_,rfl⟩
 obtain ⟨R,hR⟩:∃ R,Tr.fieldsB (.node k a b c d us n lo hi br)=R:=⟨_,rfl⟩
 have HCT:=Lib.hid (counts_any k a b c d us n lo hi br p us.length cap)
 rw [hR]
 have hR2:(if k=1 ∨ k=3 ∨ k=4 then S && NB && C && (us.length == 0) else if k=2 then NB && C && (us.length == 0) else if k=5 ∨ k=6 then S && NB && C && decide (2 ≤ us.length) else if k=7 then S && C && (us.length == 1) && decide (1 ≤ n) && decide (n ≤ 999) else if k=8 then S && NB && (us.length == 1) && Tr.countsB (.node k a b c d us n lo hi br) else false)=R:=by
   rw [← hR,← hS,← hN,← hC];rfl
 clear hR
 obtain ⟨Q,hQ⟩:∃ Q,Tr.countsB (.node k a b c d us n lo hi br)=Q:=⟨_,rfl⟩
 rw [hQ] at HCT hR2
 have hl0:((us.length:Int) == 0)=(us.length == 0):=by
   by_cases h:us.length=0
   · rw [h];rfl
   · have e1:(us.length == 0)=false:=by rw [beq_eq_false_iff_ne];exact h
     have e2:((us.length:Int) == 0)=false:=by rw [beq_eq_false_iff_ne];omega
     rw [e1,e2]
 have hl1:((us.length:Int) == 1)=(us.length == 1):=by
   by_cases h:us.length=1
   · rw [h];rfl
   · have e1:(us.length == 1)=false:=by simpa using h
     have e2:((us.length:Int) == 1)=false:=by simp;omega
     rw [e1,e2]
 have hl2:decide ((2:Int) ≤ us.length)=decide (2 ≤ us.length):=by
   by_cases h:2 ≤ us.length
   · have e1:decide (2 ≤ us.length)=true:=by simpa using h
     have e2:decide ((2:Int) ≤ us.length)=true:=by simp;omega
     rw [e1,e2]
   · have e1:decide (2 ≤ us.length)=false:=by simpa using h
     have e2:decide ((2:Int) ≤ us.length)=false:=by simp;omega
     rw [e1,e2]
 have HL0:=Lib.hid hl0;have HL1:=Lib.hid hl1;have HL2:=Lib.hid hl2;have HR:=Lib.hid hR2;have HC:=Lib.hid hC
 clear hl0 hl1 hl2 hR2 hC hQ hlen
 have Z0:=Lib.hid (heap_alloc_new w (.cells #[.int .i64 k,.int .u64 (Oc.U a),.int .u64 (Oc.U b),.int .u64 (Oc.U c),.int .u64 (Oc.U d),.slice p us.length cap,.int .i64 n,.int .i64 lo,.int .i64 hi,.bool br] 37))
 have HW:=Lib.hid (show Below w.heap.size w (w.alloc (.cells #[.int .i64 k,.int .u64 (Oc.U a),.int .u64 (Oc.U b),.int .u64 (Oc.U c),.int .u64 (Oc.U d),.slice p us.length cap,.int .i64 n,.int .i64 lo,.int .i64 hi,.bool br] 37)) from (Below.refl _ _).alloc (Nat.le_refl _) _)
 go_enter Tryd.func96,Tryd.ntmps96
 go_upto_region 4 with (fail)
 generalize w.alloc (.cells #[.int .i64 k,.int .u64 (Oc.U a),.int .u64 (Oc.U b),.int .u64 (Oc.U c),.int .u64 (Oc.U d),.slice p us.length cap,.int .i64 n,.int .i64 lo,.int .i64 hi,.bool br] 37)=W0 at *
 obtain ⟨d0,d1,d2,d3,d4,d5,d6,d7,d8,d9⟩:=allTen Z0.out
 go_cut [6] (fun u wx=>u=.bool C∧W0=wx)
 case first =>
   have hC:=HC.out
   rcases bool_or (lo == 0) with q1 | q1 <;> rcases bool_or (hi == 0) with q2 | q2 <;> cases br <;> (
     rw [q1,q2] at hC
     subst hC
     go_wp2
     go_meet
     exact ⟨rfl,rfl⟩)
 case rest =>
   obtain ⟨rfl,rfl⟩:=hcut
   clear HC
   have hR:=HR.out
   have hl0:=HL0.out;have hl1:=HL1.out;have hl2:=HL2.out
   clear HR HL0 HL1 HL2
   by_cases kk1:k=1
   · subst kk1
     rw [if_pos (by decide)] at hR
     clear hl1 hl2
     cases S <;> cases NB <;> cases C <;> rcases bool_or (us.length == 0) with q3 | q3 <;> (
       rw [q3] at hR
       rw [q3] at hl0
       subst hR
       go_wp2
       go_ret
       exact ⟨rfl,HW.out⟩)
   have n1:(k == 1)=false:=by simpa using kk1
   by_cases kk3:k=3
   · subst kk3
     rw [if_pos (by decide)] at hR
     clear hl1 hl2
     cases S <;> cases NB <;> cases C <;> rcases bool_or (us.length == 0) with q3 | q3 <;> (
       rw [q3] at hR
       rw [q3] at hl0
       subst hR
       go_wp2
       go_ret
       exact ⟨rfl,HW.out⟩)
   have n3:(k == 3)=false:=by simpa using kk3
   by_cases kk4:k=4
   · subst kk4
     rw [if_pos (by decide)] at hR
     clear hl1 hl2
     cases S <;> cases NB <;> cases C <;> rcases bool_or (us.length == 0) with q3 | q3 <;> (
       rw [q3] at hR
       rw [q3] at hl0
       subst hR
       go_wp2
       go_ret
       exact ⟨rfl,HW.out⟩)
   have n4:(k == 4)=false:=by simpa using kk4
   by_cases kk2:k=2
   · subst kk2
     rw [if_neg (by decide),if_pos rfl] at hR
     clear hl1 hl2
     cases NB <;> cases C <;> rcases bool_or (us.length == 0) with q2 | q2 <;> (
       rw [q2] at hR
       rw [q2] at hl0
       subst hR
       go_wp2
       go_ret
       exact ⟨rfl,HW.out⟩)
   have n2:(k == 2)=false:=by simpa using kk2
   by_cases kk5:k=5
   · subst kk5
     rw [if_neg (by decide),if_neg (by decide),if_pos (by decide)] at hR
     clear hl0 hl1
     cases S <;> cases NB <;> cases C <;> rcases bool_or (decide (2 ≤ us.length)) with q3 | q3 <;> (
       rw [q3] at hR
       rw [q3] at hl2
       subst hR
       go_wp2
       go_ret
       exact ⟨rfl,HW.out⟩)
   have n5:(k == 5)=false:=by simpa using kk5
   by_cases kk6:k=6
   · subst kk6
     rw [if_neg (by decide),if_neg (by decide),if_pos (by decide)] at hR
     clear hl0 hl1
     cases S <;> cases NB <;> cases C <;> rcases bool_or (decide (2 ≤ us.length)) with q3 | q3 <;> (
       rw [q3] at hR
       rw [q3] at hl2
       subst hR
       go_wp2
       go_ret
       exact ⟨rfl,HW.out⟩)
   have n6:(k == 6)=false:=by simpa using kk6
   by_cases kk7:k=7
   · subst kk7
     rw [if_neg (by decide),if_neg (by decide),if_neg (by decide),if_pos rfl] at hR
     clear hl0 hl2
     cases S <;> cases C <;> rcases bool_or (us.length == 1) with q2 | q2 <;> rcases bool_or (decide (1 ≤ n)) with q3 | q3 <;> rcases bool_or (decide (n ≤ 999)) with q4 | q4 <;> (
       rw [q2,q3,q4] at hR
       rw [q2] at hl1
       subst hR
       go_wp2
       go_ret
       exact ⟨rfl,HW.out⟩)
   have n7:(k == 7)=false:=by simpa using kk7
   by_cases kk8:k=8
   · subst kk8
     rw [if_neg (by decide),if_neg (by decide),if_neg (by decide),if_neg (by decide),if_pos rfl] at hR
     clear hl0 hl2
     rcases bool_or (us.length == 1) with q1 | q1
     · cases S with
       | true =>
         cases NB with
         | true =>
           rw [q1,Bool.true_and,Bool.true_and,Bool.true_and] at hR
           rw [q1] at hl1
           subst hR
           go_wp2_with fail
           refine (HCT.out _).mono ?_;rintro e w2 ⟨rfl,hb2⟩
           have HB2:=Lib.hid (HW.out.trans (hb2.mono HW.out.size))
           clear hb2
           go_wp2
           go_ret
           exact ⟨rfl,HB2.out⟩
         | false =>
           rw [q1] at hR hl1
           subst hR
           go_wp2
           go_ret
           exact ⟨rfl,HW.out⟩
       | false =>
         rw [q1] at hR hl1
         subst hR
         cases NB <;> (
           go_wp2
           go_ret
           exact ⟨rfl,HW.out⟩)
     · rw [q1] at hR hl1
       rw [Bool.and_false,Bool.false_and] at hR
       subst hR
       cases S <;> cases NB <;> (
         go_wp2
         go_ret
         exact ⟨rfl,HW.out⟩)
   have n8:(k == 8)=false:=by simpa using kk8
   rw [if_neg (by omega),if_neg kk2,if_neg (by omega),if_neg kk7,if_neg kk8] at hR
   subst hR
   clear hl0 hl1 hl2 kk1 kk2 kk3 kk4 kk5 kk6 kk7 kk8
   go_wp2
   go_ret
   exact ⟨rfl,HW.out⟩
theorem treeinform_any:∀ t:Tr,∀ (w:World) (B:Nat→Prop) (v:Value),NodeV w B v t→Calls Tryd.prog 61 #[v] w fun e w'=>e=.returned (.bool t.formB)∧Below w.heap.size w w':=by
 intro t
 induction t using Tr.rec_subs with
 | h t ih =>
   intro w B v hv
   obtain ⟨s,rfl,hs⟩:=hv
   obtain ⟨p,cap,rfl,hlen⟩:=hs.slice
   have hfl:=fun w=>treefields_any t.kind t.w0 t.w1 t.w2 t.w3 t.subs t.num t.least t.most t.bare p cap hlen w
   rw [← Tr.eta t] at hfl
   rw [Tr.formB_eq]
   have HF:=Lib.hid hfl
   clear hfl
   generalize hts:t.subs=ts at *
   have IH:=Lib.hid ih;have HS:=Lib.hid hs
   clear ih hs hts
   unfold Tr.cells at *
   generalize t.fieldsB=FB at *
   obtain ⟨R,hR⟩:∃ R,(FB && Tr.formS ts)=R:=⟨_,rfl⟩
   rw [hR]
   have HR:=Lib.hid hR
   clear hR
   have Z0:=Lib.hid (heap_alloc_new w (.cells #[.int .i64 t.kind,.int .u64 (Oc.U t.w0),.int .u64 (Oc.U t.w1),.int .u64 (Oc.U t.w2),.int .u64 (Oc.U t.w3),.slice p ts.length cap,.int .i64 t.num,.int .i64 t.least,.int .i64 t.most,.bool t.bare] 37))
   have HW:=Lib.hid (show Below w.heap.size w (w.alloc (.cells #[.int .i64 t.kind,.int .u64 (Oc.U t.w0),.int .u64 (Oc.U t.w1),.int .u64 (Oc.U t.w2),.int .u64 (Oc.U t.w3),.slice p ts.length cap,.int .i64 t.num,.int .i64 t.least,.int .i64 t.most,.bool t.bare] 37)) from (Below.refl _ _).alloc (Nat.le_refl _) _)
   go_enter Tryd.func61,Tryd.ntmps61
   go_wp2_with (first
     | (refine wpList_load_row rfl 37 (.tmp 1) rfl w.heap.size rfl 37 _ (0,0) _ Z0.out Tryd.underlying37 rfl (by kernel_rfl) ?_)
     | fail)
   refine (HF.out _).mono ?_
   rintro e W0 ⟨rfl,hb1⟩
   have Z1:=Lib.hid (keep_blk (hb1.mono (Nat.le_refl _)) Z0.out)
   have HB1:=Lib.hid (HW.out.trans (hb1.mono HW.out.size))
   obtain ⟨d0,d1,d2,d3,d4,d5,d6,d7,d8,d9⟩:=allTen Z1.out
   clear hb1 Z0 HW HF
   cases FB with
   | false =>
     have hr:=HR.out
     rw [Bool.false_and] at hr
     subst hr
     go_wp2
     go_ret
     exact ⟨rfl,HB1.out⟩
   | true =>
     have hr:=HR.out
     rw [Bool.true_and] at hr
     have HR2:=Lib.hid hr
     clear hr HR
     go_wp2
     clear d0 d1 d2 d3 d4 d5 d6 d7 d8 d9
     go_loopw [11] (fun iv wr=>∃ m:Nat,iv=.int .i64 m∧m ≤ ts.length∧Hid (Tr.formS (ts.take m)=true)∧Hid (Below w.heap.size w wr)) (fun iv _=>ts.length - (intOf iv).toNat)
     case atStart=>exact ⟨0,rfl,Nat.zero_le _,Lib.hid rfl,HB1⟩
     case round =>
       obtain ⟨m,rfl,hm,HT,HB⟩:=hrel
       have wm:IntKind.i64.wrap ((m:Int)+1)=(m:Int)+1:=IntWalk.i64_in _ (by omega)
       by_cases hlt:m < ts.length
       · obtain ⟨x,hx⟩:∃ x,ts[m]? = some x:=⟨_,List.getElem?_eq_getElem hlt⟩
         obtain ⟨b1,o1,s1,rfl,-,t1,sub1⟩:=HS.out.get hx
         obtain ⟨d0,d1,d2,d3,d4,d5,d6,d7,d8,d9⟩:=t1.keep (HB.out.block _ t1.lt)
         have hmem:=List.mem_of_getElem? hx
         obtain ⟨p1,c1,rfl,hl1⟩:=sub1.slice
         have HC:=Lib.hid (fun w9 hb=>IH.out x hmem w9 B (.agg (x.cells (.slice p1 x.subs.length c1))) ⟨_,rfl,sub1.later hb⟩)
         have hst:=Tr.formS_take ts m x hx
         rw [HT.out,Bool.true_and] at hst
         have HST:=Lib.hid hst
         clear t1 sub1 hmem hx hst
         unfold Tr.cells at HC
         have hbx:Below wr.heap.size wr (wr.alloc (.cells #[.int .i64 x.kind,.int .u64 (Oc.U x.w0),.int .u64 (Oc.U x.w1),.int .u64 (Oc.U x.w2),.int .u64 (Oc.U x.w3),.slice p1 x.subs.length c1,.int .i64 x.num,.int .i64 x.least,.int .i64 x.most,.bool x.bare] 37)):=(Below.refl _ _).alloc (Nat.le_refl _) _
         have HBX:=Lib.hid (HB.out.trans (hbx.mono HB.out.size))
         have ZX:=Lib.hid (heap_alloc_new wr (.cells #[.int .i64 x.kind,.int .u64 (Oc.U x.w0),.int .u64 (Oc.U x.w1),.int .u64 (Oc.U x.w2),.int .u64 (Oc.U x.w3),.slice p1 x.subs.length c1,.int .i64 x.num,.int .i64 x.least,.int .i64 x.most,.bool x.bare] 37))
         clear hbx
         go_upto_region 6 with (fail)
         generalize wr.alloc (.cells #[.int .i64 x.kind,.int .u64 (Oc.U x.w0),.int .u64 (Oc.U x.w1),.int .u64 (Oc.U x.w2),.int .u64 (Oc.U x.w3),.slice p1 x.subs.length c1,.int .i64 x.num,.int .i64 x.least,.int .i64 x.most,.bool x.bare] 37)=w1 at *
         clear d0 d1 d2 d3 d4 d5 d6 d7 d8 d9
         go_wp2_with (first
           | (refine wpList_load_row rfl 37 (.tmp 4) rfl wr.heap.size rfl 37 _ (0,0) _ ZX.out Tryd.underlying37 rfl (by kernel_rfl) ?_)
           | fail)
         refine (HC.out w1 HBX.out).mono ?_
         rintro e w2 ⟨rfl,hb2⟩
         have HB2:=Lib.hid (HBX.out.trans (hb2.mono HBX.out.size))
         clear hb2 HC ZX
         cases hxf:x.formB with
         | false =>
           rw [hxf] at HST
           have hr:=HR2.out
           rw [Tr.formS_no HST.out] at hr
           subst hr
           clear hxf
           go_wp2
           go_ret
           exact ⟨rfl,HB2.out⟩
         | true =>
           rw [hxf] at HST
           clear hxf
           go_wp2
           exact ⟨⟨m+1,by go_num,by omega,HST,HB2⟩,by simp [intOf];omega⟩
       · obtain rfl:m=ts.length:=by omega
         rw [List.take_length] at *
         have hr:=HR2.out
         rw [HT.out] at hr
         subst hr
         go_wp2
         go_ret
         exact ⟨rfl,HB.out⟩
end Go.Proofs.YtllfgppjobinnaaDoor
namespace Go.Proofs.YtllfgppjobinnaaDoor
open Go.RowKit Go.Extern.Stop Go.Stop Go.Extern
inductive Chain (w:World) (a:Addr):Nat→Value→Prop
 | base:Chain w a 0 (.iface 252 (.pointer (some a)))
theorem Chain.iface {w:World} {a:Addr} {n:Nat} {v:Value} (h:Chain w a n v):∃ t p,v=.iface t p:=by cases h <;> exact ⟨_,_,rfl⟩
theorem Chain.of_cells {w w':World} {a:Addr} {n:Nat} {v:Value} (h:Chain w a n v) (hc:∀ p x,w.cell? ⟨p,1,none⟩=some x→w'.cell? ⟨p,1,none⟩=some x):Chain w' a n v:=by
 induction h with
 | base=>have _:=hc;exact .base
def cmpX : Array Value → Sem Value := Extern.ReflectliteType.method fun t => do Extern.Rtype.noPackHeld "Comparable" t; pure (.bool (← typeInfo t).comparable)
theorem Tryd.isTypeOf {N:Nat} (hN:N=Tryd.prog.globals.size) (v:Value) (w:World):(Extern.ReflectliteType.typeOf #[.iface 252 v]).run Tryd.prog w=.ok (.iface 198 (.agg #[.pointer (some ⟨N,252,none⟩)])) w:=by subst hN;kernel_rfl
theorem Tryd.isComparable {N:Nat} (hN:N=Tryd.prog.globals.size) (w:World):(cmpX #[.agg #[.pointer (some ⟨N,252,none⟩)]]).run Tryd.prog w=.ok (.bool true) w:=by subst hN;kernel_rfl
theorem Tryd.isMethodComparable (n : Nat) (v : Value) (w : World) : (Go.method (n + 1) 198 v "Comparable").run Tryd.prog w = .ok (248, v) w := by kernel_rfl
theorem Tryd.isComp:(Tryd.prog.info? 252).map (·.comparable)=some true:=by kernel_rfl
theorem Tryd.isSize:(Tryd.prog.info? 276).map (·.size)=some 1:=by kernel_rfl
theorem Tryd.noIsE (v:Value) (xT:TypeId) (w:World):(Instr.typeAssert (.iface 252 v) xT 200 true).run Tryd.prog w=.ok (.tuple #[.nilIface,.bool false]) w:=run_typeAssert_lacksB Tryd.underlying200 (by kernel_rfl) (by kernel_rfl) v xT w
theorem Tryd.noUnwrapE (v:Value) (xT:TypeId) (w:World):(Instr.typeAssert (.iface 252 v) xT 203 true).run Tryd.prog w=.ok (.tuple #[.nilIface,.bool false]) w:=run_typeAssert_lacksB Tryd.underlying203 (by kernel_rfl) (by kernel_rfl) v xT w
theorem Tryd.noUnwrapsE (v:Value) (xT:TypeId) (w:World):(Instr.typeAssert (.iface 252 v) xT 205 true).run Tryd.prog w=.ok (.tuple #[.nilIface,.bool false]) w:=run_typeAssert_lacksB Tryd.underlying205 (by kernel_rfl) (by kernel_rfl) v xT w
theorem is_in (a b:Addr) (n:Nat) (v:Value) (w:World) (hch:Chain w a n v) (ca cb:Array Value) (ta tb:TypeId) (ha:w.heap[a.block]? = some (.cells ca ta (0,0))) (hb:w.heap[b.block]? = some (.cells cb tb (0,0))) :
   Calls Tryd.prog 127 #[v,.iface 252 (.pointer (some b)),.bool true] w fun e w'=>e=.returned (.bool (decide (a=b)))∧w=w':=by
 obtain ⟨i,hi,hcmp⟩:=Option.map_eq_some_iff.1 Tryd.isComp
 obtain ⟨j,hj,hjs⟩:=Option.map_eq_some_iff.1 Tryd.isSize
 have nE:=Tryd.noIsE
 have uE:=Tryd.noUnwrapE
 have vE:=Tryd.noUnwrapsE
 have heq:(binOp .eql 42 (.iface 252 (.pointer (some a))) (.iface 252 (.pointer (some b)))).run Tryd.prog w=.ok (.bool (decide (a=b))) w:=by
   by_cases hab:a=b
   · subst hab
     rw [run_eql_iface_ptr_same (P:=Tryd.prog) w a Tryd.underlying42 Tryd.underlying252 hi hcmp hj];simp
   · rw [run_eql_iface_ptr_other (P:=Tryd.prog) w Tryd.underlying42 Tryd.underlying252 hi hcmp hj (by rw [hjs];decide) hab ha hb];simp [hab]
 generalize decide (a=b)=r at heq ⊢
 clear hi hcmp hj hjs ha hb
 have HCH:=Lib.hid hch
 clear hch
 go_enter Tryd.func127,Tryd.ntmps127
 go_wp2_with fail
 go_loopg [0] n (fun k x wr=>wr=w∧Hid (Chain w a k x))
 case atStart=>exact ⟨rfl,HCH.out⟩
 case round =>
   obtain ⟨rfl,HC⟩:=hrel
   rcases HC.out with ⟨⟩
   · cases r with
     | true =>
       go_wp2
       go_ret
       exact ⟨rfl,rfl⟩
     | false =>
       go_wp2
       go_ret
       exact ⟨rfl,rfl⟩
theorem is_any (a b:Addr) (n:Nat) (v:Value) (w:World) (hch:Chain w a n v) (ca cb:Array Value) (ta tb:TypeId) (ha:w.heap[a.block]? = some (.cells ca ta (0,0))) (hb:w.heap[b.block]? = some (.cells cb tb (0,0))) :
   Calls Tryd.prog 87 #[v,.iface 252 (.pointer (some b))] w fun e w'=>e=.returned (.bool (decide (a=b)))∧w=w':=by
 have h8:=@run_callFunc_extern Tryd.prog 126 _ Extern.ReflectliteType.typeOf Tryd.func126 (by kernel_rfl) (by kernel_rfl) (by kernel_rfl) (by kernel_rfl)
 have h32:=@run_callFunc_extern Tryd.prog 248 _ cmpX Tryd.func248 (by kernel_rfl) (by kernel_rfl) (by kernel_rfl) (by kernel_rfl)
 obtain ⟨N,hN⟩:∃ N,N=Tryd.prog.globals.size:=⟨_,rfl⟩
 have tT:=Tryd.isTypeOf hN
 have cT:=Tryd.isComparable hN
 clear hN
 have mR:=Tryd.isMethodComparable
 have hin:=is_in a b n v w hch ca cb ta tb ha hb
 obtain ⟨t,q,rfl⟩:=hch.iface
 have HIN:=Lib.hid hin
 clear hin ha hb hch
 go_enter Tryd.func87,Tryd.ntmps87
 go_wp2_with (go_at_call 127;refine HIN.out.mono ?_;rintro e w' ⟨rfl,rfl⟩)
 go_ret
 exact ⟨rfl,rfl⟩
end Go.Proofs.YtllfgppjobinnaaDoor
namespace Go.Proofs.YtllfgppjobinnaaDoor
open Go.ChangeShapes Go.WideShapes Go.ChangeAt Go.RowKit
def Sent (W:World) (g:Nat) (t:List UInt8) (a:Addr):Prop :=
 W.cell? ⟨g,0,none⟩=some (.iface 252 (.pointer (some a)))∧g < W.heap.size∧a.block < W.heap.size∧(∃ s,W.cell? a=some (.string s)∧s.data.toList=t∧s.size ≤ maxLen)∧∃ c ty,W.heap[a.block]? = some (.cells c ty (0,0))
theorem Sent.below {W W':World} {g:Nat} {t:List UInt8} {a:Addr} (h:Sent W g t a) (hb:Below W.heap.size W W'):Sent W' g t a:=by
 obtain ⟨h1,h2,h3,⟨s,h4,h5,h6⟩,c,ty,h7⟩:=h
 exact ⟨(hb.cell (p:=⟨g,0,none⟩) h2).trans h1,Nat.lt_of_lt_of_le h2 hb.size,Nat.lt_of_lt_of_le h3 hb.size,⟨s,(hb.cell h3).trans h4,h5,h6⟩,c,ty,(hb.block _ h3).trans h7⟩
theorem Sent.apart {W:World} {g g':Nat} {t t':List UInt8} {a a':Addr} (h:Sent W g t a) (h':Sent W g' t' a') (hne:t ≠ t'):a ≠ a':=by
 rintro rfl
 obtain ⟨-,-,-,⟨s,h4,h5,-⟩,-⟩:=h
 obtain ⟨-,-,-,⟨s',h4',h5',-⟩,-⟩:=h'
 rw [h4] at h4'
 simp only [Option.some.injEq,Value.string.injEq] at h4'
 subst h4'
 exact hne (h5.symm.trans h5')
def sentDatum (t : List UInt8) : DataW Unit := .iface "*errors.errorString" (.ptr (.agg [.lit (.string t)]))
theorem Tryd.starE : "*" ++ "errors.errorString" = "*errors.errorString" := by decide
theorem Tryd.rowE (u : TypeId) (h : Tryd.prog.typeName? 3 u = some "*errors.errorString") : u = 252 :=
 typeName_ptr_named (nm := "errors.errorString") (by rw [Tryd.starE]; kernel_rfl) (by kernel_rfl) (by decide) u (by rw [Tryd.starE]; exact h)
theorem Tryd.cellsE:Tryd.prog.cellsOf 276=1:=by kernel_rfl
theorem Tryd.cellsStr:Tryd.prog.cellsOf 9=1:=by kernel_rfl
theorem block_lt {W:World} {b:Nat} {o:Obj} (h:W.heap[b]? = some o):b < W.heap.size:=(Array.getElem?_eq_some_iff.1 h).1
theorem sent_head_any {P:Program} {n nm:String} {text:List UInt8} {r:List (String × DataW Unit)} {W:World} {g:Nat} {ti tp te ts:TypeId} {ms:Array (String × TypeId)} {f:Field}
   (h:laidMet P ((n,.iface nm (.ptr (.agg [.lit (.string text)]))) :: r) W)
   (hg:P.globalNamed n=some g) (ht:(P.globals[g]?).map (·.type)=some ti) (hi:P.underlying ti=some (.interface ms)) (hrow:∀ u,P.typeName? 3 u=some nm→u=tp)
   (hp:P.underlying tp=some (.pointer te)) (he:P.underlying te=some (.struct #[f])) (hft:f.type=ts) (hfo:f.offset=0) (hs:P.underlying ts=some .string) (hc:P.cellsOf te=1) (hcs:P.cellsOf ts=1) :
   ∃ (a:Addr) (s:ByteArray) (c0 c1:Array Value) (t0 t1:TypeId),W.cell? ⟨g,0,none⟩=some (.iface tp (.pointer (some a)))∧W.cell? a=some (.string s)∧s.data.toList=text∧s.size ≤ maxLen∧W.heap[a.block]? = some (.cells c0 t0 (0,0))∧W.heap[g]? = some (.cells c1 t1 (0,0)):=by
 obtain ⟨ps,⟨g0,t0,cs0,f0,p0,q0,hg0,ht0,hv0,hd0,_,e0⟩,_,hrows⟩:=h
 obtain rfl:=Option.some.inj (hg.symm.trans hg0)
 obtain rfl:=Option.some.inj (ht.symm.trans ht0)
 subst e0
 obtain ⟨l0⟩:=cs0
 have ok0:∀ u v,l0=[.iface u v]→Value.okWide P W .any 0 u v:=fun u v e=>by
   subst e
   exact (hrows g 0 (by simp [MemPlace.row])).2 u v (by simpa using World.var?_cell hg0 hv0 0)
 obtain ⟨a0,s0,rfl,hc0,hs0,hz0,rfl⟩:=errorString_of_trod hi hrow hp he hft hfo hs hc hcs hd0 ok0
 obtain ⟨c0,t1,hb0⟩:=(hrows a0.block a0.off (by simp [MemPlace.row])).1
 obtain ⟨c1,t2,hb1⟩:=(hrows g 0 (by simp [MemPlace.row])).1
 exact ⟨a0,s0,c0,c1,t1,t2,by simpa using World.var?_cell hg0 hv0 0,hc0,hs0,hz0,hb0,hb1⟩
theorem sent_head {n:String} {t:List UInt8} {r:List (String × DataW Unit)} {W:World} {g:Nat} (h:laidMet Tryd.prog ((n,sentDatum t) :: r) W) (hg:Tryd.prog.globalNamed n=some g) (ht:(Tryd.prog.globals[g]?).map (·.type)=some 42) :
   ∃ a,Sent W g t a:=by
 obtain ⟨a,s,c0,c1,t0,t1,h1,h2,h3,h4,h5,h6⟩:=sent_head_any h hg ht Tryd.underlying42 Tryd.rowE Tryd.underlying252 Tryd.underlying276 rfl rfl Tryd.underlying9 Tryd.cellsE Tryd.cellsStr
 exact ⟨a,h1,block_lt h6,block_lt h5,⟨s,h2,h3,h4⟩,c0,t0,h5⟩
theorem sent_of:∀ {l:List (String × DataW Unit)} {W:World},laidMet Tryd.prog l W→∀ {n t g},(n,sentDatum t) ∈ l→Tryd.prog.globalNamed n=some g→(Tryd.prog.globals[g]?).map (·.type)=some 42→∃ a,Sent W g t a
 | [],_,_,_,_,_,hm,_,_=>by cases hm
 | x :: l,W,h,n,t,g,hm,hg,ht=>by
   rcases List.mem_cons.1 hm with e | hm
   · subst e;exact sent_head h hg ht
   · exact sent_of h.tail hm hg ht
end Go.Proofs.YtllfgppjobinnaaDoor
namespace Go.Proofs.YtllfgppjobinnaaDoor
open Go.ChangeShapes Go.WideShapes Go.ChangeAt Go.RowKit
def errWords:List (List UInt8):=[[98,114,97,99,107,101,116],[112,97,114,101,110,116,104,101,115,105,115],[98,114,97,99,101],[99,111,117,110,116],[114,97,110,103,101],[99,108,97,115,115],[99,111,108,108,97,116,105,110,103],[101,115,99,97,112,101],[114,101,112,101,97,116],[116,111,111,32,98,105,103],[110,101,115,116,105,110,103],[108,111,110,103],[116,114,101,101],[100,101,101,112],[97,114,103,117,109,101,110,116],[110,111,32,109,97,116,99,104],[105,109,97,103,101],[109,97,110,121],[111,112,116,105,111,110],[99,111,109,109,97,110,100],[99,108,111,115,101,100]]
def errPre:List UInt8:=[116,114,97,119,108,58,32]
def errVars:List Nat:=[3,4,5,6,7,8,9,10,11,2,12,13,0,1,14,15,16,17,18,19,20]
def Errs (W:World) (A:Nat→Addr):Prop:=∀ k,k < 21→Sent W (errVars.getD k 0) (errPre ++ errWords.getD k []) (A k)
theorem Errs.below {W W':World} {A:Nat→Addr} (h:Errs W A) (hb:Below W.heap.size W W'):Errs W' A:=fun k hk=>(h k hk).below hb
theorem errWords_apart:∀ i,i < 21→∀ j,j < 21→i ≠ j→errPre ++ errWords.getD i [] ≠ errPre ++ errWords.getD j []:=by decide +kernel
theorem Errs.apart {W:World} {A:Nat→Addr} (h:Errs W A) {i j:Nat} (hi:i < 21) (hj:j < 21) (hne:i ≠ j):A i ≠ A j:=(h i hi).apart (h j hj) (errWords_apart i hi j hj hne)
def errList : List (String × DataW Unit) := [("trawl/api.ErrBracket", Rows.laid_trawl_api_ErrBracket), ("trawl/api.ErrParen", Rows.laid_trawl_api_ErrParen), ("trawl/api.ErrBrace", Rows.laid_trawl_api_ErrBrace), ("trawl/api.ErrCount", Rows.laid_trawl_api_ErrCount), ("trawl/api.ErrRange", Rows.laid_trawl_api_ErrRange), ("trawl/api.ErrClass", Rows.laid_trawl_api_ErrClass), ("trawl/api.ErrCollate", Rows.laid_trawl_api_ErrCollate), ("trawl/api.ErrEscape", Rows.laid_trawl_api_ErrEscape), ("trawl/api.ErrRepeat", Rows.laid_trawl_api_ErrRepeat), ("trawl/api.ErrTooBig", Rows.laid_trawl_api_ErrTooBig), ("trawl/api.ErrNest", Rows.laid_trawl_api_ErrNest), ("trawl/api.ErrLong", Rows.laid_trawl_api_ErrLong), ("trawl/api.ErrTree", Rows.laid_trawl_api_ErrTree), ("trawl/api.ErrDeep", Rows.laid_trawl_api_ErrDeep), ("trawl/api.ErrArgument", Rows.laid_trawl_api_ErrArgument), ("trawl/api.ErrNoMatch", Rows.laid_trawl_api_ErrNoMatch), ("trawl/api.ErrImage", Rows.laid_trawl_api_ErrImage), ("trawl/api.ErrMany", Rows.laid_trawl_api_ErrMany), ("trawl/api.ErrOption", Rows.laid_trawl_api_ErrOption), ("trawl/api.ErrCommand", Rows.laid_trawl_api_ErrCommand), ("trawl/api.ErrClosed", Rows.laid_trawl_api_ErrClosed)]
theorem errs_one {W:World} {l:List (String × DataW Unit)} (h:laidMet Tryd.prog l W) (hl:∀ x,x ∈ errList→x ∈ l):∀ k,k < 21→∃ a,Sent W (errVars.getD k 0) (errPre ++ errWords.getD k []) a
 | 0, _ => sent_of h (hl _ (show ("trawl/api.ErrBracket", sentDatum (errPre ++ errWords.getD 0 [])) ∈ errList from List.mem_cons_self)) (by kernel_rfl) (by kernel_rfl)
 | 1, _ => sent_of h (hl _ (show ("trawl/api.ErrParen", sentDatum (errPre ++ errWords.getD 1 [])) ∈ errList from (List.mem_cons_of_mem _ List.mem_cons_self))) (by kernel_rfl) (by kernel_rfl)
 | 2, _ => sent_of h (hl _ (show ("trawl/api.ErrBrace", sentDatum (errPre ++ errWords.getD 2 [])) ∈ errList from (List.mem_cons_of_mem _ (List.mem_cons_of_mem _ List.mem_cons_self)))) (by kernel_rfl) (by kernel_rfl)
 | 3, _ => sent_of h (hl _ (show ("trawl/api.ErrCount", sentDatum (errPre ++ errWords.getD 3 [])) ∈ errList from (List.mem_cons_of_mem _ (List.mem_cons_of_mem _ (List.mem_cons_of_mem _ List.mem_cons_self))))) (by kernel_rfl) (by kernel_rfl)
 | 4, _ => sent_of h (hl _ (show ("trawl/api.ErrRange", sentDatum (errPre ++ errWords.getD 4 [])) ∈ errList from (List.mem_cons_of_mem _ (List.mem_cons_of_mem _ (List.mem_cons_of_mem _ (List.mem_cons_of_mem _ List.mem_cons_self)))))) (by kernel_rfl) (by kernel_rfl)
 | 5, _ => sent_of h (hl _ (show ("trawl/api.ErrClass", sentDatum (errPre ++ errWords.getD 5 [])) ∈ errList from (List.mem_cons_of_mem _ (List.mem_cons_of_mem _ (List.mem_cons_of_mem _ (List.mem_cons_of_mem _ (List.mem_cons_of_mem _ List.mem_cons_self))))))) (by kernel_rfl) (by kernel_rfl)
 | 6, _ => sent_of h (hl _ (show ("trawl/api.ErrCollate", sentDatum (errPre ++ errWords.getD 6 [])) ∈ errList from (List.mem_cons_of_mem _ (List.mem_cons_of_mem _ (List.mem_cons_of_mem _ (List.mem_cons_of_mem _ (List.mem_cons_of_mem _ (List.mem_cons_of_mem _ List.mem_cons_self)))))))) (by kernel_rfl) (by kernel_rfl)
 | 7, _ => sent_of h (hl _ (show ("trawl/api.ErrEscape", sentDatum (errPre ++ errWords.getD 7 [])) ∈ errList from (List.mem_cons_of_mem _ (List.mem_cons_of_mem _ (List.mem_cons_of_mem _ (List.mem_cons_of_mem _ (List.mem_cons_of_mem _ (List.mem_cons_of_mem _ (List.mem_cons_of_mem _ List.mem_cons_self))))))))) (by kernel_rfl) (by kernel_rfl)
 | 8, _ => sent_of h (hl _ (show ("trawl/api.ErrRepeat", sentDatum (errPre ++ errWords.getD 8 [])) ∈ errList from (List.mem_cons_of_mem _ (List.mem_cons_of_mem _ (List.mem_cons_of_mem _ (List.mem_cons_of_mem _ (List.mem_cons_of_mem _ (List.mem_cons_of_mem _ (List.mem_cons_of_mem _ (List.mem_cons_of_mem _ List.mem_cons_self)))))))))) (by kernel_rfl) (by kernel_rfl)
 | 9, _ => sent_of h (hl _ (show ("trawl/api.ErrTooBig", sentDatum (errPre ++ errWords.getD 9 [])) ∈ errList from (List.mem_cons_of_mem _ (List.mem_cons_of_mem _ (List.mem_cons_of_mem _ (List.mem_cons_of_mem _ (List.mem_cons_of_mem _ (List.mem_cons_of_mem _ (List.mem_cons_of_mem _ (List.mem_cons_of_mem _ (List.mem_cons_of_mem _ List.mem_cons_self))))))))))) (by kernel_rfl) (by kernel_rfl)
 | 10, _ => sent_of h (hl _ (show ("trawl/api.ErrNest", sentDatum (errPre ++ errWords.getD 10 [])) ∈ errList from (List.mem_cons_of_mem _ (List.mem_cons_of_mem _ (List.mem_cons_of_mem _ (List.mem_cons_of_mem _ (List.mem_cons_of_mem _ (List.mem_cons_of_mem _ (List.mem_cons_of_mem _ (List.mem_cons_of_mem _ (List.mem_cons_of_mem _ (List.mem_cons_of_mem _ List.mem_cons_self)))))))))))) (by kernel_rfl) (by kernel_rfl)
 | 11, _ => sent_of h (hl _ (show ("trawl/api.ErrLong", sentDatum (errPre ++ errWords.getD 11 [])) ∈ errList from (List.mem_cons_of_mem _ (List.mem_cons_of_mem _ (List.mem_cons_of_mem _ (List.mem_cons_of_mem _ (List.mem_cons_of_mem _ (List.mem_cons_of_mem _ (List.mem_cons_of_mem _ (List.mem_cons_of_mem _ (List.mem_cons_of_mem _ (List.mem_cons_of_mem _ (List.mem_cons_of_mem _ List.mem_cons_self))))))))))))) (by kernel_rfl) (by kernel_rfl)
 | 12, _ => sent_of h (hl _ (show ("trawl/api.ErrTree", sentDatum (errPre ++ errWords.getD 12 [])) ∈ errList from (List.mem_cons_of_mem _ (List.mem_cons_of_mem _ (List.mem_cons_of_mem _ (List.mem_cons_of_mem _ (List.mem_cons_of_mem _ (List.mem_cons_of_mem _ (List.mem_cons_of_mem _ (List.mem_cons_of_mem _ (List.mem_cons_of_mem _ (List.mem_cons_of_mem _ (List.mem_cons_of_mem _ (List.mem_cons_of_mem _ List.mem_cons_self)))))))))))))) (by kernel_rfl) (by kernel_rfl)
 | 13, _ => sent_of h (hl _ (show ("trawl/api.ErrDeep", sentDatum (errPre ++ errWords.getD 13 [])) ∈ errList from (List.mem_cons_of_mem _ (List.mem_cons_of_mem _ (List.mem_cons_of_mem _ (List.mem_cons_of_mem _ (List.mem_cons_of_mem _ (List.mem_cons_of_mem _ (List.mem_cons_of_mem _ (List.mem_cons_of_mem _ (List.mem_cons_of_mem _ (List.mem_cons_of_mem _ (List.mem_cons_of_mem _ (List.mem_cons_of_mem _ (List.mem_cons_of_mem _ List.mem_cons_self))))))))))))))) (by kernel_rfl) (by kernel_rfl)
 | 14, _ => sent_of h (hl _ (show ("trawl/api.ErrArgument", sentDatum (errPre ++ errWords.getD 14 [])) ∈ errList from (List.mem_cons_of_mem _ (List.mem_cons_of_mem _ (List.mem_cons_of_mem _ (List.mem_cons_of_mem _ (List.mem_cons_of_mem _ (List.mem_cons_of_mem _ (List.mem_cons_of_mem _ (List.mem_cons_of_mem _ (List.mem_cons_of_mem _ (List.mem_cons_of_mem _ (List.mem_cons_of_mem _ (List.mem_cons_of_mem _ (List.mem_cons_of_mem _ (List.mem_cons_of_mem _ List.mem_cons_self)))))))))))))))) (by kernel_rfl) (by kernel_rfl)
 | 15, _ => sent_of h (hl _ (show ("trawl/api.ErrNoMatch", sentDatum (errPre ++ errWords.getD 15 [])) ∈ errList from (List.mem_cons_of_mem _ (List.mem_cons_of_mem _ (List.mem_cons_of_mem _ (List.mem_cons_of_mem _ (List.mem_cons_of_mem _ (List.mem_cons_of_mem _ (List.mem_cons_of_mem _ (List.mem_cons_of_mem _ (List.mem_cons_of_mem _ (List.mem_cons_of_mem _ (List.mem_cons_of_mem _ (List.mem_cons_of_mem _ (List.mem_cons_of_mem _ (List.mem_cons_of_mem _ (List.mem_cons_of_mem _ List.mem_cons_self))))))))))))))))) (by kernel_rfl) (by kernel_rfl)
 | 16, _ => sent_of h (hl _ (show ("trawl/api.ErrImage", sentDatum (errPre ++ errWords.getD 16 [])) ∈ errList from (List.mem_cons_of_mem _ (List.mem_cons_of_mem _ (List.mem_cons_of_mem _ (List.mem_cons_of_mem _ (List.mem_cons_of_mem _ (List.mem_cons_of_mem _ (List.mem_cons_of_mem _ (List.mem_cons_of_mem _ (List.mem_cons_of_mem _ (List.mem_cons_of_mem _ (List.mem_cons_of_mem _ (List.mem_cons_of_mem _ (List.mem_cons_of_mem _ (List.mem_cons_of_mem _ (List.mem_cons_of_mem _ (List.mem_cons_of_mem _ List.mem_cons_self)))))))))))))))))) (by kernel_rfl) (by kernel_rfl)
 | 17, _ => sent_of h (hl _ (show ("trawl/api.ErrMany", sentDatum (errPre ++ errWords.getD 17 [])) ∈ errList from (List.mem_cons_of_mem _ (List.mem_cons_of_mem _ (List.mem_cons_of_mem _ (List.mem_cons_of_mem _ (List.mem_cons_of_mem _ (List.mem_cons_of_mem _ (List.mem_cons_of_mem _ (List.mem_cons_of_mem _ (List.mem_cons_of_mem _ (List.mem_cons_of_mem _ (List.mem_cons_of_mem _ (List.mem_cons_of_mem _ (List.mem_cons_of_mem _ (List.mem_cons_of_mem _ (List.mem_cons_of_mem _ (List.mem_cons_of_mem _ (List.mem_cons_of_mem _ List.mem_cons_self))))))))))))))))))) (by kernel_rfl) (by kernel_rfl)
 | 18, _ => sent_of h (hl _ (show ("trawl/api.ErrOption", sentDatum (errPre ++ errWords.getD 18 [])) ∈ errList from (List.mem_cons_of_mem _ (List.mem_cons_of_mem _ (List.mem_cons_of_mem _ (List.mem_cons_of_mem _ (List.mem_cons_of_mem _ (List.mem_cons_of_mem _ (List.mem_cons_of_mem _ (List.mem_cons_of_mem _ (List.mem_cons_of_mem _ (List.mem_cons_of_mem _ (List.mem_cons_of_mem _ (List.mem_cons_of_mem _ (List.mem_cons_of_mem _ (List.mem_cons_of_mem _ (List.mem_cons_of_mem _ (List.mem_cons_of_mem _ (List.mem_cons_of_mem _ (List.mem_cons_of_mem _ List.mem_cons_self)))))))))))))))))))) (by kernel_rfl) (by kernel_rfl)
 | 19, _ => sent_of h (hl _ (show ("trawl/api.ErrCommand", sentDatum (errPre ++ errWords.getD 19 [])) ∈ errList from (List.mem_cons_of_mem _ (List.mem_cons_of_mem _ (List.mem_cons_of_mem _ (List.mem_cons_of_mem _ (List.mem_cons_of_mem _ (List.mem_cons_of_mem _ (List.mem_cons_of_mem _ (List.mem_cons_of_mem _ (List.mem_cons_of_mem _ (List.mem_cons_of_mem _ (List.mem_cons_of_mem _ (List.mem_cons_of_mem _ (List.mem_cons_of_mem _ (List.mem_cons_of_mem _ (List.mem_cons_of_mem _ (List.mem_cons_of_mem _ (List.mem_cons_of_mem _ (List.mem_cons_of_mem _ (List.mem_cons_of_mem _ List.mem_cons_self))))))))))))))))))))) (by kernel_rfl) (by kernel_rfl)
 | 20, _ => sent_of h (hl _ (show ("trawl/api.ErrClosed", sentDatum (errPre ++ errWords.getD 20 [])) ∈ errList from (List.mem_cons_of_mem _ (List.mem_cons_of_mem _ (List.mem_cons_of_mem _ (List.mem_cons_of_mem _ (List.mem_cons_of_mem _ (List.mem_cons_of_mem _ (List.mem_cons_of_mem _ (List.mem_cons_of_mem _ (List.mem_cons_of_mem _ (List.mem_cons_of_mem _ (List.mem_cons_of_mem _ (List.mem_cons_of_mem _ (List.mem_cons_of_mem _ (List.mem_cons_of_mem _ (List.mem_cons_of_mem _ (List.mem_cons_of_mem _ (List.mem_cons_of_mem _ (List.mem_cons_of_mem _ (List.mem_cons_of_mem _ (List.mem_cons_of_mem _ List.mem_cons_self)))))))))))))))))))))) (by kernel_rfl) (by kernel_rfl)
 | k+21,hk=>absurd hk (by omega)
theorem errs_of {W:World} {l:List (String × DataW Unit)} (h:laidMet Tryd.prog l W) (hl:∀ x,x ∈ errList→x ∈ l):∃ A,Errs W A:=by
 have k:=errs_one h hl
 exact ⟨fun i=>if h:i < 21 then Classical.choose (k i h) else ⟨0,0,none⟩,fun i hi=>by
   show Sent W _ _ (dite _ _ _)
   rw [dif_pos hi];exact Classical.choose_spec (k i hi)⟩
end Go.Proofs.YtllfgppjobinnaaDoor
namespace Go.Proofs.YtllfgppjobinnaaDoor
open Go.RowKit
def errCells (A:Nat→Addr):Array Value:=#[.iface 252 (.pointer (some (A 0))),.iface 252 (.pointer (some (A 1))),.iface 252 (.pointer (some (A 2))),.iface 252 (.pointer (some (A 3))),.iface 252 (.pointer (some (A 4))),.iface 252 (.pointer (some (A 5))),.iface 252 (.pointer (some (A 6))),.iface 252 (.pointer (some (A 7))),.iface 252 (.pointer (some (A 8))),.iface 252 (.pointer (some (A 9))),.iface 252 (.pointer (some (A 10))),.iface 252 (.pointer (some (A 11))),.iface 252 (.pointer (some (A 12))),.iface 252 (.pointer (some (A 13))),.iface 252 (.pointer (some (A 14))),.iface 252 (.pointer (some (A 15))),.iface 252 (.pointer (some (A 16))),.iface 252 (.pointer (some (A 17))),.iface 252 (.pointer (some (A 18))),.iface 252 (.pointer (some (A 19))),.iface 252 (.pointer (some (A 20)))]
theorem errCells_get (A:Nat→Addr):∀ k,k < 21→(errCells A)[k]? = some (.iface 252 (.pointer (some (A k))))
 | 0,_=>rfl
 | 1,_=>rfl
 | 2,_=>rfl
 | 3,_=>rfl
 | 4,_=>rfl
 | 5,_=>rfl
 | 6,_=>rfl
 | 7,_=>rfl
 | 8,_=>rfl
 | 9,_=>rfl
 | 10,_=>rfl
 | 11,_=>rfl
 | 12,_=>rfl
 | 13,_=>rfl
 | 14,_=>rfl
 | 15,_=>rfl
 | 16,_=>rfl
 | 17,_=>rfl
 | 18,_=>rfl
 | 19,_=>rfl
 | 20,_=>rfl
 | k+21,hk=>absurd hk (by omega)
end Go.Proofs.YtllfgppjobinnaaDoor
namespace Go.Proofs.YtllfgppjobinnaaDoor
open Go.RowKit Go.Extern.Stop Go.Stop Go.Extern
theorem num_nil (w:World):Calls Tryd.prog 45 #[.nilIface] w fun e w'=>e=.returned (.int .i64 0)∧w=w':=by
 go_enter Tryd.func45,Tryd.ntmps45
 go_wp2
 go_ret
 exact ⟨rfl,rfl⟩
def found (k i:Nat):Int:=if k < i then (k:Int)+1 else -1
theorem found_no {k i:Nat} (h:i ≤ k):found k i = -1:=by unfold found;rw [if_neg (by omega)]
theorem found_yes {k i:Nat} (h:k < i):found k i=(k:Int)+1:=by unfold found;rw [if_pos h]
theorem num_any (A:Nat→Addr) (k n:Nat) (v:Value) (w:World) (hA:Errs w A) (hk:k < 21) (hch:Chain w (A k) n v) :
   Calls Tryd.prog 45 #[v] w fun e w'=>e=.returned (.int .i64 ((k:Int)+1))∧Below w.heap.size w w':=by
 have HA:=Lib.hid hA
 obtain ⟨t,q,rfl⟩:=hch.iface
 have HC:=Lib.hid hch
 clear hch
 have g0:w.cell? ⟨3,0,none⟩=some (.iface 252 (.pointer (some (A 0)))):=(hA 0 (by omega)).1
 have g1:w.cell? ⟨4,0,none⟩=some (.iface 252 (.pointer (some (A 1)))):=(hA 1 (by omega)).1
 have g2:w.cell? ⟨5,0,none⟩=some (.iface 252 (.pointer (some (A 2)))):=(hA 2 (by omega)).1
 have g3:w.cell? ⟨6,0,none⟩=some (.iface 252 (.pointer (some (A 3)))):=(hA 3 (by omega)).1
 have g4:w.cell? ⟨7,0,none⟩=some (.iface 252 (.pointer (some (A 4)))):=(hA 4 (by omega)).1
 have g5:w.cell? ⟨8,0,none⟩=some (.iface 252 (.pointer (some (A 5)))):=(hA 5 (by omega)).1
 have g6:w.cell? ⟨9,0,none⟩=some (.iface 252 (.pointer (some (A 6)))):=(hA 6 (by omega)).1
 have g7:w.cell? ⟨10,0,none⟩=some (.iface 252 (.pointer (some (A 7)))):=(hA 7 (by omega)).1
 have g8:w.cell? ⟨11,0,none⟩=some (.iface 252 (.pointer (some (A 8)))):=(hA 8 (by omega)).1
 have g9:w.cell? ⟨2,0,none⟩=some (.iface 252 (.pointer (some (A 9)))):=(hA 9 (by omega)).1
 have g10:w.cell? ⟨12,0,none⟩=some (.iface 252 (.pointer (some (A 10)))):=(hA 10 (by omega)).1
 have g11:w.cell? ⟨13,0,none⟩=some (.iface 252 (.pointer (some (A 11)))):=(hA 11 (by omega)).1
 have g12:w.cell? ⟨0,0,none⟩=some (.iface 252 (.pointer (some (A 12)))):=(hA 12 (by omega)).1
 have g13:w.cell? ⟨1,0,none⟩=some (.iface 252 (.pointer (some (A 13)))):=(hA 13 (by omega)).1
 have g14:w.cell? ⟨14,0,none⟩=some (.iface 252 (.pointer (some (A 14)))):=(hA 14 (by omega)).1
 have g15:w.cell? ⟨15,0,none⟩=some (.iface 252 (.pointer (some (A 15)))):=(hA 15 (by omega)).1
 have g16:w.cell? ⟨16,0,none⟩=some (.iface 252 (.pointer (some (A 16)))):=(hA 16 (by omega)).1
 have g17:w.cell? ⟨17,0,none⟩=some (.iface 252 (.pointer (some (A 17)))):=(hA 17 (by omega)).1
 have g18:w.cell? ⟨18,0,none⟩=some (.iface 252 (.pointer (some (A 18)))):=(hA 18 (by omega)).1
 have g19:w.cell? ⟨19,0,none⟩=some (.iface 252 (.pointer (some (A 19)))):=(hA 19 (by omega)).1
 have g20:w.cell? ⟨20,0,none⟩=some (.iface 252 (.pointer (some (A 20)))):=(hA 20 (by omega)).1
 clear hA
 go_enter Tryd.func45,Tryd.ntmps45
 go_wp2_with fail
 generalize hW0:World.alloc w _=W
 have e0:W.heap[w.heap.size]? = some (.cells (errCells A) 42):=by rw [← hW0];exact heap_alloc_new _ _
 have hbW:Below w.heap.size w W:=by rw [← hW0];exact (Below.refl _ _).alloc (Nat.le_refl _) _
 have hszW:W.heap.size=w.heap.size+1:=by rw [← hW0];simp
 have E0:=Lib.hid e0
 clear hW0 e0 g0 g1 g2 g3 g4 g5 g6 g7 g8 g9 g10 g11 g12 g13 g14 g15 g16 g17 g18 g19 g20
 have HW:=Lib.hid (HA.out.below hbW)
 have HCW:=Lib.hid (HC.out.of_cells (w':=W) fun p x hx=>(hbW.cell (p:=⟨p,1,none⟩) (block_lt_of_cell hx)).trans hx)
 clear HA HC
 have HF:Hid (found k 0 = -1):=Lib.hid (found_no (Nat.zero_le _))
 go_loopw [33,4] (fun i f wr=>∃ m:Nat,i=.int .i64 m∧m ≤ 21∧f=.int .i64 (found k m)∧wr=W) (fun i _ _=>21 - (intOf i).toNat)
 case atStart=>exact ⟨0,rfl,Nat.zero_le _,by rw [HF.out],rfl⟩
 case round =>
   obtain ⟨m,rfl,hm,rfl,rfl⟩:=hrel
   by_cases hlt:m < 21
   · have hma:=HW.out m hlt
     have hka:=HW.out k hk
     have l0:wr.cell? ⟨w.heap.size,m,none⟩=some (.iface 252 (.pointer (some (A m)))):=by simp only [World.cell?,E0.out];exact errCells_get A m hlt
     obtain ⟨-,-,-,-,c1,ty1,r1⟩:=hma
     obtain ⟨-,-,-,-,c2,ty2,r2⟩:=hka
     have his:=is_any (A k) (A m) n (.iface t q) wr HCW.out c2 c1 ty2 ty1 r2 r1
     have HIS:=Lib.hid his
     clear his r1 r2
     have hmm:IntKind.i64.wrap ((m:Int)+1)=(m:Int)+1:=IntWalk.i64_in _ (by omega)
     rcases Nat.lt_trichotomy m k with h | h | h
     · have hd:decide (A k=A m)=false:=by simpa using Errs.apart HW.out hk hlt (by omega)
       rw [hd] at HIS
       rw [found_no (Nat.le_of_lt h)]
       have HN:=Lib.hid (found_no (show m+1 ≤ k by omega))
       clear hd
       go_wp2_with (go_at_call 87;refine HIS.out.mono ?_;rintro e w' ⟨rfl,rfl⟩)
       exact ⟨⟨m+1,by go_num,by omega,by rw [HN.out],trivial⟩,by simp [intOf];omega⟩
     · subst h
       have hd:decide (A m=A m)=true:=by simp
       rw [hd] at HIS
       rw [found_no (Nat.le_refl _)]
       have HN:=Lib.hid (found_yes (show m < m+1 by omega))
       clear hd
       go_wp2_with (go_at_call 87;refine HIS.out.mono ?_;rintro e w' ⟨rfl,rfl⟩)
       exact ⟨⟨m+1,by go_num,by omega,by rw [HN.out],trivial⟩,by simp [intOf];omega⟩
     · have hd:decide (A k=A m)=false:=by simpa using Errs.apart HW.out hk hlt (by omega)
       rw [hd] at HIS
       rw [found_yes h]
       have HN:=Lib.hid (found_yes (show k < m+1 by omega))
       clear hd
       go_wp2_with (go_at_call 87;refine HIS.out.mono ?_;rintro e w' ⟨rfl,rfl⟩)
       exact ⟨⟨m+1,by go_num,by omega,by rw [HN.out],trivial⟩,by simp [intOf];omega⟩
   · obtain rfl:m=21:=by omega
     rw [found_yes hk]
     go_wp2
     go_ret
     exact ⟨rfl,hbW⟩
end Go.Proofs.YtllfgppjobinnaaDoor
namespace Go.Proofs.YtllfgppjobinnaaDoor
open Go.RowKit
namespace Tr
def checkC (t:Tr):Nat:=if t.formB=false then 13 else if 200 < t.dpT then 14 else if 2000 < t.szT then 10 else 0
theorem checkC_zero {t:Tr} : t.checkC=0 ↔ t.InForm∧t.dpT ≤ 200∧t.szT ≤ 2000:=by
 unfold checkC
 rw [← formB_iff]
 cases t.formB with
 | false=>simp
 | true =>
   rw [if_neg (by decide)]
   split
   · simp;omega
   · split
     · simp;omega
     · simp;omega
theorem checkC_lt (t:Tr):t.checkC < 22:=by
 unfold checkC;split;omega;split;omega;split <;> omega
end Tr
def sentV (A:Nat→Addr) (c:Nat):Value:=if c=0 then .nilIface else .iface 252 (.pointer (some (A (c - 1))))
theorem sentV_num (A:Nat→Addr) (c:Nat) (hc:c < 22) (w:World) (hE:Errs w A):Calls Tryd.prog 45 #[sentV A c] w fun e w'=>e=.returned (.int .i64 (c:Int))∧Below w.heap.size w w':=by
 unfold sentV
 by_cases h:c=0
 · subst h
   rw [if_pos rfl]
   refine (num_nil w).mono ?_
   rintro e w' ⟨rfl,rfl⟩
   exact ⟨rfl,Below.refl _ _⟩
 · rw [if_neg h]
   have:=num_any A (c - 1) 0 _ w hE (by omega) .base
   refine this.mono ?_
   rintro e w' ⟨rfl,hb⟩
   exact ⟨ret_int (by omega),hb⟩
def ErrsT (W:World) (A:Nat→Addr):Prop:=∀ k,k ∈ [9,11,12,13,14]→Sent W (errVars.getD k 0) (errPre ++ errWords.getD k []) (A k)
def ErrsC (W:World) (A:Nat→Addr):Prop:=∀ k,k ∈ [9,12,13]→Sent W (errVars.getD k 0) (errPre ++ errWords.getD k []) (A k)
theorem ErrsC.below {W W':World} {A:Nat→Addr} (h:ErrsC W A) (hb:Below W.heap.size W W'):ErrsC W' A:=fun k hk=>(h k hk).below hb
theorem ErrsT.c {W:World} {A:Nat→Addr} (h:ErrsT W A):ErrsC W A:=fun k hk=>h k (by simp at hk ⊢;omega)
theorem Errs.few {W:World} {A:Nat→Addr} (h:Errs W A):ErrsT W A:=fun k hk=>h k (by simp at hk;omega)
theorem treecheckC_any (A:Nat→Addr) (t:Tr) (hd:t.dpT ≤ 1000000) (w:World) (hE:ErrsC w A) (B:Nat→Prop) (v:Value) (hv:NodeV w B v t):Calls Tryd.prog 22 #[v] w fun e w'=>e=.returned (sentV A t.checkC)∧Below w.heap.size w w':=by
 obtain ⟨s,rfl,hs⟩:=hv
 have H1:=Lib.hid (fun w' hb=>treeinform_any t w' B (.agg (t.cells s)) ⟨s,rfl,TreesAt.later (w':=w') hs hb⟩)
 have H2:=Lib.hid (fun w' hb=>treedepth_any t hd w' B (.agg (t.cells s)) ⟨s,rfl,TreesAt.later (w':=w') hs hb⟩)
 have H3:=Lib.hid (fun (hf:t.InForm) w' hb=>treesize_any t hf w' B (.agg (t.cells s)) ⟨s,rfl,TreesAt.later (w':=w') hs hb⟩)
 have HE:=Lib.hid (fun w' (hb:Below w.heap.size w w')=>hE.below hb)
 obtain ⟨p,cap,rfl,hlen⟩:=hs.slice
 have Z0:=Lib.hid (heap_alloc_new w (.cells (t.cells (.slice p t.subs.length cap)) 37))
 have hfi:=Tr.formB_iff t
 have HFI:=Lib.hid hfi
 have HCC:=Lib.hid (show t.checkC=if t.formB=false then 13 else if 200 < t.dpT then 14 else if 2000 < t.szT then 10 else 0 from rfl)
 clear hs hd hE hfi
 unfold Tr.cells at *
 go_enter Tryd.func22,Tryd.ntmps22
 go_wp2_with (first
   | (refine wpList_load_row rfl 37 (.tmp 1) rfl w.heap.size rfl 37 _ (0,0) _ Z0.out Tryd.underlying37 rfl (by kernel_rfl) ?_)
   | fail)
 refine (H1.out _ ((Below.refl _ _).alloc (Nat.le_refl _) _)).mono ?_
 rintro e w1 ⟨rfl,hb1⟩
 have Z1:=Lib.hid (keep_blk hb1 Z0.out)
 have HB1:=Lib.hid (((Below.refl w.heap.size w).alloc (Nat.le_refl _) _).trans (hb1.mono (by simp)))
 clear hb1 Z0
 cases hfb:t.formB with
 | false =>
   have hcc:=HCC.out
   rw [if_pos hfb] at hcc
   have HCV:=Lib.hid (show sentV A t.checkC=.iface 252 (.pointer (some (A 12))) by rw [hcc];rfl)
   have g:=((HE.out w1 HB1.out) 12 (by decide)).1
   have G:w1.cell? ⟨0,0,none⟩=some (.iface 252 (.pointer (some (A 12)))):=g
   clear hcc g HCC HFI hfb
   go_wp2
   go_ret
   exact ⟨congrArg Ending.returned HCV.out.symm,HB1.out⟩
 | true =>
   have hform:=HFI.out.1 hfb
   have H3':=Lib.hid (H3.out hform)
   have hcc:=HCC.out
   rw [if_neg (by rw [hfb];decide)] at hcc
   have HC2:=Lib.hid hcc
   clear hcc HCC HFI hfb hform H3
   go_wp2_with (first
     | (refine wpList_load_row rfl 37 (.tmp 1) rfl w.heap.size rfl 37 _ (0,0) _ Z1.out Tryd.underlying37 rfl (by kernel_rfl) ?_)
     | fail)
   refine (H2.out _ HB1.out).mono ?_
   rintro e w2 ⟨rfl,hb2⟩
   have Z2:=Lib.hid (keep_blk hb2 Z1.out)
   have HB2:=Lib.hid (HB1.out.trans (hb2.mono HB1.out.size))
   clear hb2 Z1
   by_cases hd:200 < t.dpT
   · have hcc:=HC2.out
     rw [if_pos hd] at hcc
     have HCV:=Lib.hid (show sentV A t.checkC=.iface 252 (.pointer (some (A 13))) by rw [hcc];rfl)
     have G:w2.cell? ⟨1,0,none⟩=some (.iface 252 (.pointer (some (A 13)))):=((HE.out w2 HB2.out) 13 (by decide)).1
     have e1:decide ((200:Int) < t.dpT)=true:=by simp;omega
     have e1':decide (200 < t.dpT)=true:=by simpa using hd
     clear hcc HC2 hd
     generalize t.dpT=D at *
     go_wp2
     go_ret
     exact ⟨congrArg Ending.returned HCV.out.symm,HB2.out⟩
   · have e1:decide ((200:Int) < t.dpT)=false:=by simp;omega
     have e1':decide (200 < t.dpT)=false:=by simpa using hd
     have hcc:=HC2.out
     rw [if_neg hd] at hcc
     have HC3:=Lib.hid hcc
     clear hcc HC2 hd
     generalize t.dpT=D at *
     go_wp2_with (first
       | (refine wpList_load_row rfl 37 (.tmp 1) rfl w.heap.size rfl 37 _ (0,0) _ Z2.out Tryd.underlying37 rfl (by kernel_rfl) ?_)
       | fail)
     refine (H3'.out _ HB2.out).mono ?_
     rintro e w3 ⟨rfl,hb3⟩
     have HB3:=Lib.hid (HB2.out.trans (hb3.mono HB2.out.size))
     clear hb3 Z2
     by_cases hz:2000 < t.szT
     · have hcc:=HC3.out
       rw [if_pos hz] at hcc
       have HCV:=Lib.hid (show sentV A t.checkC=.iface 252 (.pointer (some (A 9))) by rw [hcc];rfl)
       have G:w3.cell? ⟨2,0,none⟩=some (.iface 252 (.pointer (some (A 9)))):=((HE.out w3 HB3.out) 9 (by decide)).1
       have z1:decide ((2000:Int) < t.szT)=true:=by simp;omega
       have z1':decide (2000 < t.szT)=true:=by simpa using hz
       clear hcc HC3 hz
       generalize t.szT=ZT at *
       go_wp2
       go_ret
       exact ⟨congrArg Ending.returned HCV.out.symm,HB3.out⟩
     · have z1:decide ((2000:Int) < t.szT)=false:=by simp;omega
       have z1':decide (2000 < t.szT)=false:=by simpa using hz
       have hcc:=HC3.out
       rw [if_neg hz] at hcc
       have HCV:=Lib.hid (show sentV A t.checkC=.nilIface by rw [hcc];rfl)
       clear hcc HC3 hz
       generalize t.szT=ZT at *
       go_wp2
       go_ret
       exact ⟨congrArg Ending.returned HCV.out.symm,HB3.out⟩
end Go.Proofs.YtllfgppjobinnaaDoor
namespace Go.Proofs.YtllfgppjobinnaaDoor
open Go.RowKit
namespace Tr
def leaf (k:Int):Tr:=.node k 0#64 0#64 0#64 0#64 [] 0 0 0 false
def bytes (P:Nat→Bool):Tr:=.node 2 (Oc.mk P 0) (Oc.mk P 1) (Oc.mk P 2) (Oc.mk P 3) [] 0 0 0 false
def many (k:Int) (l:List Tr):Tr:=.node k 0#64 0#64 0#64 0#64 l 0 0 0 false
def grp (n:Int) (t:Tr):Tr:=.node 7 0#64 0#64 0#64 0#64 [t] n 0 0 false
def rep (lo hi:Int) (t:Tr):Tr:=.node 8 0#64 0#64 0#64 0#64 [t] 0 lo hi false
def several (k:Int):List Tr→Tr
 | []=>leaf 1
 | [t]=>t
 | l=>many k l
theorem several_many {k:Int} {l:List Tr} (h:2 ≤ l.length):several k l=many k l:=by
 match l,h with
 | _ :: _ :: _,_=>rfl
end Tr
theorem u0:Oc.U 0#64=0:=by decide
abbrev noNode:Array Value:=#[.int .i64 0,.int .u64 0,.int .u64 0,.int .u64 0,.int .u64 0,.slice none 0 0,.int .i64 0,.int .i64 0,.int .i64 0,.bool false]
theorem joined_many (k:Int) (ts:List Tr) (h2:2 ≤ ts.length) (x:Tr) (w:World) (B:Nat→Prop) (v:Value) (hs:TreesAt w B v ts) :
   Calls Tryd.prog 64 #[.int .i64 k,v,.agg (x.cells (.slice none 0 0))] w (OwnEnd (.many k ts) w):=by
 obtain ⟨p,cap,rfl,hlen⟩:=hs.slice
 have e0:((ts.length:Int) == 0)=false:=by rw [beq_eq_false_iff_ne];omega
 have e1:((ts.length:Int) == 1)=false:=by rw [beq_eq_false_iff_ne];omega
 have HC:=Lib.hid (fun w9 (hb:Below w.heap.size w w9)=>copies_any ts w9 B _ (hs.later hb))
 unfold Tr.cells
 clear hs
 go_enter Tryd.func64,Tryd.ntmps64
 go_wp2_with fail
 generalize hw1:World.alloc (World.alloc w _) _=w1
 have hb1:Below w.heap.size w w1:=by rw [← hw1];go_grown
 have hs1:w1.heap.size=w.heap.size+2:=by rw [← hw1];simp
 have Z1:=Lib.hid (show w1.heap[w.heap.size+1]? = some (.cells noNode 37) by rw [← hw1];exact (two_new w _ _).2)
 have HB1:=Lib.hid hb1
 clear hw1 hb1
 refine (HC.out w1 HB1.out).mono ?_
 rintro e w2 ⟨s2,F,rfl,ho,hF,hb2⟩
 obtain ⟨p2,c2,rfl,hl2⟩:=ho.slice
 have HO:=Lib.hid ho;have HF:=Lib.hid hF
 have Y1:=Lib.hid (keep_blk hb2 Z1.out)
 have HB2:=Lib.hid (HB1.out.trans (hb2.mono HB1.out.size))
 clear ho hF hb2
 go_wp2_with (first
   | (refine wpList_store_row rfl 37 (.tmp 6) (.tmp 21) rfl (w.heap.size+1) #[.int .i64 k,.int .u64 0,.int .u64 0,.int .u64 0,.int .u64 0,.slice p2 ts.length c2,.int .i64 0,.int .i64 0,.int .i64 0,.bool false] rfl rfl 37 _ Y1.out (by kernel_rfl) rfl (by simp [Value.oneCell']) ?_)
   | fail)
 refine bodyPost_ret (results_cell_row rfl _ _ (w.heap.size+1) 37 #[.int .i64 k,.int .u64 0,.int .u64 0,.int .u64 0,.int .u64 0,.slice p2 ts.length c2,.int .i64 0,.int .i64 0,.int .i64 0,.bool false] (0,0) _ rfl (heap_setRow Y1.out) Tryd.underlying37 rfl (by kernel_rfl)) rfl ⟨.slice p2 ts.length c2,F,rfl, ?_, ?_, ?_⟩
 · exact HO.out.keep fun b hb=>by have:=HF.out b hb;rw [heap_setRow_other _ _ _ (by omega)]
 · intro b hb;have:=HF.out b hb;omega
 · exact below_setRow HB2.out (Nat.le_succ _) _
theorem joined_one (k:Int) (t x:Tr) (w:World) (B:Nat→Prop) (v:Value) (hs:TreesAt w B v [t]) :
   Calls Tryd.prog 64 #[.int .i64 k,v,.agg (x.cells (.slice none 0 0))] w (OwnEnd t w):=by
 obtain ⟨p,cap,rfl,hlen⟩:=hs.slice
 have hs:TreesAt w B (.slice p 1 cap) [t]:=hs
 obtain ⟨b1,o1,s1,rfl,-,t1,sub1⟩:=hs.get (i:=0) (t:=t) rfl
 have t1':TenAt w b1 o1 t s1:=by simpa using t1
 have HC:=Lib.hid (fun w9 (hb:Below w.heap.size w w9)=>copy_any t w9 B _ ⟨s1,rfl,sub1.later hb⟩)
 have hb0:Below w.heap.size w ((w.alloc (.cells (x.cells (.slice none 0 0)) 37)).alloc (.cells noNode 37)):=by go_grown
 have T1:=Lib.hid (t1'.keep (hb0.block _ t1'.lt))
 have hz1:=(two_new w (.cells (x.cells (.slice none 0 0)) 37) (.cells noNode 37)).2
 have Z1:=Lib.hid hz1;have HB1:=Lib.hid hb0
 have hs1:((w.alloc (.cells (x.cells (.slice none 0 0)) 37)).alloc (.cells noNode 37)).heap.size=w.heap.size+2:=by simp
 unfold Tr.cells at *
 simp only [List.length_singleton]
 obtain ⟨d0,d1,d2,d3,d4,d5,d6,d7,d8,d9⟩:=T1.out
 clear hs t1 t1' sub1 hlen hb0 hz1 hs1
 go_enter Tryd.func64,Tryd.ntmps64
 go_wp2_with fail
 clear d0 d1 d2 d3 d4 d5 d6 d7 d8 d9
 refine (HC.out _ HB1.out).mono ?_
 rintro e w2 ⟨s2,F,rfl,ho,hF,hb2⟩
 obtain ⟨p2,c2,rfl,hl2⟩:=ho.slice
 have HO:=Lib.hid ho;have HF:=Lib.hid hF
 have Y1:=Lib.hid (keep_blk hb2 Z1.out)
 have HB2:=Lib.hid (HB1.out.trans (hb2.mono HB1.out.size))
 clear ho hF hb2 Z1 HB1
 go_wp2_with (first
   | (refine wpList_store_row rfl 37 (.tmp 6) (.tmp 17) rfl (w.heap.size+1) #[.int .i64 t.kind,.int .u64 (Oc.U t.w0),.int .u64 (Oc.U t.w1),.int .u64 (Oc.U t.w2),.int .u64 (Oc.U t.w3),.slice p2 t.subs.length c2,.int .i64 t.num,.int .i64 t.least,.int .i64 t.most,.bool t.bare] rfl rfl 37 _ Y1.out (by kernel_rfl) rfl (by simp [Value.oneCell']) ?_)
   | fail)
 refine bodyPost_ret (results_cell_row rfl _ _ (w.heap.size+1) 37 #[.int .i64 t.kind,.int .u64 (Oc.U t.w0),.int .u64 (Oc.U t.w1),.int .u64 (Oc.U t.w2),.int .u64 (Oc.U t.w3),.slice p2 t.subs.length c2,.int .i64 t.num,.int .i64 t.least,.int .i64 t.most,.bool t.bare] (0,0) _ rfl (heap_setRow Y1.out) Tryd.underlying37 rfl (by kernel_rfl)) rfl ⟨.slice p2 t.subs.length c2,F,rfl, ?_, ?_, ?_⟩
 · exact HO.out.keep fun b hb=>by have:=HF.out b hb;rw [heap_setRow_other _ _ _ (by simp at this;omega)]
 · intro b hb;have:=HF.out b hb;simp at this;omega
 · exact below_setRow HB2.out (Nat.le_succ _) _
theorem joined_nil (k:Int) (x:Tr) (w:World) (p:Option Addr) (cap:Nat) (hx:x.subs=[]) :
   Calls Tryd.prog 64 #[.int .i64 k,.slice p 0 cap,.agg (x.cells (.slice none 0 0))] w (OwnEnd x w):=by
 have z0:=(two_new w (.cells (x.cells (.slice none 0 0)) 37) (.cells noNode 37)).1
 have z1:=(two_new w (.cells (x.cells (.slice none 0 0)) 37) (.cells noNode 37)).2
 have Z0:=Lib.hid z0;have Z1:=Lib.hid z1;have HX:=Lib.hid hx
 clear z0 z1 hx
 unfold Tr.cells at *
 go_enter Tryd.func64,Tryd.ntmps64
 go_wp2_with (first
   | (refine wpList_load_row rfl 37 (.tmp 5) rfl w.heap.size rfl 37 _ (0,0) _ Z0.out Tryd.underlying37 rfl (by kernel_rfl) ?_)
   | (refine wpList_store_row rfl 37 (.tmp 6) (.tmp 11) rfl (w.heap.size+1) #[.int .i64 x.kind,.int .u64 (Oc.U x.w0),.int .u64 (Oc.U x.w1),.int .u64 (Oc.U x.w2),.int .u64 (Oc.U x.w3),.slice none 0 0,.int .i64 x.num,.int .i64 x.least,.int .i64 x.most,.bool x.bare] rfl rfl 37 _ Z1.out (by kernel_rfl) rfl (by simp [Value.oneCell']) ?_)
   | fail)
 refine bodyPost_ret (results_cell_row rfl _ _ (w.heap.size+1) 37 #[.int .i64 x.kind,.int .u64 (Oc.U x.w0),.int .u64 (Oc.U x.w1),.int .u64 (Oc.U x.w2),.int .u64 (Oc.U x.w3),.slice none 0 0,.int .i64 x.num,.int .i64 x.least,.int .i64 x.most,.bool x.bare] (0,0) _ rfl (heap_setRow Z1.out) Tryd.underlying37 rfl (by kernel_rfl)) rfl ⟨.slice none 0 0,[],rfl, ?_, ?_, ?_⟩
 · rw [HX.out];exact .nil _ _
 · intro b hb;cases hb
 · exact below_setRow (by go_grown) (Nat.le_succ _) _
theorem joined_any (k:Int) (ts:List Tr) (x:Tr) (hx:x.subs=[]) (w:World) (B:Nat→Prop) (v:Value) (hs:TreesAt w B v ts) (h0:ts=[]→x=.leaf 1) :
   Calls Tryd.prog 64 #[.int .i64 k,v,.agg (x.cells (.slice none 0 0))] w (OwnEnd (.several k ts) w):=by
 match ts,hs,h0 with
 | [],hs,h0 =>
   obtain ⟨p,cap,rfl,-⟩:=hs.slice
   obtain rfl:=h0 rfl
   exact joined_nil k _ w p cap rfl
 | [t],hs,_=>exact joined_one k t x w B v hs
 | a :: b :: r,hs,_=>exact joined_many k (a :: b :: r) (by simp) x w B v hs
theorem seq_any (ts:List Tr) (w:World) (B:Nat→Prop) (v:Value) (hs:TreesAt w B v ts):Calls Tryd.prog 25 #[v] w (OwnEnd (.several 5 ts) w):=by
 have HC:=Lib.hid (fun w9 (hb:Below w.heap.size w w9)=>joined_any 5 ts (.leaf 1) rfl w9 B _ (hs.later hb) (fun _=>rfl))
 obtain ⟨p,cap,rfl,hlen⟩:=hs.slice
 simp only [Tr.leaf,Tr.cells,Tr.kind,Tr.w0,Tr.w1,Tr.w2,Tr.w3,Tr.num,Tr.least,Tr.most,Tr.bare,u0] at HC
 clear hs
 go_enter Tryd.func25,Tryd.ntmps25
 go_wp2_with fail
 have z0:=heap_alloc_new w (.cells noNode 37)
 have Z0:=Lib.hid z0
 clear z0
 refine (HC.out _ ((Below.refl _ _).alloc (Nat.le_refl _) _)).mono ?_
 rintro e w2 ⟨s2,F,rfl,ho,hF,hb2⟩
 obtain ⟨p2,c2,rfl,hl2⟩:=ho.slice
 have HO:=Lib.hid ho;have HF:=Lib.hid hF
 have Y0:=Lib.hid (keep_blk hb2 Z0.out)
 have HB2:=Lib.hid (((Below.refl w.heap.size w).alloc (Nat.le_refl _) (.cells noNode 37)).trans (hb2.mono (by simp)))
 generalize Tr.several 5 ts=t at *
 clear ho hF hb2
 unfold Tr.cells
 go_wp2_with (first
   | (refine wpList_store_row rfl 37 (.tmp 2) (.tmp 5) rfl w.heap.size #[.int .i64 t.kind,.int .u64 (Oc.U t.w0),.int .u64 (Oc.U t.w1),.int .u64 (Oc.U t.w2),.int .u64 (Oc.U t.w3),.slice p2 t.subs.length c2,.int .i64 t.num,.int .i64 t.least,.int .i64 t.most,.bool t.bare] rfl rfl 37 _ Y0.out (by kernel_rfl) rfl (by simp [Value.oneCell']) ?_)
   | fail)
 refine bodyPost_ret (results_cell_row rfl _ _ w.heap.size 37 #[.int .i64 t.kind,.int .u64 (Oc.U t.w0),.int .u64 (Oc.U t.w1),.int .u64 (Oc.U t.w2),.int .u64 (Oc.U t.w3),.slice p2 t.subs.length c2,.int .i64 t.num,.int .i64 t.least,.int .i64 t.most,.bool t.bare] (0,0) _ rfl (heap_setRow Y0.out) Tryd.underlying37 rfl (by kernel_rfl)) rfl ⟨.slice p2 t.subs.length c2,F,rfl, ?_, ?_, ?_⟩
 · exact HO.out.keep fun b hb=>by have:=HF.out b hb;rw [heap_setRow_other _ _ _ (by simp at this;omega)]
 · intro b hb;have:=HF.out b hb;simp at this;omega
 · exact below_setRow HB2.out (Nat.le_refl _) _
theorem bytes_is (a b c d:BitVec 64) (w:World):Calls Tryd.prog 65 #[(.agg #[.int .u64 (Oc.U a),.int .u64 (Oc.U b),.int .u64 (Oc.U c),.int .u64 (Oc.U d)])] w fun e w'=>e=.returned (.agg #[.int .i64 2,.int .u64 (Oc.U a),.int .u64 (Oc.U b),.int .u64 (Oc.U c),.int .u64 (Oc.U d),.slice none 0 0,.int .i64 0,.int .i64 0,.int .i64 0,.bool false])∧Below w.heap.size w w':=by
 have z0:=(two_new w (.cells #[.int .u64 (Oc.U a),.int .u64 (Oc.U b),.int .u64 (Oc.U c),.int .u64 (Oc.U d)] 24) (.cells noNode 37)).1
 have z1:=(two_new w (.cells #[.int .u64 (Oc.U a),.int .u64 (Oc.U b),.int .u64 (Oc.U c),.int .u64 (Oc.U d)] 24) (.cells noNode 37)).2
 have Z0:=Lib.hid z0;have Z1:=Lib.hid z1
 clear z0 z1
 go_enter Tryd.func65,Tryd.ntmps65
 go_wp2_with (first
   | (refine wpList_load_row rfl 24 (.tmp 1) rfl w.heap.size rfl 24 _ (0,0) _ Z0.out Tryd.underlying24 rfl (by kernel_rfl) ?_)
   | (refine wpList_store_row rfl 37 (.tmp 2) (.tmp 4) rfl (w.heap.size+1) #[.int .i64 2,.int .u64 (Oc.U a),.int .u64 (Oc.U b),.int .u64 (Oc.U c),.int .u64 (Oc.U d),.slice none 0 0,.int .i64 0,.int .i64 0,.int .i64 0,.bool false] rfl rfl 37 _ Z1.out (by kernel_rfl) rfl (by simp [Value.oneCell']) ?_)
   | fail)
 exact bodyPost_ret (results_cell_row rfl _ _ (w.heap.size+1) 37 #[.int .i64 2,.int .u64 (Oc.U a),.int .u64 (Oc.U b),.int .u64 (Oc.U c),.int .u64 (Oc.U d),.slice none 0 0,.int .i64 0,.int .i64 0,.int .i64 0,.bool false] (0,0) _ rfl (heap_setRow Z1.out) Tryd.underlying37 rfl (by kernel_rfl)) rfl ⟨rfl,below_setRow (by go_grown) (Nat.le_succ _) _⟩
theorem bytes_any (P:Nat→Bool) (w:World):Calls Tryd.prog 65 #[(.agg #[.int .u64 (Oc.U (Oc.mk P 0)),.int .u64 (Oc.U (Oc.mk P 1)),.int .u64 (Oc.U (Oc.mk P 2)),.int .u64 (Oc.U (Oc.mk P 3))])] w (OwnEnd (.bytes P) w):=by
 refine (bytes_is _ _ _ _ w).mono ?_
 rintro e w' ⟨rfl,hb⟩
 exact ⟨.slice none 0 0,[],rfl,.nil _ _,fun b hb=>(by cases hb),hb⟩
theorem alt_any (ts:List Tr) (hne:ts ≠ []) (w:World) (B:Nat→Prop) (v:Value) (hs:TreesAt w B v ts):Calls Tryd.prog 24 #[v] w (OwnEnd (.several 6 ts) w):=by
 have HC:=Lib.hid (fun w9 (hb:Below w.heap.size w w9)=>joined_any 6 ts (.node 2 0#64 0#64 0#64 0#64 [] 0 0 0 false) rfl w9 B _ (hs.later hb) (fun h=>absurd h hne))
 have HY:=Lib.hid (fun w9=>bytes_is 0#64 0#64 0#64 0#64 w9)
 obtain ⟨p,cap,rfl,hlen⟩:=hs.slice
 simp only [Tr.cells,Tr.kind,Tr.w0,Tr.w1,Tr.w2,Tr.w3,Tr.num,Tr.least,Tr.most,Tr.bare,u0] at HC HY
 clear hs hne
 go_enter Tryd.func24,Tryd.ntmps24
 go_wp2_with fail
 have z0:=heap_alloc_new w (.cells noNode 37)
 refine (HY.out _).mono ?_
 rintro e w1 ⟨rfl,hb1⟩
 have Z0:=Lib.hid (keep_blk hb1 z0)
 have HB1:=Lib.hid (((Below.refl w.heap.size w).alloc (Nat.le_refl _) (.cells noNode 37)).trans (hb1.mono (by simp)))
 have hs1:w.heap.size < w1.heap.size:=by have:=hb1.size;simp at this;omega
 clear z0 hb1
 go_wp2_with fail
 refine (HC.out _ HB1.out).mono ?_
 rintro e w2 ⟨s2,F,rfl,ho,hF,hb2⟩
 obtain ⟨p2,c2,rfl,hl2⟩:=ho.slice
 have HO:=Lib.hid ho;have HF:=Lib.hid hF
 have Y0:=Lib.hid (keep_blk hb2 Z0.out)
 have HB2:=Lib.hid (HB1.out.trans (hb2.mono HB1.out.size))
 generalize Tr.several 6 ts=t at *
 clear ho hF hb2
 unfold Tr.cells
 go_wp2_with (first
   | (refine wpList_store_row rfl 37 (.tmp 2) (.tmp 6) rfl w.heap.size #[.int .i64 t.kind,.int .u64 (Oc.U t.w0),.int .u64 (Oc.U t.w1),.int .u64 (Oc.U t.w2),.int .u64 (Oc.U t.w3),.slice p2 t.subs.length c2,.int .i64 t.num,.int .i64 t.least,.int .i64 t.most,.bool t.bare] rfl rfl 37 _ Y0.out (by kernel_rfl) rfl (by simp [Value.oneCell']) ?_)
   | fail)
 refine bodyPost_ret (results_cell_row rfl _ _ w.heap.size 37 #[.int .i64 t.kind,.int .u64 (Oc.U t.w0),.int .u64 (Oc.U t.w1),.int .u64 (Oc.U t.w2),.int .u64 (Oc.U t.w3),.slice p2 t.subs.length c2,.int .i64 t.num,.int .i64 t.least,.int .i64 t.most,.bool t.bare] (0,0) _ rfl (heap_setRow Y0.out) Tryd.underlying37 rfl (by kernel_rfl)) rfl ⟨.slice p2 t.subs.length c2,F,rfl, ?_, ?_, ?_⟩
 · exact HO.out.keep fun b hb=>by have:=HF.out b hb;rw [heap_setRow_other _ _ _ (by omega)]
 · intro b hb;have:=HF.out b hb;omega
 · exact below_setRow HB2.out (Nat.le_refl _) _
theorem one_list {w:World} {B:Nat→Prop} {t:Tr} {s:Value} (hs:TreesAt w B s t.subs) (ty:TypeId) (g:Nat) (hg:w.heap.size=g):TreesAt (w.alloc (.cells (t.cells s) ty)) (fun b=>B b ∨ b=w.heap.size) (.slice (some ⟨g,0,none⟩) 1 1) [t]:=by
 subst hg
 have hb:Below w.heap.size w (w.alloc (.cells (t.cells s) ty)):=(Below.refl _ _).alloc (Nat.le_refl _) _
 have hc:∀ j,(w.alloc (.cells (t.cells s) ty)).cell? ⟨w.heap.size,j,none⟩=(t.cells s)[j]?:=cell_new w _ ty
 refine .mk (some ⟨w.heap.size,0,none⟩) 1 [t] (fun _=>s) (by simp) (fun i u hi=>?_) (fun i u hi=>?_)
 · match i,hi with
   | 0,hi =>
     obtain rfl:t=u:=Option.some.inj hi
     exact ⟨w.heap.size,0,rfl,.inr rfl,⟨hc 0,hc 1,hc 2,hc 3,hc 4,hc 5,hc 6,hc 7,hc 8,hc 9⟩⟩
 · match i,hi with
   | 0,hi =>
     obtain rfl:t=u:=Option.some.inj hi
     exact (hs.later hb).mono fun b _ h=>.inl h
theorem group_any (t:Tr) (n:Int) (w:World) (B:Nat→Prop) (v:Value) (hv:NodeV w B v t):Calls Tryd.prog 39 #[.int .i64 n,v] w (OwnEnd (.grp n t) w):=by
 obtain ⟨s,rfl,hs⟩:=hv
 obtain ⟨p,cap,rfl,hlen⟩:=hs.slice
 have hb1:Below w.heap.size w ((w.alloc (.cells (t.cells (.slice p t.subs.length cap)) 37)).alloc (.cells noNode 37)):=by go_grown
 have z0:=(two_new w (.cells (t.cells (.slice p t.subs.length cap)) 37) (.cells noNode 37)).1
 have z1:=(two_new w (.cells (t.cells (.slice p t.subs.length cap)) 37) (.cells noNode 37)).2
 have HC:=Lib.hid (copies_any [t] _ _ _ (one_list (hs.later hb1) 37 (w.heap.size+1+1) (by simp)))
 have HB1:=Lib.hid (hb1.alloc hb1.size (.cells (t.cells (.slice p t.subs.length cap)) 37))
 have Z0:=Lib.hid z0;have Z1:=Lib.hid (heap_alloc_lt (o:=.cells (t.cells (.slice p t.subs.length cap)) 37) z1)
 clear hs hb1 z0 z1
 unfold Tr.cells at *
 go_enter Tryd.func39,Tryd.ntmps39
 go_wp2_with (first
   | (refine wpList_load_row rfl 37 (.tmp 3) rfl w.heap.size rfl 37 _ (0,0) _ Z0.out Tryd.underlying37 rfl (by kernel_rfl) ?_)
   | (refine wpList_node1 rfl (.tmp 6) t p t.subs.length cap rfl rfl ?_)
   | fail)
 unfold Tr.cells
 refine HC.out.mono ?_
 rintro e w2 ⟨s2,F,rfl,ho,hF,hb2⟩
 obtain ⟨p2,c2,rfl,hl2⟩:=ho.slice
 have HO:=Lib.hid ho;have HF:=Lib.hid hF
 have Y1:=Lib.hid (keep_blk hb2 Z1.out)
 have HB2:=Lib.hid (HB1.out.trans (hb2.mono HB1.out.size))
 clear ho hF hb2 Z0 Z1 HB1
 simp only [List.length_singleton]
 go_wp2_with (first
   | (refine wpList_store_row rfl 37 (.tmp 4) (.tmp 9) rfl (w.heap.size+1) #[.int .i64 7,.int .u64 0,.int .u64 0,.int .u64 0,.int .u64 0,.slice p2 1 c2,.int .i64 n,.int .i64 0,.int .i64 0,.bool false] rfl rfl 37 _ Y1.out (by kernel_rfl) rfl (by simp [Value.oneCell']) ?_)
   | fail)
 refine bodyPost_ret (results_cell_row rfl _ _ (w.heap.size+1) 37 #[.int .i64 7,.int .u64 0,.int .u64 0,.int .u64 0,.int .u64 0,.slice p2 1 c2,.int .i64 n,.int .i64 0,.int .i64 0,.bool false] (0,0) _ rfl (heap_setRow Y1.out) Tryd.underlying37 rfl (by kernel_rfl)) rfl ⟨.slice p2 1 c2,F,rfl, ?_, ?_, ?_⟩
 · exact HO.out.keep fun b hb=>by have:=HF.out b hb;rw [heap_setRow_other _ _ _ (by simp at this;omega)]
 · intro b hb;have:=HF.out b hb;simp at this;omega
 · exact below_setRow HB2.out (Nat.le_succ _) _
theorem rep_any (t:Tr) (lo hi:Int) (w:World) (B:Nat→Prop) (v:Value) (hv:NodeV w B v t):Calls Tryd.prog 23 #[v,.int .i64 lo,.int .i64 hi] w (OwnEnd (.rep lo hi t) w):=by
 obtain ⟨s,rfl,hs⟩:=hv
 obtain ⟨p,cap,rfl,hlen⟩:=hs.slice
 have hb1:Below w.heap.size w ((w.alloc (.cells (t.cells (.slice p t.subs.length cap)) 37)).alloc (.cells noNode 37)):=by go_grown
 have z0:=(two_new w (.cells (t.cells (.slice p t.subs.length cap)) 37) (.cells noNode 37)).1
 have z1:=(two_new w (.cells (t.cells (.slice p t.subs.length cap)) 37) (.cells noNode 37)).2
 have HC:=Lib.hid (copies_any [t] _ _ _ (one_list (hs.later hb1) 37 (w.heap.size+1+1) (by simp)))
 have HB1:=Lib.hid (hb1.alloc hb1.size (.cells (t.cells (.slice p t.subs.length cap)) 37))
 have Z0:=Lib.hid z0;have Z1:=Lib.hid (heap_alloc_lt (o:=.cells (t.cells (.slice p t.subs.length cap)) 37) z1)
 clear hs hb1 z0 z1
 unfold Tr.cells at *
 go_enter Tryd.func23,Tryd.ntmps23
 go_wp2_with (first
   | (refine wpList_load_row rfl 37 (.tmp 3) rfl w.heap.size rfl 37 _ (0,0) _ Z0.out Tryd.underlying37 rfl (by kernel_rfl) ?_)
   | (refine wpList_node1 rfl (.tmp 9) t p t.subs.length cap rfl rfl ?_)
   | fail)
 unfold Tr.cells
 refine HC.out.mono ?_
 rintro e w2 ⟨s2,F,rfl,ho,hF,hb2⟩
 obtain ⟨p2,c2,rfl,hl2⟩:=ho.slice
 have HO:=Lib.hid ho;have HF:=Lib.hid hF
 have Y1:=Lib.hid (keep_blk hb2 Z1.out)
 have HB2:=Lib.hid (HB1.out.trans (hb2.mono HB1.out.size))
 clear ho hF hb2 Z0 Z1 HB1
 simp only [List.length_singleton]
 go_wp2_with (first
   | (refine wpList_store_row rfl 37 (.tmp 6) (.tmp 12) rfl (w.heap.size+1) #[.int .i64 8,.int .u64 0,.int .u64 0,.int .u64 0,.int .u64 0,.slice p2 1 c2,.int .i64 0,.int .i64 lo,.int .i64 hi,.bool false] rfl rfl 37 _ Y1.out (by kernel_rfl) rfl (by simp [Value.oneCell']) ?_)
   | fail)
 refine bodyPost_ret (results_cell_row rfl _ _ (w.heap.size+1) 37 #[.int .i64 8,.int .u64 0,.int .u64 0,.int .u64 0,.int .u64 0,.slice p2 1 c2,.int .i64 0,.int .i64 lo,.int .i64 hi,.bool false] (0,0) _ rfl (heap_setRow Y1.out) Tryd.underlying37 rfl (by kernel_rfl)) rfl ⟨.slice p2 1 c2,F,rfl, ?_, ?_, ?_⟩
 · exact HO.out.keep fun b hb=>by have:=HF.out b hb;rw [heap_setRow_other _ _ _ (by simp at this;omega)]
 · intro b hb;have:=HF.out b hb;simp at this;omega
 · exact below_setRow HB2.out (Nat.le_succ _) _
end Go.Proofs.YtllfgppjobinnaaDoor
namespace Go.Proofs.YtllfgppjobinnaaDoor
open Go.RowKit
namespace Tr
mutual
def ndT:Tr→Nat
 | .node _ _ _ _ _ s _ _ _ _=>1+ndS s
def ndS:List Tr→Nat
 | []=>0
 | t :: l=>ndT t+ndS l
end
theorem ndT_eq (t:Tr):t.ndT=1+ndS t.subs:=by cases t;rw [ndT];rfl
mutual
def leftT:Tr→Int→Int
 | .node _ _ _ _ _ s _ _ _ _,m=>leftS s (m - 1)
def leftS:List Tr→Int→Int
 | [],m=>m
 | t :: l,m=>if 0 ≤ m then leftS l (leftT t m) else m
end
theorem leftT_eq (t:Tr) (m:Int):t.leftT m=leftS t.subs (m - 1):=by cases t;rw [leftT];rfl
theorem leftS_neg (l:List Tr) {m:Int} (h:m < 0):leftS l m=m:=by
 cases l with
 | nil=>rfl
 | cons t l=>rw [leftS,if_neg (by omega)]
theorem leftS_spec:∀ (l:List Tr),(∀ t,t ∈ l→∀ m,0 ≤ m→t.leftT m ≤ m∧-1 ≤ t.leftT m∧(0 ≤ t.leftT m→t.leftT m=m - t.ndT)∧((t.ndT:Int) ≤ m→0 ≤ t.leftT m))→∀ m,-1 ≤ m→leftS l m ≤ m∧-1 ≤ leftS l m∧(0 ≤ leftS l m→leftS l m=m - ndS l)∧(0 ≤ m→(ndS l:Int) ≤ m→0 ≤ leftS l m)
 | [],_,m,hm=>by rw [leftS,ndS];exact ⟨Int.le_refl _,hm,fun _=>by omega,fun h _=>h⟩
 | t :: l,ih,m,hm=>by
   rw [leftS,ndS]
   split
   · rename_i h0
     obtain ⟨h1,h2,h3,h4⟩:=ih t List.mem_cons_self m h0
     obtain ⟨k1,k2,k3,k4⟩:=leftS_spec l (fun u hu=>ih u (List.mem_cons_of_mem _ hu)) (t.leftT m) h2
     refine ⟨by omega,k2,fun h=>?_,fun _ h=>?_⟩
     · have:=h3 (by omega)
       have:=k3 h
       omega
     · have a:=h4 (by omega)
       have b:=h3 a
       exact k4 a (by omega)
   · rename_i h0
     exact ⟨Int.le_refl _,hm,fun h=>absurd h h0,fun h=>absurd h h0⟩
theorem leftT_spec:∀ (t:Tr) (m:Int),0 ≤ m→t.leftT m ≤ m∧-1 ≤ t.leftT m∧(0 ≤ t.leftT m→t.leftT m=m - t.ndT)∧((t.ndT:Int) ≤ m→0 ≤ t.leftT m):=by
 intro t
 induction t using Tr.rec_subs with
 | h t ih =>
   intro m hm
   rw [leftT_eq,ndT_eq]
   obtain ⟨k1,k2,k3,k4⟩:=leftS_spec t.subs (fun u hu=>ih u hu) (m - 1) (by omega)
   exact ⟨by omega,k2,fun h=>by have:=k3 h;omega,fun h=>k4 (by omega) (by omega)⟩
end Tr
theorem numleft_any:∀ t:Tr,∀ m0:Nat,m0 ≤ 1000000→∀ (w:World) (B:Nat→Prop) (v:Value),NodeV w B v t→Calls Tryd.prog 70 #[v,.int .i64 m0] w fun e w'=>e=.returned (.int .i64 (t.leftT m0))∧Below w.heap.size w w':=by
 intro t
 induction t using Tr.rec_subs with
 | h t ih =>
   intro m0 hm0 w B v hv
   obtain ⟨s,rfl,hs⟩:=hv
   obtain ⟨p,cap,rfl,hlen⟩:=hs.slice
   have hsp:=Tr.leftS_spec t.subs (fun u _=>Tr.leftT_spec u)
   rw [Tr.leftT_eq]
   generalize hts:t.subs=ts at *
   have IH:=Lib.hid ih;have HS:=Lib.hid hs;have HSP:=Lib.hid hsp
   clear ih hs hts hsp
   unfold Tr.cells at *
   obtain ⟨R,hR⟩:∃ R,Tr.leftS ts ((m0:Int) - 1)=R:=⟨_,rfl⟩
   rw [hR]
   have HR:=Lib.hid hR
   clear hR
   have w0:IntKind.i64.wrap ((m0:Int) - 1)=(m0:Int) - 1:=IntWalk.i64_in _ (by omega)
   have Z0:=Lib.hid (heap_alloc_new w (.cells #[.int .i64 t.kind,.int .u64 (Oc.U t.w0),.int .u64 (Oc.U t.w1),.int .u64 (Oc.U t.w2),.int .u64 (Oc.U t.w3),.slice p ts.length cap,.int .i64 t.num,.int .i64 t.least,.int .i64 t.most,.bool t.bare] 37))
   have HW:=Lib.hid (show Below w.heap.size w (w.alloc (.cells #[.int .i64 t.kind,.int .u64 (Oc.U t.w0),.int .u64 (Oc.U t.w1),.int .u64 (Oc.U t.w2),.int .u64 (Oc.U t.w3),.slice p ts.length cap,.int .i64 t.num,.int .i64 t.least,.int .i64 t.most,.bool t.bare] 37)) from (Below.refl _ _).alloc (Nat.le_refl _) _)
   go_enter Tryd.func70,Tryd.ntmps70
   go_wp2
   generalize w.alloc (.cells #[.int .i64 t.kind,.int .u64 (Oc.U t.w0),.int .u64 (Oc.U t.w1),.int .u64 (Oc.U t.w2),.int .u64 (Oc.U t.w3),.slice p ts.length cap,.int .i64 t.num,.int .i64 t.least,.int .i64 t.most,.bool t.bare] 37)=W0 at *
   go_loopw [1,5] (fun mv iv wr=>∃ (i:Nat) (m:Int),iv=.int .i64 i∧mv=.int .i64 m∧i ≤ ts.length∧-1 ≤ m∧m ≤ 1000000∧Hid (Tr.leftS (ts.drop i) m=R)∧Hid (Below W0.heap.size W0 wr)) (fun _ iv _=>ts.length - (intOf iv).toNat)
   case atStart=>exact ⟨0,(m0:Int) - 1,rfl,rfl,Nat.zero_le _,by omega,by omega,by rw [List.drop_zero];exact HR,Lib.hid (Below.refl _ _)⟩
   case round =>
     obtain ⟨i,m,rfl,rfl,hi,hm1,hm2,HL,HB⟩:=hrel
     have wi:IntKind.i64.wrap ((i:Int)+1)=(i:Int)+1:=IntWalk.i64_in _ (by omega)
     have HBW:=Lib.hid (HW.out.trans (HB.out.mono HW.out.size))
     have Z1:=Lib.hid (keep_blk (HB.out.mono (Nat.le_refl _)) Z0.out)
     obtain ⟨d0,d1,d2,d3,d4,d5,d6,d7,d8,d9⟩:=allTen Z1.out
     by_cases hlt:i < ts.length
     · by_cases hmz:0 ≤ m
       · obtain ⟨mn,rfl⟩:∃ mn:Nat,m=mn:=⟨m.toNat,by omega⟩
         have gm:decide ((0:Int) ≤ (mn:Int))=true:=by simp
         obtain ⟨x,hx⟩:∃ x,ts[i]? = some x:=⟨_,List.getElem?_eq_getElem hlt⟩
         obtain ⟨b1,o1,s1,rfl,-,t1,sub1⟩:=HS.out.get hx
         obtain ⟨e0,e1,e2,e3,e4,e5,e6,e7,e8,e9⟩:=t1.keep (HBW.out.block _ t1.lt)
         have hmem:=List.mem_of_getElem? hx
         obtain ⟨p1,c1,rfl,hl1⟩:=sub1.slice
         have HC:=Lib.hid (IH.out x hmem mn (by omega) wr B (.agg (x.cells (.slice p1 x.subs.length c1))) ⟨_,rfl,sub1.later HBW.out⟩)
         have hdr:ts.drop i=x :: ts.drop (i+1):=by
           rw [List.drop_eq_getElem_cons hlt,(List.getElem?_eq_some_iff.1 hx).2]
         have hl:=HL.out
         rw [hdr,Tr.leftS,if_pos (by omega)] at hl
         have HL2:=Lib.hid hl
         obtain ⟨k1,k2,-,-⟩:=Tr.leftT_spec x mn (by omega)
         clear t1 sub1 hmem hx hdr hl HL
         unfold Tr.cells at HC
         go_wp2_with fail
         refine HC.out.mono ?_
         rintro e w2 ⟨rfl,hb2⟩
         have HB2:=Lib.hid (HB.out.trans (hb2.mono HB.out.size))
         generalize x.leftT mn=mm at *
         clear e0 e1 e2 e3 e4 e5 e6 e7 e8 e9 hb2 HC d0 d1 d2 d3 d4 d5 d6 d7 d8 d9
         go_wp2
         exact ⟨⟨i+1,mm,by go_num,rfl,by omega,k2,by omega,HL2,HB2⟩,by simp [intOf];omega⟩
       · have gm:decide ((0:Int) ≤ m)=false:=by simp;omega
         have hl:=HL.out
         rw [Tr.leftS_neg _ (by omega)] at hl
         have HL2:=Lib.hid hl
         clear hl HL hmz
         go_wp2
         go_ret
         exact ⟨ret_int HL2.out,HBW.out⟩
     · obtain rfl:i=ts.length:=by omega
       have hl:=HL.out
       rw [List.drop_length,Tr.leftS] at hl
       have HL2:=Lib.hid hl
       clear hl HL
       go_wp2
       go_ret
       exact ⟨ret_int HL2.out,HBW.out⟩
theorem few_any (t:Tr) (m:Nat) (hm:m ≤ 1000000) (w:World) (B:Nat→Prop) (v:Value) (hv:NodeV w B v t) :
   Calls Tryd.prog 30 #[v,.int .i64 m] w fun e w'=>e=.returned (.bool (decide (t.ndT ≤ m)))∧Below w.heap.size w w':=by
 obtain ⟨s,rfl,hs⟩:=hv
 have H1:=Lib.hid (fun w' (hb:Below w.heap.size w w')=>numleft_any t m hm w' B (.agg (t.cells s)) ⟨s,rfl,TreesAt.later (w':=w') hs hb⟩)
 obtain ⟨p,cap,rfl,hlen⟩:=hs.slice
 have hsp:=Tr.leftT_spec t m (by omega)
 have hdec:decide ((0:Int) ≤ t.leftT m)=decide (t.ndT ≤ m):=by
   by_cases h:t.ndT ≤ m
   · rw [decide_eq_true h,decide_eq_true (hsp.2.2.2 (by omega))]
   · rw [decide_eq_false h,decide_eq_false (fun h2=>h (by have:=hsp.2.2.1 h2;omega))]
 have HD:=Lib.hid hdec
 have Z0:=Lib.hid (heap_alloc_new w (.cells (t.cells (.slice p t.subs.length cap)) 37))
 have HW:=Lib.hid (show Below w.heap.size w (w.alloc (.cells (t.cells (.slice p t.subs.length cap)) 37)) from (Below.refl _ _).alloc (Nat.le_refl _) _)
 clear hs hsp hdec
 unfold Tr.cells at *
 go_enter Tryd.func30,Tryd.ntmps30
 go_wp2_with (first
   | (refine wpList_load_row rfl 37 (.tmp 2) rfl w.heap.size rfl 37 _ (0,0) _ Z0.out Tryd.underlying37 rfl (by kernel_rfl) ?_)
   | fail)
 refine (H1.out _ HW.out).mono ?_
 rintro e w1 ⟨rfl,hb1⟩
 have HB1:=Lib.hid (HW.out.trans (hb1.mono HW.out.size))
 clear hb1
 generalize t.leftT m=mm at *
 go_wp2
 go_ret
 exact ⟨ret_bool HD.out,HB1.out⟩
end Go.Proofs.YtllfgppjobinnaaDoor
namespace Go.Proofs.YtllfgppjobinnaaDoor
open Go.RowKit
namespace Tr
theorem InForm.rep {t:Tr} (h:t.InForm) (h8:t.kind=8):∃ x,t.subs=[x]∧x.InForm∧t.w0=0#64∧t.w1=0#64∧t.w2=0#64∧t.w3=0#64∧t.num=0∧0 ≤ t.least∧t.least ≤ 255∧(t.most = -1 ∨ (t.least ≤ t.most∧t.most ≤ 255))∧(t.bare=true→t.least=0):=by
 have hf:=h.fields
 unfold fieldsOk at hf
 rcases hf with h | h | h | h | ⟨-,a0,a1,a2,a3,hl,hn,h1,h2,h3,h4⟩
 · omega
 · omega
 · omega
 · omega
 · obtain ⟨x,hx⟩:=List.length_eq_one_iff.1 hl
   exact ⟨x,hx,h.sub (by rw [hx];exact List.mem_singleton.2 rfl),a0,a1,a2,a3,hn,h1,h2,h3,h4⟩
theorem InForm.leaf1:(leaf 1).InForm:=.mk _ (.inl ⟨.inl rfl,rfl,rfl,rfl,rfl,rfl,rfl,rfl,rfl,rfl⟩) (fun u hu=>by cases hu)
theorem ndS_append:∀ (l m:List Tr),ndS (l ++ m)=ndS l+ndS m
 | [],m=>by simp [ndS]
 | t :: l,m=>by rw [List.cons_append,ndS,ndS,ndS_append l m];omega
theorem szT_node (t:Tr):t.szT=if t.kind=8 then repSz t.least t.most (szH t.subs) else sat (1+szS t.subs):=by cases t;rw [szT];rfl
theorem szT_pos:∀ t:Tr,t.InForm→1 ≤ t.szT:=by
 intro t
 induction t using Tr.rec_subs with
 | h t ih =>
   intro hf
   rw [szT_node]
   split
   · rename_i h8
     obtain ⟨x,hx,hxf,-⟩:=hf.rep h8
     have:=ih x (by rw [hx];exact List.mem_singleton.2 rfl) hxf
     rw [hx,szH]
     unfold repSz sat
     split
     · omega
     split
     · exact this
     split
     · omega
     split <;> omega
   · unfold sat;omega
theorem dpS_le_of {m:Nat} : ∀ {l:List Tr},(∀ u,u ∈ l→u.dpT ≤ m)→dpS l ≤ m
 | [],_=>by simp [dpS]
 | t :: l,h=>by
   have a:=h t List.mem_cons_self
   have b:=dpS_le_of fun u hu=>h u (List.mem_cons_of_mem _ hu)
   rw [dpS];omega
theorem dpS_mem {l:List Tr} {t:Tr} (h:t ∈ l):t.dpT ≤ dpS l:=by
 induction l with
 | nil=>cases h
 | cons u l ih =>
   rw [dpS]
   rcases List.mem_cons.1 h with rfl | h
   · omega
   · have:=ih h;omega
theorem dp_pos (t:Tr):1 ≤ t.dpT:=by
 rw [dpT_eq];split
 · omega
 · split <;> omega
theorem dpT_other (t:Tr) (h8:t.kind ≠ 8) (hl:t.subs.length ≠ 0):t.dpT=dpS t.subs+1:=by
 rw [dpT_eq,if_neg hl,if_neg (fun h=>h8 h.1)]
end Tr
end Go.Proofs.YtllfgppjobinnaaDoor
namespace Go.Proofs.YtllfgppjobinnaaDoor
open Go.RowKit
namespace Tr
mutual
def freeT:Tr→Bool
 | .node k _ _ _ _ s _ _ _ _=>decide (k ≠ 7) && freeL s
def freeL:List Tr→Bool
 | []=>true
 | t :: l=>freeT t && freeL l
end
theorem freeT_eq (t:Tr):t.freeT=(decide (t.kind ≠ 7) && freeL t.subs):=by cases t;rw [freeT];rfl
theorem freeL_iff:∀ {l:List Tr},freeL l=true ↔ ∀ u,u ∈ l→u.freeT=true
 | []=>by simp [freeL]
 | t :: l=>by rw [freeL,Bool.and_eq_true,freeL_iff];simp
theorem freeL_append:∀ (l m:List Tr),freeL (l ++ m)=(freeL l && freeL m)
 | [],m=>by simp [freeL]
 | t :: l,m=>by rw [List.cons_append,freeL,freeL,freeL_append l m,Bool.and_assoc]
def noneT:Tr:=.node 2 0#64 0#64 0#64 0#64 [] 0 0 0 false
def isNone (t:Tr):Bool:=decide (t.kind=2∧t.w0=0#64∧t.w1=0#64∧t.w2=0#64∧t.w3=0#64)
def isAnc (t:Tr):Bool:=decide (t.kind=3 ∨ t.kind=4)
def isStar (t:Tr):Bool:=decide (t.kind=8∧t.least=0∧t.most = -1)
def openL (k:Int) (l:List Tr):List Tr:=l.flatMap fun t=>if t.kind=k then t.subs else [t]
def again (acc:List Tr) (t:Tr):Bool:=isAnc t && (match acc.getLast? with
 | some u=>decide (u.kind=t.kind)
 | none=>false)
def sStep (acc:List Tr) (t:Tr):List Tr:=if t.kind ≠ 1∧again acc t=false then acc ++ [t] else acc
def seqL (l:List Tr):List Tr:=l.foldl sStep []
def seqF (fs:List Tr):Tr:=if (openL 5 fs).any isNone=true then noneT else several 5 (seqL (openL 5 fs))
def joinT (a b:Tr):Tr:=.node a.kind (a.w0 ||| b.w0) (a.w1 ||| b.w1) (a.w2 ||| b.w2) (a.w3 ||| b.w3) a.subs a.num a.least a.most a.bare
def addSet:List Tr→Tr→List Tr
 | [],t=>[t]
 | u :: l,t=>if u.kind=2 then joinT u t :: l else u :: addSet l t
def oStep (acc:List Tr) (t:Tr):List Tr:=if t.kind=2 then addSet acc t else acc ++ [t]
def oneL (l:List Tr):List Tr:=l.foldl oStep []
open Classical in
noncomputable def uStep (acc:List Tr) (t:Tr):List Tr:=if t ∈ acc then acc else acc ++ [t]
noncomputable def uniqL (l:List Tr):List Tr:=l.foldl uStep []
def altT:List Tr→Tr
 | []=>noneT
 | [t]=>t
 | l=>many 6 l
noncomputable def altL (fs:List Tr):List Tr:=uniqL (oneL ((openL 6 fs).filter fun t=>!isNone t))
noncomputable def altF (fs:List Tr):Tr:=altT (altL fs)
def repF (lo hi:Int) (x:Tr):Tr :=
 if hi=0 ∨ x.kind=1 then leaf 1
 else if lo=0∧(isNone x=true ∨ isAnc x=true) then leaf 1
 else if isNone x=true ∨ isAnc x=true then x
 else if (lo=1∧hi=1) ∨ isStar x=true then x
 else rep lo hi x
def headT:List Tr→Tr
 | []=>noneT
 | x :: _=>x
noncomputable def simN (k:Int) (a b c d:BitVec 64) (fs:List Tr) (n lo hi:Int) (br:Bool):Tr :=
 if k=5 then seqF fs else if k=6 then altF fs else if k=8 then repF lo hi (headT fs) else .node k a b c d [] n lo hi br
mutual
noncomputable def nmT:Tr→Tr
 | .node k a b c d s n lo hi br=>if k ≠ 7∧freeL s=true then simN k a b c d (nmL s) n lo hi br else .node k a b c d (nmL s) n lo hi br
noncomputable def nmL:List Tr→List Tr
 | []=>[]
 | t :: l=>nmT t :: nmL l
end
theorem nmL_map:∀ l:List Tr,nmL l=l.map nmT
 | []=>rfl
 | t :: l=>by rw [nmL,nmL_map l];rfl
theorem nmT_free {t:Tr} (h:t.freeT=true):t.nmT=simN t.kind t.w0 t.w1 t.w2 t.w3 (t.subs.map nmT) t.num t.least t.most t.bare:=by
 rw [freeT_eq,Bool.and_eq_true,decide_eq_true_eq] at h
 cases t with | node k a b c d s n lo hi br =>
 simp only [kind,subs] at h
 rw [nmT,if_pos h,nmL_map];rfl
theorem nmT_other {t:Tr} (h:t.freeT=false):t.nmT=.node t.kind t.w0 t.w1 t.w2 t.w3 (t.subs.map nmT) t.num t.least t.most t.bare:=by
 rw [freeT_eq] at h
 cases t with | node k a b c d s n lo hi br =>
 rw [nmT,if_neg (by intro h2;simp [kind,subs,h2.1,h2.2] at h),nmL_map];rfl
theorem openL_cons (k:Int) (t:Tr) (l:List Tr):openL k (t :: l)=(if t.kind=k then t.subs else [t]) ++ openL k l:=by unfold openL;rw [List.flatMap_cons]
theorem openL_mem {k:Int} {l:List Tr} {u:Tr} (h:u ∈ openL k l):∃ t,t ∈ l∧((t.kind=k∧u ∈ t.subs) ∨ (t.kind ≠ k∧u=t)):=by
 unfold openL at h
 obtain ⟨t,ht,hu⟩:=List.mem_flatMap.1 h
 by_cases hk:t.kind=k
 · rw [if_pos hk] at hu;exact ⟨t,ht,.inl ⟨hk,hu⟩⟩
 · rw [if_neg hk] at hu;exact ⟨t,ht,.inr ⟨hk,List.mem_singleton.1 hu⟩⟩
theorem openL_same {k:Int} : ∀ {l:List Tr},(∀ u,u ∈ l→u.kind ≠ k)→openL k l=l
 | [],_=>rfl
 | t :: l,h=>by rw [openL_cons,if_neg (h t List.mem_cons_self),openL_same fun u hu=>h u (List.mem_cons_of_mem _ hu)];rfl
theorem fold_snoc {β:Type} (f:List Tr→β→List Tr) (acc:List Tr) (l:List β) (t:β):(l ++ [t]).foldl f acc=f (l.foldl f acc) t:=by rw [List.foldl_append];rfl
theorem fold_again (f:List Tr→Tr→List Tr) (hf:∀ acc t,f acc t=acc ∨ f acc t=acc ++ [t]):∀ (l acc:List Tr),acc.foldl f []=acc→(l.foldl f acc).foldl f []=l.foldl f acc
 | [],acc,h=>h
 | t :: l,acc,h=>by
   rw [List.foldl_cons]
   refine fold_again f hf l _ ?_
   rcases hf acc t with e | e
   · rw [e];exact h
   · rw [e,fold_snoc,h,e]
theorem fold_sub (f:List Tr→Tr→List Tr) (hf:∀ acc t,f acc t=acc ∨ f acc t=acc ++ [t]):∀ (l acc:List Tr),∃ m,m.Sublist l∧l.foldl f acc=acc ++ m
 | [],acc=>⟨[],.slnil,by simp⟩
 | t :: l,acc=>by
   rw [List.foldl_cons]
   rcases hf acc t with e | e
   · obtain ⟨m,hm,he⟩:=fold_sub f hf l acc
     exact ⟨m,hm.cons t,by rw [e,he]⟩
   · obtain ⟨m,hm,he⟩:=fold_sub f hf l (acc ++ [t])
     exact ⟨t :: m,hm.cons_cons t,by rw [e,he];simp⟩
theorem sStep_or (acc:List Tr) (t:Tr):sStep acc t=acc ∨ sStep acc t=acc ++ [t]:=by
 unfold sStep;split
 · exact .inr rfl
 · exact .inl rfl
theorem uStep_or (acc:List Tr) (t:Tr):uStep acc t=acc ∨ uStep acc t=acc ++ [t]:=by
 unfold uStep;split
 · exact .inl rfl
 · exact .inr rfl
theorem seqL_again (l:List Tr):seqL (seqL l)=seqL l:=fold_again _ sStep_or l [] rfl
theorem uniqL_again (l:List Tr):uniqL (uniqL l)=uniqL l:=fold_again _ uStep_or l [] rfl
theorem seqL_sub (l:List Tr):(seqL l).Sublist l:=by
 obtain ⟨m,hm,he⟩:=fold_sub _ sStep_or l []
 unfold seqL;rw [he];exact hm
theorem uniqL_sub (l:List Tr):(uniqL l).Sublist l:=by
 obtain ⟨m,hm,he⟩:=fold_sub _ uStep_or l []
 unfold uniqL;rw [he];exact hm
def cnt2 (l:List Tr):Nat:=(l.filter fun t=>decide (t.kind=2)).length
theorem cnt2_append (l m:List Tr):cnt2 (l ++ m)=cnt2 l+cnt2 m:=by unfold cnt2;rw [List.filter_append,List.length_append]
theorem cnt2_cons (t:Tr) (l:List Tr):cnt2 (t :: l)=(if t.kind=2 then 1 else 0)+cnt2 l:=by
 unfold cnt2;rw [List.filter_cons]
 by_cases h:t.kind=2
 · rw [if_pos (by simpa using h),if_pos h,List.length_cons];omega
 · rw [if_neg (by simpa using h),if_neg h];omega
theorem cnt2_sub {l m:List Tr} (h:l.Sublist m):cnt2 l ≤ cnt2 m:=(h.filter _).length_le
theorem addSet_none {t:Tr} : ∀ {l:List Tr},cnt2 l=0→addSet l t=l ++ [t]
 | [],_=>rfl
 | u :: l,h=>by
   rw [cnt2_cons] at h
   have h2:u.kind ≠ 2:=fun e=>by rw [if_pos e] at h;omega
   rw [if_neg h2] at h
   rw [addSet,if_neg h2,addSet_none (by omega)];rfl
theorem addSet_cnt {t:Tr} (ht:t.kind=2):∀ {l:List Tr},cnt2 l ≤ 1→cnt2 (addSet l t)=1
 | [],_=>by rw [addSet,cnt2_cons,if_pos ht];rfl
 | u :: l,h=>by
   rw [cnt2_cons] at h
   by_cases h2:u.kind=2
   · rw [if_pos h2] at h
     rw [addSet,if_pos h2,cnt2_cons,if_pos (show (joinT u t).kind=2 from h2)];omega
   · rw [if_neg h2] at h
     rw [addSet,if_neg h2,cnt2_cons,if_neg h2,addSet_cnt ht (by omega)]
theorem oneL_cnt':∀ (l acc:List Tr),cnt2 acc ≤ 1→cnt2 (l.foldl oStep acc) ≤ 1
 | [],acc,h=>h
 | t :: l,acc,h=>by
   rw [List.foldl_cons]
   refine oneL_cnt' l _ ?_
   unfold oStep
   by_cases h2:t.kind=2
   · rw [if_pos h2,addSet_cnt h2 h];omega
   · rw [if_neg h2,cnt2_append,cnt2_cons,if_neg h2]
     show cnt2 acc+(0+0) ≤ 1
     omega
theorem oneL_cnt (l:List Tr):cnt2 (oneL l) ≤ 1:=oneL_cnt' l [] (by unfold cnt2;simp)
theorem oneL_fix':∀ (l acc:List Tr),cnt2 acc+cnt2 l ≤ 1→l.foldl oStep acc=acc ++ l
 | [],acc,_=>by simp
 | t :: l,acc,h=>by
   rw [List.foldl_cons]
   rw [cnt2_cons] at h
   have e:oStep acc t=acc ++ [t]:=by
     unfold oStep
     by_cases h2:t.kind=2
     · rw [if_pos h2] at h ⊢
       exact addSet_none (by omega)
     · rw [if_neg h2]
   rw [e,oneL_fix' l (acc ++ [t]) (by rw [cnt2_append,cnt2_cons];show cnt2 acc+(_+0)+_ ≤ 1;omega)]
   simp
theorem oneL_fix {l:List Tr} (h:cnt2 l ≤ 1):oneL l=l:=by
 unfold oneL;rw [oneL_fix' l [] (by show 0+cnt2 l ≤ 1;omega)];rfl
theorem addSet_all {P:Tr→Prop} (hP:∀ u t,P u→P t→u.kind=2→t.kind=2→P (joinT u t)) {t:Tr} (ht:P t) (h2:t.kind=2):∀ {l:List Tr},(∀ u,u ∈ l→P u)→∀ u,u ∈ addSet l t→P u
 | [],_,u,hu=>by rw [addSet] at hu;rw [List.mem_singleton.1 hu];exact ht
 | v :: l,h,u,hu=>by
   rw [addSet] at hu
   split at hu
   · rename_i hv
     rcases List.mem_cons.1 hu with e | hu
     · rw [e];exact hP v t (h v List.mem_cons_self) ht hv h2
     · exact h u (List.mem_cons_of_mem _ hu)
   · rcases List.mem_cons.1 hu with e | hu
     · rw [e];exact h v List.mem_cons_self
     · exact addSet_all hP ht h2 (fun u hu=>h u (List.mem_cons_of_mem _ hu)) u hu
theorem oneL_all' {P:Tr→Prop} (hP:∀ u t,P u→P t→u.kind=2→t.kind=2→P (joinT u t)):∀ (l acc:List Tr),(∀ u,u ∈ acc→P u)→(∀ u,u ∈ l→P u)→∀ u,u ∈ l.foldl oStep acc→P u
 | [],acc,h,_=>h
 | t :: l,acc,h,hl=>by
   rw [List.foldl_cons]
   refine oneL_all' hP l _ ?_ fun u hu=>hl u (List.mem_cons_of_mem _ hu)
   have ht:=hl t List.mem_cons_self
   unfold oStep
   split
   · rename_i h2;exact addSet_all hP ht h2 h
   · intro u hu
     rcases List.mem_append.1 hu with hu | hu
     · exact h u hu
     · rw [List.mem_singleton.1 hu];exact ht
theorem oneL_all {P:Tr→Prop} (hP:∀ u t,P u→P t→u.kind=2→t.kind=2→P (joinT u t)) {l:List Tr} (h:∀ u,u ∈ l→P u):∀ u,u ∈ oneL l→P u:=oneL_all' hP l [] (fun u hu=>by cases hu) h
theorem altL_all {P:Tr→Prop} (hP:∀ u t,P u→P t→u.kind=2→t.kind=2→P (joinT u t)) {fs:List Tr} (h:∀ u,u ∈ openL 6 fs→isNone u=false→P u):∀ u,u ∈ altL fs→P u:=fun u hu =>
 oneL_all hP (fun v hv=>by
   obtain ⟨h1,h2⟩:=List.mem_filter.1 hv
   exact h v h1 (by simpa using h2)) u ((uniqL_sub _).subset hu)
-- sums over lists
def sumT (f:Tr→Nat):List Tr→Nat
 | []=>0
 | t :: l=>f t+sumT f l
theorem sumT_append (f:Tr→Nat):∀ l m:List Tr,sumT f (l ++ m)=sumT f l+sumT f m
 | [],m=>by simp [sumT]
 | t :: l,m=>by rw [List.cons_append,sumT,sumT,sumT_append f l m];omega
theorem sumT_sub (f:Tr→Nat) {l m:List Tr} (h:l.Sublist m):sumT f l ≤ sumT f m:=by
 induction h with
 | slnil=>exact Nat.le_refl _
 | cons a _ ih=>rw [sumT];omega
 | cons_cons a _ ih=>rw [sumT,sumT];omega
theorem sumT_addSet (f:Tr→Nat) (hf:∀ u t,u.kind=2→f (joinT u t)=f u) (t:Tr):∀ l:List Tr,sumT f (addSet l t) ≤ sumT f l+f t
 | []=>by show f t+0 ≤ 0+f t;omega
 | u :: l=>by
   rw [addSet];split
   · rename_i h;rw [sumT,sumT,hf u t h];omega
   · have:=sumT_addSet f hf t l
     rw [sumT,sumT];omega
theorem sumT_one' (f:Tr→Nat) (hf:∀ u t,u.kind=2→f (joinT u t)=f u):∀ l acc:List Tr,sumT f (l.foldl oStep acc) ≤ sumT f acc+sumT f l
 | [],acc=>Nat.le_add_right _ _
 | t :: l,acc=>by
   rw [List.foldl_cons,sumT]
   have h1:=sumT_one' f hf l (oStep acc t)
   have h2:sumT f (oStep acc t) ≤ sumT f acc+f t:=by
     unfold oStep;split
     · exact sumT_addSet f hf t acc
     · rw [sumT_append,sumT,sumT];omega
   omega
theorem sumT_alt (f:Tr→Nat) (hf:∀ u t,u.kind=2→f (joinT u t)=f u) (fs:List Tr):sumT f (altL fs) ≤ sumT f (openL 6 fs):=by
 unfold altL
 have h1:=sumT_sub f (uniqL_sub (oneL ((openL 6 fs).filter fun t=>!isNone t)))
 have h2:=sumT_one' f hf ((openL 6 fs).filter fun t=>!isNone t) []
 have h3:=sumT_sub f (List.filter_sublist (p:=fun t=>!isNone t) (l:=openL 6 fs))
 unfold oneL at *
 rw [sumT] at h2
 omega
theorem szS_sum:∀ l:List Tr,szS l=sumT szT l
 | []=>rfl
 | t :: l=>by rw [szS,sumT,szS_sum l]
theorem ndS_sum:∀ l:List Tr,ndS l=sumT ndT l
 | []=>rfl
 | t :: l=>by rw [ndS,sumT,ndS_sum l]
-- nodes
theorem nd_open (k:Int):∀ l:List Tr,ndS (openL k l) ≤ ndS l
 | []=>Nat.le_refl _
 | t :: l=>by
   rw [openL_cons,ndS_append,ndS]
   have:=nd_open k l
   split
   · rw [ndT_eq t];omega
   · rw [ndS,ndS];omega
theorem nd_several (k:Int) (l:List Tr):(several k l).ndT ≤ 1+ndS l:=by
 match l with
 | []=>show (leaf 1).ndT ≤ _;rw [ndT_eq];simp [leaf,subs,ndS]
 | [t]=>show t.ndT ≤ _;rw [ndS,ndS];omega
 | t :: u :: l=>show (many k (t :: u :: l)).ndT ≤ _;rw [ndT_eq];simp [many,subs]
theorem nd_altT (l:List Tr):(altT l).ndT ≤ 1+ndS l:=by
 match l with
 | []=>show noneT.ndT ≤ _;rw [ndT_eq];simp [noneT,subs,ndS]
 | [t]=>show t.ndT ≤ _;rw [ndS,ndS];omega
 | t :: u :: l=>show (many 6 (t :: u :: l)).ndT ≤ _;rw [ndT_eq];simp [many,subs]
theorem nd_pos (t:Tr):1 ≤ t.ndT:=by rw [ndT_eq];omega
theorem nd_seqF (fs:List Tr):(seqF fs).ndT ≤ 1+ndS fs:=by
 unfold seqF;split
 · show noneT.ndT ≤ _;rw [ndT_eq];simp [noneT,subs,ndS]
 · have h1:=nd_several 5 (seqL (openL 5 fs))
   have h2:=sumT_sub ndT (seqL_sub (openL 5 fs))
   have h3:=nd_open 5 fs
   rw [← ndS_sum,← ndS_sum] at h2
   omega
theorem nd_altF (fs:List Tr):(altF fs).ndT ≤ 1+ndS fs:=by
 unfold altF
 have h1:=nd_altT (altL fs)
 have h2:=sumT_alt ndT (fun u t _=>by rw [ndT_eq,ndT_eq];rfl) fs
 have h3:=nd_open 6 fs
 rw [← ndS_sum,← ndS_sum] at h2
 omega
theorem nd_repF (lo hi:Int) (x:Tr):(repF lo hi x).ndT ≤ 1+x.ndT:=by
 have hp:=nd_pos x
 have hl:(leaf 1).ndT=1:=by rw [ndT_eq];simp [leaf,subs,ndS]
 unfold repF;split
 · rw [hl];omega
 split
 · rw [hl];omega
 split
 · omega
 split
 · omega
 · rw [ndT_eq];simp [rep,subs,ndS]
theorem nd_head (l:List Tr) (h:l.length=1):(headT l).ndT=ndS l:=by
 match l,h with
 | [x],_=>rw [headT,ndS,ndS];omega
theorem nd_nm:∀ t:Tr,(t.kind=8→t.subs.length=1)→(∀ u,u ∈ t.subs→u.InForm)→t.nmT.ndT ≤ t.ndT:=by
 intro t
 induction t using Tr.rec_subs with
 | h t ih =>
   intro h8 hf
   have part:∀ l:List Tr,(∀ u,u ∈ l→u ∈ t.subs)→ndS (l.map nmT) ≤ ndS l:=by
     intro l
     induction l with
     | nil=>intro _;exact Nat.le_refl _
     | cons u l il =>
       intro hm
       have hu:=hm u List.mem_cons_self
       rw [List.map_cons,ndS,ndS]
       have a:=ih u hu (fun e=>by obtain ⟨x,hx,-⟩:=(hf u hu).rep e;rw [hx];rfl) (fun v hv=>(hf u hu).sub hv)
       have b:=il fun v hv=>hm v (List.mem_cons_of_mem _ hv)
       omega
   have hp:=part t.subs fun _ h=>h
   rw [ndT_eq t]
   cases hfr:t.freeT with
   | true =>
     rw [nmT_free hfr]
     unfold simN
     split
     · have:=nd_seqF (t.subs.map nmT);omega
     split
     · have:=nd_altF (t.subs.map nmT);omega
     split
     · rename_i e8
       have:=nd_repF t.least t.most (headT (t.subs.map nmT))
       rw [nd_head _ (by rw [List.length_map];exact h8 e8)] at this
       omega
     · rw [ndT_eq];simp only [subs,ndS];omega
   | false=>rw [nmT_other hfr,ndT_eq];show 1+ndS (t.subs.map nmT) ≤ _;omega
end Tr
end Go.Proofs.YtllfgppjobinnaaDoor
namespace Go.Proofs.YtllfgppjobinnaaDoor
open Go.RowKit
namespace Tr
inductive Simp:Tr→Prop
 | mk (t:Tr) (hf:fieldsOk t) (h7:t.kind ≠ 7) (hb:t.bare=false)
     (h5:t.kind=5→(∀ u,u ∈ t.subs→u.kind ≠ 5∧isNone u=false)∧seqL t.subs=t.subs)
     (h6:t.kind=6→(∀ u,u ∈ t.subs→u.kind ≠ 6∧isNone u=false)∧cnt2 t.subs ≤ 1∧uniqL t.subs=t.subs)
     (h8:t.kind=8→repF t.least t.most (headT t.subs)=rep t.least t.most (headT t.subs))
     (hs:∀ u,u ∈ t.subs→Simp u):Simp t
theorem Simp.fields {t:Tr} (h:Simp t):fieldsOk t:=by cases h;assumption
theorem Simp.sub {t u:Tr} (h:Simp t) (hu:u ∈ t.subs):Simp u:=by cases h with | mk _ _ _ _ _ _ _ hs=>exact hs u hu
theorem Simp.k7 {t:Tr} (h:Simp t):t.kind ≠ 7:=by cases h;assumption
theorem Simp.nb {t:Tr} (h:Simp t):t.bare=false:=by cases h;assumption
theorem Simp.seq {t:Tr} (h:Simp t) (e:t.kind=5):(∀ u,u ∈ t.subs→u.kind ≠ 5∧isNone u=false)∧seqL t.subs=t.subs:=by cases h with | mk _ _ _ _ h5=>exact h5 e
theorem Simp.alt {t:Tr} (h:Simp t) (e:t.kind=6):(∀ u,u ∈ t.subs→u.kind ≠ 6∧isNone u=false)∧cnt2 t.subs ≤ 1∧uniqL t.subs=t.subs:=by cases h with | mk _ _ _ _ _ h6=>exact h6 e
theorem Simp.rp {t:Tr} (h:Simp t) (e:t.kind=8):repF t.least t.most (headT t.subs)=rep t.least t.most (headT t.subs):=by cases h with | mk _ _ _ _ _ _ h8=>exact h8 e
theorem Simp.form:∀ {t:Tr},Simp t→t.InForm:=by
 intro t
 induction t using Tr.rec_subs with
 | h t ih=>intro h;exact .mk t h.fields fun u hu=>ih u hu (h.sub hu)
theorem Simp.free:∀ {t:Tr},Simp t→t.freeT=true:=by
 intro t
 induction t using Tr.rec_subs with
 | h t ih =>
   intro h
   rw [freeT_eq,Bool.and_eq_true,decide_eq_true_eq,freeL_iff]
   exact ⟨h.k7,fun u hu=>ih u hu (h.sub hu)⟩
theorem Simp.leaf1:Simp (leaf 1):=.mk _ InForm.leaf1.fields (by simp [leaf,kind]) rfl (fun e=>by simp [leaf,kind] at e) (fun e=>by simp [leaf,kind] at e) (fun e=>by simp [leaf,kind] at e) (fun u hu=>by cases hu)
theorem Simp.none:Simp noneT:=.mk _ (.inr (.inl ⟨rfl,rfl,rfl,rfl,rfl,rfl⟩)) (by simp [noneT,kind]) rfl (fun e=>by simp [noneT,kind] at e) (fun e=>by simp [noneT,kind] at e) (fun e=>by simp [noneT,kind] at e) (fun u hu=>by cases hu)
theorem fields2 {t:Tr} (h:fieldsOk t) (h2:t.kind=2):t.subs=[]∧t.num=0∧t.least=0∧t.most=0∧t.bare=false:=by
 unfold fieldsOk at h
 rcases h with h | h | h | h | h
 · omega
 · exact h.2
 · omega
 · omega
 · omega
theorem Simp.two {t:Tr} (hf:fieldsOk t) (h2:t.kind=2):Simp t :=
 .mk t hf (by omega) (fields2 hf h2).2.2.2.2 (fun e=>by omega) (fun e=>by omega) (fun e=>by omega) (fun u hu=>by rw [(fields2 hf h2).1] at hu;cases hu)
theorem Simp.join {u t:Tr} (hu:Simp u) (_:Simp t) (h2:u.kind=2) (_:t.kind=2):Simp (joinT u t):=by
 obtain ⟨e1,e2,e3,e4,e5⟩:=fields2 hu.fields h2
 exact .two (.inr (.inl ⟨h2,e1,e2,e3,e4,e5⟩)) h2
theorem isNone_eq {t:Tr} (hf:fieldsOk t) (h:isNone t=true):t=noneT:=by
 unfold isNone at h
 rw [decide_eq_true_eq] at h
 obtain ⟨h2,a,b,c,d⟩:=h
 obtain ⟨e1,e2,e3,e4,e5⟩:=fields2 hf h2
 rw [t.eta,h2,a,b,c,d,e1,e2,e3,e4,e5];rfl
theorem or_zero {x y:BitVec 64} (h:x ||| y=0#64):x=0#64:=by
 refine BitVec.eq_of_getElem_eq fun i hi=>?_
 have:=congrArg (fun z:BitVec 64=>z[i]) h
 simp at this ⊢
 exact this.1
theorem join_some {u t:Tr} (h:isNone u=false):isNone (joinT u t)=false:=by
 unfold isNone at *
 rw [decide_eq_false_iff_not] at *
 rintro ⟨k,a,b,c,d⟩
 exact h ⟨k,or_zero a,or_zero b,or_zero c,or_zero d⟩
theorem fieldsMany {k:Int} (hk:k=5 ∨ k=6) {l:List Tr} (h:2 ≤ l.length):fieldsOk (many k l) :=
 .inr (.inr (.inl ⟨hk,rfl,rfl,rfl,rfl,h,rfl,rfl,rfl,rfl⟩))
theorem open_simp {k:Int} (hk:k=5 ∨ k=6) {fs:List Tr} (h:∀ u,u ∈ fs→Simp u):∀ u,u ∈ openL k fs→Simp u∧u.kind ≠ k:=by
 intro u hu
 obtain ⟨t,ht,⟨e,hm⟩ | ⟨e,rfl⟩⟩:=openL_mem hu
 · refine ⟨(h t ht).sub hm, ?_⟩
   rcases hk with rfl | rfl
   · exact (((h t ht).seq e).1 u hm).1
   · exact (((h t ht).alt e).1 u hm).1
 · exact ⟨h u ht,e⟩
theorem simp_seqF {fs:List Tr} (h:∀ u,u ∈ fs→Simp u):Simp (seqF fs):=by
 unfold seqF
 split
 · exact .none
 · rename_i hn
   have ha:∀ u,u ∈ seqL (openL 5 fs)→Simp u∧u.kind ≠ 5∧isNone u=false:=fun u hu=>by
     have hm:=(seqL_sub _).subset hu
     obtain ⟨a,b⟩:=open_simp (.inl rfl) h u hm
     refine ⟨a,b, ?_⟩
     cases he:isNone u with
     | false=>rfl
     | true=>exact absurd (List.any_eq_true.2 ⟨u,hm,he⟩) hn
   have hg:=seqL_again (openL 5 fs)
   generalize seqL (openL 5 fs)=l at *
   match l,ha,hg with
   | [],_,_=>exact .leaf1
   | [t],ha,_=>exact (ha t List.mem_cons_self).1
   | t :: u :: l,ha,hg =>
     refine .mk _ (fieldsMany (.inl rfl) (by simp)) (by simp [several,many,kind]) rfl (fun _=>⟨fun v hv=>(ha v hv).2,hg⟩) (fun e=>by simp [several,many,kind] at e) (fun e=>by simp [several,many,kind] at e) (fun v hv=>(ha v hv).1)
theorem uniqL_fix_cnt {l:List Tr} (h:cnt2 l ≤ 1):cnt2 (uniqL l) ≤ 1:=Nat.le_trans (cnt2_sub (uniqL_sub l)) h
theorem altL_simp {fs:List Tr} (h:∀ u,u ∈ fs→Simp u):∀ u,u ∈ altL fs→Simp u∧u.kind ≠ 6∧isNone u=false :=
 altL_all (P:=fun u=>Simp u∧u.kind ≠ 6∧isNone u=false) (fun u t hu ht h2 k2=>⟨hu.1.join ht.1 h2 k2,by show u.kind ≠ 6;omega,join_some hu.2.2⟩) fun u hu hn=>⟨(open_simp (.inr rfl) h u hu).1,(open_simp (.inr rfl) h u hu).2,hn⟩
theorem simp_altF {fs:List Tr} (h:∀ u,u ∈ fs→Simp u):Simp (altF fs):=by
 have ha:=altL_simp h
 have hc:cnt2 (altL fs) ≤ 1:=uniqL_fix_cnt (oneL_cnt _)
 have hg:uniqL (altL fs)=altL fs:=uniqL_again _
 unfold altF
 generalize altL fs=l at *
 match l,ha,hc,hg with
 | [],_,_,_=>exact .none
 | [t],ha,_,_=>exact (ha t List.mem_cons_self).1
 | t :: u :: l,ha,hc,hg =>
   exact .mk _ (fieldsMany (.inr rfl) (by simp)) (by simp [altT,many,kind]) rfl (fun e=>by simp [altT,many,kind] at e) (fun _=>⟨fun v hv=>(ha v hv).2,hc,hg⟩) (fun e=>by simp [altT,many,kind] at e) (fun v hv=>(ha v hv).1)
theorem simp_repF {lo hi:Int} {x:Tr} (h:Simp x) (h1:0 ≤ lo) (h2:lo ≤ 255) (h3:hi = -1 ∨ (lo ≤ hi∧hi ≤ 255)):Simp (repF lo hi x):=by
 by_cases a:hi=0 ∨ x.kind=1
 · unfold repF;rw [if_pos a];exact .leaf1
 by_cases b:lo=0∧(isNone x=true ∨ isAnc x=true)
 · unfold repF;rw [if_neg a,if_pos b];exact .leaf1
 by_cases c:isNone x=true ∨ isAnc x=true
 · unfold repF;rw [if_neg a,if_neg b,if_pos c];exact h
 by_cases d:(lo=1∧hi=1) ∨ isStar x=true
 · unfold repF;rw [if_neg a,if_neg b,if_neg c,if_pos d];exact h
 have e:repF lo hi x=rep lo hi x:=by unfold repF;rw [if_neg a,if_neg b,if_neg c,if_neg d]
 rw [e]
 exact .mk _ (.inr (.inr (.inr (.inr ⟨rfl,rfl,rfl,rfl,rfl,rfl,rfl,h1,h2,h3,fun e=>by cases e⟩)))) (by simp [rep,kind]) rfl (fun e=>by simp [rep,kind] at e) (fun e=>by simp [rep,kind] at e) (fun _=>e) (fun u hu=>by rw [List.mem_singleton.1 hu];exact h)
theorem simp_sim {t:Tr} (hf:fieldsOk t) (h7:t.kind ≠ 7) {fs:List Tr} (hl:fs.length=t.subs.length) (h:∀ u,u ∈ fs→Simp u):Simp (simN t.kind t.w0 t.w1 t.w2 t.w3 fs t.num t.least t.most t.bare):=by
 unfold simN
 by_cases k5:t.kind=5
 · rw [if_pos k5];exact simp_seqF h
 rw [if_neg k5]
 by_cases k6:t.kind=6
 · rw [if_pos k6];exact simp_altF h
 rw [if_neg k6]
 unfold fieldsOk at hf
 by_cases k8:t.kind=8
 · rw [if_pos k8]
   rcases hf with h9 | h9 | h9 | h9 | ⟨-,-,-,-,-,hl1,-,h1,h2,h3,-⟩
   · omega
   · omega
   · omega
   · omega
   · rw [hl1] at hl
     obtain ⟨x,rfl⟩:=List.length_eq_one_iff.1 hl
     exact simp_repF (h x List.mem_cons_self) h1 h2 h3
 rw [if_neg k8]
 rcases hf with ⟨k,a,b,c,d,-,n,lo,hi,br⟩ | ⟨k,-,n,lo,hi,br⟩ | ⟨k,-⟩ | ⟨k,-⟩ | ⟨k,-⟩
 · exact .mk _ (.inl ⟨k,a,b,c,d,rfl,n,lo,hi,br⟩) h7 br (fun e=>absurd e k5) (fun e=>absurd e k6) (fun e=>absurd e k8) (fun u hu=>by cases hu)
 · exact .two (.inr (.inl ⟨k,rfl,n,lo,hi,br⟩)) k
 · omega
 · omega
 · omega
theorem simp_nm:∀ {t:Tr},t.InForm→t.freeT=true→Simp t.nmT:=by
 intro t
 induction t using Tr.rec_subs with
 | h t ih =>
   intro hf hfr
   have hfr2:=hfr
   rw [freeT_eq,Bool.and_eq_true,decide_eq_true_eq,freeL_iff] at hfr2
   rw [nmT_free hfr]
   refine simp_sim hf.fields hfr2.1 (by simp) fun u hu=>?_
   obtain ⟨y,hy,rfl⟩:=List.mem_map.1 hu
   exact ih y hy (hf.sub hy) (hfr2.2 y hy)
theorem InForm.nm:∀ {t:Tr},t.InForm→t.nmT.InForm:=by
 intro t
 induction t using Tr.rec_subs with
 | h t ih =>
   intro hf
   cases hfr:t.freeT with
   | true=>exact (simp_nm hf hfr).form
   | false =>
     rw [nmT_other hfr]
     refine .mk _ ?_ (fun u hu=>?_)
     · have hff:=hf.fields
       unfold fieldsOk at hff ⊢
       simp only [kind,subs,w0,w1,w2,w3,num,least,most,bare,List.length_map,List.map_eq_nil_iff] at *
       exact hff
     · obtain ⟨y,hy,rfl⟩:=List.mem_map.1 hu
       exact ih y hy (hf.sub hy)
theorem Simp.nm:∀ {t:Tr},Simp t→t.nmT=t:=by
 intro t
 induction t using Tr.rec_subs with
 | h t ih =>
   intro h
   have hm:t.subs.map nmT=t.subs:=by
     conv=>rhs;rw [← List.map_id t.subs]
     exact List.map_congr_left fun u hu=>ih u hu (h.sub hu)
   rw [nmT_free h.free,hm]
   have hf:=h.fields
   unfold simN
   by_cases k5:t.kind=5
   · rw [if_pos k5]
     obtain ⟨ha,hs⟩:=h.seq k5
     have hl:2 ≤ t.subs.length∧t=many 5 t.subs:=by
       unfold fieldsOk at hf
       rcases hf with h9 | h9 | ⟨-,a,b,c,d,hl,n,lo,hi,br⟩ | h9 | h9
       · omega
       · omega
       · refine ⟨hl, ?_⟩
         conv=>lhs;rw [t.eta,k5,a,b,c,d,n,lo,hi,br]
         rfl
       · omega
       · omega
     unfold seqF
     rw [openL_same fun u hu=>(ha u hu).1,if_neg (by rw [List.any_eq_true];rintro ⟨u,hu,e⟩;rw [(ha u hu).2] at e;cases e),hs,several_many hl.1]
     exact hl.2.symm
   rw [if_neg k5]
   by_cases k6:t.kind=6
   · rw [if_pos k6]
     obtain ⟨ha,hc,hu⟩:=h.alt k6
     have hl:2 ≤ t.subs.length∧t=many 6 t.subs:=by
       unfold fieldsOk at hf
       rcases hf with h9 | h9 | ⟨-,a,b,c,d,hl,n,lo,hi,br⟩ | h9 | h9
       · omega
       · omega
       · refine ⟨hl, ?_⟩
         conv=>lhs;rw [t.eta,k6,a,b,c,d,n,lo,hi,br]
         rfl
       · omega
       · omega
     unfold altF altL
     rw [openL_same fun u hu=>(ha u hu).1,List.filter_eq_self.2 (fun u hu=>by rw [(ha u hu).2];rfl),oneL_fix hc,hu]
     obtain ⟨h2,e⟩:=hl
     conv=>rhs;rw [e]
     generalize t.subs=l at *
     match l,h2 with
     | _ :: _ :: _,_=>rfl
   rw [if_neg k6]
   by_cases k8:t.kind=8
   · rw [if_pos k8,h.rp k8]
     unfold fieldsOk at hf
     rcases hf with h9 | h9 | h9 | h9 | ⟨-,a,b,c,d,hl1,n,-,-,-,-⟩
     · omega
     · omega
     · omega
     · omega
     · obtain ⟨x,hx⟩:=List.length_eq_one_iff.1 hl1
       conv=>rhs;rw [t.eta,k8,a,b,c,d,n,h.nb]
       rw [hx];rfl
   rw [if_neg k8]
   have hl:t.subs=[]:=by
     unfold fieldsOk at hf
     rcases hf with h9 | h9 | h9 | h9 | h9
     · exact h9.2.2.2.2.2.1
     · exact h9.2.1
     · omega
     · exact absurd h9.1 h.k7
     · omega
   conv=>rhs;rw [t.eta,hl]
theorem free_nm:∀ {t:Tr},t.InForm→t.nmT.freeT=t.freeT:=by
 intro t
 induction t using Tr.rec_subs with
 | h t ih =>
   intro hf
   cases hfr:t.freeT with
   | true=>exact (simp_nm hf hfr).free
   | false =>
     rw [nmT_other hfr,freeT_eq]
     rw [freeT_eq] at hfr
     have:freeL (t.subs.map nmT)=freeL t.subs:=by
       rw [Bool.eq_iff_iff,freeL_iff,freeL_iff]
       constructor
       · intro h u hu
         rw [← ih u hu (hf.sub hu)];exact h _ (List.mem_map.2 ⟨u,hu,rfl⟩)
       · intro h u hu
         obtain ⟨y,hy,rfl⟩:=List.mem_map.1 hu
         rw [ih y hy (hf.sub hy)];exact h y hy
     show (decide (t.kind ≠ 7) && freeL (t.subs.map nmT))=false
     rw [this];exact hfr
theorem nm_nm:∀ {t:Tr},t.InForm→t.nmT.nmT=t.nmT:=by
 intro t
 induction t using Tr.rec_subs with
 | h t ih =>
   intro hf
   cases hfr:t.freeT with
   | true=>exact (simp_nm hf hfr).nm
   | false =>
     have h2:=free_nm hf
     rw [hfr] at h2
     rw [nmT_other h2]
     rw [nmT_other hfr]
     show Tr.node t.kind t.w0 t.w1 t.w2 t.w3 ((t.subs.map nmT).map nmT) t.num t.least t.most t.bare=_
     rw [List.map_map]
     have:t.subs.map (nmT ∘ nmT)=t.subs.map nmT:=List.map_congr_left fun u hu=>ih u hu (hf.sub hu)
     rw [this]
-- sizes
theorem sat_mono {a b:Nat} (h:a ≤ b):sat a ≤ sat b:=by unfold sat;omega
theorem sz_open {k:Int} (hk:k ≠ 8):∀ l:List Tr,sat (szS (openL k l)) ≤ szS l
 | []=>by simp [openL,szS,sat]
 | t :: l=>by
   rw [openL_cons,szS_append,szS]
   have h1:=sz_open hk l
   have h2:=szT_le t
   split
   · rename_i e
     have:t.szT=sat (1+szS t.subs):=by rw [szT_node,if_neg (by omega)]
     unfold sat at *;omega
   · rw [szS,szS];unfold sat at *;omega
theorem sz_leaf1:(leaf 1).szT=1:=rfl
theorem sz_none:noneT.szT=1:=rfl
theorem sz_several {k:Int} (hk:k ≠ 8) (l:List Tr):(several k l).szT ≤ sat (1+szS l):=by
 match l with
 | []=>show (leaf 1).szT ≤ _;rw [sz_leaf1];unfold sat;omega
 | [t]=>show t.szT ≤ _;have:=szT_le t;rw [szS,szS];unfold sat;omega
 | t :: u :: l=>show (many k (t :: u :: l)).szT ≤ _;rw [szT_node,if_neg (show ¬ (many k (t :: u :: l)).kind=8 from hk)];exact Nat.le_refl _
theorem sz_altT (l:List Tr):(altT l).szT ≤ sat (1+szS l):=by
 match l with
 | []=>show noneT.szT ≤ _;rw [sz_none];unfold sat;omega
 | [t]=>show t.szT ≤ _;have:=szT_le t;rw [szS,szS];unfold sat;omega
 | t :: u :: l=>show (many 6 (t :: u :: l)).szT ≤ _;rw [szT_node,if_neg (show ¬ (many 6 (t :: u :: l)).kind=8 from (show ¬ (6:Int)=8 by decide))];exact Nat.le_refl _
theorem sz_seqF (fs:List Tr):(seqF fs).szT ≤ sat (1+szS fs):=by
 unfold seqF;split
 · rw [sz_none];unfold sat;omega
 · have h1:=sz_several (k:=5) (by decide) (seqL (openL 5 fs))
   have h2:=sumT_sub szT (seqL_sub (openL 5 fs))
   have h3:=sz_open (k:=5) (by decide) fs
   rw [← szS_sum,← szS_sum] at h2
   unfold sat at *;omega
theorem sz_altF (fs:List Tr):(altF fs).szT ≤ sat (1+szS fs):=by
 unfold altF
 have h1:=sz_altT (altL fs)
 have h2:=sumT_alt szT (fun u t e=>by rw [szT_node,szT_node,if_neg (by show ¬ u.kind=8;omega),if_neg (by omega)];rfl) fs
 have h3:=sz_open (k:=6) (by decide) fs
 rw [← szS_sum,← szS_sum] at h2
 unfold sat at *;omega
theorem repSz_mono {lo hi:Int} {n m:Nat} (h:n ≤ m):repSz lo hi n ≤ repSz lo hi m:=by
 have h1:lo.toNat * n ≤ lo.toNat * m:=Nat.mul_le_mul_left _ h
 have h2:(hi - lo).toNat * (1+n) ≤ (hi - lo).toNat * (1+m):=Nat.mul_le_mul_left _ (by omega)
 unfold repSz
 split
 · exact Nat.le_refl _
 split
 · exact h
 split
 · exact sat_mono (by omega)
 split
 · exact sat_mono (by omega)
 · exact sat_mono (by omega)
theorem repSz_ge {lo hi:Int} {n:Nat} (h0:0 ≤ lo) (h:hi = -1 ∨ lo ≤ hi) (hn:hi ≠ 0) (hs:n ≤ 2001):n ≤ repSz lo hi n:=by
 unfold repSz
 rw [if_neg hn]
 split
 · exact Nat.le_refl _
 split
 · unfold sat;omega
 split
 · unfold sat;omega
 · by_cases hl:lo=0
   · have:1 * (1+n) ≤ (hi - lo).toNat * (1+n):=Nat.mul_le_mul_right _ (by omega)
     unfold sat;omega
   · have:1 * n ≤ lo.toNat * n:=Nat.mul_le_mul_right _ (by omega)
     unfold sat;omega
theorem repSz_pos {lo hi:Int} {n:Nat} (hn:1 ≤ n):1 ≤ repSz lo hi n:=by
 unfold repSz sat
 split
 · omega
 split
 · exact hn
 split
 · omega
 split <;> omega
theorem sz_rep (lo hi:Int) (x:Tr):(rep lo hi x).szT=repSz lo hi x.szT:=rfl
theorem sz_repF {lo hi:Int} {x:Tr} (hx:x.InForm) (h0:0 ≤ lo) (h:hi = -1 ∨ lo ≤ hi):(repF lo hi x).szT ≤ repSz lo hi x.szT:=by
 have hp:=repSz_pos (lo:=lo) (hi:=hi) (szT_pos x hx)
 unfold repF
 by_cases a:hi=0 ∨ x.kind=1
 · rw [if_pos a,sz_leaf1];exact hp
 have hg:=repSz_ge (n:=x.szT) h0 h (fun e=>a (.inl e)) (szT_le x)
 rw [if_neg a]
 split
 · rw [sz_leaf1];exact hp
 split
 · exact hg
 split
 · exact hg
 · rw [sz_rep];exact Nat.le_refl _
theorem sz_nm:∀ t:Tr,t.InForm→t.nmT.szT ≤ t.szT:=by
 intro t
 induction t using Tr.rec_subs with
 | h t ih =>
   intro hf
   have part:∀ l:List Tr,(∀ u,u ∈ l→u ∈ t.subs)→szS (l.map nmT) ≤ szS l:=by
     intro l
     induction l with
     | nil=>intro _;exact Nat.le_refl _
     | cons u l il =>
       intro hm
       have hu:=hm u List.mem_cons_self
       rw [List.map_cons,szS,szS]
       have a:=ih u hu (hf.sub hu)
       have b:=il fun v hv=>hm v (List.mem_cons_of_mem _ hv)
       omega
   have hp:=part t.subs fun _ h=>h
   rw [szT_node t]
   by_cases h8:t.kind=8
   · obtain ⟨x,hx,hxf,-,-,-,-,-,h1,h2,h3,-⟩:=hf.rep h8
     rw [if_pos h8,hx,szH]
     have hX:=ih x (by rw [hx];exact List.mem_singleton.2 rfl) hxf
     cases hfr:t.freeT with
     | true =>
       rw [nmT_free hfr]
       unfold simN
       rw [if_neg (by omega),if_neg (by omega),if_pos h8,hx]
       exact Nat.le_trans (sz_repF hxf.nm h1 (by omega)) (repSz_mono hX)
     | false =>
       rw [nmT_other hfr,szT_node]
       show (if t.kind=8 then repSz t.least t.most (szH (t.subs.map nmT)) else _) ≤ _
       rw [if_pos h8,hx];exact repSz_mono hX
   · rw [if_neg h8]
     cases hfr:t.freeT with
     | true =>
       rw [nmT_free hfr]
       unfold simN
       by_cases k5:t.kind=5
       · rw [if_pos k5];exact Nat.le_trans (sz_seqF _) (sat_mono (by omega))
       rw [if_neg k5]
       by_cases k6:t.kind=6
       · rw [if_pos k6];exact Nat.le_trans (sz_altF _) (sat_mono (by omega))
       rw [if_neg k6,if_neg h8,szT_node]
       show (if t.kind=8 then _ else sat (1+szS [])) ≤ _
       rw [if_neg h8];exact sat_mono (by rw [szS];omega)
     | false =>
       rw [nmT_other hfr,szT_node]
       show (if t.kind=8 then _ else sat (1+szS (t.subs.map nmT))) ≤ _
       rw [if_neg h8];exact sat_mono (by omega)
-- depths
theorem dp_open {k:Int} (hk:k ≠ 8) {l:List Tr} {m:Nat} (h:∀ u,u ∈ l→u.dpT ≤ m):∀ u,u ∈ openL k l→u.dpT ≤ m:=by
 intro u hu
 obtain ⟨t,ht,⟨e,hm⟩ | ⟨e,rfl⟩⟩:=openL_mem hu
 · have a:=h t ht
   have b:=dpS_mem hm
   have c:=dpT_other t (by omega) (fun e=>by rw [List.length_eq_zero_iff.1 e] at hm;cases hm)
   omega
 · exact h u ht
theorem dp_leaf1:(leaf 1).dpT=1:=rfl
theorem dp_none:noneT.dpT=1:=rfl
theorem dp_many {k:Int} (hk:k ≠ 8) {l:List Tr} (hl:l.length ≠ 0):(many k l).dpT=dpS l+1:=dpT_other (many k l) hk hl
theorem dp_seqF {fs:List Tr} {m:Nat} (h:∀ u,u ∈ fs→u.dpT ≤ m):(seqF fs).dpT ≤ m+1:=by
 unfold seqF;split
 · rw [dp_none];omega
 · have ha:∀ u,u ∈ seqL (openL 5 fs)→u.dpT ≤ m:=fun u hu=>dp_open (by decide) h u ((seqL_sub _).subset hu)
   generalize seqL (openL 5 fs)=l at *
   match l,ha with
   | [],_=>show (leaf 1).dpT ≤ _;rw [dp_leaf1];omega
   | [t],ha=>have:=ha t List.mem_cons_self;show t.dpT ≤ _;omega
   | t :: u :: l,ha =>
     show (many 5 (t :: u :: l)).dpT ≤ _
     rw [dp_many (by decide) (by simp)]
     have:=dpS_le_of ha
     omega
theorem dp_altF {fs:List Tr} {m:Nat} (h:∀ u,u ∈ fs→u.dpT ≤ m):(altF fs).dpT ≤ m+1:=by
 have ha:∀ u,u ∈ altL fs→u.dpT ≤ m:=altL_all (P:=fun u=>u.dpT ≤ m) (fun u t hu _ e _=>by
   have e1:(joinT u t).dpT=u.dpT:=by
     rw [dpT_eq,dpT_eq]
     show (if u.subs.length=0 then 1 else dpS u.subs+(if u.kind=8∧¬ (u.least=0∧(u.most=1 ∨ u.most = -1)) then 2 else 1))=_
     rfl
   rw [e1];exact hu) fun u hu _=>dp_open (by decide) h u hu
 unfold altF
 generalize altL fs=l at *
 match l,ha with
 | [],_=>show noneT.dpT ≤ _;rw [dp_none];omega
 | [t],ha=>have:=ha t List.mem_cons_self;show t.dpT ≤ _;omega
 | t :: u :: l,ha =>
   show (many 6 (t :: u :: l)).dpT ≤ _
   rw [dp_many (by decide) (by simp)]
   have:=dpS_le_of ha
   omega
theorem dp_nm:∀ t:Tr,t.InForm→t.nmT.dpT ≤ t.dpT:=by
 intro t
 induction t using Tr.rec_subs with
 | h t ih =>
   intro hf
   have hpos:=dp_pos t
   have hall:∀ u,u ∈ t.subs.map nmT→u.dpT ≤ dpS t.subs:=fun u hu=>by
     obtain ⟨y,hy,rfl⟩:=List.mem_map.1 hu
     exact Nat.le_trans (ih y hy (hf.sub hy)) (dpS_mem hy)
   have hle:=dpS_le_of hall
   cases hfr:t.freeT with
   | false =>
     rw [nmT_other hfr,dpT_eq,dpT_eq t]
     show (if (t.subs.map nmT).length=0 then 1 else dpS (t.subs.map nmT)+(if t.kind=8∧¬ (t.least=0∧(t.most=1 ∨ t.most = -1)) then 2 else 1)) ≤ _
     rw [List.length_map]
     split
     · exact Nat.le_refl _
     · omega
   | true =>
     rw [nmT_free hfr]
     have hff:=hf.fields
     unfold simN
     by_cases h8:t.kind=8
     · obtain ⟨x,hx,hxf,-,-,-,-,-,h1,h2,h3,-⟩:=hf.rep h8
       have hX:=ih x (by rw [hx];exact List.mem_singleton.2 rfl) hxf
       have hd:t.dpT=x.dpT+(if t.kind=8∧¬ (t.least=0∧(t.most=1 ∨ t.most = -1)) then 2 else 1):=by
         rw [dpT_eq,hx,dpS,dpS];simp
       have hd2:(rep t.least t.most x.nmT).dpT=x.nmT.dpT+(if t.kind=8∧¬ (t.least=0∧(t.most=1 ∨ t.most = -1)) then 2 else 1):=by
         rw [dpT_eq,h8];simp [rep,subs,dpS,kind,least,most]
       rw [if_neg (by omega),if_neg (by omega),if_pos h8,hx]
       show (repF t.least t.most x.nmT).dpT ≤ _
       unfold repF
       split
       · rw [dp_leaf1];omega
       split
       · rw [dp_leaf1];omega
       split
       · omega
       split
       · omega
       · rw [hd2,hd];omega
     · unfold fieldsOk at hff
       by_cases k5:t.kind=5
       · have hl:t.subs.length ≠ 0:=by omega
         rw [if_pos k5,dpT_other t h8 hl];exact dp_seqF hall
       rw [if_neg k5]
       by_cases k6:t.kind=6
       · have hl:t.subs.length ≠ 0:=by omega
         rw [if_pos k6,dpT_other t h8 hl];exact dp_altF hall
       rw [if_neg k6,if_neg h8]
       exact hpos
theorem check_nm {t:Tr} (h:t.checkC=0):t.nmT.checkC=0:=by
 rw [checkC_zero] at *
 obtain ⟨hf,hd,hz⟩:=h
 exact ⟨hf.nm,by have:=dp_nm t hf;omega,by have:=sz_nm t hf;omega⟩
end Tr
end Go.Proofs.YtllfgppjobinnaaDoor
namespace Go.Proofs.YtllfgppjobinnaaDoor
open Go.RowKit
namespace Tr
theorem digit_toNat {u:Nat} (h:u < 10):(UInt8.ofNat (48+u)).toNat=48+u:=by
 rw [UInt8.toNat_ofNat'];omega
theorem dec_digits (u:Nat):∀ b,b ∈ Lib.decDigits u→48 ≤ b.toNat∧b.toNat ≤ 57:=by
 induction u using Nat.strongRecOn with
 | _ u ih =>
   intro b hb
   rw [Lib.decDigits] at hb
   split at hb
   · rw [List.mem_singleton.1 hb,digit_toNat (by assumption)];omega
   · rcases List.mem_append.1 hb with hb | hb
     · exact ih (u / 10) (by omega) b hb
     · rw [List.mem_singleton.1 hb,digit_toNat (by omega)];omega
def decVal (l:List UInt8):Nat:=l.foldl (fun a b=>10 * a+(b.toNat - 48)) 0
theorem decVal_snoc (l:List UInt8) (b:UInt8):decVal (l ++ [b])=10 * decVal l+(b.toNat - 48):=by unfold decVal;rw [List.foldl_append];rfl
theorem decVal_dec (u:Nat):decVal (Lib.decDigits u)=u:=by
 induction u using Nat.strongRecOn with
 | _ u ih =>
   rw [Lib.decDigits]
   split
   · rename_i h
     show 10 * 0+((UInt8.ofNat (48+u)).toNat - 48)=u
     rw [digit_toNat h];omega
   · rename_i h
     rw [decVal_snoc,ih (u / 10) (by omega),digit_toNat (by omega)];omega
theorem dec_inj {u v:Nat} (h:Lib.decDigits u=Lib.decDigits v):u=v:=by rw [← decVal_dec u,h,decVal_dec]
theorem dec_no45 (u:Nat) (l:List UInt8):Lib.decDigits u ≠ 45 :: l:=fun e=>by
 have:=dec_digits u 45 (by rw [e];exact List.mem_cons_self)
 have e2:(45:UInt8).toNat=45:=rfl
 omega
theorem itoa_inj {x y:Int} (h:Lib.itoa x=Lib.itoa y):x=y:=by
 unfold Lib.itoa at h
 by_cases hx:x < 0
 · by_cases hy:y < 0
   · rw [if_pos hx,if_pos hy] at h
     have:=dec_inj (List.cons.inj h).2
     omega
   · rw [if_pos hx,if_neg hy] at h;exact absurd h.symm (dec_no45 _ _)
 · by_cases hy:y < 0
   · rw [if_neg hx,if_pos hy] at h;exact absurd h (dec_no45 _ _)
   · rw [if_neg hx,if_neg hy] at h
     have:=dec_inj h
     omega
theorem dec_no32 (u:Nat):(32:UInt8) ∉ Lib.decDigits u:=fun h=>by
 have:=dec_digits u 32 h
 have e2:(32:UInt8).toNat=32:=rfl
 omega
theorem itoa_no32 (x:Int):(32:UInt8) ∉ Lib.itoa x:=by
 unfold Lib.itoa;split
 · intro h
   rcases List.mem_cons.1 h with h | h
   · exact absurd h (by decide)
   · exact dec_no32 _ h
 · exact dec_no32 _
theorem part32:∀ {p q r s:List UInt8},(32:UInt8) ∉ p→(32:UInt8) ∉ q→p ++ 32 :: r=q ++ 32 :: s→p=q∧r=s
 | [],[],r,s,_,_,h=>⟨rfl,(List.cons.inj h).2⟩
 | [],y :: q,r,s,_,hq,h=>absurd (by rw [(List.cons.inj h).1];exact List.mem_cons_self) hq
 | x :: p,[],r,s,hp,_,h=>absurd (by rw [← (List.cons.inj h).1];exact List.mem_cons_self) hp
 | x :: p,y :: q,r,s,hp,hq,h=>by
   obtain ⟨h1,h2⟩:=List.cons.inj h
   obtain ⟨h3,h4⟩:=part32 (fun m=>hp (List.mem_cons_of_mem _ m)) (fun m=>hq (List.mem_cons_of_mem _ m)) h2
   exact ⟨by rw [h1,h3],h4⟩
def numB (x:Int):List UInt8:=Lib.itoa x ++ [32]
def wordB (x:BitVec 64):List UInt8:=Lib.decDigits x.toNat ++ [32]
theorem numB_part {x y:Int} {r s:List UInt8} (h:numB x ++ r=numB y ++ s):x=y∧r=s:=by
 unfold numB at h
 rw [List.append_assoc,List.append_assoc] at h
 obtain ⟨h1,h2⟩:=part32 (itoa_no32 x) (itoa_no32 y) h
 exact ⟨itoa_inj h1,h2⟩
theorem wordB_part {x y:BitVec 64} {r s:List UInt8} (h:wordB x ++ r=wordB y ++ s):x=y∧r=s:=by
 unfold wordB at h
 rw [List.append_assoc,List.append_assoc] at h
 obtain ⟨h1,h2⟩:=part32 (dec_no32 x.toNat) (dec_no32 y.toNat) h
 exact ⟨BitVec.eq_of_toNat_eq (dec_inj h1),h2⟩
def headB (k lo hi:Int) (n:Nat) (a b c d:BitVec 64):List UInt8:=numB k ++ (numB lo ++ (numB hi ++ (numB n ++ (wordB a ++ (wordB b ++ (wordB c ++ wordB d))))))
mutual
def tellB:Tr→List UInt8
 | .node k a b c d s _ lo hi _=>headB k lo hi s.length a b c d ++ tellsB s
def tellsB:List Tr→List UInt8
 | []=>[]
 | t :: l=>tellB t ++ tellsB l
end
theorem tellB_eq (t:Tr):t.tellB=headB t.kind t.least t.most t.subs.length t.w0 t.w1 t.w2 t.w3 ++ tellsB t.subs:=by cases t;rw [tellB];rfl
theorem tellsB_append:∀ (l m:List Tr),tellsB (l ++ m)=tellsB l ++ tellsB m
 | [],m=>rfl
 | t :: l,m=>by rw [List.cons_append,tellsB,tellsB,tellsB_append l m,List.append_assoc]
theorem tellsB_take (l:List Tr) (m:Nat) (x:Tr) (h:l[m]? = some x):tellsB (l.take (m+1))=tellsB (l.take m) ++ x.tellB:=by
 rw [List.take_add_one,h,Option.toList_some,tellsB_append,tellsB,tellsB,List.append_nil]
inductive Clear:Tr→Prop
 | mk (t:Tr) (hn:t.num=0) (hb:t.bare=false) (hs:∀ u,u ∈ t.subs→Clear u):Clear t
theorem Clear.sub {t u:Tr} (h:Clear t) (hu:u ∈ t.subs):Clear u:=by cases h with | mk _ _ _ hs=>exact hs u hu
theorem Clear.num {t:Tr} (h:Clear t):t.num=0:=by cases h;assumption
theorem Clear.nb {t:Tr} (h:Clear t):t.bare=false:=by cases h;assumption
theorem Simp.clear:∀ {t:Tr},Simp t→Clear t:=by
 intro t
 induction t using Tr.rec_subs with
 | h t ih =>
   intro h
   refine .mk t ?_ h.nb fun u hu=>ih u hu (h.sub hu)
   have hf:=h.fields
   have h7:=h.k7
   unfold fieldsOk at hf
   omega
theorem tells_part:∀ (l m:List Tr),(∀ u,u ∈ l→∀ v:Tr,u.Clear→v.Clear→∀ r s:List UInt8,u.tellB ++ r=v.tellB ++ s→u=v∧r=s)→(∀ u,u ∈ l→Clear u)→(∀ u,u ∈ m→Clear u)→l.length=m.length→∀ r s:List UInt8,tellsB l ++ r=tellsB m ++ s→l=m∧r=s
 | [],[],_,_,_,_,r,s,h=>⟨rfl,h⟩
 | [],_ :: _,_,_,_,hl,_,_,_=>by simp at hl
 | _ :: _,[],_,_,_,hl,_,_,_=>by simp at hl
 | t :: l,u :: m,ih,hc,hd,hl,r,s,h=>by
   rw [tellsB,tellsB,List.append_assoc,List.append_assoc] at h
   obtain ⟨h1,h2⟩:=ih t List.mem_cons_self u (hc t List.mem_cons_self) (hd u List.mem_cons_self) _ _ h
   obtain ⟨h3,h4⟩:=tells_part l m (fun v hv=>ih v (List.mem_cons_of_mem _ hv)) (fun v hv=>hc v (List.mem_cons_of_mem _ hv)) (fun v hv=>hd v (List.mem_cons_of_mem _ hv)) (by simpa using hl) r s h2
   exact ⟨by rw [h1,h3],h4⟩
theorem tell_part:∀ u v:Tr,u.Clear→v.Clear→∀ r s:List UInt8,u.tellB ++ r=v.tellB ++ s→u=v∧r=s:=by
 intro u
 induction u using Tr.rec_subs with
 | h u ih =>
   intro v hu hv r s h
   rw [tellB_eq,tellB_eq] at h
   unfold headB at h
   simp only [List.append_assoc] at h
   obtain ⟨e1,h⟩:=numB_part h
   obtain ⟨e2,h⟩:=numB_part h
   obtain ⟨e3,h⟩:=numB_part h
   obtain ⟨e4,h⟩:=numB_part h
   obtain ⟨e5,h⟩:=wordB_part h
   obtain ⟨e6,h⟩:=wordB_part h
   obtain ⟨e7,h⟩:=wordB_part h
   obtain ⟨e8,h⟩:=wordB_part h
   obtain ⟨e9,h⟩:=tells_part u.subs v.subs (fun x hx=>ih x hx) (fun x hx=>hu.sub hx) (fun x hx=>hv.sub hx) (by omega) r s h
   refine ⟨?_,h⟩
   rw [u.eta,v.eta,e1,e2,e3,e5,e6,e7,e8,e9,hu.num,hv.num,hu.nb,hv.nb]
theorem tell_inj {u v:Tr} (hu:u.Clear) (hv:v.Clear) (h:u.tellB=v.tellB):u=v:=(tell_part u v hu hv [] [] (by rw [h])).1
theorem numB_len {x:Int} (h0 : -9223372036854775808 ≤ x) (h1:x ≤ 9223372036854775807):(numB x).length ≤ 22:=by
 unfold numB;rw [List.length_append]
 have:=Lib.itoa_length_le x h0 h1
 show _+1 ≤ 22
 omega
theorem wordB_len (x:BitVec 64):(wordB x).length ≤ 21:=by
 unfold wordB;rw [List.length_append,Lib.decDigits_length]
 have hx:=x.isLt
 have h2:∀ (k u:Nat),u < 10 ^ k→1 ≤ k→Lib.nDigits u ≤ k:=by
   intro k
   induction k with
   | zero=>intro u _ h;omega
   | succ k ih =>
     intro u hu _
     by_cases h:u < 10
     · rw [Lib.nDigits_small h];omega
     · rw [Lib.nDigits_big h]
       rw [Nat.pow_succ] at hu
       by_cases hk:k=0
       · subst hk;omega
       · have:=ih (u / 10) (by omega) (by omega);omega
 have h3:=h2 20 x.toNat (by omega) (by omega)
 show _+1 ≤ 21
 omega
end Tr
end Go.Proofs.YtllfgppjobinnaaDoor
