/- Part 1 of what these proofs need. -/
import Derived.WalkKit
import Derived.WalkSpells
import Derived.WalkLawsBesides
import Derived.Handy
import Derived.Lib.Hide
import Derived.Deep.MidRow
import Derived.Test.YtfcilopifjddpaaGreatDoorRows
import Derived.Laws.AppendOwn
import Derived.Great.BuildSlice
import Derived.Laws.MakeOwn
import Derived.Deep.RegionWith
import Derived.Deep.RegionHeld3
import Derived.StillTailTactics
import Derived.Deep.QuietTactic
import Derived.BigQuiet
import Derived.Shelf.Spec.TrailingZeros
import Derived.RegionTactic
import Derived.Deep.CutBlock
import Derived.ChangeAlike
set_option maxRecDepth 100000
set_option maxHeartbeats 16000000
namespace Go.Proofs.YtfcilopifjddpaaGreatDoor
open Go.RowKit
theorem ret_int {k:IntKind} {a b:Int} (h:a=b):Ending.returned (.int k a)=.returned (.int k b):=by rw [h]
theorem ret_bool {a b:Bool} (h:a=b):Ending.returned (.bool a)=.returned (.bool b):=by rw [h]
theorem four {w:World} {b:Nat} {x0 x1 x2 x3:Value} {t:TypeId} (h:w.heap[b]? = some (.cells #[x0,x1,x2,x3] t)) :
   w.cell? ⟨b,0,none⟩=some x0∧w.cell? ⟨b,1,none⟩=some x1∧w.cell? ⟨b,2,none⟩=some x2∧w.cell? ⟨b,3,none⟩=some x3 ∧
   w.frozen? ⟨b,0,none⟩=false∧w.frozen? ⟨b,1,none⟩=false∧w.frozen? ⟨b,2,none⟩=false∧w.frozen? ⟨b,3,none⟩=false:=by
 simp [World.cell?,World.frozen?,h]
theorem heap_alloc_lt {w:World} {b:Nat} {o x:Obj} (h:w.heap[b]? = some x):(w.alloc o).heap[b]? = some x:=by
 rw [Below.heap_alloc _ _ _ (by have:=Array.getElem?_eq_some_iff.1 h;exact this.1)];exact h
theorem set4 {w:World} {b:Nat} {x0 x1 x2 x3:Value} {t:TypeId} (v0 v1 v2 v3:Value) (h:w.heap[b]? = some (.cells #[x0,x1,x2,x3] t)) :
   ((((w.setCell ⟨b,0,none⟩ v0).setCell ⟨b,1,none⟩ v1).setCell ⟨b,2,none⟩ v2).setCell ⟨b,3,none⟩ v3).heap[b]? = some (.cells #[v0,v1,v2,v3] t):=by
 simp [World.setCell,Array.getElem?_modify,h]
theorem set4_other {w:World} {b b':Nat} {x:Obj} (v0 v1 v2 v3:Value) (h:w.heap[b']? = some x) (hb:b' ≠ b) :
   ((((w.setCell ⟨b,0,none⟩ v0).setCell ⟨b,1,none⟩ v1).setCell ⟨b,2,none⟩ v2).setCell ⟨b,3,none⟩ v3).heap[b']? = some x:=by
 rw [Below.heap_setCell _ _ _ _ hb,Below.heap_setCell _ _ _ _ hb,Below.heap_setCell _ _ _ _ hb,Below.heap_setCell _ _ _ _ hb];exact h
theorem four_on {w:World} {b:Nat} {x0 x1 x2 x3:Value} {t:TypeId} (h:w.heap[b]? = some (.cells #[x0,x1,x2,x3] t)) :
   (∀ o,(w.alloc o).cell? ⟨b,0,none⟩=some x0)∧(∀ o,(w.alloc o).frozen? ⟨b,0,none⟩=false) ∧
   (∀ v o,((w.setCell ⟨b,0,none⟩ v).alloc o).cell? ⟨b,1,none⟩=some x1)∧(∀ v o,((w.setCell ⟨b,0,none⟩ v).alloc o).frozen? ⟨b,1,none⟩=false) ∧
   (∀ v v' o,(((w.setCell ⟨b,0,none⟩ v).setCell ⟨b,1,none⟩ v').alloc o).cell? ⟨b,2,none⟩=some x2)∧(∀ v v' o,(((w.setCell ⟨b,0,none⟩ v).setCell ⟨b,1,none⟩ v').alloc o).frozen? ⟨b,2,none⟩=false) ∧
   (∀ v v' v'' o,((((w.setCell ⟨b,0,none⟩ v).setCell ⟨b,1,none⟩ v').setCell ⟨b,2,none⟩ v'').alloc o).cell? ⟨b,3,none⟩=some x3)∧(∀ v v' v'' o,((((w.setCell ⟨b,0,none⟩ v).setCell ⟨b,1,none⟩ v').setCell ⟨b,2,none⟩ v'').alloc o).frozen? ⟨b,3,none⟩=false):=by
 have k1:∀ v,(w.setCell ⟨b,0,none⟩ v).heap[b]? = some (.cells #[v,x1,x2,x3] t):=fun v=>by simp [World.setCell,Array.getElem?_modify,h]
 have k2:∀ v v',((w.setCell ⟨b,0,none⟩ v).setCell ⟨b,1,none⟩ v').heap[b]? = some (.cells #[v,v',x2,x3] t):=fun v v'=>by simp [World.setCell,Array.getElem?_modify,h]
 have k3:∀ v v' v'',(((w.setCell ⟨b,0,none⟩ v).setCell ⟨b,1,none⟩ v').setCell ⟨b,2,none⟩ v'').heap[b]? = some (.cells #[v,v',v'',x3] t):=fun v v' v''=>by simp [World.setCell,Array.getElem?_modify,h]
 refine ⟨fun o=>?_,fun o=>?_,fun v o=>?_,fun v o=>?_,fun v v' o=>?_,fun v v' o=>?_,fun v v' v'' o=>?_,fun v v' v'' o=>?_⟩
 · exact (four (heap_alloc_lt (o:=o) h)).1
 · exact (four (heap_alloc_lt (o:=o) h)).2.2.2.2.1
 · exact (four (heap_alloc_lt (o:=o) (k1 v))).2.1
 · exact (four (heap_alloc_lt (o:=o) (k1 v))).2.2.2.2.2.1
 · exact (four (heap_alloc_lt (o:=o) (k2 v v'))).2.2.1
 · exact (four (heap_alloc_lt (o:=o) (k2 v v'))).2.2.2.2.2.2.1
 · exact (four (heap_alloc_lt (o:=o) (k3 v v' v''))).2.2.2.1
 · exact (four (heap_alloc_lt (o:=o) (k3 v v' v''))).2.2.2.2.2.2.2
theorem four_st {w:World} {b:Nat} {x0 x1 x2 x3:Value} {t:TypeId} (h:w.heap[b]? = some (.cells #[x0,x1,x2,x3] t)) :
   w.cell? ⟨b,0,none⟩=some x0∧w.frozen? ⟨b,0,none⟩=false ∧
   (∀ v,(w.setCell ⟨b,0,none⟩ v).cell? ⟨b,1,none⟩=some x1)∧(∀ v,(w.setCell ⟨b,0,none⟩ v).frozen? ⟨b,1,none⟩=false) ∧
   (∀ v v',((w.setCell ⟨b,0,none⟩ v).setCell ⟨b,1,none⟩ v').cell? ⟨b,2,none⟩=some x2)∧(∀ v v',((w.setCell ⟨b,0,none⟩ v).setCell ⟨b,1,none⟩ v').frozen? ⟨b,2,none⟩=false) ∧
   (∀ v v' v'',(((w.setCell ⟨b,0,none⟩ v).setCell ⟨b,1,none⟩ v').setCell ⟨b,2,none⟩ v'').cell? ⟨b,3,none⟩=some x3)∧(∀ v v' v'',(((w.setCell ⟨b,0,none⟩ v).setCell ⟨b,1,none⟩ v').setCell ⟨b,2,none⟩ v'').frozen? ⟨b,3,none⟩=false) ∧
   (∀ v,(w.setCell ⟨b,0,none⟩ v).cell? ⟨b,0,none⟩=some v) ∧
   (∀ v v',((w.setCell ⟨b,0,none⟩ v).setCell ⟨b,1,none⟩ v').cell? ⟨b,1,none⟩=some v') ∧
   (∀ v v' v'',(((w.setCell ⟨b,0,none⟩ v).setCell ⟨b,1,none⟩ v').setCell ⟨b,2,none⟩ v'').cell? ⟨b,2,none⟩=some v'') ∧
   (∀ v v' v'' v3,((((w.setCell ⟨b,0,none⟩ v).setCell ⟨b,1,none⟩ v').setCell ⟨b,2,none⟩ v'').setCell ⟨b,3,none⟩ v3).cell? ⟨b,3,none⟩=some v3):=by
 have k1:∀ v,(w.setCell ⟨b,0,none⟩ v).heap[b]? = some (.cells #[v,x1,x2,x3] t):=fun v=>by simp [World.setCell,Array.getElem?_modify,h]
 have k2:∀ v v',((w.setCell ⟨b,0,none⟩ v).setCell ⟨b,1,none⟩ v').heap[b]? = some (.cells #[v,v',x2,x3] t):=fun v v'=>by simp [World.setCell,Array.getElem?_modify,h]
 have k3:∀ v v' v'',(((w.setCell ⟨b,0,none⟩ v).setCell ⟨b,1,none⟩ v').setCell ⟨b,2,none⟩ v'').heap[b]? = some (.cells #[v,v',v'',x3] t):=fun v v' v''=>by simp [World.setCell,Array.getElem?_modify,h]
 have k4:=fun v v' v'' v3=>set4 v v' v'' v3 h
 exact ⟨(four h).1,(four h).2.2.2.2.1,fun v=>(four (k1 v)).2.1,fun v=>(four (k1 v)).2.2.2.2.2.1,fun v v'=>(four (k2 v v')).2.2.1,fun v v'=>(four (k2 v v')).2.2.2.2.2.2.1,fun v v' v''=>(four (k3 v v' v'')).2.2.2.1,fun v v' v''=>(four (k3 v v' v'')).2.2.2.2.2.2.2,
   fun v=>(four (k1 v)).1,fun v v'=>(four (k2 v v')).2.1,fun v v' v''=>(four (k3 v v' v'')).2.2.1,fun v v' v'' v3=>(four (k4 v v' v'' v3)).2.2.2.1⟩
theorem two_new (w:World) (x y:Obj):((w.alloc x).alloc y).heap[w.heap.size]? = some x∧((w.alloc x).alloc y).heap[w.heap.size+1]? = some y:=by
 show ((w.heap.push x).push y)[w.heap.size]? = _∧((w.heap.push x).push y)[w.heap.size+1]? = _
 constructor
 · simp [Array.getElem?_push]
 · rw [Array.getElem?_push,if_pos (by simp)]
theorem cell_new (w:World) (cs:Array Value) (t:TypeId) (j:Nat):(w.alloc (.cells cs t)).cell? ⟨w.heap.size,j,none⟩=cs[j]?:=by
 have e:(w.alloc (.cells cs t)).heap[w.heap.size]? = some (.cells cs t):=by show (w.heap.push _)[w.heap.size]? = _;simp
 unfold World.cell?;rw [e];rfl
theorem three_new (w:World) (x y z:Obj):(((w.alloc x).alloc y).alloc z).heap[w.heap.size]? = some x∧(((w.alloc x).alloc y).alloc z).heap[w.heap.size+1]? = some y∧(((w.alloc x).alloc y).alloc z).heap[w.heap.size+1+1]? = some z:=by
 show (((w.heap.push x).push y).push z)[w.heap.size]? = _∧(((w.heap.push x).push y).push z)[w.heap.size+1]? = _∧(((w.heap.push x).push y).push z)[w.heap.size+1+1]? = _
 refine ⟨?_, ?_, ?_⟩
 · simp [Array.getElem?_push];omega
 · rw [Array.getElem?_push,if_neg (by simp),Array.getElem?_push,if_pos (by simp)]
 · rw [Array.getElem?_push,if_pos (by simp)]
theorem below_setRow {B g:Nat} {a w:World} (h:Below B a w) (hg:B ≤ g) (cs:Array Value):Below B a (w.setRow g cs) :=
 h.trans ⟨rfl,rfl,rfl,by simp,fun k hk=>by simp only [World.setRow,Array.getElem?_modify];rw [if_neg (by omega)]⟩
theorem heap_setRow {w:World} {g:Nat} {old cs:Array Value} {t:TypeId} (h:w.heap[g]? = some (.cells old t)):(w.setRow g cs).heap[g]? = some (.cells cs t):=by
 simp [World.setRow,Array.getElem?_modify,h]
theorem keep_blk {w w':World} {g:Nat} {x:Obj} (hb:Below w.heap.size w w') (h:w.heap[g]? = some x):w'.heap[g]? = some x :=
 (hb.block g (Array.getElem?_eq_some_iff.1 h).1).trans h
theorem heap_setRow_other (w:World) (g:Nat) (cs:Array Value) {k:Nat} (h:k ≠ g):(w.setRow g cs).heap[k]? = w.heap[k]?:=by
 simp only [World.setRow,Array.getElem?_modify];rw [if_neg (Ne.symm h)]
theorem keep_new {w w':World} {g:Nat} {o x:Obj} (hb:Below (w.heap.size+1) (w.alloc o) w') (h:w.heap[g]? = some x):w'.heap[g]? = some x :=
 keep_blk (w:=w.alloc o) (by simpa using hb) (heap_alloc_lt h)
end Go.Proofs.YtfcilopifjddpaaGreatDoor
namespace Go.Proofs.YtfcilopifjddpaaGreatDoor
namespace Oc
def U (x:BitVec 64):Int:=x.toNat
theorem U_nonneg (x:BitVec 64):0 ≤ U x:=by unfold U;omega
theorem U_lt (x:BitVec 64):U x < 18446744073709551616:=by have:=x.isLt;unfold U;omega
theorem U_inj {x y:BitVec 64} (h:U x=U y):x=y:=by
 unfold U at h;exact BitVec.eq_of_toNat_eq (by omega)
theorem ofInt_U (x:BitVec 64):BitVec.ofInt 64 (U x)=x:=by
 unfold U;rw [BitVec.ofInt_natCast];exact BitVec.eq_of_toNat_eq (by rw [BitVec.toNat_ofNat];exact Nat.mod_eq_of_lt x.isLt)
theorem wrapU (n:Int):IntKind.u64.wrap n=U (BitVec.ofInt 64 n):=by
 rw [IntKind.wrap_u64];unfold U;rw [BitVec.toNat_ofInt];omega
theorem andU (x y:BitVec 64):bits .and .u64 (U x) (U y)=U (x &&& y):=by
 show IntKind.u64.wrap ((BitVec.ofInt 64 (U x) &&& BitVec.ofInt 64 (U y)).toNat:Int)=_
 rw [ofInt_U,ofInt_U,wrapU];exact congrArg U (ofInt_U (x &&& y))
theorem orU (x y:BitVec 64):bits .or .u64 (U x) (U y)=U (x ||| y):=by
 show IntKind.u64.wrap ((BitVec.ofInt 64 (U x) ||| BitVec.ofInt 64 (U y)).toNat:Int)=_
 rw [ofInt_U,ofInt_U,wrapU];exact congrArg U (ofInt_U (x ||| y))
theorem maxU:IntKind.u64.max=U (BitVec.allOnes 64):=by decide
theorem notU (x:BitVec 64):bits .xor .u64 IntKind.u64.max (U x)=U (~~~x):=by
 rw [maxU]
 show IntKind.u64.wrap ((BitVec.ofInt 64 (U (BitVec.allOnes 64)) ^^^ BitVec.ofInt 64 (U x)).toNat:Int)=_
 rw [ofInt_U,ofInt_U,wrapU]
 exact congrArg U ((ofInt_U (BitVec.allOnes 64 ^^^ x)).trans BitVec.allOnes_xor)
theorem shrU (x:BitVec 64) (n:Nat):U x / ((2 ^ n:Nat):Int)=U (x >>> n):=by
 unfold U;rw [BitVec.toNat_ushiftRight,Nat.shiftRight_eq_div_pow];simp
theorem hasBit (x:BitVec 64) (k:Nat):(bits .and .u64 (U x / (2:Int) ^ k) 1 == 1)=x.getLsbD k:=by
 have e:U x / (2:Int) ^ k=U (x >>> k):=by
   rw [← shrU];congr 1
 have e1:(1:Int)=U 1#64:=by decide
 rw [e]
 show (bits .and .u64 (U (x >>> k)) (U 1#64) == U 1#64)=_
 rw [andU]
 have hb:(x >>> k &&& 1#64)=if x.getLsbD k then 1#64 else 0#64:=by
   apply BitVec.eq_of_getLsbD_eq;intro i hi
   by_cases h:i=0
   · subst h;cases hx:x.getLsbD k <;> simp [hx]
   · cases hx:x.getLsbD k <;> simp [h]
 rw [hb]
 cases x.getLsbD k <;> decide
theorem shlBit (k:Nat):IntKind.u64.wrap ((2:Int) ^ k)=U (1#64 <<< k):=by
 rw [wrapU];refine congrArg U ?_
 apply BitVec.eq_of_toNat_eq
 rw [BitVec.toNat_shiftLeft,show ((2:Int) ^ k)=((2 ^ k:Nat):Int) by simp,BitVec.ofInt_natCast,BitVec.toNat_ofNat,Nat.shiftLeft_eq]
 simp
def cnt (p:Nat→Bool):Nat→Nat
 | 0=>0
 | n+1=>cnt p n+(p n).toNat
theorem cnt_le (p:Nat→Bool):∀ n,cnt p n ≤ n
 | 0=>Nat.le_refl _
 | n+1=>by have:=cnt_le p n;have:=(p n).toNat_le;simp only [cnt];omega
def w4 (a b c d:BitVec 64) (k:Nat):BitVec 64:=if k=0 then a else if k=1 then b else if k=2 then c else d
def mem (a b c d:BitVec 64) (i:Nat):Bool:=(w4 a b c d (i / 64)).getLsbD (i % 64)
theorem mem0 (a b c d:BitVec 64) (i:Nat) (h:i < 64):mem a b c d i=a.getLsbD i:=by
 unfold mem w4;rw [show i / 64=0 by omega,show i % 64=i by omega];rfl
theorem mem1 (a b c d:BitVec 64) (i:Nat) (h:i < 64):mem a b c d (64+i)=b.getLsbD i:=by
 unfold mem w4;rw [show (64+i) / 64=1 by omega,show (64+i) % 64=i by omega];rfl
theorem mem2 (a b c d:BitVec 64) (i:Nat) (h:i < 64):mem a b c d (128+i)=c.getLsbD i:=by
 unfold mem w4;rw [show (128+i) / 64=2 by omega,show (128+i) % 64=i by omega];rfl
theorem mem3 (a b c d:BitVec 64) (i:Nat) (h:i < 64):mem a b c d (192+i)=d.getLsbD i:=by
 unfold mem w4;rw [show (192+i) / 64=3 by omega,show (192+i) % 64=i by omega];rfl
theorem mem_or (a b c d a' b' c' d':BitVec 64) (i:Nat):mem (a ||| a') (b ||| b') (c ||| c') (d ||| d') i=(mem a b c d i || mem a' b' c' d' i):=by
 unfold mem w4;split <;> (try split) <;> (try split) <;> simp
theorem mem_and (a b c d a' b' c' d':BitVec 64) (i:Nat):mem (a &&& a') (b &&& b') (c &&& c') (d &&& d') i=(mem a b c d i && mem a' b' c' d' i):=by
 unfold mem w4;split <;> (try split) <;> (try split) <;> simp
theorem mem_not (a b c d:BitVec 64) (i:Nat):mem (~~~a) (~~~b) (~~~c) (~~~d) i = !mem a b c d i:=by
 have:i % 64 < 64:=by omega
 unfold mem w4;split <;> (try split) <;> (try split) <;> simp [this]
def wn (p:Nat→Bool) (k:Nat):Nat→Nat
 | 0=>0
 | n+1=>wn p k n+(if p (64 * k+n) then 2 ^ n else 0)
theorem wn_lt (p:Nat→Bool) (k:Nat):∀ n,wn p k n < 2 ^ n
 | 0=>by simp [wn]
 | n+1=>by have:=wn_lt p k n;simp only [wn];split <;> omega
theorem wn_bit (p:Nat→Bool) (k:Nat):∀ n i,i < n→(wn p k n).testBit i=p (64 * k+i)
 | 0,i,h=>by omega
 | n+1,i,h=>by
   have hl:=wn_lt p k n
   simp only [wn]
   by_cases e:i=n
   · subst e
     by_cases q:p (64 * k+i)=true
     · rw [if_pos q,q,Nat.add_comm,Nat.testBit_two_pow_add_eq,Nat.testBit_lt_two_pow hl];rfl
     · rw [if_neg q,Nat.add_zero,Nat.testBit_lt_two_pow hl];simpa using q
   · rw [← wn_bit p k n i (by omega)]
     split
     · rw [Nat.add_comm,Nat.testBit_two_pow_add_gt (by omega)]
     · rw [Nat.add_zero]
def mk (p:Nat→Bool) (k:Nat):BitVec 64:=BitVec.ofNat 64 (wn p k 64)
theorem mk_bit (p:Nat→Bool) (k i:Nat) (h:i < 64):(mk p k).getLsbD i=p (64 * k+i):=by
 unfold mk;rw [BitVec.getLsbD_ofNat,wn_bit p k 64 i h];simp [h]
theorem mk_eq {p:Nat→Bool} {k:Nat} {x:BitVec 64} (h:∀ i,i < 64→p (64 * k+i)=x.getLsbD i):mk p k=x:=by
 apply BitVec.eq_of_getLsbD_eq;intro i hi;rw [mk_bit p k i hi,h i hi]
theorem mem_mk (p:Nat→Bool) (i:Nat) (h:i < 256):mem (mk p 0) (mk p 1) (mk p 2) (mk p 3) i=p i:=by
 have h3:i % 64 < 64:=by omega
 have:i / 64=0 ∨ i / 64=1 ∨ i / 64=2 ∨ i / 64=3:=by omega
 unfold mem w4
 rcases this with e | e | e | e <;> simp only [e] <;> simp only [if_true,if_false,Nat.reduceEqDiff] <;> rw [mk_bit _ _ _ h3] <;> congr 1 <;> omega
theorem ext4 {a b c d a' b' c' d':BitVec 64} (h:∀ i,i < 256→mem a b c d i=mem a' b' c' d' i):a=a'∧b=b'∧c=c'∧d=d':=by
 refine ⟨?_, ?_, ?_, ?_⟩ <;> (apply BitVec.eq_of_getLsbD_eq;intro i hi)
 · have:=h i (by omega);rwa [mem0 _ _ _ _ _ hi,mem0 _ _ _ _ _ hi] at this
 · have:=h (64+i) (by omega);rwa [mem1 _ _ _ _ _ hi,mem1 _ _ _ _ _ hi] at this
 · have:=h (128+i) (by omega);rwa [mem2 _ _ _ _ _ hi,mem2 _ _ _ _ _ hi] at this
 · have:=h (192+i) (by omega);rwa [mem3 _ _ _ _ _ hi,mem3 _ _ _ _ _ hi] at this
def orAll (A:Nat→BitVec 64):Nat→BitVec 64
 | 0=>0#64
 | n+1=>orAll A n ||| A n
def andAll (A:Nat→BitVec 64):Nat→BitVec 64
 | 0=>BitVec.allOnes 64
 | n+1=>andAll A n &&& A n
def anyB (bs:Nat→Nat):Nat→Nat→Bool
 | 0,_=>false
 | n+1,j=>anyB bs n j || j == bs n
theorem mk_same {p q:Nat→Bool} {v k:Nat} (hq:∀ j,q j=(p j || j == v)) (hk:v / 64 ≠ k):mk q k=mk p k:=by
 refine mk_eq fun i hi=>?_
 rw [mk_bit p k i hi,hq,show (64 * k+i == v)=false from by simp;omega];simp
theorem mk_turn {p q:Nat→Bool} {v k:Nat} (hq:∀ j,q j=(p j || j == v)) (hk:v / 64=k):mk q k=mk p k ||| (1#64 <<< (v % 64)):=by
 refine mk_eq fun i hi=>?_
 rw [hq,BitVec.getLsbD_or,mk_bit p k i hi]
 congr 1
 rw [BitVec.getLsbD_shiftLeft,BitVec.getLsbD_one,Bool.eq_iff_iff]
 simp [hi];omega
theorem mk_none (k:Nat):mk (fun _=>false) k=0#64:=by
 refine mk_eq fun i _=>?_
 simp
end Oc
end Go.Proofs.YtfcilopifjddpaaGreatDoor
namespace Go.Proofs.YtfcilopifjddpaaGreatDoor
open Go.RowKit
inductive Tr
 | node (kind:Int) (a b c d:BitVec 64) (subs:List Tr) (num least most:Int) (bare:Bool)
namespace Tr
def kind:Tr→Int | .node k _ _ _ _ _ _ _ _ _=>k
def w0:Tr→BitVec 64 | .node _ a _ _ _ _ _ _ _ _=>a
def w1:Tr→BitVec 64 | .node _ _ b _ _ _ _ _ _ _=>b
def w2:Tr→BitVec 64 | .node _ _ _ c _ _ _ _ _ _=>c
def w3:Tr→BitVec 64 | .node _ _ _ _ d _ _ _ _ _=>d
def subs:Tr→List Tr | .node _ _ _ _ _ s _ _ _ _=>s
def num:Tr→Int | .node _ _ _ _ _ _ n _ _ _=>n
def least:Tr→Int | .node _ _ _ _ _ _ _ m _ _=>m
def most:Tr→Int | .node _ _ _ _ _ _ _ _ m _=>m
def bare:Tr→Bool | .node _ _ _ _ _ _ _ _ _ b=>b
theorem size_sub {t u:Tr} (h:u ∈ t.subs):SizeOf.sizeOf u < SizeOf.sizeOf t:=by
 cases t with
 | node k a b c d s n lo hi br =>
   have:=List.sizeOf_lt_of_mem h
   simp only [subs] at this
   simp only [node.sizeOf_spec]
   omega
theorem rec_subs {P:Tr→Prop} (h:∀ t,(∀ u,u ∈ t.subs→P u)→P t) (t:Tr):P t:=by
 induction hn:SizeOf.sizeOf t using Nat.strongRecOn generalizing t with
 | _ n ih=>exact h t fun u hu=>ih _ (by have:=size_sub hu;omega) u rfl
def cells (t:Tr) (s:Value):Array Value :=
 #[.int .i64 t.kind,.int .u64 (Oc.U t.w0),.int .u64 (Oc.U t.w1),.int .u64 (Oc.U t.w2),.int .u64 (Oc.U t.w3),s,.int .i64 t.num,.int .i64 t.least,.int .i64 t.most,.bool t.bare]
end Tr
structure TenAt (w:World) (b o:Nat) (t:Tr) (s:Value):Prop where
 c0:w.cell? ⟨b,o,none⟩=some (.int .i64 t.kind)
 c1:w.cell? ⟨b,o+1,none⟩=some (.int .u64 (Oc.U t.w0))
 c2:w.cell? ⟨b,o+2,none⟩=some (.int .u64 (Oc.U t.w1))
 c3:w.cell? ⟨b,o+3,none⟩=some (.int .u64 (Oc.U t.w2))
 c4:w.cell? ⟨b,o+4,none⟩=some (.int .u64 (Oc.U t.w3))
 c5:w.cell? ⟨b,o+5,none⟩=some s
 c6:w.cell? ⟨b,o+6,none⟩=some (.int .i64 t.num)
 c7:w.cell? ⟨b,o+7,none⟩=some (.int .i64 t.least)
 c8:w.cell? ⟨b,o+8,none⟩=some (.int .i64 t.most)
 c9:w.cell? ⟨b,o+9,none⟩=some (.bool t.bare)
inductive TreesAt (w:World) (B:Nat→Prop):Value→List Tr→Prop
 | mk (p:Option Addr) (cap:Nat) (ts:List Tr) (S:Nat→Value) (hlen:ts.length * 96 ≤ 140737488351232)
     (hc:∀ i t,ts[i]? = some t→∃ b o,p=some ⟨b,o,none⟩∧B b∧TenAt w b (o+i * 10) t (S i))
     (hs:∀ i t,ts[i]? = some t→TreesAt w B (S i) t.subs):TreesAt w B (.slice p ts.length cap) ts
def NodeV (w:World) (B:Nat→Prop) (v:Value) (t:Tr):Prop:=∃ s,v=.agg (t.cells s)∧TreesAt w B s t.subs
theorem TenAt.keep {w w':World} {b o:Nat} {t:Tr} {s:Value} (h:TenAt w b o t s) (hk:w'.heap[b]? = w.heap[b]?):TenAt w' b o t s:=by
 have e:∀ k,w'.cell? ⟨b,k,none⟩=w.cell? ⟨b,k,none⟩:=fun k=>by unfold World.cell?;rw [hk]
 exact ⟨(e _).trans h.c0,(e _).trans h.c1,(e _).trans h.c2,(e _).trans h.c3,(e _).trans h.c4,(e _).trans h.c5,(e _).trans h.c6,(e _).trans h.c7,(e _).trans h.c8,(e _).trans h.c9⟩
theorem TenAt.lt {w:World} {b o:Nat} {t:Tr} {s:Value} (h:TenAt w b o t s):b < w.heap.size:=block_lt_of_cell h.c0
theorem TreesAt.keep {w w':World} {B:Nat→Prop} {s:Value} {ts:List Tr} (h:TreesAt w B s ts) (hk:∀ b,b < w.heap.size→B b→w'.heap[b]? = w.heap[b]?):TreesAt w' B s ts:=by
 induction h with
 | mk p cap ts S hlen hc hs ih =>
   refine .mk p cap ts S hlen (fun i t hi=>?_) (fun i t hi=>ih i t hi)
   obtain ⟨b,o,hp,hB,h10⟩:=hc i t hi
   exact ⟨b,o,hp,hB,h10.keep (hk b h10.lt hB)⟩
theorem TreesAt.later {w w':World} {B:Nat→Prop} {s:Value} {ts:List Tr} (h:TreesAt w B s ts) (hb:Below w.heap.size w w'):TreesAt w' B s ts :=
 h.keep fun b hb' _=>hb.block b hb'
theorem TreesAt.mono {w:World} {B B':Nat→Prop} {s:Value} {ts:List Tr} (h:TreesAt w B s ts) (hB:∀ b,b < w.heap.size→B b→B' b):TreesAt w B' s ts:=by
 induction h with
 | mk p cap ts S hlen hc hs ih =>
   refine .mk p cap ts S hlen (fun i t hi=>?_) (fun i t hi=>ih i t hi)
   obtain ⟨b,o,hp,hb,h10⟩:=hc i t hi
   exact ⟨b,o,hp,hB b h10.lt hb,h10⟩
theorem TreesAt.nil {w:World} {B:Nat→Prop} {p:Option Addr} {cap:Nat} : TreesAt w B (.slice p 0 cap) [] :=
 .mk p cap [] (fun _=>.nilIface) (by simp) (fun i t h=>by simp at h) (fun i t h=>by simp at h)
theorem TreesAt.slice {w:World} {B:Nat→Prop} {s:Value} {ts:List Tr} (h:TreesAt w B s ts):∃ p cap,s=.slice p ts.length cap∧ts.length * 96 ≤ 140737488351232:=by
 cases h with | mk p cap _ S hlen hc hs=>exact ⟨p,cap,rfl,hlen⟩
theorem TreesAt.get {w:World} {B:Nat→Prop} {p:Option Addr} {len cap:Nat} {ts:List Tr} (h:TreesAt w B (.slice p len cap) ts) {i:Nat} {t:Tr} (hi:ts[i]? = some t) :
   ∃ b o s,p=some ⟨b,o,none⟩∧B b∧TenAt w b (o+i * 10) t s∧TreesAt w B s t.subs:=by
 cases h with
 | mk _ _ _ S hlen hc hs =>
   obtain ⟨b,o,hp,hB,h10⟩:=hc i t hi
   exact ⟨b,o,S i,hp,hB,h10,hs i t hi⟩
end Go.Proofs.YtfcilopifjddpaaGreatDoor
namespace Go.Proofs.YtfcilopifjddpaaGreatDoor
open Go.RowKit
structure Touch (F:List Nat) (w w':World):Prop where
 os:w'.os=w.os
 tape:w'.tape=w.tape
 output:w'.output=w.output
 size:w.heap.size ≤ w'.heap.size
 block:∀ k,k < w.heap.size→k ∉ F→w'.heap[k]? = w.heap[k]?
theorem Touch.of_below {w w':World} (F:List Nat) (h:Below w.heap.size w w'):Touch F w w':=⟨h.os,h.tape,h.output,h.size,fun k hk _=>h.block k hk⟩
theorem Touch.trans {F:List Nat} {a b c:World} (h:Touch F a b) (k:Touch F b c):Touch F a c :=
 ⟨k.os.trans h.os,k.tape.trans h.tape,k.output.trans h.output,Nat.le_trans h.size k.size,fun i hi hn=>(k.block i (Nat.lt_of_lt_of_le hi h.size) hn).trans (h.block i hi hn)⟩
theorem Touch.mono {F G:List Nat} {a b:World} (h:Touch F a b) (hs:∀ k,k ∈ F→k ∈ G):Touch G a b:=⟨h.os,h.tape,h.output,h.size,fun k hk hn=>h.block k hk fun hm=>hn (hs k hm)⟩
theorem Touch.below {F:List Nat} {a b:World} {B:Nat} (h:Touch F a b) (hB:∀ k,k ∈ F→B ≤ k) (hs:B ≤ a.heap.size):Below B a b :=
 ⟨h.os,h.tape,h.output,h.size,fun k hk=>h.block k (by omega) fun hm=>by have:=hB k hm;omega⟩
theorem heap_setCells_other {b k:Nat} (hk:k ≠ b):∀ (vs:List Value) (o:Nat) (w:World),(w.setCells b o vs).heap[k]? = w.heap[k]?
 | [],_,_=>rfl
 | v :: r,o,w=>by rw [World.setCells,heap_setCells_other hk r (o+1) _,Below.heap_setCell _ _ _ _ hk]
theorem size_setCells (b:Nat):∀ (vs:List Value) (o:Nat) (w:World),(w.setCells b o vs).heap.size=w.heap.size
 | [],_,_=>rfl
 | v :: r,o,w=>by rw [World.setCells,size_setCells b r (o+1) _];simp [World.setCell]
theorem streams_setCells (b:Nat):∀ (vs:List Value) (o:Nat) (w:World),(w.setCells b o vs).os=w.os∧(w.setCells b o vs).tape=w.tape∧(w.setCells b o vs).output=w.output
 | [],_,_=>⟨rfl,rfl,rfl⟩
 | v :: r,o,w=>by rw [World.setCells];exact streams_setCells b r (o+1) _
theorem cells_setCells {b:Nat} : ∀ (vs:List Value) (o:Nat) (w:World),(∃ cs ty,w.heap[b]? = some (.cells cs ty (0,0)))→∃ cs ty,(w.setCells b o vs).heap[b]? = some (.cells cs ty (0,0))
 | [],_,_,h=>h
 | v :: r,o,w,⟨cs,ty,h⟩=>by
   rw [World.setCells]
   exact cells_setCells r (o+1) _ ⟨cs.setIfInBounds o v,ty,by simp [World.setCell,Array.getElem?_modify,h]⟩
theorem Touch.setCells {F:List Nat} {a w:World} {b:Nat} (h:Touch F a w) (hb:b ∈ F) (o:Nat) (vs:List Value):Touch F a (w.setCells b o vs):=by
 obtain ⟨h1,h2,h3⟩:=streams_setCells b vs o w
 exact ⟨h1.trans h.os,h2.trans h.tape,h3.trans h.output,by rw [size_setCells];exact h.size,fun k hk hn=>by
   rw [heap_setCells_other (k:=k) (b:=b) (fun e=>by subst e;exact hn hb)];exact h.block k hk hn⟩
inductive Owned (w:World):Value→List Tr→List Nat→Prop
 | nil (p:Option Addr) (cap:Nat):Owned w (.slice p 0 cap) [] []
 | row (g o cap:Nat) (ts:List Tr) (S:Nat→Value) (L:Nat→List Nat) (hlen:ts.length * 96 ≤ 140737488351232) (hf:∃ cs ty,w.heap[g]? = some (.cells cs ty (0,0)))
     (hc:∀ i t,ts[i]? = some t→TenAt w g (o+i * 10) t (S i)) (hs:∀ i t,ts[i]? = some t→Owned w (S i) t.subs (L i))
     (hg:∀ i,i < ts.length→g ∉ L i) (hd:∀ i j b,i < ts.length→j < ts.length→i ≠ j→b ∈ L i→b ∉ L j) :
     Owned w (.slice (some ⟨g,o,none⟩) ts.length cap) ts (g :: (List.range ts.length).flatMap L)
theorem mem_range_flatMap {L:Nat→List Nat} {n b:Nat} : b ∈ (List.range n).flatMap L ↔ ∃ i,i < n∧b ∈ L i:=by
 simp [List.mem_flatMap,List.mem_range]
theorem lt_of_some {ts:List Tr} {i:Nat} {t:Tr} (h:ts[i]? = some t):i < ts.length:=by
 by_cases hi:i < ts.length
 · exact hi
 · rw [List.getElem?_eq_none (by omega)] at h;cases h
theorem Owned.trees {w:World} {s:Value} {ts:List Tr} {F:List Nat} (h:Owned w s ts F):TreesAt w (fun b=>b ∈ F) s ts:=by
 induction h with
 | nil p cap=>exact TreesAt.nil
 | row g o cap ts S L hlen hf hc hs hg hd ih =>
   refine .mk _ cap ts S hlen (fun i t hi=>⟨g,o,rfl,List.mem_cons_self,hc i t hi⟩) (fun i t hi=>?_)
   exact (ih i t hi).mono fun b _ hb=>List.mem_cons_of_mem _ (mem_range_flatMap.2 ⟨i,lt_of_some hi,hb⟩)
theorem Owned.lt {w:World} {s:Value} {ts:List Tr} {F:List Nat} (h:Owned w s ts F):∀ b,b ∈ F→b < w.heap.size:=by
 induction h with
 | nil p cap=>intro b hb;cases hb
 | row g o cap ts S L hlen hf hc hs hg hd ih =>
   intro b hb
   rcases List.mem_cons.1 hb with rfl | hb
   · obtain ⟨cs,ty,h⟩:=hf;exact (Array.getElem?_eq_some_iff.1 h).1
   · obtain ⟨i,hi,hb⟩:=mem_range_flatMap.1 hb
     exact ih i ts[i] (List.getElem?_eq_getElem hi) b hb
theorem Owned.keep {w w':World} {s:Value} {ts:List Tr} {F:List Nat} (h:Owned w s ts F) (hk:∀ b,b ∈ F→w'.heap[b]? = w.heap[b]?):Owned w' s ts F:=by
 induction h with
 | nil p cap=>exact .nil p cap
 | row g o cap ts S L hlen hf hc hs hg hd ih =>
   refine .row g o cap ts S L hlen ?_ (fun i t hi=>(hc i t hi).keep (hk g List.mem_cons_self)) (fun i t hi=>ih i t hi fun b hb=>hk b (List.mem_cons_of_mem _ (mem_range_flatMap.2 ⟨i,lt_of_some hi,hb⟩))) hg hd
   obtain ⟨cs,ty,h⟩:=hf
   exact ⟨cs,ty,(hk g List.mem_cons_self).trans h⟩
theorem Owned.later {w w':World} {s:Value} {ts:List Tr} {F:List Nat} (h:Owned w s ts F) (hb:Below w.heap.size w w'):Owned w' s ts F:=h.keep fun b hbF=>hb.block b (h.lt b hbF)
end Go.Proofs.YtfcilopifjddpaaGreatDoor
namespace Go.Proofs.YtfcilopifjddpaaGreatDoor
open Go.RowKit
theorem ret_agg {a b c d a' b' c' d':Int} (ha:a=a') (hb:b=b') (hc:c=c') (hd:d=d') :
   Ending.returned (.agg #[.int .u64 a,.int .u64 b,.int .u64 c,.int .u64 d])=.returned (.agg #[.int .u64 a',.int .u64 b',.int .u64 c',.int .u64 d']):=by rw [ha,hb,hc,hd]
theorem cells4 {w:World} {t:TypeId} {o:Obj} {a b c d a' b' c' d':BitVec 64} (ha:a=a') (hb:b=b') (hc:c=c') (hd:d=d') :
   (w.alloc o).alloc (.cells #[.int .u64 (Oc.U a),.int .u64 (Oc.U b),.int .u64 (Oc.U c),.int .u64 (Oc.U d)] t)=(w.alloc o).alloc (.cells #[.int .u64 (Oc.U a'),.int .u64 (Oc.U b'),.int .u64 (Oc.U c'),.int .u64 (Oc.U d')] t):=by rw [ha,hb,hc,hd]
theorem not_any (a b c d:BitVec 64) (w:World) :
   Calls Tryz.prog 113 #[(.agg #[.int .u64 (Oc.U a),.int .u64 (Oc.U b),.int .u64 (Oc.U c),.int .u64 (Oc.U d)])] w fun e w'=>e=.returned (.agg #[.int .u64 (Oc.U (~~~a)),.int .u64 (Oc.U (~~~b)),.int .u64 (Oc.U (~~~c)),.int .u64 (Oc.U (~~~d))])∧Below w.heap.size w w':=by
 go_enter Tryz.func113,Tryz.ntmps113
 go_wp2
 go_rounds 5
 go_returns
 exact ⟨ret_agg (Oc.notU a) (Oc.notU b) (Oc.notU c) (Oc.notU d),by go_grown⟩
theorem at0 (a b c d:Value) (w:World):(Instr.index 25 (.agg #[a,b,c,d]) (.int .i64 0)).run Tryz.prog w=.ok a w:=by kernel_rfl
theorem at1 (a b c d:Value) (w:World):(Instr.index 25 (.agg #[a,b,c,d]) (.int .i64 1)).run Tryz.prog w=.ok b w:=by kernel_rfl
theorem at2 (a b c d:Value) (w:World):(Instr.index 25 (.agg #[a,b,c,d]) (.int .i64 2)).run Tryz.prog w=.ok c w:=by kernel_rfl
theorem at3 (a b c d:Value) (w:World):(Instr.index 25 (.agg #[a,b,c,d]) (.int .i64 3)).run Tryz.prog w=.ok d w:=by kernel_rfl
theorem has_any (a b c d:BitVec 64) (n:Nat) (hn:n < 256) (w:World) :
   Calls Tryz.prog 172 #[(.agg #[.int .u64 (Oc.U a),.int .u64 (Oc.U b),.int .u64 (Oc.U c),.int .u64 (Oc.U d)]),.int .u8 n] w fun e w'=>e=.returned (.bool (Oc.mem a b c d n))∧Below w.heap.size w w':=by
 have ha:=Oc.U_nonneg a;have hb:=Oc.U_nonneg b;have hc:=Oc.U_nonneg c;have hd:=Oc.U_nonneg d
 have hq:n / 64=0 ∨ n / 64=1 ∨ n / 64=2 ∨ n / 64=3:=by omega
 rcases hq with hq | hq | hq | hq
 all_goals
   go_enter Tryz.func172,Tryz.ntmps172
   go_wp2
   go_returns
   refine ⟨ret_bool ?_,by go_grown⟩
   rw [Oc.hasBit]
   unfold Oc.mem Oc.w4
   rw [hq]
   rfl
theorem of_any (p:Option Addr) (len cap:Nat) (bs:Nat→Nat) (hlen:len ≤ 9223372036854775807) (w:World) (hb:∀ i,i < len→bs i < 256) (hc:∀ i,i < len→∃ b o,p=some ⟨b,o,none⟩∧b < w.heap.size∧w.cell? ⟨b,o+i,none⟩=some (.int .u8 (bs i))) :
   Calls Tryz.prog 114 #[.slice p len cap] w fun e w'=>e=.returned (.agg #[.int .u64 (Oc.U (Oc.mk (Oc.anyB bs len) 0)),.int .u64 (Oc.U (Oc.mk (Oc.anyB bs len) 1)),.int .u64 (Oc.U (Oc.mk (Oc.anyB bs len) 2)),.int .u64 (Oc.U (Oc.mk (Oc.anyB bs len) 3))])∧Below w.heap.size w w':=by
 go_enter Tryz.func114,Tryz.ntmps114
 go_wp2
 go_loopw [8] (fun i wr=>∃ k:Nat,k ≤ len∧i=.int .i64 k∧wr=(w.alloc (.cells #[.int .u64 0,.int .u64 0,.int .u64 0,.int .u64 0] 25)).alloc (.cells #[.int .u64 (Oc.U (Oc.mk (Oc.anyB bs k) 0)),.int .u64 (Oc.U (Oc.mk (Oc.anyB bs k) 1)),.int .u64 (Oc.U (Oc.mk (Oc.anyB bs k) 2)),.int .u64 (Oc.U (Oc.mk (Oc.anyB bs k) 3))] 25)) (fun i _=>len - (intOf i).toNat)
 case atStart =>
   exact ⟨0,Nat.zero_le _,rfl,by rw [show Oc.anyB bs 0=fun _=>false from rfl,Oc.mk_none,Oc.mk_none,Oc.mk_none,Oc.mk_none];rfl⟩
 case round =>
   obtain ⟨k,hk,rfl,rfl⟩:=hrel
   by_cases hlt:k < len
   · obtain ⟨b,o,rfl,hbs,hcell⟩:=hc k hlt
     have hv:=hb k hlt
     generalize hv':bs k=v at *
     have HV:=Lib.hid hv'
     clear hv' hc hb
     have hc1:∀ o1 o2,((w.alloc o1).alloc o2).cell? ⟨b,o+k,none⟩=some (.int .u8 v):=by
       intro o1 o2
       rw [← hcell]
       exact (((Below.refl w.heap.size w).alloc (Nat.le_refl _) o1).alloc (by simp) o2).cell hbs
     have hq:v / 64=0 ∨ v / 64=1 ∨ v / 64=2 ∨ v / 64=3:=by omega
     rcases hq with hq | hq | hq | hq
     all_goals
       go_wp2
       refine ⟨⟨k+1,by omega,by go_num, ?_⟩,by simp [intOf];omega⟩
       rw [Oc.shlBit,Oc.orU]
       have ht:∀ j,Oc.anyB bs (k+1) j=(Oc.anyB bs k j || j == v):=fun j=>by rw [← HV.out];rfl
       refine cells4 ?_ ?_ ?_ ?_
       all_goals first
         | rw [Oc.mk_turn ht hq]
         | rw [Oc.mk_same ht (by omega)]
   · obtain rfl:k=len:=by omega
     go_wp2
     go_returns
     exact ⟨rfl,by go_grown⟩
end Go.Proofs.YtfcilopifjddpaaGreatDoor
namespace Go.Proofs.YtfcilopifjddpaaGreatDoor
open Go.RowKit
theorem field5' {w:World} {b:Nat} {t:Tr} {s:Value} {ty:TypeId} (h:w.heap[b]? = some (.cells (t.cells s) ty)):w.cell? ⟨b,5,none⟩=some s:=by
 simp [World.cell?,h,Tr.cells]
def SpoilEnd (F:List Nat) (w:World) (e:Ending) (w':World):Prop:=e=.returned (.tuple #[])∧Touch F w w'
theorem frozen_of {w:World} {g o:Nat} (h:∃ cs ty,w.heap[g]? = some (.cells cs ty (0,0))):w.frozen? ⟨g,o,none⟩=false:=by
 obtain ⟨cs,ty,h⟩:=h;simp [World.frozen?,h]
theorem TenAt.there {w:World} {g o:Nat} {t:Tr} {s:Value} (h:TenAt w g o t s) (hf:∃ cs ty,w.heap[g]? = some (.cells cs ty (0,0))):w.there g o 10:=by
 intro j hj
 refine ⟨?_,frozen_of hf⟩
 have:j=0 ∨ j=1 ∨ j=2 ∨ j=3 ∨ j=4 ∨ j=5 ∨ j=6 ∨ j=7 ∨ j=8 ∨ j=9:=by omega
 rcases this with rfl | rfl | rfl | rfl | rfl | rfl | rfl | rfl | rfl | rfl
 · simpa using congrArg Option.isSome h.c0
 · simpa using congrArg Option.isSome h.c1
 · simpa using congrArg Option.isSome h.c2
 · simpa using congrArg Option.isSome h.c3
 · simpa using congrArg Option.isSome h.c4
 · simpa using congrArg Option.isSome h.c5
 · simpa using congrArg Option.isSome h.c6
 · simpa using congrArg Option.isSome h.c7
 · simpa using congrArg Option.isSome h.c8
 · simpa using congrArg Option.isSome h.c9
theorem TenAt.setCells {w:World} {g o o':Nat} {t:Tr} {s:Value} {vs:List Value} (h:TenAt w g o t s) (hv:vs.length=10) (ho:o'+10 ≤ o ∨ o+10 ≤ o'):TenAt (w.setCells g o' vs) g o t s:=by
 have e:∀ k,o ≤ k→k < o+10→(w.setCells g o' vs).cell? ⟨g,k,none⟩=w.cell? ⟨g,k,none⟩:=fun k h1 h2=>World.cell?_setCells_out g vs o' w _ (fun _ _=>by simp;omega)
 exact ⟨(e _ (by omega) (by omega)).trans h.c0,(e _ (by omega) (by omega)).trans h.c1,(e _ (by omega) (by omega)).trans h.c2,(e _ (by omega) (by omega)).trans h.c3,(e _ (by omega) (by omega)).trans h.c4,(e _ (by omega) (by omega)).trans h.c5,(e _ (by omega) (by omega)).trans h.c6,(e _ (by omega) (by omega)).trans h.c7,(e _ (by omega) (by omega)).trans h.c8,(e _ (by omega) (by omega)).trans h.c9⟩
theorem spoil_nil (t:Tr) (w:World) (p:Option Addr) (cap:Nat):Calls Tryz.prog 13 #[.agg (t.cells (.slice p 0 cap))] w (SpoilEnd [] w):=by
 unfold Tr.cells
 go_enter Tryz.func13,Tryz.ntmps13
 go_wp2
 go_loopw [6] (fun iv wr=>iv=.int .i64 0∧Hid (Below w.heap.size w wr)) (fun _ _=>0)
 case atStart=>exact ⟨rfl,Lib.hid (by go_grown)⟩
 case round =>
   obtain ⟨rfl,HB⟩:=hrel
   go_wp2
   go_end0
   exact ⟨rfl,Touch.of_below _ HB.out⟩
theorem spoil_any:∀ t:Tr,∀ (w:World) (s:Value) (F:List Nat),Owned w s t.subs F→Calls Tryz.prog 13 #[.agg (t.cells s)] w (SpoilEnd F w):=by
 intro t
 induction t using Tr.rec_subs with
 | h t ih =>
   intro w s F hO
   have IH:=Lib.hid ih
   clear ih
   have hlt:=hO.lt
   generalize hts:t.subs=ts at hO
   cases hO with
   | nil p cap=>exact spoil_nil t w p cap
   | row g o cap _ S L hlen hf hc hs hgL hd =>
     have HC:=Lib.hid hc;have HO:=Lib.hid hs;have HF:=Lib.hid hf;have HG:=Lib.hid hgL;have HDJ:=Lib.hid hd;have HTS:=Lib.hid hts;have HLT:=Lib.hid hlt
     have hgw:g < w.heap.size:=by obtain ⟨cs,ty,h⟩:=hf;exact (Array.getElem?_eq_some_iff.1 h).1
     have hbytes:ts.length ≤ 1152921504606846976:=by omega
     clear hc hs hf hgL hd hts hlt
     unfold Tr.cells
     go_enter Tryz.func13,Tryz.ntmps13
     go_wp2
     go_loopw [6] (fun iv wr=>∃ m:Nat,iv=.int .i64 m∧m ≤ ts.length∧Hid (Touch (g :: (List.range ts.length).flatMap L) w wr)∧w.heap.size < wr.heap.size∧Hid (wr.heap[w.heap.size]? = some (.cells (t.cells (.slice (some ⟨g,o,none⟩) ts.length cap)) 28)) ∧
       Hid (∀ j u,m ≤ j→ts[j]? = some u→TenAt wr g (o+j * 10) u (S j)∧Owned wr (S j) u.subs (L j))∧Hid (∃ cs ty,wr.heap[g]? = some (.cells cs ty (0,0)))) (fun iv _=>ts.length - (intOf iv).toNat)
     case atStart =>
       have hb:Below w.heap.size w (w.alloc (.cells #[.int .i64 t.kind,.int .u64 (Oc.U t.w0),.int .u64 (Oc.U t.w1),.int .u64 (Oc.U t.w2),.int .u64 (Oc.U t.w3),.slice (some ⟨g,o,none⟩) ts.length cap,.int .i64 t.num,.int .i64 t.least,.int .i64 t.most,.bool t.bare] 28)):=(Below.refl _ _).alloc (Nat.le_refl _) _
       exact ⟨0,rfl,Nat.zero_le _,Lib.hid (Touch.of_below _ hb),by simp,Lib.hid (heap_alloc_new _ _),Lib.hid (fun j u _ hj=>⟨(HC.out j u hj).keep (hb.block g hgw),(HO.out j u hj).later hb⟩),Lib.hid (by obtain ⟨cs,ty,h⟩:=HF.out;exact ⟨cs,ty,(hb.block g hgw).trans h⟩)⟩
     case round =>
       obtain ⟨m,rfl,hm,HT,hsz,Z0,hrest,hfr⟩:=hrel
       have wm:IntKind.i64.wrap ((m:Int)+1)=(m:Int)+1:=IntWalk.i64_in _ (by omega)
       by_cases hlt:m < ts.length
       · obtain ⟨x,hx⟩:∃ x,ts[m]? = some x:=⟨_,List.getElem?_eq_getElem hlt⟩
         obtain ⟨t10,own1⟩:=hrest.out m x (Nat.le_refl _) hx
         obtain ⟨d0,d1,d2,d3,d4,d5,d6,d7,d8,d9⟩:=t10
         have hmem:x ∈ t.subs:=by rw [HTS.out];exact List.mem_of_getElem? hx
         have HCALL:=Lib.hid (IH.out x hmem wr (S m) (L m) own1)
         have f5:=field5' Z0.out
         have OWN:=Lib.hid own1
         have HX:=Lib.hid hx
         clear own1 hmem hx
         go_wp2_with fail
         unfold Tr.cells at HCALL
         refine HCALL.out.mono ?_
         rintro e w2 ⟨rfl,ht2⟩
         have hgm:=HG.out m hlt
         have hgr:g < wr.heap.size:=Nat.lt_of_lt_of_le hgw HT.out.size
         have hg2:w2.heap[g]? = wr.heap[g]?:=ht2.block g hgr hgm
         have hwm:w.heap.size ∉ L m:=fun h=>by
           have:=HLT.out w.heap.size (List.mem_cons_of_mem _ (mem_range_flatMap.2 ⟨m,hlt,h⟩));omega
         have Z2:Hid (w2.heap[w.heap.size]? = some (.cells (t.cells (.slice (some ⟨g,o,none⟩) ts.length cap)) 28)):=Lib.hid ((ht2.block _ hsz hwm).trans Z0.out)
         have hf2:∃ cs ty,w2.heap[g]? = some (.cells cs ty (0,0)):=by rw [hg2];exact hfr.out
         have HTH:=Lib.hid (((hrest.out m x (Nat.le_refl _) HX.out).1.keep hg2).there hf2)
         have HT2:=Lib.hid (HT.out.trans (ht2.mono fun b hb=>List.mem_cons_of_mem _ (mem_range_flatMap.2 ⟨m,hlt,hb⟩)))
         have HF2:=Lib.hid hf2;have HG2:=Lib.hid hg2;have HTT:=Lib.hid ht2
         have f6:=field5' Z2.out
         have hsz2:w.heap.size < w2.heap.size:=Nat.lt_of_lt_of_le hsz ht2.size
         have hne:w.heap.size ≠ g:=by omega
         clear d0 d1 d2 d3 d4 d5 d6 d7 d8 d9 f5 hg2 hf2 ht2
         go_wp2_with (first
           | (refine wpList_store_mid rfl 28 (.tmp 20) (.tmp 19) rfl g (o+m * 10) #[.int .i64 77,.int .u64 0,.int .u64 0,.int .u64 0,.int .u64 0,.slice none 0 0,.int .i64 m,.int .i64 0,.int .i64 0,.bool false] rfl rfl HTH.out (by kernel_rfl) (by simp [Value.oneCell']) ?_;generalize hw3:World.setCells w2 _ _ _=w3;have HW3:=Lib.hid hw3;clear hw3)
           | fail)
         rw [← HW3.out]
         refine ⟨⟨m+1,by go_num,by omega,Lib.hid (HT2.out.setCells List.mem_cons_self _ _),by rw [size_setCells];exact hsz2,Lib.hid ((heap_setCells_other hne _ _ _).trans Z2.out),Lib.hid ?_,Lib.hid (cells_setCells _ _ _ HF2.out)⟩,by simp [intOf];omega⟩
         intro j u hj hu
         have hjl:=lt_of_some hu
         obtain ⟨q1,q2⟩:=hrest.out j u (by omega) hu
         refine ⟨(q1.keep HG2.out).setCells rfl (by omega), ?_⟩
         have q3:Owned w2 (S j) u.subs (L j):=q2.keep fun b hb=>HTT.out.block b (q2.lt b hb) (HDJ.out j m b hjl hlt (by omega) hb)
         exact q3.keep fun b hb=>heap_setCells_other (fun e=>by subst e;exact HG.out j hjl hb) _ _ _
       · obtain rfl:m=ts.length:=by omega
         go_wp2
         go_end0
         exact ⟨rfl,HT.out⟩
end Go.Proofs.YtfcilopifjddpaaGreatDoor
namespace Go.Proofs.YtfcilopifjddpaaGreatDoor
open Go.RowKit
def rowOf (ps:List (Tr × Value)):List Value:=ps.flatMap fun x=>(x.1.cells x.2).toList
theorem rowOf_snoc (ps:List (Tr × Value)) (t:Tr) (s:Value):rowOf (ps ++ [(t,s)])=rowOf ps ++ (t.cells s).toList:=by
 unfold rowOf;simp
theorem rowOf_length (ps:List (Tr × Value)):(rowOf ps).length=ps.length * 10:=by
 unfold rowOf
 induction ps with
 | nil=>rfl
 | cons x ps ih=>rw [List.flatMap_cons,List.length_append,ih];simp [Tr.cells];omega
theorem rowOf_get:∀ (ps:List (Tr × Value)) (i:Nat) (t:Tr) (s:Value),ps[i]? = some (t,s)→∀ j,j < 10→(rowOf ps)[i * 10+j]? = (t.cells s)[j]?
 | [],i,t,s,h,_,_=>by simp at h
 | x :: ps,0,t,s,h,j,hj=>by
   simp only [List.getElem?_cons_zero,Option.some.injEq] at h
   subst h
   unfold rowOf
   rw [List.flatMap_cons,Nat.zero_mul,Nat.zero_add,List.getElem?_append_left (by simp [Tr.cells];omega)]
   simp
 | x :: ps,i+1,t,s,h,j,hj=>by
   have ih:=rowOf_get ps i t s (by simpa using h) j hj
   unfold rowOf at ih ⊢
   rw [List.flatMap_cons,List.getElem?_append_right (by simp [Tr.cells];omega)]
   rw [← ih]
   congr 1
   simp [Tr.cells];omega
theorem trees_of_row {w:World} {base:Nat} {B B':Nat→Prop} {v:Value} {n:Nat} {ps:List (Tr × Value)} (h:w.ownsRow base 28 10 v n (rowOf ps)) (hn:ps.length * 96 ≤ 140737488351232)
   (hs:∀ (i:Nat) (t:Tr) (s:Value),ps[i]? = some (t,s)→TreesAt w B s t.subs) (hB:∀ b,B b→B' b) (hg:∀ g,v.ownBlock=some g→B' g):TreesAt w B' v (ps.map (·.1)):=by
 have hlen:ps.length=n:=by have:=h.1;rw [rowOf_length] at this;omega
 have hcells:=fun g hv=>World.ownsRow.cells h (g:=g) hv
 rcases h.2 with ⟨rfl,hn0⟩ | ⟨g,cap,cur,rfl,hbg,hheap,-⟩
 · have:ps=[]:=List.length_eq_zero_iff.1 (by omega)
   subst this
   exact TreesAt.nil
 · have hc:=hcells g rfl
   have key:∀ (i:Nat) (t:Tr) (s:Value),ps[i]? = some (t,s)→TenAt w g (0+i * 10) t s:=by
     intro i t s hi
     have get:∀ j u,j < 10→(t.cells s)[j]? = some u→w.cell? ⟨g,0+i * 10+j,none⟩=some u:=by
       intro j u hj hu
       have:=hc (i * 10+j) u (by rw [rowOf_get ps i t s hi j hj];exact hu)
       have ea:(⟨g,0,none⟩:Addr).add (i * 10+j)=⟨g,0+i * 10+j,none⟩:=by unfold Addr.add;split <;> simp_all <;> omega
       rw [ea] at this;exact this
     exact ⟨get 0 _ (by omega) rfl,get 1 _ (by omega) rfl,get 2 _ (by omega) rfl,get 3 _ (by omega) rfl,get 4 _ (by omega) rfl,get 5 _ (by omega) rfl,get 6 _ (by omega) rfl,get 7 _ (by omega) rfl,get 8 _ (by omega) rfl,get 9 _ (by omega) rfl⟩
   have hl2:n=(ps.map (·.1)).length:=by rw [List.length_map];omega
   rw [hl2]
   have split:∀ (i:Nat) (t:Tr),(ps.map (·.1))[i]? = some t→∃ s,ps[i]? = some (t,s):=by
     intro i t hi
     rw [List.getElem?_map] at hi
     cases hx:ps[i]? with
     | none=>rw [hx] at hi;cases hi
     | some x=>rw [hx] at hi;cases x with | mk a b=>simp only [Option.map_some,Option.some.injEq] at hi;subst hi;exact ⟨b,rfl⟩
   refine .mk (some ⟨g,0,none⟩) cap (ps.map (·.1)) (fun i=>((ps[i]?).map (·.2)).getD undef) (by rw [List.length_map];exact hn) (fun i t hi=>?_) (fun i t hi=>?_)
   · obtain ⟨s,hs'⟩:=split i t hi
     exact ⟨g,0,rfl,hg g rfl,by simp only [hs',Option.map_some,Option.getD_some];exact key i t s hs'⟩
   · obtain ⟨s,hs'⟩:=split i t hi
     simp only [hs',Option.map_some,Option.getD_some]
     exact (hs i t s hs').mono fun b _ hb=>hB b hb
end Go.Proofs.YtfcilopifjddpaaGreatDoor
namespace Go.Proofs.YtfcilopifjddpaaGreatDoor
open Go.RowKit
theorem append_block {P:Program} {w w':World} (base:Nat) (t ty e:TypeId) (i:TypeInfo) (z:Value) (size bytes:Nat) (ht:P.underlying t=some (.slice e)) (hi:P.info? e=some i) (hz:i.zero=some z)
   (hsize:i.size=size) (hby:i.bytes=bytes) (v v':Value) (n:Nat) (xs:List Value) (hown:w.ownsRow base e size v n xs)
   (a:Addr) (m c:Nat) (news:List Value) (hl:news.length=m * size) (hnews:∀ j u,news[j]? = some u→w.cell? (a.add j)=some u) (h1:∀ u ∈ news,u.oneCell'=true) (hm:0 < m)
   (h63:n+m ≤ maxLen) (hbytes:(n+m) * bytes ≤ 140737488355328) (hr:(Builtin.append_ #[t,t] ty #[v,.slice (some a) m c]).run P w=.ok v' w') :
   v'.ownBlock=v.ownBlock ∨ v'.ownBlock=some w.heap.size:=by
 subst hsize hby
 unfold maxLen at h63
 have hxl:=hown.1
 have hcells:=fun g hg=>World.ownsRow.cells hown (g:=g) hg
 rcases hown.2 with ⟨rfl,rfl⟩ | ⟨g,cap,cur,rfl,-,hg,hnc,hcm,hcs,-⟩
 · rw [run_append_nil (P:=P) w t ty e i z ht hi hz a m c news hl hnews hm (by omega) (by rw [Nat.zero_add] at hbytes;omega)] at hr
   injection hr with h2 h3
   right;rw [← h2];rfl
 · by_cases hroom:n+m ≤ cap
   · rw [run_append_room (P:=P) w t ty e i ht hi g n cap cur hg a m c news hl hnews h1 hroom (by rw [hl,hcs,← Nat.add_mul];exact Nat.mul_le_mul_right _ hroom)] at hr
     injection hr with h2 h3
     left;rw [← h2];rfl
   · rw [run_append_grow (P:=P) w t ty e i z ht hi hz ⟨g,0,none⟩ n cap xs hxl (hcells g rfl) a m c news hl hnews (by omega) (by omega) (growslice_fits (by omega) hbytes)] at hr
     injection hr with h2 h3
     right;rw [← h2];rfl
theorem wpList_append_fresh {P:Program} (w:World) {ops:Array Oper} {rest:List Oper} {o:Oper} {a:Act} {Q:Exit→Act→World→Prop} (hgd:o.guard=none) (s x:Operand) (t:TypeId)
   (ho:o.op=.call { callee:=.builtin .append,args:=#[s,x],argTypes:=#[t,t] })
   (base:Nat) (e:TypeId) (i:TypeInfo) (z:Value) (size bytes:Nat) (ht:P.underlying t=some (.slice e)) (hi:P.info? e=some i) (hz:i.zero=some z)
   (hsize:i.size=size) (hby:i.bytes=bytes) (hzs:z.cells.size=size) (hsz:0 < size)
   (v:Value) (n:Nat) (xs:List Value) (hs:a.eval s=v) (hown:w.ownsRow base e size v n xs)
   (ad:Addr) (m c:Nat) (news:List Value) (hx:a.eval x=.slice (some ad) m c) (hl:news.length=m * size) (hnews:∀ j u,news[j]? = some u→w.cell? (ad.add j)=some u) (h1:∀ u ∈ news,u.oneCell'=true) (hm:0 < m)
   (h63:n+m ≤ maxLen) (hbytes:(n+m) * bytes ≤ 140737488355328) (hbase:base ≤ w.heap.size)
   (h:∀ v' w',w'.ownsRow base e size v' (n+m) (xs ++ news)→w.grownBy w' v.ownBlock→(v'.ownBlock=v.ownBlock ∨ v'.ownBlock=some w.heap.size)→wpList P ops Q rest (a.put o.dst v') w'):wpList P ops Q (o :: rest) a w:=by
 refine wpList_plain hgd fun K hK=>?_
 obtain ⟨v',w',hr,h2,h3,-⟩:=run_append_own (P:=P) w base t o.type e i z size bytes ht hi hz hsize hby hzs hsz v n xs hown ad m c news hl hnews h1 h63 hbytes hbase
 have h4:=append_block base t o.type e i z size bytes ht hi hz hsize hby v v' n xs hown ad m c news hl hnews h1 hm h63 hbytes hr
 unfold Oper.wp execOp
 simp only [ho,resolve,invoke,builtin,Sem.run_bind,Sem.run_pure,Result.andThen_ok,List.map_toArray,List.map_cons,List.map_nil,hs,hx,hr]
 exact hK _ _ (h v' w' h2 h3 h4)
end Go.Proofs.YtfcilopifjddpaaGreatDoor
namespace Go.Proofs.YtfcilopifjddpaaGreatDoor
open Go.RowKit
theorem Tryz.infoNode:(Tryz.prog.info? 28).map (fun i=>(i.zero,i.size,i.bytes))=some (some (.agg #[.int .i64 0,.int .u64 0,.int .u64 0,.int .u64 0,.int .u64 0,.slice none 0 0,.int .i64 0,.int .i64 0,.int .i64 0,.bool false]),10,96):=by kernel_rfl
theorem nodeC_one (x:Tr) (p:Option Addr) (l c:Nat):∀ u ∈ (x.cells (.slice p l c)).toList,u.oneCell'=true:=by simp [Tr.cells,Value.oneCell']
theorem wpList_node1 {ops:Array Oper} {rest:List Oper} {o:Oper} {a:Act} {w:World} {Q:Exit→Act→World→Prop} (hgd:o.guard=none) (x:Operand) (t:Tr) (p:Option Addr) (len cap:Nat) (ho:o.op=.buildSlice 26 1 #[(0,x)]) (hx:a.eval x=.agg (t.cells (.slice p len cap)))
   (h:wpList Tryz.prog ops Q rest (a.put o.dst (.slice (some ⟨w.heap.size,0,none⟩) 1 1)) (w.alloc (.cells (t.cells (.slice p len cap)) 28))):wpList Tryz.prog ops Q (o :: rest) a w:=by
 refine wpList_plain hgd fun K hK=>?_
 obtain ⟨ie,hi,hz0,hz1,-⟩:=info_parts Tryz.infoNode
 refine wp_buildSlice 26 28 1 _ ho _ ie _ Tryz.underlying26 hi hz0 (by rw [hz1];decide) (by rw [hz1];decide) ?_ (hK _ _ h)
 rw [hz1]
 simp only [List.map_toArray,List.map_cons,List.map_nil,hx]
 kernel_rfl
theorem subs_step {w3 w4:World} {base:Nat} {v v':Value} {s:Value} {ts:List Tr} (h:TreesAt w3 (fun b=>base ≤ b∧v.ownBlock ≠ some b) s ts) (hg:w3.grownBy w4 v.ownBlock) (hw:v'.ownBlock=v.ownBlock ∨ v'.ownBlock=some w3.heap.size) :
   TreesAt w4 (fun b=>base ≤ b∧v'.ownBlock ≠ some b) s ts:=by
 have h1:TreesAt w3 (fun b=>(base ≤ b∧v.ownBlock ≠ some b)∧v'.ownBlock ≠ some b) s ts:=h.mono fun b hb hB=>⟨hB,by
   rcases hw with e | e
   · rw [e];exact hB.2
   · rw [e];intro h;have:=Option.some.inj h;omega⟩
 exact (h1.keep (w':=w4) fun b hb hB=>hg.block b hb (fun e=>hB.1.2 e.symm)).mono fun b _ hB=>⟨hB.1.1,hB.2⟩
theorem set5 {w:World} {b:Nat} {x0 x1 x2 x3 x4 x5 x6 x7 x8 x9 y:Value} {t:TypeId} (h:w.heap[b]? = some (.cells #[x0,x1,x2,x3,x4,x5,x6,x7,x8,x9] t)):(w.setCell ⟨b,5,none⟩ y).heap[b]? = some (.cells #[x0,x1,x2,x3,x4,y,x6,x7,x8,x9] t):=by
 simp [World.setCell,Array.getElem?_modify,h]
theorem at5 {w:World} {b:Nat} {x0 x1 x2 x3 x4 x5 x6 x7 x8 x9:Value} {t:TypeId} (h:w.heap[b]? = some (.cells #[x0,x1,x2,x3,x4,x5,x6,x7,x8,x9] t)):w.cell? ⟨b,5,none⟩=some x5∧w.frozen? ⟨b,5,none⟩=false:=by
 simp [World.cell?,World.frozen?,h]
end Go.Proofs.YtfcilopifjddpaaGreatDoor
namespace Go.Proofs.YtfcilopifjddpaaGreatDoor
open Go.RowKit
def OwnEnd (t:Tr) (w:World) (e:Ending) (w':World):Prop:=∃ s F,e=.returned (.agg (t.cells s))∧Owned w' s t.subs F∧(∀ b,b ∈ F→w.heap.size ≤ b)∧Below w.heap.size w w'
def OwnsEnd (ts:List Tr) (w:World) (e:Ending) (w':World):Prop:=∃ v F,e=.returned v∧Owned w' v ts F∧(∀ b,b ∈ F→w.heap.size ≤ b)∧Below w.heap.size w w'
theorem Owned.slice {w:World} {s:Value} {ts:List Tr} {F:List Nat} (h:Owned w s ts F):∃ p cap,s=.slice p ts.length cap∧ts.length * 96 ≤ 140737488351232:=h.trees.slice
theorem nodeC_all (x:Tr) (p:Option Addr) (l c:Nat):(x.cells (.slice p l c)).all (·.oneCell')=true:=by simp [Tr.cells,Value.oneCell']
def pick {α:Type} (f:Nat→α) (m:Nat) (x:α) (i:Nat):α:=if i=m then x else f i
theorem pick_eq {α:Type} (f:Nat→α) (m:Nat) (x:α):pick f m x m=x:=if_pos rfl
theorem pick_ne {α:Type} (f:Nat→α) (m:Nat) (x:α) {i:Nat} (h:i ≠ m):pick f m x i=f i:=if_neg h
def CopiedTo (w:World) (g:Nat) (ts:List Tr) (m:Nat):Prop :=
 ∃ (S:Nat→Value) (L:Nat→List Nat),(∀ i t,i < m→ts[i]? = some t→TenAt w g (i * 10) t (S i)∧Owned w (S i) t.subs (L i))∧(∀ i,i < m→∀ b,b ∈ L i→g < b) ∧
   (∀ i j b,i < m→j < m→i ≠ j→b ∈ L i→b ∉ L j)∧(∀ i,i < m→∀ b,b ∈ L i→b < w.heap.size)
theorem CopiedTo.zero (w:World) (g:Nat) (ts:List Tr):CopiedTo w g ts 0:=⟨fun _=>undef,fun _=>[],fun i t h=>by omega,fun i h=>by omega,fun i j b h=>by omega,fun i h=>by omega⟩
theorem TenAt.of_range {w:World} {g o:Nat} {t:Tr} {s:Value} (h:w.rangeAt g o (t.cells s).toList):TenAt w g o t s:=by
 have get:=fun j u (hu:(t.cells s).toList[j]? = some u)=>h j u hu
 exact ⟨get 0 _ rfl,get 1 _ rfl,get 2 _ rfl,get 3 _ rfl,get 4 _ rfl,get 5 _ rfl,get 6 _ rfl,get 7 _ rfl,get 8 _ rfl,get 9 _ rfl⟩
theorem there_row {w:World} {g o n:Nat} {cs:Array Value} {ty:TypeId} (h:w.heap[g]? = some (.cells cs ty (0,0))) (hn:o+n ≤ cs.size):w.there g o n:=by
 intro j hj
 refine ⟨?_,frozen_of ⟨cs,ty,h⟩⟩
 have hlt:o+j < cs.size:=by omega
 simp [World.cell?,h,hlt]
theorem CopiedTo.step {wr w2:World} {g m:Nat} {ts:List Tr} {x:Tr} {s:Value} {F:List Nat} (h:CopiedTo wr g ts m) (hx:ts[m]? = some x) (hb:Below wr.heap.size wr w2) (hg:g < wr.heap.size)
   (ho:Owned w2 s x.subs F) (hF:∀ b,b ∈ F→wr.heap.size ≤ b) (ht:w2.there g (m * 10) 10):CopiedTo (w2.setCells g (m * 10) (x.cells s).toList) g ts (m+1):=by
 obtain ⟨S,L,h1,h2,h3,h4⟩:=h
 have hg2:w2.heap[g]? = wr.heap[g]?:=hb.block g hg
 have hsz:=hb.size
 have hoth:∀ b,b ≠ g→(w2.setCells g (m * 10) (x.cells s).toList).heap[b]? = w2.heap[b]?:=fun b hbg=>heap_setCells_other hbg _ _ _
 refine ⟨pick S m s,pick L m F,fun i t hi hti=>?_,fun i hi b hbL=>?_,fun i j b hi hj hij h5 h6=>?_,fun i hi b hbL=>?_⟩
 · by_cases e:i=m
   · subst e
     rw [pick_eq,pick_eq]
     rw [hx] at hti
     obtain rfl:=Option.some.inj hti
     refine ⟨TenAt.of_range (World.rangeAt_setCells_same _ _ _ _ (by simpa [Tr.cells] using ht)),ho.keep fun b hb'=>hoth b (fun e=>by subst e;have:=hF _ hb';omega)⟩
   · rw [pick_ne _ _ _ e,pick_ne _ _ _ e]
     obtain ⟨q1,q2⟩:=h1 i t (by omega) hti
     refine ⟨(q1.keep hg2).setCells rfl (by omega),(q2.later hb).keep fun b hb'=>hoth b (fun e=>by subst e;exact absurd (h2 i (by omega) _ hb') (by omega))⟩
 · by_cases e:i=m
   · subst e;rw [pick_eq] at hbL;have:=hF b hbL;omega
   · rw [pick_ne _ _ _ e] at hbL;exact h2 i (by omega) b hbL
 · by_cases e:i=m
   · subst e
     rw [pick_eq] at h5;rw [pick_ne _ _ _ (Ne.symm hij)] at h6
     have:=hF b h5;have:=h4 j (by omega) b h6;omega
   · rw [pick_ne _ _ _ e] at h5
     by_cases e2:j=m
     · subst e2;rw [pick_eq] at h6
       have:=hF b h6;have:=h4 i (by omega) b h5;omega
     · rw [pick_ne _ _ _ e2] at h6;exact h3 i j b (by omega) (by omega) hij h5 h6
 · rw [size_setCells]
   by_cases e:i=m
   · subst e;rw [pick_eq] at hbL;exact ho.lt b hbL
   · rw [pick_ne _ _ _ e] at hbL;have:=h4 i (by omega) b hbL;omega
theorem CopiedTo.owned {w:World} {g:Nat} {ts:List Tr} (h:CopiedTo w g ts ts.length) (hlen:ts.length * 96 ≤ 140737488351232) (hf:∃ cs ty,w.heap[g]? = some (.cells cs ty (0,0))) (cap:Nat) :
   ∃ F,Owned w (.slice (some ⟨g,0,none⟩) ts.length cap) ts F∧∀ b,b ∈ F→g ≤ b:=by
 obtain ⟨S,L,h1,h2,h3,h4⟩:=h
 refine ⟨_,.row g 0 cap ts S L hlen hf (fun i t hi=>by rw [Nat.zero_add];exact (h1 i t (lt_of_some hi) hi).1) (fun i t hi=>(h1 i t (lt_of_some hi) hi).2) (fun i hi hm=>absurd (h2 i hi g hm) (by omega)) h3,fun b hb=>?_⟩
 rcases List.mem_cons.1 hb with rfl | hb
 · omega
 · obtain ⟨i,hi,hb⟩:=mem_range_flatMap.1 hb
   have:=h2 i hi b hb;omega
theorem row_setCells {b n:Nat} {ty:TypeId} : ∀ {vs:List Value} {o:Nat} {w:World} {C:Array Value},w.heap[b]? = some (.cells C ty)→C.size=n→∃ C':Array Value,(w.setCells b o vs).heap[b]? = some (.cells C' ty)∧C'.size=n
 | [],_,_,C,h,hn=>⟨C,h,hn⟩
 | v :: r,o,w,C,h,hn=>by
   rw [World.setCells]
   exact row_setCells (vs:=r) (o:=o+1) (C:=C.setIfInBounds o v) (by simp [World.setCell,Array.getElem?_modify,h]) (by simpa using hn)
theorem setCells_below {B b:Nat} {a w:World} (h:Below B a w) (hb:B ≤ b) (o:Nat) (vs:List Value):Below B a (w.setCells b o vs):=by
 obtain ⟨h1,h2,h3⟩:=streams_setCells b vs o w
 exact h.trans ⟨h1,h2,h3,by rw [size_setCells];omega,fun k hk=>heap_setCells_other (by omega) _ _ _⟩
theorem make_nodes (n:Nat) (hn:n * 96 ≤ 140737488351232):∃ CS:Array Value,CS.size=n * 10∧∀ w:World,(Instr.makeSlice 26 (.int .i64 n) (.int .i64 n)).run Tryz.prog w=.ok (.slice (some ⟨w.heap.size,0,none⟩) n n) (w.alloc (.cells CS 28)):=by
 obtain ⟨ie,hi,hz0,hz1,hz2⟩:=info_parts Tryz.infoNode
 refine ⟨madeCells (Value.agg #[.int .i64 0,.int .u64 0,.int .u64 0,.int .u64 0,.int .u64 0,.slice none 0 0,.int .i64 0,.int .i64 0,.int .i64 0,.bool false]).cells (n * 10),size_madeCells _ _,fun w=>?_⟩
 have h:=run_make (P:=Tryz.prog) w 26 28 ie _ Tryz.underlying26 hi hz0 .i64 .i64 n n (by omega) (Int.le_refl _) (by rw [hz2];omega) (by omega)
 simp only [Int.toNat_natCast,hz1] at h
 exact h
theorem copies_of (ts:List Tr) (ih:∀ u,u ∈ ts→∀ (w:World) (B:Nat→Prop) (v:Value),NodeV w B v u→Calls Tryz.prog 105 #[v] w (OwnEnd u w)) (w:World) (B:Nat→Prop) (v:Value) (hs:TreesAt w B v ts) :
   Calls Tryz.prog 71 #[v] w (OwnsEnd ts w):=by
 obtain ⟨p,cap,rfl,hlen⟩:=hs.slice
 by_cases h0:ts.length=0
 · obtain rfl:=List.length_eq_zero_iff.1 h0
   simp only [List.length_nil] at *
   clear hs
   go_enter Tryz.func71,Tryz.ntmps71
   go_wp2
   go_ret
   exact ⟨_,[],rfl,.nil _ _,fun b hb=>(by cases hb),Below.refl _ _⟩
 · have e0:((ts.length:Int) == 0)=false:=by simp;exact fun h=>h0 (by rw [h];rfl)
   obtain ⟨CS,hCS,hmk⟩:=make_nodes ts.length hlen
   have IH:=Lib.hid ih;have HS:=Lib.hid hs;have HCS:=Lib.hid hCS;have H0:=Lib.hid h0
   clear ih hs hCS h0
   go_enter Tryz.func71,Tryz.ntmps71
   go_wp2
   go_loopw [14] (fun iv wr=>∃ m:Nat,iv=.int .i64 m∧m ≤ ts.length∧Hid (Below w.heap.size w wr)∧w.heap.size < wr.heap.size∧Hid (∃ C:Array Value,wr.heap[w.heap.size]? = some (.cells C 28)∧C.size=ts.length * 10)∧Hid (CopiedTo wr w.heap.size ts m)) (fun iv _=>ts.length - (intOf iv).toNat)
   case atStart=>exact ⟨0,rfl,Nat.zero_le _,Lib.hid (by go_grown),by simp,Lib.hid ⟨CS,heap_alloc_new _ _,HCS.out⟩,Lib.hid (CopiedTo.zero _ _ _)⟩
   case round =>
     obtain ⟨m,rfl,hm,HB,hsz,HC,HD⟩:=hrel
     have wm:IntKind.i64.wrap ((m:Int)+1)=(m:Int)+1:=IntWalk.i64_in _ (by omega)
     by_cases hlt:m < ts.length
     · obtain ⟨x,hx⟩:∃ x,ts[m]? = some x:=⟨_,List.getElem?_eq_getElem hlt⟩
       obtain ⟨b1,o1,s1,rfl,-,t1,sub1⟩:=HS.out.get hx
       obtain ⟨d0,d1,d2,d3,d4,d5,d6,d7,d8,d9⟩:=t1.keep (HB.out.block _ t1.lt)
       obtain ⟨p1,c1,rfl,hl1⟩:=sub1.slice
       have HCALL:=Lib.hid (fun w9 hb=>IH.out x (List.mem_of_getElem? hx) w9 B (.agg (x.cells (.slice p1 x.subs.length c1))) ⟨_,rfl,sub1.later hb⟩)
       have HX:=Lib.hid hx
       clear t1 sub1 hx
       go_wp2_with fail
       generalize hw1:World.alloc wr _=w1
       have hb1:Below wr.heap.size wr w1:=by rw [← hw1];exact (Below.refl _ _).alloc (Nat.le_refl _) _
       clear hw1
       refine (HCALL.out w1 (HB.out.trans (hb1.mono HB.out.size))).mono ?_
       rintro e w2 ⟨s2,F2,rfl,ho2,hF2,hb2⟩
       obtain ⟨p2,c2,rfl,hl2⟩:=ho2.slice
       have hb12:Below wr.heap.size wr w2:=hb1.trans (hb2.mono hb1.size)
       obtain ⟨C,hC1,hC2⟩:=HC.out
       have hC3:=keep_blk hb12 hC1
       have hth:w2.there w.heap.size (m * 10) 10:=there_row hC3 (by omega)
       have HTH:=Lib.hid hth
       have HST:=Lib.hid (HD.out.step HX.out hb12 hsz ho2 (fun b hb=>Nat.le_trans hb1.size (hF2 b hb)) hth)
       have HB2:=Lib.hid (HB.out.trans (hb12.mono HB.out.size))
       have HC4:Hid (∃ C:Array Value,(w2.setCells w.heap.size (m * 10) (x.cells (.slice p2 x.subs.length c2)).toList).heap[w.heap.size]? = some (.cells C 28)∧C.size=ts.length * 10):=Lib.hid (row_setCells hC3 hC2)
       have hs2:w.heap.size < w2.heap.size:=Nat.lt_of_lt_of_le hsz hb12.size
       clear hb1 hb2 hb12 ho2 hF2 hC1 hC2 hC3 hth d0 d1 d2 d3 d4 d5 d6 d7 d8 d9
       go_wp2_with (first
         | (refine wpList_store_mid rfl 28 (.tmp 23) (.tmp 22) rfl w.heap.size (m * 10) (x.cells (.slice p2 x.subs.length c2)) rfl rfl HTH.out (by kernel_rfl) (nodeC_all _ _ _ _) ?_;generalize hw3:World.setCells w2 _ _ _=w3;have HW3:=Lib.hid hw3;clear hw3)
         | fail)
       rw [← HW3.out]
       refine ⟨⟨m+1,by go_num,by omega,Lib.hid (setCells_below HB2.out (Nat.le_refl _) _ _),by rw [size_setCells];exact hs2,HC4,HST⟩,by simp [intOf];omega⟩
     · obtain rfl:m=ts.length:=by omega
       go_wp2
       go_ret
       obtain ⟨C,hC1,-⟩:=HC.out
       obtain ⟨F,hF,hF2⟩:=HD.out.owned hlen ⟨C,_,hC1⟩ ts.length
       exact ⟨_,F,rfl,hF,hF2,HB.out⟩
theorem copy_any:∀ t:Tr,∀ (w:World) (B:Nat→Prop) (v:Value),NodeV w B v t→Calls Tryz.prog 105 #[v] w (OwnEnd t w):=by
 intro t
 induction t using Tr.rec_subs with
 | h t ih =>
   intro w B v hv
   obtain ⟨s,rfl,hs⟩:=hv
   obtain ⟨p,cap,rfl,hlen⟩:=hs.slice
   have HC:=Lib.hid (fun w9 (hb:Below w.heap.size w w9)=>copies_of t.subs ih w9 B _ (hs.later hb))
   cases t with | node k a b c d ts n lo hi br =>
   simp only [Tr.cells,Tr.kind,Tr.w0,Tr.w1,Tr.w2,Tr.w3,Tr.num,Tr.least,Tr.most,Tr.bare,Tr.subs] at *
   clear ih hs
   go_enter Tryz.func105,Tryz.ntmps105
   go_wp2_with fail
   obtain ⟨z0,z1⟩:=two_new w (.cells #[.int .i64 k,.int .u64 (Oc.U a),.int .u64 (Oc.U b),.int .u64 (Oc.U c),.int .u64 (Oc.U d),.slice p ts.length cap,.int .i64 n,.int .i64 lo,.int .i64 hi,.bool br] 28) (.cells #[.int .i64 0,.int .u64 0,.int .u64 0,.int .u64 0,.int .u64 0,.slice none 0 0,.int .i64 0,.int .i64 0,.int .i64 0,.bool false] 28)
   have hb1:Below w.heap.size w ((w.alloc (.cells #[.int .i64 k,.int .u64 (Oc.U a),.int .u64 (Oc.U b),.int .u64 (Oc.U c),.int .u64 (Oc.U d),.slice p ts.length cap,.int .i64 n,.int .i64 lo,.int .i64 hi,.bool br] 28)).alloc (.cells #[.int .i64 0,.int .u64 0,.int .u64 0,.int .u64 0,.int .u64 0,.slice none 0 0,.int .i64 0,.int .i64 0,.int .i64 0,.bool false] 28)):=by go_grown
   have hs1:((w.alloc (.cells #[.int .i64 k,.int .u64 (Oc.U a),.int .u64 (Oc.U b),.int .u64 (Oc.U c),.int .u64 (Oc.U d),.slice p ts.length cap,.int .i64 n,.int .i64 lo,.int .i64 hi,.bool br] 28)).alloc (.cells #[.int .i64 0,.int .u64 0,.int .u64 0,.int .u64 0,.int .u64 0,.slice none 0 0,.int .i64 0,.int .i64 0,.int .i64 0,.bool false] 28)).heap.size=w.heap.size+2:=by simp
   generalize World.alloc (World.alloc _ _) _=w1 at *
   have Z0:=Lib.hid z0;have Z1:=Lib.hid z1;have HB1:=Lib.hid hb1
   clear z0 z1 hb1
   refine (HC.out w1 HB1.out).mono ?_
   rintro e w2 ⟨s2,F,rfl,ho,hF,hb2⟩
   obtain ⟨p2,c2,rfl,hl2⟩:=ho.slice
   have HO:=Lib.hid ho;have HF:=Lib.hid hF
   have Y0:=Lib.hid (keep_blk hb2 Z0.out);have Y1:=Lib.hid (keep_blk hb2 Z1.out)
   have HB2:=Lib.hid (HB1.out.trans (hb2.mono HB1.out.size))
   obtain ⟨f5,g5⟩:=at5 Y0.out
   have Y0s:=Lib.hid (set5 (y:=.slice p2 ts.length c2) Y0.out)
   have Y1s:Hid ((w2.setCell ⟨w.heap.size,5,none⟩ (.slice p2 ts.length c2)).heap[w.heap.size+1]? = some (.cells #[.int .i64 0,.int .u64 0,.int .u64 0,.int .u64 0,.int .u64 0,.slice none 0 0,.int .i64 0,.int .i64 0,.int .i64 0,.bool false] 28)):=Lib.hid (by rw [Below.heap_setCell _ _ _ _ (by simp)];exact Y1.out)
   clear ho hF hb2
   go_wp2_with (first
     | (refine wpList_load_row rfl 28 (.tmp 1) rfl w.heap.size rfl 28 _ (0,0) _ Y0s.out Tryz.underlying28 rfl (by kernel_rfl) ?_)
     | (refine wpList_store_row rfl 28 (.tmp 2) (.tmp 7) rfl (w.heap.size+1) #[.int .i64 k,.int .u64 (Oc.U a),.int .u64 (Oc.U b),.int .u64 (Oc.U c),.int .u64 (Oc.U d),.slice p2 ts.length c2,.int .i64 n,.int .i64 lo,.int .i64 hi,.bool br] rfl rfl 28 _ Y1s.out (by kernel_rfl) rfl (by simp [Value.oneCell']) ?_)
     | fail)
   refine bodyPost_ret (results_cell_row rfl _ _ (w.heap.size+1) 28 #[.int .i64 k,.int .u64 (Oc.U a),.int .u64 (Oc.U b),.int .u64 (Oc.U c),.int .u64 (Oc.U d),.slice p2 ts.length c2,.int .i64 n,.int .i64 lo,.int .i64 hi,.bool br] (0,0) _ rfl (heap_setRow Y1s.out) Tryz.underlying28 rfl (by kernel_rfl)) rfl ⟨_,F,rfl, ?_, ?_, ?_⟩
   · exact HO.out.keep fun b hb=>by
       have:=HF.out b hb
       rw [heap_setRow_other _ _ _ (by omega),Below.heap_setCell _ _ _ _ (by simp;omega)]
   · intro b hb;have:=HF.out b hb;omega
   · exact below_setRow (HB2.out.setCell (Nat.le_refl _) _) (Nat.le_succ _) _
theorem copies_any (ts:List Tr) (w:World) (B:Nat→Prop) (v:Value) (hs:TreesAt w B v ts):Calls Tryz.prog 71 #[v] w (OwnsEnd ts w) :=
 copies_of ts (fun u _ w B v h=>copy_any u w B v h) w B v hs
end Go.Proofs.YtfcilopifjddpaaGreatDoor
namespace Go.Proofs.YtfcilopifjddpaaGreatDoor
namespace Cl
def inI (b:Nat) (lo hi:Int):Bool:=decide (lo ≤ (b:Int)) && decide ((b:Int) ≤ hi)
def isI (b:Nat) (x:Int):Bool:=(b:Int) == x
def cls:Nat→Nat→Bool
 | 0,b=>(inI b 65 90 || inI b 97 122) || inI b 48 57
 | 1,b=>inI b 65 90 || inI b 97 122
 | 2,b=>isI b 9 || isI b 32
 | 3,b=>inI b 0 31 || isI b 127
 | 4,b=>inI b 48 57
 | 5,b=>inI b 33 126
 | 6,b=>inI b 97 122
 | 7,b=>inI b 32 126
 | 8,b=>((inI b 33 126 && !inI b 65 90) && !inI b 97 122) && !inI b 48 57
 | 9,b=>inI b 9 13 || isI b 32
 | 10,b=>inI b 65 90
 | 11,b=>(inI b 48 57 || inI b 65 70) || inI b 97 102
 | _,_=>false
def nm:Nat→ByteArray
 | 0=>⟨#[97,108,110,117,109]⟩
 | 1=>⟨#[97,108,112,104,97]⟩
 | 2=>⟨#[98,108,97,110,107]⟩
 | 3=>⟨#[99,110,116,114,108]⟩
 | 4=>⟨#[100,105,103,105,116]⟩
 | 5=>⟨#[103,114,97,112,104]⟩
 | 6=>⟨#[108,111,119,101,114]⟩
 | 7=>⟨#[112,114,105,110,116]⟩
 | 8=>⟨#[112,117,110,99,116]⟩
 | 9=>⟨#[115,112,97,99,101]⟩
 | 10=>⟨#[117,112,112,101,114]⟩
 | 11=>⟨#[120,100,105,103,105,116]⟩
 | _=>⟨#[]⟩
def nl:Nat→List UInt8
 | 0=>[97,108,110,117,109]
 | 1=>[97,108,112,104,97]
 | 2=>[98,108,97,110,107]
 | 3=>[99,110,116,114,108]
 | 4=>[100,105,103,105,116]
 | 5=>[103,114,97,112,104]
 | 6=>[108,111,119,101,114]
 | 7=>[112,114,105,110,116]
 | 8=>[112,117,110,99,116]
 | 9=>[115,112,97,99,101]
 | 10=>[117,112,112,101,114]
 | 11=>[120,100,105,103,105,116]
 | _=>[]
def No (s:ByteArray):Prop:=∀ k,k < 12→(s.toList == nl k)=false
def cw (k q:Nat):BitVec 64:=Oc.mk (cls k) q
def rg (lo hi q:Nat):BitVec 64:=Oc.mk (fun b=>decide (lo ≤ b) && decide (b ≤ hi)) q
def pp:Nat→Nat→Bool
 | 0,b=>isI b 32
 | 1,b=>isI b 32 || cls 8 b
 | 2,b=>(isI b 32 || cls 8 b) || cls 4 b
 | 3,b=>((isI b 32 || cls 8 b) || cls 4 b) || cls 6 b
 | 4,b=>cls 8 b || cls 4 b
 | 5,b=>(cls 8 b || cls 4 b) || cls 6 b
 | 6,b=>cls 4 b || cls 6 b
 | 7,b=>inI b 65 70 || inI b 97 102
 | 8,b=>inI b 10 13
 | 9,b=>isI b 127
 | _,_=>false
def pw (j q:Nat):BitVec 64:=Oc.mk (pp j) q
def oth (b:Nat):Nat:=if 65 ≤ b∧b ≤ 90 then b+32 else if 97 ≤ b∧b ≤ 122 then b - 32 else b
theorem oth_lt {b:Nat} (h:b < 256):oth b < 256:=by unfold oth;split;omega;split <;> omega
theorem oth_oth (b:Nat):oth (oth b)=b:=by unfold oth;split <;> (try split) <;> (try split) <;> (try split) <;> omega
def fold (p:Nat→Bool):Nat→Bool:=fun b=>p b || p (oth b)
end Cl
end Go.Proofs.YtfcilopifjddpaaGreatDoor
namespace Go.Proofs.YtfcilopifjddpaaGreatDoor
namespace Br
inductive Ans
 | ok (P:Nat→Bool) (next:Nat)
 | err (c:Nat) (p:Int)
def dotted (f:Nat→Nat) (i:Nat):Bool:=f i == 91 && (f (i+1) == 46 || f (i+1) == 61)
def colon (f:Nat→Nat) (i:Nat):Bool:=f i == 91 && f (i+1) == 58
def clos (f:Nat→Nat):Nat→Nat→Option Nat
 | 0,_=>none
 | k+1,i=>if f i == 58 && f (i+1) == 93 then some i else clos f k (i+1)
def clsAt (l:List Nat):Option Nat:=(List.range 12).find? fun k=>(Cl.nl k).map (·.toNat) == l
def part (f:Nat→Nat) (i m:Nat):List Nat:=(List.range m).map fun j=>f (i+j)
def rng (lo hi:Nat):Nat→Bool:=fun b=>decide (lo ≤ b) && decide (b ≤ hi)
def isRange (f:Nat→Nat) (n i:Nat):Bool:=f (i+1) == 45 && decide (i+2 < n) && f (i+2) != 93
def named (f:Nat→Nat) (i e:Nat):Ans :=
 match clsAt (part f (i+2) (e - (i+2))) with
 | none=>.err 6 i
 | some k=>.ok (Cl.cls k) (e+2)
def classed (f:Nat→Nat) (n i a:Nat):Ans :=
 match clos f (n - (i+3)) (i+2) with
 | none=>.err 1 a
 | some e=>named f i e
def ranged (f:Nat→Nat) (i:Nat):Ans :=
 if dotted f (i+2) then .err 7 ((i:Int)+2)
 else if colon f (i+2) || decide (f (i+2) < f i) then .err 5 i
 else .ok (rng (f i) (f (i+2))) (i+3)
def item (f:Nat→Nat) (n i a:Nat):Ans :=
 if dotted f i then .err 7 i
 else if colon f i then classed f n i a
 else if isRange f n i then ranged f i
 else .ok (fun b=>b == f i) (i+1)
def items (f:Nat→Nat) (n a:Nat):Nat→Nat→(Nat→Bool)→Bool→Ans
 | 0,_,_,_=>.err 1 a
 | k+1,i,P,b =>
   if b && f i == 93 then .ok P i
   else if n ≤ i then .err 1 a
   else match item f n i a with
     | .err c p=>.err c p
     | .ok Q j=>items f n a k j (fun x=>P x || Q x) true
def fin (ic nl t:Bool) (P:Nat→Bool):Nat→Bool :=
 let Q:=if ic then Cl.fold P else P
 if t then (if nl then fun b=>!Q b && !(b == 10) else fun b=>!Q b) else Q
def ends (ic nl t:Bool):Ans→Ans
 | .err c p=>.err c p
 | .ok P j=>.ok (fin ic nl t P) (j+1)
def whole (f:Nat→Nat) (n a:Nat) (ic nl:Bool):Ans :=
 let t:=f (a+1) == 94
 ends ic nl t (items f n a (n+1) (if t then a+2 else a+1) (fun _=>false) false)
def read (f:Nat→Nat) (n:Nat) (at_:Int) (ic nl:Bool):Ans :=
 if 0 ≤ at_∧f at_.toNat=91 then whole f n at_.toNat ic nl else .err 15 (-1)
def Txt (f:Nat→Nat) (n:Nat):Prop:=(∀ i,i < n→f i < 256)∧∀ i,n ≤ i→f i=256
theorem Txt.lt {f:Nat→Nat} {n i c:Nat} (h:Txt f n) (hc:f i=c) (hl:c < 256):i < n:=by
 by_cases hi:i < n
 · exact hi
 · have:=h.2 i (by omega);omega
theorem clos_some {f:Nat→Nat} : ∀ {k i e:Nat},clos f k i=some e→i ≤ e∧e < i+k∧f e=58∧f (e+1)=93∧∀ j,i ≤ j→j < e→¬ (f j=58∧f (j+1)=93)
 | 0,_,_,h=>by cases h
 | k+1,i,e,h=>by
   unfold clos at h
   split at h
   · rename_i hc
     simp only [Bool.and_eq_true,beq_iff_eq] at hc
     cases h;exact ⟨Nat.le_refl _,by omega,hc.1,hc.2,fun j h1 h2=>by omega⟩
   · rename_i hc
     simp only [Bool.and_eq_true,beq_iff_eq] at hc
     obtain ⟨h1,h2,h3,h4,h5⟩:=clos_some h
     refine ⟨by omega,by omega,h3,h4,fun j hj hje=>?_⟩
     by_cases e1:j=i
     · subst e1;exact hc
     · exact h5 j (by omega) hje
theorem item_next {f:Nat→Nat} {n i a j:Nat} {Q:Nat→Bool} (hi:i < n) (h:item f n i a=.ok Q j):i < j∧j ≤ n:=by
 unfold item at h
 split at h
 · cases h
 split at h
 · unfold classed at h
   split at h
   · cases h
   · rename_i e he
     obtain ⟨h1,h2,-⟩:=clos_some he
     unfold named at h
     split at h
     · cases h
     · cases h;omega
 split at h
 · rename_i hr
   unfold isRange at hr
   simp only [Bool.and_eq_true,decide_eq_true_eq] at hr
   unfold ranged at h
   split at h
   · cases h
   split at h
   · cases h
   · cases h;omega
 · cases h;omega
theorem item_err {f:Nat→Nat} {n i a c:Nat} {p:Int} (h:item f n i a=.err c p):(c=1∧p=a) ∨ c=5 ∨ c=6 ∨ c=7:=by
 unfold item at h
 split at h
 · cases h;exact .inr (.inr (.inr rfl))
 split at h
 · unfold classed at h
   split at h
   · cases h;exact .inl ⟨rfl,rfl⟩
   · unfold named at h
     split at h
     · cases h;exact .inr (.inr (.inl rfl))
     · cases h
 split at h
 · unfold ranged at h
   split at h
   · cases h;exact .inr (.inr (.inr rfl))
   split at h
   · cases h;exact .inr (.inl rfl)
   · cases h
 · cases h
theorem items_ok {f:Nat→Nat} {n a:Nat} (hf:Txt f n):∀ {k i j:Nat} {P Q:Nat→Bool} {b:Bool},i ≤ n→items f n a k i P b=.ok Q j→f j=93∧j < n∧(if b then i ≤ j else i < j)∧(∀ x,P x=true→Q x=true)
 | 0,_,_,_,_,_,_,h=>by cases h
 | k+1,i,j,P,Q,b,hi,h=>by
   unfold items at h
   split at h
   · rename_i hc
     simp only [Bool.and_eq_true,beq_iff_eq] at hc
     cases h
     exact ⟨hc.2,hf.lt hc.2 (by omega),by rw [hc.1];exact Nat.le_refl _,fun _ h=>h⟩
   split at h
   · cases h
   split at h
   · cases h
   · rename_i Q' j' he
     obtain ⟨h1,h2⟩:=item_next (by omega) he
     obtain ⟨g1,g2,g3,g4⟩:=items_ok hf h2 h
     refine ⟨g1,g2, ?_,fun x hx=>g4 x (by rw [hx];rfl)⟩
     simp only [if_true] at g3
     split <;> omega
theorem items_err {f:Nat→Nat} {n a c:Nat} {p:Int} : ∀ {k i:Nat} {P:Nat→Bool} {b:Bool},items f n a k i P b=.err c p→(c=1∧p=a) ∨ c=5 ∨ c=6 ∨ c=7
 | 0,_,_,_,h=>by cases h;exact .inl ⟨rfl,rfl⟩
 | k+1,i,P,b,h=>by
   unfold items at h
   split at h
   · cases h
   split at h
   · cases h;exact .inl ⟨rfl,rfl⟩
   split at h
   · rename_i he
     cases h;exact item_err he
   · exact items_err h
end Br
end Go.Proofs.YtfcilopifjddpaaGreatDoor
namespace Go.Proofs.YtfcilopifjddpaaGreatDoor
open Go.RowKit
def SetsAt (w:World) (p:Option Addr) (len:Nat) (A B C D:Nat→BitVec 64):Prop :=
 ∀ i,i < len→∃ b o,p=some ⟨b,o,none⟩∧b < w.heap.size∧w.cell? ⟨b,o+i * 4,none⟩=some (.int .u64 (Oc.U (A i)))∧w.cell? ⟨b,o+i * 4+1,none⟩=some (.int .u64 (Oc.U (B i))) ∧
   w.cell? ⟨b,o+i * 4+2,none⟩=some (.int .u64 (Oc.U (C i)))∧w.cell? ⟨b,o+i * 4+3,none⟩=some (.int .u64 (Oc.U (D i)))
theorem SetsAt.below {w w':World} {p:Option Addr} {len:Nat} {A B C D:Nat→BitVec 64} (h:SetsAt w p len A B C D) (hb:Below w.heap.size w w'):SetsAt w' p len A B C D:=by
 intro i hi
 obtain ⟨b,o,e,hlt,h0,h1,h2,h3⟩:=h i hi
 exact ⟨b,o,e,Nat.lt_of_lt_of_le hlt hb.size,(hb.cell (p:=⟨b,_,none⟩) hlt).trans h0,(hb.cell (p:=⟨b,_,none⟩) hlt).trans h1,(hb.cell (p:=⟨b,_,none⟩) hlt).trans h2,(hb.cell (p:=⟨b,_,none⟩) hlt).trans h3⟩
theorem join_any (p:Option Addr) (len cap:Nat) (A B C D:Nat→BitVec 64) (hlen:len ≤ 9223372036854775807) (w:World) (hs:SetsAt w p len A B C D) :
   Calls Tryz.prog 181 #[.slice p len cap] w fun e w'=>e=.returned (.agg #[.int .u64 (Oc.U (Oc.orAll A len)),.int .u64 (Oc.U (Oc.orAll B len)),.int .u64 (Oc.U (Oc.orAll C len)),.int .u64 (Oc.U (Oc.orAll D len))])∧Below w.heap.size w w':=by
 go_enter Tryz.func181,Tryz.ntmps181
 go_wp2
 go_loopw [10] (fun i wr=>∃ k:Nat,k ≤ len∧i=.int .i64 k∧Below w.heap.size w wr∧w.heap.size+1 < wr.heap.size∧wr.heap[w.heap.size]? = some (.cells #[.int .u64 0,.int .u64 0,.int .u64 0,.int .u64 0] 25)∧wr.heap[w.heap.size+1]? = some (.cells #[.int .u64 (Oc.U (Oc.orAll A k)),.int .u64 (Oc.U (Oc.orAll B k)),.int .u64 (Oc.U (Oc.orAll C k)),.int .u64 (Oc.U (Oc.orAll D k))] 25)) (fun i _=>len - (intOf i).toNat)
 case atStart =>
   exact ⟨0,Nat.zero_le _,rfl,by go_grown,by simp,(two_new _ _ _).1,(two_new _ _ _).2⟩
 case round =>
   obtain ⟨k,hk,rfl,hbel,hsz,hz0,hz1⟩:=hrel
   by_cases hlt:k < len
   · obtain ⟨b,o,rfl,hbs,h0,h1,h2,h3⟩:=hs.below hbel k hlt
     have i0:=at0;have i1:=at1;have i2:=at2;have i3:=at3
     obtain ⟨c0,f0,c1,f1,c2,f2,c3,f3⟩:=four_on hz1
     have HZ0:=Lib.hid hz0
     have HZ1:=Lib.hid hz1
     clear hs hz0 hz1
     go_wp2
     go_rounds 5
     refine ⟨⟨k+1,by omega,by go_num, ?_, ?_, ?_, ?_⟩,by simp [intOf];omega⟩
     · go_grown
     · simp;omega
     · exact heap_alloc_lt (set4_other _ _ _ _ HZ0.out (by omega))
     · rw [Oc.orU,Oc.orU,Oc.orU,Oc.orU];exact heap_alloc_lt (set4 _ _ _ _ HZ1.out)
   · obtain rfl:k=len:=by omega
     obtain ⟨c0,c1,c2,c3,-,-,-,-⟩:=four hz1
     obtain ⟨d0,e0,d1,e1,d2,e2,d3,e3,r0,r1,r2,r3⟩:=four_st hz0
     clear hs
     go_wp2
     refine bodyPost_ret (v:=(.agg #[.int .u64 (Oc.U (Oc.orAll A k)),.int .u64 (Oc.U (Oc.orAll B k)),.int .u64 (Oc.U (Oc.orAll C k)),.int .u64 (Oc.U (Oc.orAll D k))])) (by simp [results,Tryz.results181,go_sem,r0,r1,r2,r3]) rfl ⟨rfl, ?_⟩
     go_grown
theorem meet_any (p:Option Addr) (len cap:Nat) (A B C D:Nat→BitVec 64) (hlen:len ≤ 9223372036854775807) (w:World) (hs:SetsAt w p len A B C D) :
   Calls Tryz.prog 174 #[.slice p len cap] w fun e w'=>e=.returned (.agg #[.int .u64 (Oc.U (Oc.andAll A len)),.int .u64 (Oc.U (Oc.andAll B len)),.int .u64 (Oc.U (Oc.andAll C len)),.int .u64 (Oc.U (Oc.andAll D len))])∧Below w.heap.size w w':=by
 go_enter Tryz.func174,Tryz.ntmps174
 go_wp2_with fail
 refine (not_any 0#64 0#64 0#64 0#64 _).mono ?_
 rintro e w1 ⟨rfl,hb1⟩
 have z0:w1.heap[w.heap.size]? = some (.cells #[.int .u64 0,.int .u64 0,.int .u64 0,.int .u64 0] 25):=by
   rw [hb1.block _ (by simp)];show (w.heap.push _)[w.heap.size]? = _;simp
 have hsz1:w.heap.size < w1.heap.size:=by have:=hb1.size;simp at this;omega
 have hbw:Below w.heap.size w w1:=((Below.refl _ _).alloc (Nat.le_refl _) _).trans (hb1.mono (by simp))
 have HZ:=Lib.hid z0
 clear z0
 go_wp2
 go_loopw [12] (fun i wr=>∃ k:Nat,k ≤ len∧i=.int .i64 k∧Below w.heap.size w wr∧w1.heap.size < wr.heap.size∧wr.heap[w.heap.size]? = some (.cells #[.int .u64 0,.int .u64 0,.int .u64 0,.int .u64 0] 25)∧wr.heap[w1.heap.size]? = some (.cells #[.int .u64 (Oc.U (Oc.andAll A k)),.int .u64 (Oc.U (Oc.andAll B k)),.int .u64 (Oc.U (Oc.andAll C k)),.int .u64 (Oc.U (Oc.andAll D k))] 25)) (fun i _=>len - (intOf i).toNat)
 case atStart =>
   refine ⟨0,Nat.zero_le _,rfl,hbw.alloc (by omega) _,by simp, ?_, ?_⟩
   · rw [Below.heap_alloc _ _ _ hsz1];exact HZ.out
   · show (w1.heap.push _)[w1.heap.size]? = _;simp;exact ⟨rfl,rfl,rfl,rfl⟩
 case round =>
   obtain ⟨k,hk,rfl,hbel,hsz,hz0,hz1⟩:=hrel
   by_cases hlt:k < len
   · obtain ⟨b,o,rfl,hbs,h0,h1,h2,h3⟩:=hs.below hbel k hlt
     have i0:=at0;have i1:=at1;have i2:=at2;have i3:=at3
     obtain ⟨c0,f0,c1,f1,c2,f2,c3,f3⟩:=four_on hz1
     have HZ0:=Lib.hid hz0
     have HZ1:=Lib.hid hz1
     clear hs hz0 hz1
     go_wp2
     go_rounds 5
     refine ⟨⟨k+1,by omega,by go_num, ?_, ?_, ?_, ?_⟩,by simp [intOf];omega⟩
     · go_grown
     · simp;omega
     · exact heap_alloc_lt (set4_other _ _ _ _ HZ0.out (by omega))
     · rw [Oc.andU,Oc.andU,Oc.andU,Oc.andU];exact heap_alloc_lt (set4 _ _ _ _ HZ1.out)
   · obtain rfl:k=len:=by omega
     obtain ⟨c0,c1,c2,c3,-,-,-,-⟩:=four hz1
     obtain ⟨d0,e0,d1,e1,d2,e2,d3,e3,r0,r1,r2,r3⟩:=four_st hz0
     clear hs
     go_wp2
     refine bodyPost_ret (v:=(.agg #[.int .u64 (Oc.U (Oc.andAll A k)),.int .u64 (Oc.U (Oc.andAll B k)),.int .u64 (Oc.U (Oc.andAll C k)),.int .u64 (Oc.U (Oc.andAll D k))])) (by simp [results,Tryz.results174,go_sem,r0,r1,r2,r3]) rfl ⟨rfl, ?_⟩
     go_grown
end Go.Proofs.YtfcilopifjddpaaGreatDoor
namespace Go.Proofs.YtfcilopifjddpaaGreatDoor
open Go.RowKit
def pw (n:Nat):Int:=((2 ^ n:Nat):Int)
theorem pw_succ (n:Nat) (h:n < 63):IntKind.u64.wrap (pw n * 2)=pw (n+1):=by
 rw [IntKind.wrap_u64];unfold pw
 have:2 ^ (n+1) ≤ 2 ^ 63:=Nat.pow_le_pow_right (by omega) (by omega)
 rw [Nat.pow_succ] at *
 omega
theorem power_any (n:Nat) (hn:n < 64) (w:World) :
   Calls Tryz.prog 152 #[.int .i64 n] w fun e w'=>e=.returned (.int .u64 (pw n))∧w=w':=by
 go_enter Tryz.func152,Tryz.ntmps152
 go_wp2
 go_loop [3,4] (fun p i=>∃ k:Nat,k ≤ n∧i=.int .i64 k∧p=.int .u64 (pw k)) (fun _ i=>n - (intOf i).toNat)
 case atStart=>exact ⟨0,Nat.zero_le _,rfl,rfl⟩
 case round =>
   obtain ⟨k,hk,rfl,rfl⟩:=hrel
   by_cases hlt:k < n
   · have hs:=pw_succ k (by omega)
     go_wp2
     go_round
     case rel=>exact ⟨k+1,by omega,by go_num,rfl⟩
     case measure=>simp [intOf];omega
   · obtain rfl:k=n:=by omega
     go_wp2
     go_ret
     exact ⟨rfl,rfl⟩
theorem power_mod (k:Nat) (w:World) :
   Calls Tryz.prog 152 #[.int .i64 ((k:Int) % 64)] w fun e w'=>e=.returned (.int .u64 (pw (k % 64)))∧w=w':=by
 rw [show ((k:Int) % 64)=((k % 64:Nat):Int) by omega];exact power_any (k % 64) (by omega) w
theorem pw_pos (n:Nat):1 ≤ pw n:=by have:=Nat.two_pow_pos n;unfold pw;omega
theorem bit_of (x:BitVec 64) (n:Nat):(Oc.U x / pw n % 2 == 1)=x.getLsbD n:=by
 have e:Oc.U x / pw n % 2=((x.toNat / 2 ^ n % 2:Nat):Int):=by
   show (x.toNat:Int) / ((2 ^ n:Nat):Int) % 2=_
   omega
 rw [e,show x.getLsbD n=x.toNat.testBit n from rfl,Nat.testBit_eq_decide_div_mod_eq]
 generalize x.toNat / 2 ^ n % 2=m
 rw [Bool.eq_iff_iff,beq_iff_eq,decide_eq_true_iff];omega
theorem quo_eq (x:BitVec 64) (n:Nat):IntKind.u64.wrap ((Oc.U x).tdiv (pw n))=Oc.U x / pw n:=by
 have h0:=Oc.U_nonneg x;have h1:=Oc.U_lt x;have h2:=pw_pos n
 rw [Int.tdiv_eq_ediv_of_nonneg h0,IntKind.wrap_u64]
 have h3:0 ≤ Oc.U x / pw n:=Int.ediv_nonneg h0 (by omega)
 have h4:Oc.U x / pw n ≤ Oc.U x:=Int.ediv_le_self _ h0
 omega
theorem rem_eq (x:BitVec 64) (n:Nat):(Oc.U x / pw n).tmod 2=Oc.U x / pw n % 2 :=
 Int.tmod_eq_emod_of_nonneg (Int.ediv_nonneg (Oc.U_nonneg x) (by have:=pw_pos n;omega))
theorem pw_ne (n:Nat):¬ pw n=0:=by have:=pw_pos n;omega
def bools (f:Nat→Bool):Array Value:=Array.ofFn (n:=256) fun i=>.bool (f i.val)
theorem bools_get (f:Nat→Bool) (k:Nat) (h:k < 256):(bools f)[k]? = some (.bool (f k)):=by
 unfold bools;rw [Array.getElem?_eq_getElem (by simpa using h)];simp
theorem bools_set {f g:Nat→Bool} {k:Nat} {v:Bool} (h:k < 256) (hk:g k=v) (ho:∀ j,j ≠ k→g j=f j):(bools f).setIfInBounds k (.bool v)=bools g:=by
 apply Array.ext
 · simp [bools]
 · intro i h1 h2
   by_cases e:i=k
   · subst e;simp [bools,hk]
   · have:=ho i e
     rw [Array.getElem_setIfInBounds_ne (by simpa using h1) (Ne.symm e)]
     simp [bools,this]
theorem bools_congr {f g:Nat→Bool} (h:∀ i,i < 256→f i=g i):bools f=bools g:=by
 unfold bools;congr 1;funext i;rw [h i.val i.isLt]
theorem one_cell {w:World} {b k:Nat} {f:Nat→Bool} {t:TypeId} (hk:k < 256) (h:w.heap[b]? = some (.cells (bools f) t)) :
   w.cell? ⟨b,k,none⟩=some (.bool (f k))∧w.frozen? ⟨b,k,none⟩=false:=by
 constructor
 · unfold World.cell?;rw [h];exact bools_get f k hk
 · unfold World.frozen?;rw [h];simp
theorem one_set {w:World} {b k:Nat} {f g:Nat→Bool} {v:Bool} {t:TypeId} (hk:k < 256) (h:w.heap[b]? = some (.cells (bools f) t)) (hv:g k=v) (ho:∀ j,j ≠ k→g j=f j) :
   (w.setCell ⟨b,k,none⟩ (.bool v)).heap[b]? = some (.cells (bools g) t):=by
 simp [World.setCell,Array.getElem?_modify,h,bools_set hk hv ho]
theorem bools_size (f:Nat→Bool):(bools f).size=256:=by simp [bools]
theorem bools_one (f:Nat→Bool):(bools f).all (·.oneCell')=true:=by
 rw [Array.all_eq_true_iff_forall_mem];intro v hv
 simp only [bools,Array.mem_ofFn] at hv
 obtain ⟨i,rfl⟩:=hv;rfl
theorem bits_rel {w wr:World} {a b c d:BitVec 64} {k:Nat} {v:Bool} {x y:Obj} (hlt:k < 256) (hbel:Below w.heap.size w wr) (hsz:w.heap.size+1+1 < wr.heap.size) (h0:wr.heap[w.heap.size]? = some x) (h1:wr.heap[w.heap.size+1]? = some y)
   (h2:wr.heap[w.heap.size+1+1]? = some (.cells (bools fun j=>decide (j < k) && Oc.mem a b c d j) 159)) (hv:v=Oc.mem a b c d k) :
   Below w.heap.size w (wr.setCell ⟨w.heap.size+1+1,k,none⟩ (.bool v)).drew∧w.heap.size+1+1 < (wr.setCell ⟨w.heap.size+1+1,k,none⟩ (.bool v)).drew.heap.size ∧
   (wr.setCell ⟨w.heap.size+1+1,k,none⟩ (.bool v)).drew.heap[w.heap.size]? = some x∧(wr.setCell ⟨w.heap.size+1+1,k,none⟩ (.bool v)).drew.heap[w.heap.size+1]? = some y ∧
   (wr.setCell ⟨w.heap.size+1+1,k,none⟩ (.bool v)).drew.heap[w.heap.size+1+1]? = some (.cells (bools fun j=>decide (j < k+1) && Oc.mem a b c d j) 159):=by
 refine ⟨by go_grown, ?_, ?_, ?_, ?_⟩
 · show w.heap.size+1+1 < (wr.setCell _ _).heap.size;simpa using hsz
 · show (wr.setCell _ _).heap[w.heap.size]? = _;rw [Below.heap_setCell _ _ _ _ (by simp;omega)];exact h0
 · show (wr.setCell _ _).heap[w.heap.size+1]? = _;rw [Below.heap_setCell _ _ _ _ (by simp)];exact h1
 · show (wr.setCell _ _).heap[w.heap.size+1+1]? = _
   refine one_set hlt h2 (by simp [hv]) fun j hj=>?_
   have:decide (j < k+1)=decide (j < k):=by simp;omega
   simp only [this]
theorem bits_any (a b c d:BitVec 64) (w:World) :
   Calls Tryz.prog 123 #[(.agg #[.int .u64 (Oc.U a),.int .u64 (Oc.U b),.int .u64 (Oc.U c),.int .u64 (Oc.U d)])] w fun e w'=>e=.returned (.agg (bools (Oc.mem a b c d)))∧Below w.heap.size w w':=by
 have ha:=Oc.U_nonneg a;have hb:=Oc.U_nonneg b;have hc:=Oc.U_nonneg c;have hd:=Oc.U_nonneg d
 have hz:∀ w,(zeroValue 159).run Tryz.prog w=.ok (.agg (bools fun _=>false)) w:=fun _=>by kernel_rfl
 go_enter Tryz.func123,Tryz.ntmps123
 go_wp2
 go_loopw [4] (fun i wr=>∃ k:Nat,k ≤ 256∧i=.int .i64 k∧Below w.heap.size w wr∧w.heap.size+1+1 < wr.heap.size∧wr.heap[w.heap.size]? = some (.cells #[.int .u64 (Oc.U a),.int .u64 (Oc.U b),.int .u64 (Oc.U c),.int .u64 (Oc.U d)] 25)∧wr.heap[w.heap.size+1]? = some (.cells (bools fun _=>false) 159)∧wr.heap[w.heap.size+1+1]? = some (.cells (bools fun j=>decide (j < k) && Oc.mem a b c d j) 159)) (fun i _=>256 - (intOf i).toNat)
 case atStart =>
   exact ⟨0,Nat.zero_le _,rfl,by go_grown,by simp,(three_new _ _ _ _).1,(three_new _ _ _ _).2.1,(three_new _ _ _ _).2.2.trans (by simp)⟩
 case round =>
   obtain ⟨k,hk,rfl,hbel,hsz,hz0,hz1,hz2⟩:=hrel
   by_cases hlt:k < 256
   · obtain ⟨c0,c1,c2,c3,-⟩:=four hz0
     obtain ⟨v0,l0,l1⟩:∃ v,wr.cell? ⟨w.heap.size+1+1,k,none⟩=some v∧wr.frozen? ⟨w.heap.size+1+1,k,none⟩=false:=⟨_,one_cell hlt hz2⟩
     have HZ0:=Lib.hid hz0
     have HZ1:=Lib.hid hz1
     have HZ2:=Lib.hid hz2
     clear hz0 hz1 hz2
     have hq:k / 64=0 ∨ k / 64=1 ∨ k / 64=2 ∨ k / 64=3:=by omega
     have hp:=pw_ne (k % 64)
     have t2:(k:Int).tmod 64=(k:Int) % 64:=Int.tmod_eq_emod_of_nonneg (by omega)
     have d0:=Int.tdiv_eq_ediv_of_nonneg (a:=(k:Int)) (b:=64) (by omega)
     have e1:=quo_eq (Oc.w4 a b c d (k / 64)) (k % 64)
     have e2:=rem_eq (Oc.w4 a b c d (k / 64)) (k % 64)
     have e3:=bit_of (Oc.w4 a b c d (k / 64)) (k % 64)
     have hm:Oc.mem a b c d k=(Oc.w4 a b c d (k / 64)).getLsbD (k % 64):=rfl
     have HM:=Lib.hid hm
     clear hm
     rcases hq with hq | hq | hq | hq
     · have t1:(k:Int).tdiv 64=0:=by rw [d0];omega
       have t3:IntKind.i64.wrap 0=0:=by decide
       rw [hq] at e1 e2 e3 HM
       change IntKind.u64.wrap ((Oc.U a).tdiv (pw (k % 64)))=_ at e1
       change (Oc.U a / pw (k % 64)).tmod 2=_ at e2
       change (Oc.U a / pw (k % 64) % 2 == 1)=_ at e3
       clear d0
       go_wp2_with fail
       refine wp_region_still_tail 12 (by kernel_rfl) (by kernel_rfl) ?_
       simp only [List.take_succ_cons,List.take_zero,List.drop_succ_cons,List.drop_zero]
       change wpStill _ _ wr.drew (fun a'=>wpList _ _ _ _ a' wr.drew) _ _
       iterate 7 still_step
       still_call (power_mod _ _).mono (by rintro e w' ⟨rfl,rfl⟩;exact ⟨rfl,rfl⟩)
       iterate 4 still_step
       refine wpStill_nil ?_
       go_wp2
       refine ⟨⟨k+1,by omega,by go_num,bits_rel hlt hbel hsz HZ0.out HZ1.out HZ2.out ?_⟩,by simp [intOf];omega⟩
       rw [HM.out]
       first
         | exact (congrArg (fun z=>z == 1) (rem_eq _ _)).trans e3
         | simp only [e3]
     · have t1:(k:Int).tdiv 64=1:=by rw [d0];omega
       have t3:IntKind.i64.wrap 1=1:=by decide
       rw [hq] at e1 e2 e3 HM
       change IntKind.u64.wrap ((Oc.U b).tdiv (pw (k % 64)))=_ at e1
       change (Oc.U b / pw (k % 64)).tmod 2=_ at e2
       change (Oc.U b / pw (k % 64) % 2 == 1)=_ at e3
       clear d0
       go_wp2_with fail
       refine wp_region_still_tail 12 (by kernel_rfl) (by kernel_rfl) ?_
       simp only [List.take_succ_cons,List.take_zero,List.drop_succ_cons,List.drop_zero]
       change wpStill _ _ wr.drew (fun a'=>wpList _ _ _ _ a' wr.drew) _ _
       iterate 7 still_step
       still_call (power_mod _ _).mono (by rintro e w' ⟨rfl,rfl⟩;exact ⟨rfl,rfl⟩)
       iterate 4 still_step
       refine wpStill_nil ?_
       go_wp2
       refine ⟨⟨k+1,by omega,by go_num,bits_rel hlt hbel hsz HZ0.out HZ1.out HZ2.out ?_⟩,by simp [intOf];omega⟩
       rw [HM.out]
       first
         | exact (congrArg (fun z=>z == 1) (rem_eq _ _)).trans e3
         | simp only [e3]
     · have t1:(k:Int).tdiv 64=2:=by rw [d0];omega
       have t3:IntKind.i64.wrap 2=2:=by decide
       rw [hq] at e1 e2 e3 HM
       change IntKind.u64.wrap ((Oc.U c).tdiv (pw (k % 64)))=_ at e1
       change (Oc.U c / pw (k % 64)).tmod 2=_ at e2
       change (Oc.U c / pw (k % 64) % 2 == 1)=_ at e3
       clear d0
       go_wp2_with fail
       refine wp_region_still_tail 12 (by kernel_rfl) (by kernel_rfl) ?_
       simp only [List.take_succ_cons,List.take_zero,List.drop_succ_cons,List.drop_zero]
       change wpStill _ _ wr.drew (fun a'=>wpList _ _ _ _ a' wr.drew) _ _
       iterate 7 still_step
       still_call (power_mod _ _).mono (by rintro e w' ⟨rfl,rfl⟩;exact ⟨rfl,rfl⟩)
       iterate 4 still_step
       refine wpStill_nil ?_
       go_wp2
       refine ⟨⟨k+1,by omega,by go_num,bits_rel hlt hbel hsz HZ0.out HZ1.out HZ2.out ?_⟩,by simp [intOf];omega⟩
       rw [HM.out]
       first
         | exact (congrArg (fun z=>z == 1) (rem_eq _ _)).trans e3
         | simp only [e3]
     · have t1:(k:Int).tdiv 64=3:=by rw [d0];omega
       have t3:IntKind.i64.wrap 3=3:=by decide
       rw [hq] at e1 e2 e3 HM
       change IntKind.u64.wrap ((Oc.U d).tdiv (pw (k % 64)))=_ at e1
       change (Oc.U d / pw (k % 64)).tmod 2=_ at e2
       change (Oc.U d / pw (k % 64) % 2 == 1)=_ at e3
       clear d0
       go_wp2_with fail
       refine wp_region_still_tail 12 (by kernel_rfl) (by kernel_rfl) ?_
       simp only [List.take_succ_cons,List.take_zero,List.drop_succ_cons,List.drop_zero]
       change wpStill _ _ wr.drew (fun a'=>wpList _ _ _ _ a' wr.drew) _ _
       iterate 7 still_step
       still_call (power_mod _ _).mono (by rintro e w' ⟨rfl,rfl⟩;exact ⟨rfl,rfl⟩)
       iterate 4 still_step
       refine wpStill_nil ?_
       go_wp2
       refine ⟨⟨k+1,by omega,by go_num,bits_rel hlt hbel hsz HZ0.out HZ1.out HZ2.out ?_⟩,by simp [intOf];omega⟩
       rw [HM.out]
       first
         | exact (congrArg (fun z=>z == 1) (rem_eq _ _)).trans e3
         | simp only [e3]
   · obtain rfl:k=256:=by omega
     have HZ1:=Lib.hid hz1
     have hz3:wr.heap[w.heap.size+1+1]? = some (.cells (bools (Oc.mem a b c d)) 159):=by
       rw [hz2,bools_congr (g:=Oc.mem a b c d) fun i hi=>by simp [hi]]
     have HZ3:=Lib.hid hz3
     clear hz0 hz1 hz2 hz3 hz
     go_wp2_with (first
       | (refine wpList_load_row rfl _ _ rfl (w.heap.size+1+1) rfl 159 (bools (Oc.mem a b c d)) (0,0) _ HZ3.out Tryz.underlying159 rfl (by rw [bools_size];kernel_rfl) ?_)
       | (refine wpList_store_row rfl _ _ _ rfl (w.heap.size+1) (bools (Oc.mem a b c d)) rfl rfl 159 (bools fun _=>false) HZ1.out (by rw [bools_size];kernel_rfl) (by rw [bools_size,bools_size]) (bools_one _) ?_))
     exact bodyPost_ret (results_cell_row rfl _ _ (w.heap.size+1) 159 (bools (Oc.mem a b c d)) (0,0) _ rfl (heap_setRow HZ1.out) Tryz.underlying159 rfl (by rw [bools_size];kernel_rfl)) rfl ⟨rfl,below_setRow hbel (by omega) _⟩
def part (p:Nat→Bool) (q n:Nat):BitVec 64:=BitVec.ofNat 64 (Oc.wn p q (min 64 (n - 64 * q)))
theorem part_zero (p:Nat→Bool) (q:Nat):part p q 0=0#64:=by unfold part;simp [Oc.wn]
theorem part_whole (p:Nat→Bool) (q:Nat) (h:q < 4):part p q 256=Oc.mk p q:=by
 unfold part Oc.mk;rw [show min 64 (256 - 64 * q)=64 by omega]
theorem part_other (p:Nat→Bool) (q n:Nat) (h:n / 64 ≠ q):part p q (n+1)=part p q n:=by
 unfold part
 rcases Nat.lt_or_gt_of_ne h with h' | h'
 · rw [show n+1 - 64 * q=0 by omega,show n - 64 * q=0 by omega]
 · rw [show min 64 (n+1 - 64 * q)=64 by omega,show min 64 (n - 64 * q)=64 by omega]
theorem part_no (p:Nat→Bool) (q n:Nat) (h:p n=false):part p q (n+1)=part p q n:=by
 by_cases e:n / 64=q
 · unfold part
   rw [show min 64 (n+1 - 64 * q)=(n - 64 * q)+1 by omega,show min 64 (n - 64 * q)=n - 64 * q by omega]
   simp only [Oc.wn]
   rw [show 64 * q+(n - 64 * q)=n by omega,h];simp
 · exact part_other p q n e
theorem part_yes (p:Nat→Bool) (q n:Nat) (h:p n=true) (e:n / 64=q):IntKind.u64.wrap (Oc.U (part p q n)+pw (n % 64))=Oc.U (part p q (n+1)):=by
 unfold part
 rw [show min 64 (n+1 - 64 * q)=n % 64+1 by omega,show min 64 (n - 64 * q)=n % 64 by omega]
 simp only [Oc.wn]
 rw [show 64 * q+n % 64=n by omega,h,if_pos rfl]
 have h1:=Oc.wn_lt p q (n % 64)
 have h2:2 ^ (n % 64+1) ≤ 2 ^ 64:=Nat.pow_le_pow_right (by omega) (by omega)
 rw [Nat.pow_succ] at h2
 unfold Oc.U pw
 rw [IntKind.wrap_u64,BitVec.toNat_ofNat,BitVec.toNat_ofNat]
 omega
theorem set_one {w:World} {b q:Nat} {x0 x1 x2 x3 v:Value} {t:TypeId} (h:w.heap[b]? = some (.cells #[x0,x1,x2,x3] t)) :
   (w.setCell ⟨b,q,none⟩ v).heap[b]? = some (.cells (#[x0,x1,x2,x3].setIfInBounds q v) t):=by
 simp [World.setCell,Array.getElem?_modify,h]
theorem made_rel {w wr:World} {p:Nat→Bool} {k q:Nat} {x y:Obj} (hq:k / 64=q) (hlt:k < 256) (hp:p k=true) (hbel:Below w.heap.size w wr) (hsz:w.heap.size+1+1 < wr.heap.size) (h0:wr.heap[w.heap.size]? = some x) (h1:wr.heap[w.heap.size+1]? = some y)
   (h2:wr.heap[w.heap.size+1+1]? = some (.cells #[.int .u64 (Oc.U (part p 0 k)),.int .u64 (Oc.U (part p 1 k)),.int .u64 (Oc.U (part p 2 k)),.int .u64 (Oc.U (part p 3 k))] 25)) :
   Below w.heap.size w (wr.setCell ⟨w.heap.size+1+1,q,none⟩ (.int .u64 (IntKind.u64.wrap (Oc.U (part p q k)+pw (k % 64))))).drew∧w.heap.size+1+1 < (wr.setCell ⟨w.heap.size+1+1,q,none⟩ (.int .u64 (IntKind.u64.wrap (Oc.U (part p q k)+pw (k % 64))))).drew.heap.size ∧
   (wr.setCell ⟨w.heap.size+1+1,q,none⟩ (.int .u64 (IntKind.u64.wrap (Oc.U (part p q k)+pw (k % 64))))).drew.heap[w.heap.size]? = some x∧(wr.setCell ⟨w.heap.size+1+1,q,none⟩ (.int .u64 (IntKind.u64.wrap (Oc.U (part p q k)+pw (k % 64))))).drew.heap[w.heap.size+1]? = some y ∧
   (wr.setCell ⟨w.heap.size+1+1,q,none⟩ (.int .u64 (IntKind.u64.wrap (Oc.U (part p q k)+pw (k % 64))))).drew.heap[w.heap.size+1+1]? = some (.cells #[.int .u64 (Oc.U (part p 0 (k+1))),.int .u64 (Oc.U (part p 1 (k+1))),.int .u64 (Oc.U (part p 2 (k+1))),.int .u64 (Oc.U (part p 3 (k+1)))] 25):=by
 rw [part_yes p q k hp hq]
 refine ⟨by go_grown, ?_, ?_, ?_, ?_⟩
 · show w.heap.size+1+1 < (wr.setCell _ _).heap.size;simpa using hsz
 · show (wr.setCell _ _).heap[w.heap.size]? = _;rw [Below.heap_setCell _ _ _ _ (by simp;omega)];exact h0
 · show (wr.setCell _ _).heap[w.heap.size+1]? = _;rw [Below.heap_setCell _ _ _ _ (by simp)];exact h1
 · show (wr.setCell _ _).heap[w.heap.size+1+1]? = _
   rw [set_one h2]
   have:q=0 ∨ q=1 ∨ q=2 ∨ q=3:=by omega
   rcases this with rfl | rfl | rfl | rfl
   · rw [part_other p 1 k (by omega),part_other p 2 k (by omega),part_other p 3 k (by omega)];rfl
   · rw [part_other p 0 k (by omega),part_other p 2 k (by omega),part_other p 3 k (by omega)];rfl
   · rw [part_other p 0 k (by omega),part_other p 1 k (by omega),part_other p 3 k (by omega)];rfl
   · rw [part_other p 0 k (by omega),part_other p 1 k (by omega),part_other p 2 k (by omega)];rfl
theorem made_any (p:Nat→Bool) (w:World) :
   Calls Tryz.prog 153 #[.agg (bools p)] w fun e w'=>e=.returned (.agg #[.int .u64 (Oc.U (Oc.mk p 0)),.int .u64 (Oc.U (Oc.mk p 1)),.int .u64 (Oc.U (Oc.mk p 2)),.int .u64 (Oc.U (Oc.mk p 3))])∧Below w.heap.size w w':=by
 go_enter Tryz.func153,Tryz.ntmps153
 go_wp2
 go_loopw [4] (fun i wr=>∃ k:Nat,k ≤ 256∧i=.int .i64 k∧Below w.heap.size w wr∧w.heap.size+1+1 < wr.heap.size∧wr.heap[w.heap.size]? = some (.cells (bools p) 159)∧wr.heap[w.heap.size+1]? = some (.cells #[.int .u64 0,.int .u64 0,.int .u64 0,.int .u64 0] 25)∧wr.heap[w.heap.size+1+1]? = some (.cells #[.int .u64 (Oc.U (part p 0 k)),.int .u64 (Oc.U (part p 1 k)),.int .u64 (Oc.U (part p 2 k)),.int .u64 (Oc.U (part p 3 k))] 25)) (fun i _=>256 - (intOf i).toNat)
 case atStart =>
   exact ⟨0,Nat.zero_le _,rfl,by go_grown,by simp,(three_new _ _ _ _).1,(three_new _ _ _ _).2.1,(three_new _ _ _ _).2.2.trans (by rw [part_zero,part_zero,part_zero,part_zero];rfl)⟩
 case round =>
   obtain ⟨k,hk,rfl,hbel,hsz,hz0,hz1,hz2⟩:=hrel
   by_cases hlt:k < 256
   · obtain ⟨c0,c1,c2,c3,f0,f1,f2,f3⟩:=four hz2
     have l0:=(one_cell hlt hz0).1
     have HZ0:=Lib.hid hz0
     have HZ1:=Lib.hid hz1
     have HZ2:=Lib.hid hz2
     clear hz0 hz1 hz2
     cases hp:p k with
     | false =>
       rw [hp] at l0
       have HP:=Lib.hid hp
       clear hp
       go_wp2
       refine ⟨⟨k+1,by omega,by go_num,hbel,hsz,HZ0.out,HZ1.out, ?_⟩,by simp [intOf];omega⟩
       rw [part_no p 0 k HP.out,part_no p 1 k HP.out,part_no p 2 k HP.out,part_no p 3 k HP.out]
       exact HZ2.out
     | true =>
       rw [hp] at l0
       have HP:=Lib.hid hp
       clear hp
       have t2:(k:Int).tmod 64=(k:Int) % 64:=Int.tmod_eq_emod_of_nonneg (by omega)
       have d0:=Int.tdiv_eq_ediv_of_nonneg (a:=(k:Int)) (b:=64) (by omega)
       have hq:k / 64=0 ∨ k / 64=1 ∨ k / 64=2 ∨ k / 64=3:=by omega
       rcases hq with hq | hq | hq | hq
       · have t1:(k:Int).tdiv 64=0:=by rw [d0];omega
         have t3:IntKind.i64.wrap 0=0:=by decide
         clear d0
         go_wp2_with fail
         refine wp_region_still_tail 11 (by kernel_rfl) (by kernel_rfl) ?_
         simp only [List.take_succ_cons,List.take_zero,List.drop_succ_cons,List.drop_zero]
         change wpStill _ _ wr.drew (fun a'=>wpList _ _ _ _ a' wr.drew) _ _
         iterate 8 still_step
         still_call (power_mod _ _).mono (by rintro e w' ⟨rfl,rfl⟩;exact ⟨rfl,rfl⟩)
         iterate 2 still_step
         refine wpStill_nil ?_
         go_wp2
         exact ⟨⟨k+1,by omega,by go_num,made_rel hq hlt HP.out hbel hsz HZ0.out HZ1.out HZ2.out⟩,by simp [intOf];omega⟩
       · have t1:(k:Int).tdiv 64=1:=by rw [d0];omega
         have t3:IntKind.i64.wrap 1=1:=by decide
         clear d0
         go_wp2_with fail
         refine wp_region_still_tail 11 (by kernel_rfl) (by kernel_rfl) ?_
         simp only [List.take_succ_cons,List.take_zero,List.drop_succ_cons,List.drop_zero]
         change wpStill _ _ wr.drew (fun a'=>wpList _ _ _ _ a' wr.drew) _ _
         iterate 8 still_step
         still_call (power_mod _ _).mono (by rintro e w' ⟨rfl,rfl⟩;exact ⟨rfl,rfl⟩)
         iterate 2 still_step
         refine wpStill_nil ?_
         go_wp2
         exact ⟨⟨k+1,by omega,by go_num,made_rel hq hlt HP.out hbel hsz HZ0.out HZ1.out HZ2.out⟩,by simp [intOf];omega⟩
       · have t1:(k:Int).tdiv 64=2:=by rw [d0];omega
         have t3:IntKind.i64.wrap 2=2:=by decide
         clear d0
         go_wp2_with fail
         refine wp_region_still_tail 11 (by kernel_rfl) (by kernel_rfl) ?_
         simp only [List.take_succ_cons,List.take_zero,List.drop_succ_cons,List.drop_zero]
         change wpStill _ _ wr.drew (fun a'=>wpList _ _ _ _ a' wr.drew) _ _
         iterate 8 still_step
         still_call (power_mod _ _).mono (by rintro e w' ⟨rfl,rfl⟩;exact ⟨rfl,rfl⟩)
         iterate 2 still_step
         refine wpStill_nil ?_
         go_wp2
         exact ⟨⟨k+1,by omega,by go_num,made_rel hq hlt HP.out hbel hsz HZ0.out HZ1.out HZ2.out⟩,by simp [intOf];omega⟩
       · have t1:(k:Int).tdiv 64=3:=by rw [d0];omega
         have t3:IntKind.i64.wrap 3=3:=by decide
         clear d0
         go_wp2_with fail
         refine wp_region_still_tail 11 (by kernel_rfl) (by kernel_rfl) ?_
         simp only [List.take_succ_cons,List.take_zero,List.drop_succ_cons,List.drop_zero]
         change wpStill _ _ wr.drew (fun a'=>wpList _ _ _ _ a' wr.drew) _ _
         iterate 8 still_step
         still_call (power_mod _ _).mono (by rintro e w' ⟨rfl,rfl⟩;exact ⟨rfl,rfl⟩)
         iterate 2 still_step
         refine wpStill_nil ?_
         go_wp2
         exact ⟨⟨k+1,by omega,by go_num,made_rel hq hlt HP.out hbel hsz HZ0.out HZ1.out HZ2.out⟩,by simp [intOf];omega⟩
   · obtain rfl:k=256:=by omega
     rw [part_whole p 0 (by omega),part_whole p 1 (by omega),part_whole p 2 (by omega),part_whole p 3 (by omega)] at hz2
     obtain ⟨c0,c1,c2,c3,-⟩:=four hz2
     obtain ⟨d0,e0,d1,e1,d2,e2,d3,e3,r0,r1,r2,r3⟩:=four_st hz1
     clear hz0 hz1 hz2
     go_wp2
     refine bodyPost_ret (v:=(.agg #[.int .u64 (Oc.U (Oc.mk p 0)),.int .u64 (Oc.U (Oc.mk p 1)),.int .u64 (Oc.U (Oc.mk p 2)),.int .u64 (Oc.U (Oc.mk p 3))])) (by simp [results,Tryz.results153,go_sem,r0,r1,r2,r3]) rfl ⟨rfl, ?_⟩
     go_grown
theorem mk_mem (a b c d:BitVec 64):Oc.mk (Oc.mem a b c d) 0=a∧Oc.mk (Oc.mem a b c d) 1=b∧Oc.mk (Oc.mem a b c d) 2=c∧Oc.mk (Oc.mem a b c d) 3=d :=
 ⟨Oc.mk_eq fun i hi=>by rw [show 64 * 0+i=i by omega];exact Oc.mem0 a b c d i hi,Oc.mk_eq fun i hi=>Oc.mem1 a b c d i hi,Oc.mk_eq fun i hi=>Oc.mem2 a b c d i hi,Oc.mk_eq fun i hi=>Oc.mem3 a b c d i hi⟩
theorem mk_same4 {p q:Nat→Bool} (h:∀ i,i < 256→p i=q i):Oc.mk p 0=Oc.mk q 0∧Oc.mk p 1=Oc.mk q 1∧Oc.mk p 2=Oc.mk q 2∧Oc.mk p 3=Oc.mk q 3 :=
 ⟨Oc.mk_eq fun i hi=>by rw [Oc.mk_bit q 0 i hi,h _ (by omega)],Oc.mk_eq fun i hi=>by rw [Oc.mk_bit q 1 i hi,h _ (by omega)],Oc.mk_eq fun i hi=>by rw [Oc.mk_bit q 2 i hi,h _ (by omega)],Oc.mk_eq fun i hi=>by rw [Oc.mk_bit q 3 i hi,h _ (by omega)]⟩
end Go.Proofs.YtfcilopifjddpaaGreatDoor
namespace Go.Proofs.YtfcilopifjddpaaGreatDoor
open Go.RowKit
namespace Oc
def nxt (p:Nat→Bool):Nat→Nat→Nat
 | 0,f=>f
 | n+1,f=>if p f then f else nxt p n (f+1)
def nx (p:Nat→Bool) (f:Nat):Nat:=nxt p (256 - f) f
end Oc
theorem shr_word (x:BitVec 64) (k:Nat):Oc.U x / (2:Int) ^ k=Oc.U (x >>> k):=by
 rw [← Oc.shrU];congr 1
end Go.Proofs.YtfcilopifjddpaaGreatDoor
namespace Go.Proofs.YtfcilopifjddpaaGreatDoor
open Go.RowKit
def upto (lo:Nat) (k:Nat):Nat→Bool:=fun j=>decide (lo ≤ j) && decide (j < k)
theorem upto_step {lo k:Nat} (h:lo ≤ k):∀ j,upto lo (k+1) j=(upto lo k j || j == k):=by
 intro j;unfold upto
 rw [Bool.eq_iff_iff];simp;omega
theorem upto_none (lo:Nat):upto lo lo=fun _=>false:=by
 funext j;unfold upto;rw [Bool.eq_false_iff];simp
theorem upto_low {lo k:Nat} (h:k ≤ lo):upto lo k=fun _=>false:=by
 funext j;unfold upto;rw [Bool.eq_false_iff];simp;omega
theorem range_rel {w wr:World} {lo k q:Nat} {x:Obj} (hlo:lo ≤ k) (hq:k / 64=q) (hlt:k < 256) (hbel:Below w.heap.size w wr) (hsz:w.heap.size+1 < wr.heap.size) (h0:wr.heap[w.heap.size]? = some x)
   (h2:wr.heap[w.heap.size+1]? = some (.cells #[.int .u64 (Oc.U (Oc.mk (upto lo k) 0)),.int .u64 (Oc.U (Oc.mk (upto lo k) 1)),.int .u64 (Oc.U (Oc.mk (upto lo k) 2)),.int .u64 (Oc.U (Oc.mk (upto lo k) 3))] 25)) :
   Below w.heap.size w (wr.setCell ⟨w.heap.size+1,q,none⟩ (.int .u64 (Oc.U (Oc.mk (upto lo k) q ||| (1#64 <<< (k % 64)))))).drew∧w.heap.size+1 < (wr.setCell ⟨w.heap.size+1,q,none⟩ (.int .u64 (Oc.U (Oc.mk (upto lo k) q ||| (1#64 <<< (k % 64)))))).drew.heap.size ∧
   (wr.setCell ⟨w.heap.size+1,q,none⟩ (.int .u64 (Oc.U (Oc.mk (upto lo k) q ||| (1#64 <<< (k % 64)))))).drew.heap[w.heap.size]? = some x ∧
   (wr.setCell ⟨w.heap.size+1,q,none⟩ (.int .u64 (Oc.U (Oc.mk (upto lo k) q ||| (1#64 <<< (k % 64)))))).drew.heap[w.heap.size+1]? = some (.cells #[.int .u64 (Oc.U (Oc.mk (upto lo (k+1)) 0)),.int .u64 (Oc.U (Oc.mk (upto lo (k+1)) 1)),.int .u64 (Oc.U (Oc.mk (upto lo (k+1)) 2)),.int .u64 (Oc.U (Oc.mk (upto lo (k+1)) 3))] 25):=by
 rw [← Oc.mk_turn (upto_step hlo) hq]
 refine ⟨by go_grown, ?_, ?_, ?_⟩
 · show w.heap.size+1 < (wr.setCell _ _).heap.size;simpa using hsz
 · show (wr.setCell _ _).heap[w.heap.size]? = _;rw [Below.heap_setCell _ _ _ _ (by simp)];exact h0
 · show (wr.setCell _ _).heap[w.heap.size+1]? = _
   rw [set_one h2]
   have hs:=fun j (hj:k / 64 ≠ j)=>Oc.mk_same (k:=j) (upto_step hlo) hj
   have:q=0 ∨ q=1 ∨ q=2 ∨ q=3:=by omega
   rcases this with rfl | rfl | rfl | rfl
   · rw [hs 1 (by omega),hs 2 (by omega),hs 3 (by omega)];rfl
   · rw [hs 0 (by omega),hs 2 (by omega),hs 3 (by omega)];rfl
   · rw [hs 0 (by omega),hs 1 (by omega),hs 3 (by omega)];rfl
   · rw [hs 0 (by omega),hs 1 (by omega),hs 2 (by omega)];rfl
theorem range_any (lo hi:Nat) (hlo:lo < 256) (hhi:hi < 256) (w:World) :
   Calls Tryz.prog 217 #[.int .u8 lo,.int .u8 hi] w fun e w'=>e=.returned (.agg #[.int .u64 (Oc.U (Oc.mk (upto lo (hi+1)) 0)),.int .u64 (Oc.U (Oc.mk (upto lo (hi+1)) 1)),.int .u64 (Oc.U (Oc.mk (upto lo (hi+1)) 2)),.int .u64 (Oc.U (Oc.mk (upto lo (hi+1)) 3))])∧Below w.heap.size w w':=by
 go_enter Tryz.func217,Tryz.ntmps217
 go_wp2
 go_loopw [6] (fun i wr=>∃ k:Nat,lo ≤ k∧(k ≤ hi+1 ∨ k=lo)∧i=.int .i64 k∧Below w.heap.size w wr∧w.heap.size+1 < wr.heap.size∧wr.heap[w.heap.size]? = some (.cells #[.int .u64 0,.int .u64 0,.int .u64 0,.int .u64 0] 25) ∧
   wr.heap[w.heap.size+1]? = some (.cells #[.int .u64 (Oc.U (Oc.mk (upto lo k) 0)),.int .u64 (Oc.U (Oc.mk (upto lo k) 1)),.int .u64 (Oc.U (Oc.mk (upto lo k) 2)),.int .u64 (Oc.U (Oc.mk (upto lo k) 3))] 25)) (fun i _=>hi+1 - (intOf i).toNat)
 case atStart=>exact ⟨lo,Nat.le_refl _,.inr rfl,rfl,by go_grown,by simp,(two_new _ _ _).1,(two_new _ _ _).2.trans (by rw [upto_none,Oc.mk_none,Oc.mk_none,Oc.mk_none,Oc.mk_none];rfl)⟩
 case round =>
   obtain ⟨k,hlk,hk,rfl,hbel,hsz,hz0,hz1⟩:=hrel
   by_cases hlt:k ≤ hi
   · obtain ⟨c0,c1,c2,c3,f0,f1,f2,f3⟩:=four hz1
     have HZ0:=Lib.hid hz0
     have HZ1:=Lib.hid hz1
     have HK:=Lib.hid hk
     clear hz0 hz1 hk
     have t2:(k:Int).tmod 64=(k:Int) % 64:=Int.tmod_eq_emod_of_nonneg (by omega)
     have t4:IntKind.i64.wrap ((k:Int) % 64)=(k:Int) % 64:=IntWalk.i64_in _ (by omega)
     have t5:(0:Int) ≤ (k:Int) % 64:=by omega
     have d0:=Int.tdiv_eq_ediv_of_nonneg (a:=(k:Int)) (b:=64) (by omega)
     have hk256:k < 256:=by omega
     have hq:k / 64=0 ∨ k / 64=1 ∨ k / 64=2 ∨ k / 64=3:=by omega
     rcases hq with hq | hq | hq | hq
     · have t1:(k:Int).tdiv 64=0:=by rw [d0];omega
       have t3:IntKind.i64.wrap 0=0:=by decide
       clear d0
       go_wp2_with fail
       refine wp_region_still_tail 9 (by kernel_rfl) (by kernel_rfl) ?_
       simp only [List.take_succ_cons,List.take_zero,List.drop_succ_cons,List.drop_zero]
       change wpStill _ _ wr.drew (fun a'=>wpList _ _ _ _ a' wr.drew) _ _
       iterate 9 still_step
       refine wpStill_nil ?_
       go_wp2
       rw [Oc.shlBit,Oc.orU]
       exact ⟨⟨k+1,by omega,.inl (by omega),by go_num,range_rel hlk hq hk256 hbel hsz HZ0.out HZ1.out⟩,by simp [intOf];omega⟩
     · have t1:(k:Int).tdiv 64=1:=by rw [d0];omega
       have t3:IntKind.i64.wrap 1=1:=by decide
       clear d0
       go_wp2_with fail
       refine wp_region_still_tail 9 (by kernel_rfl) (by kernel_rfl) ?_
       simp only [List.take_succ_cons,List.take_zero,List.drop_succ_cons,List.drop_zero]
       change wpStill _ _ wr.drew (fun a'=>wpList _ _ _ _ a' wr.drew) _ _
       iterate 9 still_step
       refine wpStill_nil ?_
       go_wp2
       rw [Oc.shlBit,Oc.orU]
       exact ⟨⟨k+1,by omega,.inl (by omega),by go_num,range_rel hlk hq hk256 hbel hsz HZ0.out HZ1.out⟩,by simp [intOf];omega⟩
     · have t1:(k:Int).tdiv 64=2:=by rw [d0];omega
       have t3:IntKind.i64.wrap 2=2:=by decide
       clear d0
       go_wp2_with fail
       refine wp_region_still_tail 9 (by kernel_rfl) (by kernel_rfl) ?_
       simp only [List.take_succ_cons,List.take_zero,List.drop_succ_cons,List.drop_zero]
       change wpStill _ _ wr.drew (fun a'=>wpList _ _ _ _ a' wr.drew) _ _
       iterate 9 still_step
       refine wpStill_nil ?_
       go_wp2
       rw [Oc.shlBit,Oc.orU]
       exact ⟨⟨k+1,by omega,.inl (by omega),by go_num,range_rel hlk hq hk256 hbel hsz HZ0.out HZ1.out⟩,by simp [intOf];omega⟩
     · have t1:(k:Int).tdiv 64=3:=by rw [d0];omega
       have t3:IntKind.i64.wrap 3=3:=by decide
       clear d0
       go_wp2_with fail
       refine wp_region_still_tail 9 (by kernel_rfl) (by kernel_rfl) ?_
       simp only [List.take_succ_cons,List.take_zero,List.drop_succ_cons,List.drop_zero]
       change wpStill _ _ wr.drew (fun a'=>wpList _ _ _ _ a' wr.drew) _ _
       iterate 9 still_step
       refine wpStill_nil ?_
       go_wp2
       rw [Oc.shlBit,Oc.orU]
       exact ⟨⟨k+1,by omega,.inl (by omega),by go_num,range_rel hlk hq hk256 hbel hsz HZ0.out HZ1.out⟩,by simp [intOf];omega⟩
   · have hfin:upto lo k=upto lo (hi+1):=by
       rcases hk with hk | hk
       · obtain rfl:k=hi+1:=by omega
         rfl
       · subst hk;rw [upto_none,upto_low (by omega)]
     rw [hfin] at hz1
     obtain ⟨c0,c1,c2,c3,-⟩:=four hz1
     obtain ⟨d0,e0,d1,e1,d2,e2,d3,e3,r0,r1,r2,r3⟩:=four_st hz0
     have hlt':(hi:Int) < (k:Int):=by omega
     clear hz0 hz1 hfin hk
     go_wp2
     refine bodyPost_ret (v:=(.agg #[.int .u64 (Oc.U (Oc.mk (upto lo (hi+1)) 0)),.int .u64 (Oc.U (Oc.mk (upto lo (hi+1)) 1)),.int .u64 (Oc.U (Oc.mk (upto lo (hi+1)) 2)),.int .u64 (Oc.U (Oc.mk (upto lo (hi+1)) 3))])) (by simp [results,Tryz.results217,go_sem,r0,r1,r2,r3]) rfl ⟨rfl, ?_⟩
     go_grown
theorem refrange_any (lo hi:Nat) (hlo:lo < 256) (hhi:hi < 256) (w:World) :
   Calls Tryz.prog 188 #[.int .u8 lo,.int .u8 hi] w fun e w'=>e=.returned (.agg #[.int .u64 (Oc.U (Oc.mk (upto lo (hi+1)) 0)),.int .u64 (Oc.U (Oc.mk (upto lo (hi+1)) 1)),.int .u64 (Oc.U (Oc.mk (upto lo (hi+1)) 2)),.int .u64 (Oc.U (Oc.mk (upto lo (hi+1)) 3))])∧Below w.heap.size w w':=by
 have hz:∀ w,(zeroValue 159).run Tryz.prog w=.ok (.agg (bools fun _=>false)) w:=fun _=>by kernel_rfl
 go_enter Tryz.func188,Tryz.ntmps188
 go_wp2
 go_loopw [6] (fun i wr=>∃ k:Nat,k ≤ 256∧i=.int .i64 k∧Below w.heap.size w wr∧w.heap.size+1 < wr.heap.size∧wr.heap[w.heap.size]? = some (.cells #[.int .u64 0,.int .u64 0,.int .u64 0,.int .u64 0] 25) ∧
   wr.heap[w.heap.size+1]? = some (.cells (bools fun j=>decide (j < k) && upto lo (hi+1) j) 159)) (fun i _=>256 - (intOf i).toNat)
 case atStart=>exact ⟨0,Nat.zero_le _,rfl,by go_grown,by simp,(two_new _ _ _).1,(two_new _ _ _).2.trans (by simp)⟩
 case round =>
   obtain ⟨k,hk,rfl,hbel,hsz,hz0,hz1⟩:=hrel
   by_cases hlt:k < 256
   · obtain ⟨v0,l0,f0⟩:∃ v,wr.cell? ⟨w.heap.size+1,k,none⟩=some v∧wr.frozen? ⟨w.heap.size+1,k,none⟩=false:=⟨_,one_cell hlt hz1⟩
     have HZ0:=Lib.hid hz0
     have HZ1:=Lib.hid hz1
     clear hz0 hz1
     have key:∀ b:Bool,b=upto lo (hi+1) k→(wr.setCell ⟨w.heap.size+1,k,none⟩ (.bool b)).heap[w.heap.size+1]? = some (.cells (bools fun j=>decide (j < k+1) && upto lo (hi+1) j) 159):=fun b hb =>
       one_set hlt HZ1.out (by simp [hb]) fun j hj=>by
         have:decide (j < k+1)=decide (j < k):=by simp;omega
         simp only [this]
     have KEY:=Lib.hid key
     clear key
     by_cases h1:lo ≤ k
     · by_cases h2:k ≤ hi
       all_goals
         have i1:(lo:Int) ≤ (k:Int):=by omega
         first
           | (have i2:(k:Int) ≤ (hi:Int):=by omega)
           | (have i2:decide ((k:Int) ≤ (hi:Int))=false:=by simp;omega)
         go_wp2
         exact ⟨⟨k+1,by omega,by go_num,by go_grown,by simpa using hsz,by rw [Below.heap_setCell _ _ _ _ (by simp)];exact HZ0.out,KEY.out _ (by unfold upto;simp;omega)⟩,by simp [intOf];omega⟩
     · have i1:decide ((lo:Int) ≤ (k:Int))=false:=by simp;omega
       go_wp2
       exact ⟨⟨k+1,by omega,by go_num,by go_grown,by simpa using hsz,by rw [Below.heap_setCell _ _ _ _ (by simp)];exact HZ0.out,KEY.out _ (by unfold upto;simp;omega)⟩,by simp [intOf];omega⟩
   · obtain rfl:k=256:=by omega
     have HZ0:=Lib.hid hz0
     have HZ1:=Lib.hid hz1
     clear hz0 hz1
     have hw:=mk_same4 (p:=fun j=>decide (j < 256) && upto lo (hi+1) j) (q:=upto lo (hi+1)) fun i hi=>by simp [hi]
     have HW:=Lib.hid hw
     clear hw
     go_wp2_with (first
       | (refine wpList_load_row rfl 159 (.tmp 5) rfl (w.heap.size+1) rfl 159 (bools fun j=>decide (j < 256) && upto lo (hi+1) j) (0,0) _ HZ1.out Tryz.underlying159 rfl (by rw [bools_size];kernel_rfl) ?_)
       | fail)
     refine (made_any _ _).mono ?_
     rintro e w2 ⟨rfl,hb2⟩
     rw [HW.out.1,HW.out.2.1,HW.out.2.2.1,HW.out.2.2.2]
     obtain ⟨d0,e0,d1,e1,d2,e2,d3,e3,r0,r1,r2,r3⟩:=four_st (keep_blk hb2 HZ0.out)
     have hbw2:=hbel.trans (hb2.mono hbel.size)
     go_wp2
     refine bodyPost_ret (v:=(.agg #[.int .u64 (Oc.U (Oc.mk (upto lo (hi+1)) 0)),.int .u64 (Oc.U (Oc.mk (upto lo (hi+1)) 1)),.int .u64 (Oc.U (Oc.mk (upto lo (hi+1)) 2)),.int .u64 (Oc.U (Oc.mk (upto lo (hi+1)) 3))])) (by simp [results,Tryz.results188,go_sem,r0,r1,r2,r3]) rfl ⟨rfl, ?_⟩
     go_grown
end Go.Proofs.YtfcilopifjddpaaGreatDoor
namespace Go.Proofs.YtfcilopifjddpaaGreatDoor
open Go.RowKit
theorem refhas_any (a b c d:BitVec 64) (n:Nat) (hn:n < 256) (w:World) :
   Calls Tryz.prog 139 #[(.agg #[.int .u64 (Oc.U a),.int .u64 (Oc.U b),.int .u64 (Oc.U c),.int .u64 (Oc.U d)]),.int .u8 n] w fun e w'=>e=.returned (.bool (Oc.mem a b c d n))∧Below w.heap.size w w':=by
 have ha:=Oc.U_nonneg a;have hb:=Oc.U_nonneg b;have hc:=Oc.U_nonneg c;have hd:=Oc.U_nonneg d
 have hq:n / 64=0 ∨ n / 64=1 ∨ n / 64=2 ∨ n / 64=3:=by omega
 have h2:∀ x:BitVec 64,(Oc.U x / (2:Int) ^ (n % 64) % 2 == 1)=x.getLsbD (n % 64):=fun x=>by
   rw [← bit_of];unfold pw;congr 3
 have H2:=Lib.hid h2
 clear h2
 rcases hq with hq | hq | hq | hq
 all_goals
   have hs:=shr_word a (n % 64);have hs1:=shr_word b (n % 64);have hs2:=shr_word c (n % 64);have hs3:=shr_word d (n % 64)
   have ht:=Oc.U_nonneg (a >>> (n % 64));have ht1:=Oc.U_nonneg (b >>> (n % 64));have ht2:=Oc.U_nonneg (c >>> (n % 64));have ht3:=Oc.U_nonneg (d >>> (n % 64))
   go_enter Tryz.func139,Tryz.ntmps139
   go_wp2
   go_returns
   refine ⟨ret_bool ?_,by go_grown⟩
   rw [← shr_word,H2.out]
   unfold Oc.mem Oc.w4
   rw [hq]
   rfl
def least (p:Nat→Bool):Int:=if Oc.nx p 0 < 256 then (Oc.nx p 0:Int) else -1
def byteAt (s:ByteArray) (i:Nat):Nat:=(s.data.getD i 0).toNat
theorem byteAt_lt (s:ByteArray) (i:Nat):byteAt s i < 256:=by unfold byteAt;exact UInt8.toNat_lt _
theorem refof_any (s:ByteArray) (hs:s.size ≤ maxLen) (w:World) :
   Calls Tryz.prog 136 #[.string s] w fun e w'=>e=.returned (.agg #[.int .u64 (Oc.U (Oc.mk (Oc.anyB (byteAt s) s.size) 0)),.int .u64 (Oc.U (Oc.mk (Oc.anyB (byteAt s) s.size) 1)),.int .u64 (Oc.U (Oc.mk (Oc.anyB (byteAt s) s.size) 2)),.int .u64 (Oc.U (Oc.mk (Oc.anyB (byteAt s) s.size) 3))])∧Below w.heap.size w w':=by
 unfold maxLen at hs
 have hz:∀ w,(zeroValue 159).run Tryz.prog w=.ok (.agg (bools fun _=>false)) w:=fun _=>by kernel_rfl
 go_enter Tryz.func136,Tryz.ntmps136
 go_wp2
 go_loopw [4] (fun i wr=>∃ k:Nat,k ≤ s.size∧i=.int .i64 k∧Below w.heap.size w wr∧w.heap.size+1 < wr.heap.size∧wr.heap[w.heap.size]? = some (.cells #[.int .u64 0,.int .u64 0,.int .u64 0,.int .u64 0] 25) ∧
   wr.heap[w.heap.size+1]? = some (.cells (bools (Oc.anyB (byteAt s) k)) 159)) (fun i _=>s.size - (intOf i).toNat)
 case atStart=>exact ⟨0,Nat.zero_le _,rfl,by go_grown,by simp,(two_new _ _ _).1,(two_new _ _ _).2.trans (by rfl)⟩
 case round =>
   obtain ⟨k,hk,rfl,hbel,hsz,hz0,hz1⟩:=hrel
   by_cases hlt:k < s.size
   · have hb:=byteAt_lt s k
     have he:s[k].toNat=byteAt s k:=by unfold byteAt;simp [ByteArray.getElem_eq_getElem_data,hlt]
     obtain ⟨v0,l0,f0⟩:∃ v,wr.cell? ⟨w.heap.size+1,byteAt s k,none⟩=some v∧wr.frozen? ⟨w.heap.size+1,byteAt s k,none⟩=false:=⟨_,one_cell hb hz1⟩
     have HZ0:=Lib.hid hz0
     have HZ1:=Lib.hid hz1
     clear hz0 hz1
     go_wp2
     exact ⟨⟨k+1,by omega,by go_num,by go_grown,by simpa using hsz,by rw [Below.heap_setCell _ _ _ _ (by simp)];exact HZ0.out,one_set hb HZ1.out (by simp [Oc.anyB]) (fun j hj=>by simp [Oc.anyB,hj])⟩,by simp [intOf];omega⟩
   · obtain rfl:k=s.size:=by omega
     have HZ0:=Lib.hid hz0
     have HZ1:=Lib.hid hz1
     clear hz0 hz1
     go_wp2_with (first
       | (refine wpList_load_row rfl 159 (.tmp 3) rfl (w.heap.size+1) rfl 159 (bools (Oc.anyB (byteAt s) s.size)) (0,0) _ HZ1.out Tryz.underlying159 rfl (by rw [bools_size];kernel_rfl) ?_)
       | fail)
     refine (made_any _ _).mono ?_
     rintro e w2 ⟨rfl,hb2⟩
     obtain ⟨d0,e0,d1,e1,d2,e2,d3,e3,r0,r1,r2,r3⟩:=four_st (keep_blk hb2 HZ0.out)
     have hbw2:=hbel.trans (hb2.mono hbel.size)
     go_wp2
     refine bodyPost_ret (v:=(.agg #[.int .u64 (Oc.U (Oc.mk (Oc.anyB (byteAt s) s.size) 0)),.int .u64 (Oc.U (Oc.mk (Oc.anyB (byteAt s) s.size) 1)),.int .u64 (Oc.U (Oc.mk (Oc.anyB (byteAt s) s.size) 2)),.int .u64 (Oc.U (Oc.mk (Oc.anyB (byteAt s) s.size) 3))])) (by simp [results,Tryz.results136,go_sem,r0,r1,r2,r3]) rfl ⟨rfl, ?_⟩
     go_grown
end Go.Proofs.YtfcilopifjddpaaGreatDoor
namespace Go.Proofs.YtfcilopifjddpaaGreatDoor
open Go.RowKit
def bt (s:ByteArray) (i:Nat):Nat:=if i < s.size then byteAt s i else 256
theorem bt_in {s:ByteArray} {i:Nat} (h:i < s.size):bt s i=byteAt s i:=if_pos h
theorem bt_out {s:ByteArray} {i:Nat} (h:s.size ≤ i):bt s i=256:=if_neg (by omega)
theorem bt_txt (s:ByteArray):Br.Txt (bt s) s.size:=⟨fun i h=>by rw [bt_in h];exact byteAt_lt s i,fun i h=>bt_out h⟩
theorem bt_at {s:ByteArray} {i:Nat} (h:i < s.size):s[i].toNat=bt s i:=by
 rw [bt_in h];unfold byteAt;simp [ByteArray.getElem_eq_getElem_data,h]
def isB (s:ByteArray) (j:Int) (c:Nat):Bool:=decide (0 ≤ j) && bt s j.toNat == c
theorem isB_nat {s:ByteArray} {j:Int} {i c:Nat} (h:j=i):isB s j c=(bt s i == c):=by subst h;simp [isB]
theorem ris_any (s:ByteArray) (_hs:s.size ≤ 1152921504606846976) (j:Int) (c:Nat) (hc:c < 256) (w:World) :
   Calls Tryz.prog 165 #[.string s,.int .i64 j,.int .u8 c] w fun e w'=>e=.returned (.bool (isB s j c))∧w=w':=by
 by_cases h0:0 ≤ j
 · obtain ⟨i,rfl⟩:∃ i:Nat,j=i:=⟨j.toNat,by omega⟩
   rw [isB_nat rfl]
   by_cases h1:i < s.size
   · have he:=bt_at h1
     generalize hb:(bt s i == c)=b
     have hd:((s[i].toNat:Int) == (c:Int))=b:=by
       rw [← hb,Bool.eq_iff_iff];simp only [beq_iff_eq];omega
     clear hb he
     cases b
     all_goals
       go_enter Tryz.func165,Tryz.ntmps165
       go_wp2
       go_ret
       exact ⟨rfl,rfl⟩
   · have hb:(bt s i == c)=false:=by rw [bt_out (by omega)];simp;omega
     rw [hb]
     have hd:decide (i < s.size)=false:=by simpa using h1
     clear hb
     go_enter Tryz.func165,Tryz.ntmps165
     go_wp2
     go_ret
     exact ⟨rfl,rfl⟩
 · have hd:decide ((0:Int) ≤ j)=false:=by simpa using h0
   have hb:isB s j c=false:=by unfold isB;rw [hd];rfl
   rw [hb]
   clear hb
   go_enter Tryz.func165,Tryz.ntmps165
   go_wp2
   go_ret
   exact ⟨rfl,rfl⟩
theorem ris_nat (s:ByteArray) (hs:s.size ≤ 1152921504606846976) (j:Int) (i c:Nat) (hj:j=i) (hc:c < 256) (b:Bool) (hb:(bt s i == c)=b) (w:World) :
   Calls Tryz.prog 165 #[.string s,.int .i64 j,.int .u8 c] w fun e w'=>e=.returned (.bool b)∧w=w':=by
 have:=ris_any s hs j c hc w
 rw [isB_nat hj,hb] at this
 exact this
theorem dotted_any (s:ByteArray) (hs:s.size ≤ 1152921504606846976) (j:Int) (i:Nat) (hj:j=i) (hi:i ≤ s.size+10) (w:World) :
   Calls Tryz.prog 185 #[.string s,.int .i64 j] w fun e w'=>e=.returned (.bool (Br.dotted (bt s) i))∧w=w':=by
 subst hj
 unfold Br.dotted
 have H0:=Lib.hid (fun b hb=>ris_nat s hs i i 91 rfl (by omega) b hb)
 have H1:=Lib.hid (fun b hb=>ris_nat s hs (i+1) (i+1) 46 (by omega) (by omega) b hb)
 have H2:=Lib.hid (fun b hb=>ris_nat s hs (i+1) (i+1) 61 (by omega) (by omega) b hb)
 have hw:IntKind.i64.wrap ((i:Int)+1)=(i:Int)+1:=IntWalk.i64_in _ (by omega)
 have h0:=fun b hb=>H0.out b hb;have h1:=fun b hb=>H1.out b hb;have h2:=fun b hb=>H2.out b hb
 clear H0 H1 H2 hi hs
 generalize (bt s i == 91)=x at *
 generalize (bt s (i+1) == 46)=y at *
 generalize (bt s (i+1) == 61)=z at *
 have H0:=Lib.hid (h0 x rfl);have H1:=Lib.hid (h1 y rfl);have H2:=Lib.hid (h2 z rfl)
 clear h0 h1 h2
 go_enter Tryz.func185,Tryz.ntmps185
 cases x
 · go_wp2_with (go_at_call 165;refine (H0.out _).mono ?_;rintro e w' ⟨rfl,rfl⟩)
   go_ret
   exact ⟨rfl,rfl⟩
 · cases y
   · go_wp2_with fail
     refine (H0.out _).mono ?_;rintro e w' ⟨rfl,rfl⟩
     go_wp2_with fail
     refine (H1.out _).mono ?_;rintro e w' ⟨rfl,rfl⟩
     go_wp2_with fail
     refine (H2.out _).mono ?_;rintro e w' ⟨rfl,rfl⟩
     go_wp2
     go_ret
     exact ⟨ret_bool (by simp),rfl⟩
   · go_wp2_with fail
     refine (H0.out _).mono ?_;rintro e w' ⟨rfl,rfl⟩
     go_wp2_with fail
     refine (H1.out _).mono ?_;rintro e w' ⟨rfl,rfl⟩
     go_wp2
     go_ret
     exact ⟨rfl,rfl⟩
theorem colon_any (s:ByteArray) (hs:s.size ≤ 1152921504606846976) (j:Int) (i:Nat) (hj:j=i) (hi:i ≤ s.size+10) (w:World) :
   Calls Tryz.prog 186 #[.string s,.int .i64 j] w fun e w'=>e=.returned (.bool (Br.colon (bt s) i))∧w=w':=by
 subst hj
 unfold Br.colon
 have H0:=Lib.hid (fun b hb=>ris_nat s hs i i 91 rfl (by omega) b hb)
 have H1:=Lib.hid (fun b hb=>ris_nat s hs (i+1) (i+1) 58 (by omega) (by omega) b hb)
 have hw:IntKind.i64.wrap ((i:Int)+1)=(i:Int)+1:=IntWalk.i64_in _ (by omega)
 have h0:=fun b hb=>H0.out b hb;have h1:=fun b hb=>H1.out b hb
 clear H0 H1 hi hs
 generalize (bt s i == 91)=x at *
 generalize (bt s (i+1) == 58)=y at *
 have H0:=Lib.hid (h0 x rfl);have H1:=Lib.hid (h1 y rfl)
 clear h0 h1
 go_enter Tryz.func186,Tryz.ntmps186
 cases x
 · go_wp2_with (go_at_call 165;refine (H0.out _).mono ?_;rintro e w' ⟨rfl,rfl⟩)
   go_ret
   exact ⟨rfl,rfl⟩
 · go_wp2_with fail
   refine (H0.out _).mono ?_;rintro e w' ⟨rfl,rfl⟩
   go_wp2_with fail
   refine (H1.out _).mono ?_;rintro e w' ⟨rfl,rfl⟩
   go_wp2
   go_ret
   exact ⟨ret_bool (by simp),rfl⟩
def optI (o:Option Nat):Int:=match o with | some e=>e | none=>-1
theorem closing_any (s:ByteArray) (hs:s.size ≤ 1152921504606846976) (j:Int) (i:Nat) (hj:j=i) (hi:i ≤ s.size+10) (w:World) :
   Calls Tryz.prog 187 #[.string s,.int .i64 j] w fun e w'=>e=.returned (.int .i64 (optI (Br.clos (bt s) (s.size - (i+1)) i)))∧w=w':=by
 subst hj
 have HR:∃ R,Br.clos (bt s) (s.size - (i+1)) i=R:=⟨_,rfl⟩
 obtain ⟨R,hR⟩:=HR
 rw [hR]
 have HR:=Lib.hid hR
 clear hR
 go_enter Tryz.func187,Tryz.ntmps187
 go_wp2
 go_loop [1] (fun i'=>∃ k:Nat,i'=.int .i64 k∧k ≤ s.size+10∧Hid (Br.clos (bt s) (s.size - (k+1)) k=R)) (fun i'=>s.size - (intOf i').toNat)
 case atStart=>exact ⟨i,rfl,hi,HR⟩
 case round =>
   obtain ⟨k,rfl,hk,hK⟩:=hrel
   have hw:IntKind.i64.wrap ((k:Int)+1)=(k:Int)+1:=IntWalk.i64_in _ (by omega)
   by_cases hlt:k+1 < s.size
   · have h1:=bt_at (show k < s.size by omega)
     have h2:=bt_at hlt
     have hfk:s.size - (k+1)=s.size - (k+1+1)+1:=by omega
     have hK':=hK.out
     rw [hfk] at hK'
     unfold Br.clos at hK'
     have hd:decide ((k:Int)+1 < s.size)=true:=by simp;omega
     by_cases c1:bt s k=58
     · by_cases c2:bt s (k+1)=93
       · have e1:((s[k].toNat:Int) == 58)=true:=by rw [h1,c1];rfl
         have e2:((s[k+1].toNat:Int) == 93)=true:=by rw [h2,c2];rfl
         rw [if_pos (by simp [c1,c2])] at hK'
         subst hK'
         clear h1 h2 hK hfk c1 c2
         go_wp2
         go_ret
         exact ⟨rfl,rfl⟩
       · have e1:((s[k].toNat:Int) == 58)=true:=by rw [h1,c1];rfl
         have e2:((s[k+1].toNat:Int) == 93)=false:=by rw [h2];simp;omega
         rw [if_neg (by simp [c2])] at hK'
         have HK:=Lib.hid hK'
         clear h1 h2 hK hfk c1 c2 hK'
         go_wp2
         exact ⟨⟨k+1,by go_num,by omega,HK⟩,by simp [intOf];omega⟩
     · have e1:((s[k].toNat:Int) == 58)=false:=by rw [h1];simp;omega
       rw [if_neg (by simp [c1])] at hK'
       have HK:=Lib.hid hK'
       clear h1 h2 hK hfk c1 hK'
       go_wp2
       exact ⟨⟨k+1,by go_num,by omega,HK⟩,by simp [intOf];omega⟩
   · have hd:decide ((k:Int)+1 < s.size)=false:=by simp;omega
     have hK':=hK.out
     rw [show s.size - (k+1)=0 by omega] at hK'
     have hK2:none=R:=hK'
     subst hK2
     clear hK hK'
     go_wp2
     go_ret
     exact ⟨rfl,rfl⟩
end Go.Proofs.YtfcilopifjddpaaGreatDoor
namespace Go.Proofs.YtfcilopifjddpaaGreatDoor
open Go.RowKit
def Sl2 (w:World) (v:Value) (a b c d a' b' c' d':BitVec 64):Prop:=∃ g,v=.slice (some ⟨g,0,none⟩) 2 2∧w.heap[g]? = some (.cells #[.int .u64 (Oc.U a),.int .u64 (Oc.U b),.int .u64 (Oc.U c),.int .u64 (Oc.U d),.int .u64 (Oc.U a'),.int .u64 (Oc.U b'),.int .u64 (Oc.U c'),.int .u64 (Oc.U d')] 25)
theorem Sl2.below {w w':World} {v:Value} {a b c d a' b' c' d':BitVec 64} (h:Sl2 w v a b c d a' b' c' d') (hb:Below w.heap.size w w'):Sl2 w' v a b c d a' b' c' d':=by
 obtain ⟨g,e,hg⟩:=h;exact ⟨g,e,keep_blk hb hg⟩
def two {T:Type} (x y:T) (i:Nat):T:=if i=0 then x else y
theorem join2_any {w:World} {v:Value} {a b c d a' b' c' d':BitVec 64} (h:Sl2 w v a b c d a' b' c' d'):Calls Tryz.prog 181 #[v] w fun e w'=>e=.returned (.agg #[.int .u64 (Oc.U (a ||| a')),.int .u64 (Oc.U (b ||| b')),.int .u64 (Oc.U (c ||| c')),.int .u64 (Oc.U (d ||| d'))])∧Below w.heap.size w w':=by
 obtain ⟨g,rfl,hg⟩:=h
 refine (join_any (some ⟨g,0,none⟩) 2 2 (two a a') (two b b') (two c c') (two d d') (by omega) w ?_).mono ?_
 · intro i hi
   refine ⟨g,0,rfl,(Array.getElem?_eq_some_iff.1 hg).1, ?_⟩
   rcases (show i=0 ∨ i=1 by omega) with rfl | rfl <;> simp [World.cell?,hg,two]
 · rintro e w' ⟨rfl,hb⟩
   exact ⟨by simp [Oc.orAll,two],hb⟩
theorem meet2_any {w:World} {v:Value} {a b c d a' b' c' d':BitVec 64} (h:Sl2 w v a b c d a' b' c' d'):Calls Tryz.prog 174 #[v] w fun e w'=>e=.returned (.agg #[.int .u64 (Oc.U (a &&& a')),.int .u64 (Oc.U (b &&& b')),.int .u64 (Oc.U (c &&& c')),.int .u64 (Oc.U (d &&& d'))])∧Below w.heap.size w w':=by
 obtain ⟨g,rfl,hg⟩:=h
 refine (meet_any (some ⟨g,0,none⟩) 2 2 (two a a') (two b b') (two c c') (two d d') (by omega) w ?_).mono ?_
 · intro i hi
   refine ⟨g,0,rfl,(Array.getElem?_eq_some_iff.1 hg).1, ?_⟩
   rcases (show i=0 ∨ i=1 by omega) with rfl | rfl <;> simp [World.cell?,hg,two]
 · rintro e w' ⟨rfl,hb⟩
   have key:∀ x y:BitVec 64,18446744073709551615#64 &&& x &&& y=x &&& y:=fun x y=>by rw [show (18446744073709551615#64)=BitVec.allOnes 64 from rfl,BitVec.allOnes_and]
   exact ⟨by simp [Oc.andAll,two,key],hb⟩
theorem Tryz.infoSetA:(Tryz.prog.info? 25).map (fun i=>(i.zero,i.size,i.bytes))=some (some (.agg #[.int .u64 0,.int .u64 0,.int .u64 0,.int .u64 0]),4,32):=by kernel_rfl
theorem wp_pair {o:Oper} {x:Act} {w:World} {K:Act→World→Prop} {Q:Exit→Act→World→Prop} (s t:Operand) {a b c d a' b' c' d':BitVec 64} (ho:o.op=.buildSlice 206 2 #[(0,s),(1,t)])
   (hs:x.eval s=(.agg #[.int .u64 (Oc.U a),.int .u64 (Oc.U b),.int .u64 (Oc.U c),.int .u64 (Oc.U d)])) (ht:x.eval t=(.agg #[.int .u64 (Oc.U a'),.int .u64 (Oc.U b'),.int .u64 (Oc.U c'),.int .u64 (Oc.U d')]))
   (h:K (x.put o.dst (.slice (some ⟨w.heap.size,0,none⟩) 2 2)) (w.alloc (.cells #[.int .u64 (Oc.U a),.int .u64 (Oc.U b),.int .u64 (Oc.U c),.int .u64 (Oc.U d),.int .u64 (Oc.U a'),.int .u64 (Oc.U b'),.int .u64 (Oc.U c'),.int .u64 (Oc.U d')] 25))):o.wp Tryz.prog x w K Q:=by
 obtain ⟨ie,hi,hz0,hz1,-⟩:=info_parts Tryz.infoSetA
 refine wp_buildSlice 206 25 2 _ ho _ ie _ Tryz.underlying206 hi hz0 (by rw [hz1];decide) (by rw [hz1];decide) ?_ h
 rw [hz1]
 simp only [List.map_toArray,List.map_cons,List.map_nil,hs,ht]
 kernel_rfl
end Go.Proofs.YtfcilopifjddpaaGreatDoor
namespace Go.Proofs.YtfcilopifjddpaaGreatDoor
open Go.RowKit
namespace Ri
def up {T:Type} (f:Nat→T) (i:Nat) (x:T):Nat→T:=fun j=>if j=i then x else f j
theorem up_same {T:Type} (f:Nat→T) (i:Nat) (x:T):up f i x i=x:=by simp [up]
theorem up_other {T:Type} (f:Nat→T) (i:Nat) (x:T) (j:Nat) (h:j ≠ i):up f i x j=f j:=by simp [up,h]
def backward (ops:Array Oper):Bool:=(List.range ops.size).all fun i=>((ops[i]?).map fun o=>o.after.all fun e=>!Region.binds .any e || decide (e.on < i)).getD true
variable {P:Program} {ops:Array Oper} {Q:Exit→Act→World→Prop}
theorem all_listed (hb:backward ops=true) {listed:Array Bool} (hr:Region.ready .any ops listed=[]) (hs:listed.size=ops.size):∀ i,i < ops.size→listed.getD i false=true:=by
 intro i
 induction i using Nat.strongRecOn with
 | _ i ih =>
   intro hi
   cases hl:listed.getD i false with
   | true=>rfl
   | false =>
     exfalso
     have hmem:i ∈ Region.ready .any ops listed:=by
       unfold Region.ready
       refine List.mem_filter.2 ⟨List.mem_range.2 hi, ?_⟩
       have h1:listed.getD i true=false:=by
         have:i < listed.size:=by omega
         simp only [Array.getD,this,dif_pos] at hl ⊢
         exact hl
       have ho:ops[i]? = some ops[i]:=Array.getElem?_eq_getElem hi
       rw [h1,ho]
       simp only [Bool.not_false,Bool.true_and,Option.map_some,Option.getD_some]
       rw [Array.all_eq_true_iff_forall_mem]
       intro e he
       cases hbi:Region.binds .any e with
       | false=>rfl
       | true =>
         have hlt:e.on < i:=by
           have h2:=List.all_eq_true.1 hb i (List.mem_range.2 hi)
           rw [ho] at h2
           simp only [Option.map_some,Option.getD_some] at h2
           have h3:=(Array.all_eq_true_iff_forall_mem.1 h2) e he
           rw [hbi] at h3
           simpa using h3
         simp [ih e.on hlt (by omega)]
     rw [hr] at hmem
     cases hmem
theorem wpAny_inv (hb:backward ops=true) (I:(Nat→Bool)→(Nat→Value)→World→Prop) (A:(Nat→Bool)→(Nat→Value)→Act)
   (step:∀ i,i < ops.size→∀ L v w,I L v w→L i=false→(∀ o,ops[i]? = some o→∀ e ∈ o.after,Region.binds .any e=true→L e.on=true) →
     wpOp P ops Q i (fun a' w'=>∃ u,a'=A (up L i true) (up v i u)∧I (up L i true) (up v i u) w') (A L v) w)
   (fin:∀ L v w,(∀ i,i < ops.size→L i=true)→I L v w→Q .normal (A L v) w) :
   ∀ (fuel:Nat) (U:List Nat) (listed:Array Bool) (v:Nat→Value) (w:World),listed.size=ops.size→U.length ≤ fuel→(∀ i,i < ops.size→listed.getD i false=false→i ∈ U) →
     I (fun i=>listed.getD i false) v w→wpAny P .any ops Q fuel listed (A (fun i=>listed.getD i false) v) w:=by
 intro fuel
 induction fuel with
 | zero =>
   intro U listed v w hs hU hin hI
   have hnil:U=[]:=List.eq_nil_of_length_eq_zero (by omega)
   subst hnil
   have hall:∀ i,i < ops.size→listed.getD i false=true:=fun i hi=>by
     cases h:listed.getD i false with
     | true=>rfl
     | false=>exact absurd (hin i hi h) (by simp)
   refine ⟨?_,fin _ v w hall hI⟩
   unfold Region.ready
   rw [List.filter_eq_nil_iff]
   intro i hi
   have hi':=List.mem_range.1 hi
   have h1:listed.getD i true=true:=by
     have h0:=hall i hi'
     have:i < listed.size:=by omega
     simp only [Array.getD,this,dif_pos] at h0 ⊢
     exact h0
   simp [h1]
 | succ fuel ih =>
   intro U listed v w hs hU hin hI
   refine ⟨fun hr=>fin _ v w (all_listed hb hr hs) hI,fun i hi=>?_⟩
   unfold Region.ready at hi
   obtain ⟨hir,hcond⟩:=List.mem_filter.1 hi
   have hin':=List.mem_range.1 hir
   have ho:ops[i]? = some ops[i]:=Array.getElem?_eq_getElem hin'
   rw [ho] at hcond
   simp only [Bool.and_eq_true,Option.map_some,Option.getD_some] at hcond
   obtain ⟨hl,hafter⟩:=hcond
   have hlf:listed.getD i false=false:=by
     have:i < listed.size:=by omega
     simp only [Array.getD,this,dif_pos] at hl ⊢
     simpa using hl
   have hst:=step i hin' (fun j=>listed.getD j false) v w hI hlf (fun o hoo e he hbi=>by
     rw [ho] at hoo;cases hoo
     have h3:=(Array.all_eq_true_iff_forall_mem.1 hafter) e he
     rw [hbi] at h3
     simpa using h3)
   refine wpOp_mono (fun a' w' h=>?_) hst
   obtain ⟨u,rfl,hI'⟩:=h
   have hup:(fun j=>(listed.setIfInBounds i true).getD j false)=up (fun j=>listed.getD j false) i true:=by
     funext j
     unfold up
     by_cases e:j=i
     · subst e
       have:j < (listed.setIfInBounds j true).size:=by simp;omega
       simp [Array.getD];omega
     · rw [if_neg e]
       simp only [Array.getD,Array.size_setIfInBounds]
       split
       · rename_i h;exact Array.getElem_setIfInBounds_ne h (Ne.symm e)
       · rfl
   have hmemU:i ∈ U:=hin i hin' hlf
   have:=ih (U.erase i) (listed.setIfInBounds i true) (up v i u) w' (by simpa using hs) (by rw [List.length_erase_of_mem hmemU];have:=List.length_pos_of_mem hmemU;omega)
     (fun j hj hjl=>by
       have hj2:(up (fun j=>listed.getD j false) i true) j=false:=by rw [← hup];exact hjl
       by_cases e:j=i
       · subst e;rw [up_same] at hj2;cases hj2
       · rw [up_other _ _ _ _ e] at hj2
         exact (List.mem_erase_of_ne e).2 (hin j hj hj2))
     (by rw [hup];exact hI')
   rw [hup] at this
   exact this
theorem wp_region_inv {id:Nat} {a:Act} {w:World} (hm:P.follows .mixedOrders=true) (hb:backward ops=true) (I:(Nat→Bool)→(Nat→Value)→World→Prop) (A:(Nat→Bool)→(Nat→Value)→Act)
   (ha:a=A (fun _=>false) (fun _=>undef)) (hi:I (fun _=>false) (fun _=>undef) w.drew)
   (step:∀ i,i < ops.size→∀ L v w,I L v w→L i=false→(∀ o,ops[i]? = some o→∀ e ∈ o.after,Region.binds .any e=true→L e.on=true) →
     wpOp P ops Q i (fun a' w'=>∃ u,a'=A (up L i true) (up v i u)∧I (up L i true) (up v i u) w') (A L v) w)
   (fin:∀ L v w,(∀ i,i < ops.size→L i=true)→I L v w→Q .normal (A L v) w) :
   (Code.region id ops true).wp P Q a w:=by
 refine wp_region_any hm ?_
 have hz:(fun i=>(Array.replicate ops.size false).getD i false)=fun _=>false:=by
   funext i;simp only [Array.getD,Array.size_replicate];split <;> simp
 have:=wpAny_inv (P:=P) hb I A step fin ops.size (List.range ops.size) (Array.replicate ops.size false) (fun _=>undef) w.drew (by simp) (by simp) (fun i hi _=>List.mem_range.2 hi) (by rw [hz];exact hi)
 rw [hz,← ha] at this
 exact this
def frame (ops:Array Oper) (a:Act) (L:Nat→Bool) (v:Nat→Value):Act :=
 { a with tmps:=ops.toList.zipIdx.foldl (fun t p=>match p.1.dst with | some d=>if L p.2 then t.setIfInBounds d (v p.2) else t | none=>t) a.tmps }
def apart (ops:Array Oper):Bool:=(ops.toList.filterMap (·.dst)).eraseDups.length == (ops.toList.filterMap (·.dst)).length && ops.toList.zipIdx.all fun p=>ops.toList.zipIdx.all fun q=>p.2 == q.2 || p.1.dst == none || p.1.dst != q.1.dst
theorem fold_size (L:Nat→Bool) (v:Nat→Value):∀ (l:List (Oper × Nat)) (t:Array Value),
   (l.foldl (fun t p=>match p.1.dst with | some d=>if L p.2 then t.setIfInBounds d (v p.2) else t | none=>t) t).size=t.size:=by
 intro l
 induction l with
 | nil=>intro t;rfl
 | cons p l ih =>
   intro t
   rw [List.foldl_cons,ih]
   split
   · split <;> simp
   · rfl
theorem fold_other (L:Nat→Bool) (v:Nat→Value) (s:Nat):∀ (l:List (Oper × Nat)) (t:Array Value),(∀ p ∈ l,p.1.dst ≠ some s) →
   (l.foldl (fun t p=>match p.1.dst with | some d=>if L p.2 then t.setIfInBounds d (v p.2) else t | none=>t) t)[s]? = t[s]?:=by
 intro l
 induction l with
 | nil=>intro t _;rfl
 | cons p l ih =>
   intro t h
   rw [List.foldl_cons,ih _ (fun q hq=>h q (List.mem_cons_of_mem _ hq))]
   have hp:=h p (List.mem_cons_self ..)
   split
   · rename_i d hd
     split
     · rw [Array.getElem?_setIfInBounds_ne];intro e;subst e;exact hp hd
     · rfl
   · rfl
theorem fold_own (L:Nat→Bool) (v:Nat→Value) (s:Nat) (i:Nat):∀ (l:List (Oper × Nat)) (t:Array Value),s < t.size→(∃ p ∈ l,p.1.dst=some s∧p.2=i)→(∀ p ∈ l,p.1.dst=some s→p.2=i) →
   (l.foldl (fun t p=>match p.1.dst with | some d=>if L p.2 then t.setIfInBounds d (v p.2) else t | none=>t) t)[s]? = if L i then some (v i) else t[s]?:=by
 intro l
 induction l with
 | nil=>rintro t _ ⟨p,hp,_⟩ _;cases hp
 | cons p l ih =>
   intro t hs hex hun
   rw [List.foldl_cons]
   by_cases hp:p.1.dst=some s
   · have hi:=hun p (List.mem_cons_self ..) hp
     rw [hp,hi]
     simp only []
     by_cases hl:∃ q ∈ l,q.1.dst=some s∧q.2=i
     · rw [ih _ (by split <;> simpa using hs) hl (fun q hq=>hun q (List.mem_cons_of_mem _ hq))]
       cases L i <;> simp
     · rw [fold_other L v s l _ (fun q hq e=>hl ⟨q,hq,e,hun q (List.mem_cons_of_mem _ hq) e⟩)]
       cases L i <;> simp [hs]
   · obtain ⟨q,hq,hqd,hqi⟩:=hex
     rcases List.mem_cons.1 hq with rfl | hq
     · exact absurd hqd hp
     · have hne:∀ d,p.1.dst=some d→d ≠ s:=fun d hd e=>hp (by rw [hd,e])
       rw [ih _ (by split <;> (try split) <;> simpa using hs) ⟨q,hq,hqd,hqi⟩ (fun q hq=>hun q (List.mem_cons_of_mem _ hq))]
       congr 1
       split
       · rename_i d hd
         split
         · rw [Array.getElem?_setIfInBounds_ne (hne d hd)]
         · rfl
       · rfl
theorem mem_zip {ops:Array Oper} {p:Oper × Nat} (h:p ∈ ops.toList.zipIdx):ops[p.2]? = some p.1:=by
 obtain ⟨_,_,h3⟩:=List.mem_zipIdx (x:=p.1) (i:=p.2) (k:=0) h
 rw [Array.getElem?_eq_some_iff]
 exact ⟨by rename_i h2;simpa using h2,by rw [h3];simp⟩
theorem zip_mem {ops:Array Oper} {i:Nat} {o:Oper} (h:ops[i]? = some o):(o,i) ∈ ops.toList.zipIdx:=by
 rw [List.mem_zipIdx_iff_getElem?]
 simpa using h
theorem apart_un (hap:apart ops=true) {i j:Nat} {o o':Oper} {d:Nat} (hi:ops[i]? = some o) (hj:ops[j]? = some o') (h1:o.dst=some d) (h2:o'.dst=some d):i=j:=by
 unfold apart at hap
 rw [Bool.and_eq_true] at hap
 have h3:=List.all_eq_true.1 (List.all_eq_true.1 hap.2 _ (zip_mem hi)) _ (zip_mem hj)
 simpa [h1,h2] using h3
theorem frame_size (a:Act) (L:Nat→Bool) (v:Nat→Value):(frame ops a L v).tmps.size=a.tmps.size:=fold_size L v _ _
theorem frame_own (hap:apart ops=true) (a:Act) (L:Nat→Bool) (v:Nat→Value) {i d:Nat} {o:Oper} (ho:ops[i]? = some o) (hd:o.dst=some d) (hs:d < a.tmps.size) :
   (frame ops a L v).tmps[d]? = if L i then some (v i) else a.tmps[d]? :=
 fold_own L v d i _ _ hs ⟨_,zip_mem ho,hd,rfl⟩ (fun _ hp e=>(apart_un hap ho (mem_zip hp) hd e).symm)
theorem frame_other (a:Act) (L:Nat→Bool) (v:Nat→Value) {d:Nat} (h:∀ (i:Nat) (o:Oper),ops[i]? = some o→o.dst ≠ some d):(frame ops a L v).tmps[d]? = a.tmps[d]? :=
 fold_other L v d _ _ (fun p hp=>h p.2 p.1 (mem_zip hp))
theorem frame_put (hap:apart ops=true) (a:Act) (L:Nat→Bool) (v:Nat→Value) {i:Nat} {o:Oper} (ho:ops[i]? = some o) (u:Value) :
   (frame ops a L v).put o.dst u=frame ops a (up L i true) (up v i u):=by
 have key:∀ s:Nat,((frame ops a L v).put o.dst u).tmps[s]? = (frame ops a (up L i true) (up v i u)).tmps[s]?:=by
   intro s
   by_cases hs:s < a.tmps.size
   · by_cases hex:∃ (j:Nat) (o':Oper),ops[j]? = some o'∧o'.dst=some s
     · obtain ⟨j,o',hj,hd⟩:=hex
       rw [frame_own hap a _ _ hj hd hs]
       by_cases e:j=i
       · subst e
         rw [ho] at hj;cases hj
         rw [hd,up_same,up_same]
         simp only [Act.put,if_true]
         rw [Array.getElem?_setIfInBounds_self,if_pos (by rw [frame_size];exact hs)]
       · rw [up_other _ _ _ _ e,up_other _ _ _ _ e,← frame_own hap a L v hj hd hs]
         cases hod:o.dst with
         | none=>rfl
         | some d =>
           simp only [Act.put]
           rw [Array.getElem?_setIfInBounds_ne]
           intro e';subst e';exact e (apart_un hap hj ho hd hod)
     · have hno:∀ (j:Nat) (o':Oper),ops[j]? = some o'→o'.dst ≠ some s:=fun j o' h1 h2=>hex ⟨j,o',h1,h2⟩
       rw [frame_other a _ _ hno,← frame_other a L v hno]
       cases hod:o.dst with
       | none=>rfl
       | some d =>
         simp only [Act.put]
         rw [Array.getElem?_setIfInBounds_ne]
         intro e';subst e';exact hno i o ho hod
   · have h1:(frame ops a (up L i true) (up v i u)).tmps[s]? = none:=Array.getElem?_eq_none (by rw [frame_size];omega)
     have h2:((frame ops a L v).put o.dst u).tmps[s]? = none:=by
       refine Array.getElem?_eq_none ?_
       cases o.dst <;> simp [Act.put,frame_size] <;> omega
     rw [h1,h2]
 have ht:((frame ops a L v).put o.dst u).tmps=(frame ops a (up L i true) (up v i u)).tmps:=Array.ext_getElem? key
 have hd:((frame ops a L v).put o.dst u).defers=(frame ops a (up L i true) (up v i u)).defers:=by cases o.dst <;> rfl
 generalize (frame ops a L v).put o.dst u=x at *
 generalize frame ops a (up L i true) (up v i u)=y at *
 cases x;cases y;simp_all
theorem fold_none (v:Nat→Value):∀ (l:List (Oper × Nat)) (t:Array Value),
   l.foldl (fun t p=>match p.1.dst with | some d=>if (fun _:Nat=>false) p.2 then t.setIfInBounds d (v p.2) else t | none=>t) t=t:=by
 intro l
 induction l with
 | nil=>intro t;rfl
 | cons p l ih=>intro t;rw [List.foldl_cons];cases p.1.dst <;> exact ih t
theorem wp_region_frame {id:Nat} {a:Act} {w:World} (hm:P.follows .mixedOrders=true) (hb:backward ops=true) (hap:apart ops=true) (hsz0:(ops.toList.all fun o=>o.dst.all fun d=>decide (d < a.tmps.size))=true)
   (I:(Nat→Bool)→(Nat→Value)→World→Prop)
   (hi:I (fun _=>false) (fun _=>undef) w.drew)
   (step:∀ i,i < ops.size→∀ L v w (a':Act),I L v w→L i=false→(∀ o,ops[i]? = some o→∀ e ∈ o.after,Region.binds .any e=true→L e.on=true) →
     (∀ j d:Nat,(ops[j]?).bind (·.dst)=some d→L j=true→a'.tmps.getD d undef=v j)→(∀ d,ops.toList.all (fun o=>o.dst != some d)=true→a'.tmps.getD d undef=a.tmps.getD d undef) →
     wpOp P ops Q i (fun b w'=>∃ (o:Oper) (u:Value),ops[i]? = some o∧b=a'.put o.dst u∧I (up L i true) (up v i u) w') a' w)
   (fin:∀ v w,I (fun i=>decide (i < ops.size)) v w→Q .normal (frame ops a (fun _=>true) v) w) :
   (Code.region id ops true).wp P Q a w:=by
 have hsz:∀ (i:Nat) (o:Oper) (d:Nat),ops[i]? = some o→o.dst=some d→d < a.tmps.size:=fun i o d h1 h2=>by
   have:=List.all_eq_true.1 hsz0 o (Array.mem_toList_iff.2 (Array.mem_of_getElem? h1))
   rw [h2] at this
   simpa using this
 refine wp_region_inv hm hb (fun L v w=>I L v w∧∀ i,ops.size ≤ i→L i=false) (frame ops a) ?_ ⟨hi,fun _ _=>rfl⟩ ?_ ?_
 · have:=fold_none (fun _=>undef) ops.toList.zipIdx a.tmps
   unfold frame;rw [show (List.foldl _ a.tmps _)=a.tmps from this]
 · intro i hin L v w ⟨hI,hL⟩ hLi hd
   refine wpOp_mono ?_ (step i hin L v w (frame ops a L v) hI hLi hd ?_ ?_)
   · rintro b w' ⟨o,u,ho,rfl,hI'⟩
     exact ⟨u,frame_put hap a L v ho u,hI',fun j hj=>by rw [up_other _ _ _ _ (by omega)];exact hL j hj⟩
   · intro j d hjd hlj
     obtain ⟨o,ho,hod⟩:=Option.bind_eq_some_iff.1 hjd
     have hs:=hsz j o d ho hod
     have:=frame_own hap a L v ho hod hs
     rw [hlj,if_pos rfl] at this
     rw [Array.getD_eq_getD_getElem?,this];rfl
   · intro d hall
     have hno:∀ (j:Nat) (o:Oper),ops[j]? = some o→o.dst ≠ some d:=fun j o ho=>by
       have:=List.all_eq_true.1 hall o (Array.mem_toList_iff.2 (Array.mem_of_getElem? ho))
       simpa using this
     rw [Array.getD_eq_getD_getElem?,Array.getD_eq_getD_getElem?,frame_other a L v hno]
 · intro L v w hall ⟨hI,hL⟩
   have e:L=fun i=>decide (i < ops.size):=by
     funext i
     by_cases h:i < ops.size
     · rw [hall i h];simp [h]
     · rw [hL i (by omega)];simp [h]
   have e2:frame ops a L v=frame ops a (fun _=>true) v:=by
     have:∀ s:Nat,(frame ops a L v).tmps[s]? = (frame ops a (fun _=>true) v).tmps[s]?:=by
       intro s
       by_cases hex:∃ (j:Nat) (o':Oper),ops[j]? = some o'∧o'.dst=some s
       · obtain ⟨j,o',hj,hd⟩:=hex
         have hs:=hsz j o' s hj hd
         rw [frame_own hap a _ _ hj hd hs,frame_own hap a _ _ hj hd hs,hall j (Array.getElem?_eq_some_iff.1 hj).1]
       · have hno:∀ (j:Nat) (o':Oper),ops[j]? = some o'→o'.dst ≠ some s:=fun j o' h1 h2=>hex ⟨j,o',h1,h2⟩
         rw [frame_other a _ _ hno,frame_other a _ _ hno]
     have ht:=Array.ext_getElem? this
     have hd:(frame ops a L v).defers=(frame ops a (fun _=>true) v).defers:=rfl
     generalize frame ops a L v=x at *
     generalize frame ops a (fun _=>true) v=y at *
     cases x;cases y;simp_all
   rw [e2]
   exact fin v w (e ▸ hI)
theorem step_plain {i:Nat} {o:Oper} {K:Act→World→Prop} {a:Act} {w:World} (ho:ops[i]? = some o) (hg:o.guard=none)
   (h:∀ K':Act→World→Prop,(∀ a w,K a w→K' a w)→Oper.wp P o a w K' Q):wpOp P ops Q i K a w :=
 wpOp_step ho fun K' hK=>by rw [if_pos (by simp [Region.wanted,hg])];exact h K' hK
theorem some_of_getD {t:Array Value} {i:Nat} {b:Bool} (h:t.getD i undef=.bool b):t[i]? = some (.bool b):=by
 rw [Array.getD_eq_getD_getElem?] at h
 cases hx:t[i]? with
 | none=>rw [hx] at h;cases h
 | some v=>rw [hx] at h;exact congrArg some h
theorem step_wanted {i j d:Nat} {b:Bool} {o:Oper} {K:Act→World→Prop} {a:Act} {w:World} (ho:ops[i]? = some o) (hg:o.guard=some (j,b)) (hd:(ops[j]?).bind (·.dst)=some d) (hv:a.tmps.getD d undef=.bool b)
   (h:∀ K':Act→World→Prop,(∀ a w,K a w→K' a w)→Oper.wp P o a w K' Q):wpOp P ops Q i K a w :=
 wpOp_step ho fun K' hK=>by
   rw [if_pos (by simp [Region.wanted,hg,yielded,hd,some_of_getD hv])];exact h K' hK
end Ri
end Go.Proofs.YtfcilopifjddpaaGreatDoor
namespace Go.Proofs.YtfcilopifjddpaaGreatDoor
open Go.RowKit
theorem wp_call {P:Program} {o:Oper} {x:Act} {w:World} {K:Act→World→Prop} {Q:Exit→Act→World→Prop} (f:Nat) (args:Array Operand) (ts:Array TypeId) (vals:Array Value) (R:Value→World→Prop)
   (ho:o.op=.call { callee:=.value (.func f),args:=args,argTypes:=ts }) (hv:args.map x.eval=vals) (hx:(callFunc f vals).run P w=.ok (.enter f vals) w)
   (hc:Calls P f vals w fun e w'=>∃ v,e=.returned v∧R v w') (h:∀ v w',R v w'→K (x.put o.dst v) w'):o.wp P x w K Q:=by
 have hc':Calls P f vals w fun
   | .returned v,w''=>K (x.put o.dst v) w''
   | .panicked chain,w''=>Q (.panic chain) x w''
   | .outgrown,_=>LetsOut Q:=hc.mono (by rintro e w' ⟨v,rfl,hr⟩;exact h v w' hr)
 have hr:(execOp x.eval o).run P w=.ok (.enter f vals) w:=by
   unfold execOp
   simp only [ho,resolve,hv,Act.eval,Deferred.ofValue,Sem.run_bind,Sem.run_pure,Result.andThen_ok,invoke]
   simpa using hx
 unfold Oper.wp
 rw [hr,Oper.upon_enter]
 exact hc'
theorem edge_on {o:Oper} {L:Nat→Bool} {j:Nat} (h:∀ e ∈ o.after,Region.binds .any e=true→L e.on=true) (hj:(o.after.any fun e=>Region.binds .any e && e.on == j)=true):L j=true:=by
 obtain ⟨e,he,hb⟩:=Array.any_eq_true'.1 hj
 rw [Bool.and_eq_true,beq_iff_eq] at hb
 exact hb.2 ▸ h e he hb.1
def JoinInv (B g r:Nat) (x:Obj) (w0 W:World) (a b c d a' b' c' d' e0 e1 e2 e3:BitVec 64) (L:Nat→Bool) (v:Nat→Value) (w':World):Prop :=
 Below B w0 w'∧W.heap.size ≤ w'.heap.size∧w'.heap[r]? = some x ∧
 w'.heap[g]? = some (.cells (if L 4 then #[.int .u64 (Oc.U e0),.int .u64 (Oc.U e1),.int .u64 (Oc.U e2),.int .u64 (Oc.U e3)] else #[.int .u64 (Oc.U a),.int .u64 (Oc.U b),.int .u64 (Oc.U c),.int .u64 (Oc.U d)]) 25) ∧
 (L 4=true→L 0=true)∧(L 4=true→L 3=true)∧(L 0=true→v 0=(.agg #[.int .u64 (Oc.U a),.int .u64 (Oc.U b),.int .u64 (Oc.U c),.int .u64 (Oc.U d)]))∧(L 1=true→v 1=(.agg #[.int .u64 (Oc.U a'),.int .u64 (Oc.U b'),.int .u64 (Oc.U c'),.int .u64 (Oc.U d')]))∧(L 4=false→L 2=true→Sl2 w' (v 2) a b c d a' b' c' d')∧(L 3=true→v 3=(.agg #[.int .u64 (Oc.U e0),.int .u64 (Oc.U e1),.int .u64 (Oc.U e2),.int .u64 (Oc.U e3)]))
theorem join_reg {id:Nat} {act:Act} {W:World} {Q:Exit→Act→World→Prop} (B g r:Nat) (x:Obj) (w0:World) (a b c d a' b' c' d' e0 e1 e2 e3:BitVec 64)
   (f s d0 d1 d2 d3:Nat) (fargs:Array Operand) (vals:Array Value) (fts:Array TypeId) (ty0 ty1 ty2 ty3 ty4:TypeId) (p0 p1 p2 p3 p4:String) (af0 af1 af2 af3 af4:Array Edge) (ops:Array Oper)
   (hops:ops=#[⟨some d0,.load 25 (.tmp s),ty0,p0,af0,none⟩,⟨some d1,.call { callee:=.value (.func f),args:=fargs,argTypes:=fts },ty1,p1,af1,none⟩,⟨some d2,.buildSlice 206 2 #[(0,.tmp d0),(1,.tmp d1)],ty2,p2,af2,none⟩,
     ⟨some d3,.call { callee:=.value (.func 181),args:=#[.tmp d2],argTypes:=#[206] },ty3,p3,af3,none⟩,⟨none,.store 25 (.tmp s) (.tmp d3),ty4,p4,af4,none⟩])
   (hb:Ri.backward ops=true) (hap:Ri.apart ops=true) (hsz0:(ops.toList.all fun o=>o.dst.all fun d=>decide (d < act.tmps.size))=true) (hs:ops.toList.all (fun o=>o.dst != some s)=true)
   (k2:(af2.any fun e=>Region.binds .any e && e.on == 0)=true) (k2':(af2.any fun e=>Region.binds .any e && e.on == 1)=true) (k3:(af3.any fun e=>Region.binds .any e && e.on == 2)=true)
   (k4:(af4.any fun e=>Region.binds .any e && e.on == 3)=true) (k4':(af4.any fun e=>Region.binds .any e && e.on == 0)=true)
   (hslot:act.tmps.getD s undef=.pointer (some ⟨g,0,none⟩)) (hv:∀ y:Act,fargs.map y.eval=vals) (hx:∀ w,(callFunc f vals).run Tryz.prog w=.ok (.enter f vals) w)
   (hf:∀ w,Calls Tryz.prog f vals w fun e w'=>e=.returned (.agg #[.int .u64 (Oc.U a'),.int .u64 (Oc.U b'),.int .u64 (Oc.U c'),.int .u64 (Oc.U d')])∧Below w.heap.size w w')
   (he0:e0=a ||| a') (he1:e1=b ||| b') (he2:e2=c ||| c') (he3:e3=d ||| d')
   (hB:Below B w0 W) (hBg:B ≤ g) (hrg:r ≠ g) (hr:W.heap[r]? = some x) (hg:W.heap[g]? = some (.cells #[.int .u64 (Oc.U a),.int .u64 (Oc.U b),.int .u64 (Oc.U c),.int .u64 (Oc.U d)] 25))
   (fin:∀ v w',Below B w0 w'→W.heap.size ≤ w'.heap.size→w'.heap[r]? = some x→w'.heap[g]? = some (.cells #[.int .u64 (Oc.U e0),.int .u64 (Oc.U e1),.int .u64 (Oc.U e2),.int .u64 (Oc.U e3)] 25)→Q .normal (Ri.frame ops act (fun _=>true) v) w') :
   (Code.region id ops true).wp Tryz.prog Q act W:=by
 subst hops
 refine Ri.wp_region_frame (by kernel_rfl) hb hap hsz0 (JoinInv B g r x w0 W a b c d a' b' c' d' e0 e1 e2 e3) ?_ ?_ ?_
 · exact ⟨hB.drew,Nat.le_refl _,hr,hg,by simp,by simp,by simp,by simp,by simp,by simp⟩
 · intro i hi L v w1 y hI hL hd hvv ho
   have hi':i=0 ∨ i=1 ∨ i=2 ∨ i=3 ∨ i=4:=by simp at hi;omega
   obtain ⟨q0,q1,q2,q3,q4,q4',q5,q6,q7,q8⟩:=hI
   have es:y.tmps.getD s undef=.pointer (some ⟨g,0,none⟩):=(ho s hs).trans hslot
   rcases hi' with rfl | rfl | rfl | rfl | rfl
   · have hl4:L 4=false:=by cases h:L 4 with | false=>rfl | true=>rw [q4 h] at hL;cases hL
     refine Ri.step_plain rfl rfl (fun K' hK=>?_)
     rw [hl4] at q3
     refine wp_load_row _ _ rfl g es _ _ _ _ q3 Tryz.underlying25 rfl (by kernel_rfl) ?_
     refine hK _ _ ⟨_,_,rfl,rfl,q0,q1,q2, ?_,fun h=>rfl,q4',fun _=>rfl,q6,q7,q8⟩
     show _=some (Obj.cells (if L 4=true then _ else _) _)
     rw [hl4];exact q3
   · refine Ri.step_plain rfl rfl (fun K' hK=>?_)
     refine wp_call f fargs fts vals (fun v' w'=>v'=(.agg #[.int .u64 (Oc.U a'),.int .u64 (Oc.U b'),.int .u64 (Oc.U c'),.int .u64 (Oc.U d')])∧Below w1.heap.size w1 w') rfl (hv y) (hx _) ((hf w1).mono fun _ _ h=>⟨_,h.1,rfl,h.2⟩) ?_
     rintro _ w2 ⟨rfl,hb2⟩
     exact hK _ _ ⟨_,_,rfl,rfl,q0.trans (hb2.mono (by have:=(Array.getElem?_eq_some_iff.1 q3).1;omega)),Nat.le_trans q1 hb2.size,keep_blk hb2 q2,keep_blk hb2 q3,q4,q4',q5,fun _=>rfl,fun h h'=>(q7 h h').below hb2,q8⟩
   · have l0:L 0=true:=edge_on (hd _ rfl) k2
     have l1:L 1=true:=edge_on (hd _ rfl) k2'
     have f0:=(hvv 0 d0 rfl l0).trans (q5 l0)
     have f1:=(hvv 1 d1 rfl l1).trans (q6 l1)
     refine Ri.step_plain rfl rfl (fun K' hK=>?_)
     refine wp_pair (.tmp d0) (.tmp d1) rfl f0 f1 ?_
     exact hK _ _ ⟨_,_,rfl,rfl,q0.alloc (by have:=(Array.getElem?_eq_some_iff.1 q3).1;omega) _,by simp;omega,heap_alloc_lt q2,heap_alloc_lt q3,q4,q4',q5,q6,fun _ _=>⟨_,rfl,heap_alloc_new _ _⟩,q8⟩
   · have l2:L 2=true:=edge_on (hd _ rfl) k3
     have l4:L 4=false:=by cases h:L 4 with | false=>rfl | true=>rw [q4' h] at hL;cases hL
     have hsl:=q7 l4 l2
     have f2:=(hvv 2 d2 rfl l2)
     refine Ri.step_plain rfl rfl (fun K' hK=>?_)
     refine wp_call 181 #[.tmp d2] #[206] #[v 2] (fun v' w'=>v'=(.agg #[.int .u64 (Oc.U e0),.int .u64 (Oc.U e1),.int .u64 (Oc.U e2),.int .u64 (Oc.U e3)])∧Below w1.heap.size w1 w') rfl (by simp only [List.map_toArray,List.map_cons,List.map_nil];rw [show y.eval (.tmp d2)=v 2 from f2]) (by kernel_rfl) ((join2_any hsl).mono fun _ _ h=>⟨_,h.1,by rw [he0,he1,he2,he3],h.2⟩) ?_
     rintro _ w2 ⟨rfl,hb2⟩
     refine hK _ _ ⟨_,_,rfl,rfl,q0.trans (hb2.mono (by have:=(Array.getElem?_eq_some_iff.1 q3).1;omega)),Nat.le_trans q1 hb2.size,keep_blk hb2 q2,keep_blk hb2 q3,q4,fun _=>rfl,q5,q6,fun h h'=>(q7 h h').below hb2,fun _=>rfl⟩
   · have l3:L 3=true:=edge_on (hd _ rfl) k4
     have l0:L 0=true:=edge_on (hd _ rfl) k4'
     have f3:=(hvv 3 d3 rfl l3).trans (q8 l3)
     refine Ri.step_plain rfl rfl (fun K' hK=>?_)
     refine wp_store_row _ (.tmp s) (.tmp d3) rfl g #[.int .u64 (Oc.U e0),.int .u64 (Oc.U e1),.int .u64 (Oc.U e2),.int .u64 (Oc.U e3)] es f3 25 _ q3 (by kernel_rfl) (by split <;> rfl) (by simp [Value.oneCell']) ?_
     exact hK _ _ ⟨_,undef,rfl,rfl,below_setRow q0 hBg _,by simpa using q1,(heap_setRow_other _ _ _ hrg).trans q2,heap_setRow q3,fun _=>l0,fun _=>l3,q5,q6,(fun h=>by cases h),q8⟩
 · rintro v w1 ⟨q0,q1,q2,q3,-⟩
   exact fin v w1 q0 q1 q2 q3
theorem Tryz.infoByte:(Tryz.prog.info? 5).map (fun i=>(i.zero,i.size,i.bytes))=some (some (.int .u8 0),1,1):=by kernel_rfl
theorem wp_bytes2 {o:Oper} {x:Act} {w:World} {K:Act→World→Prop} {Q:Exit→Act→World→Prop} (m n:Int) (ho:o.op=.buildSlice 74 2 #[(0,.const (.int .u8 m)),(1,.const (.int .u8 n))])
   (h:K (x.put o.dst (.slice (some ⟨w.heap.size,0,none⟩) 2 2)) (w.alloc (.cells #[.int .u8 m,.int .u8 n] 5))):o.wp Tryz.prog x w K Q:=by
 obtain ⟨ie,hi,hz0,hz1,-⟩:=info_parts Tryz.infoByte
 refine wp_buildSlice 74 5 2 _ ho _ ie _ Tryz.underlying74 hi hz0 (by rw [hz1];decide) (by rw [hz1];decide) ?_ h
 rw [hz1]
 simp only [List.map_toArray,List.map_cons,List.map_nil,Act.eval]
 kernel_rfl
def BytesAt2 (w:World) (v:Value) (m n:Int):Prop:=∃ g,v=.slice (some ⟨g,0,none⟩) 2 2∧w.heap[g]? = some (.cells #[.int .u8 m,.int .u8 n] 5)
theorem BytesAt2.below {w w':World} {v:Value} {m n:Int} (h:BytesAt2 w v m n) (hb:Below w.heap.size w w'):BytesAt2 w' v m n:=by
 obtain ⟨g,e,hg⟩:=h;exact ⟨g,e,keep_blk hb hg⟩
def JoinInv6 (B g r:Nat) (x:Obj) (w0 W:World) (m n:Int) (a b c d a' b' c' d' e0 e1 e2 e3:BitVec 64) (L:Nat→Bool) (v:Nat→Value) (w':World):Prop :=
 Below B w0 w'∧W.heap.size ≤ w'.heap.size∧w'.heap[r]? = some x ∧
 w'.heap[g]? = some (.cells (if L 5 then #[.int .u64 (Oc.U e0),.int .u64 (Oc.U e1),.int .u64 (Oc.U e2),.int .u64 (Oc.U e3)] else #[.int .u64 (Oc.U a),.int .u64 (Oc.U b),.int .u64 (Oc.U c),.int .u64 (Oc.U d)]) 25) ∧
 (L 5=true→L 0=true)∧(L 5=true→L 4=true)∧(L 5=true→L 2=true)∧(L 0=true→v 0=(.agg #[.int .u64 (Oc.U a),.int .u64 (Oc.U b),.int .u64 (Oc.U c),.int .u64 (Oc.U d)]))∧(L 5=false→L 1=true→BytesAt2 w' (v 1) m n)∧(L 2=true→v 2=(.agg #[.int .u64 (Oc.U a'),.int .u64 (Oc.U b'),.int .u64 (Oc.U c'),.int .u64 (Oc.U d')]))∧(L 5=false→L 3=true→Sl2 w' (v 3) a b c d a' b' c' d')∧(L 4=true→v 4=(.agg #[.int .u64 (Oc.U e0),.int .u64 (Oc.U e1),.int .u64 (Oc.U e2),.int .u64 (Oc.U e3)]))
theorem join_reg6 {id:Nat} {act:Act} {W:World} {Q:Exit→Act→World→Prop} (B g r:Nat) (x:Obj) (w0:World) (m n:Int) (a b c d a' b' c' d' e0 e1 e2 e3:BitVec 64)
   (s d0 d1 d2 d3 d4:Nat) (ty0 ty1 ty2 ty3 ty4 ty5:TypeId) (p0 p1 p2 p3 p4 p5:String) (af0 af1 af2 af3 af4 af5:Array Edge) (ops:Array Oper)
   (hops:ops=#[⟨some d0,.load 25 (.tmp s),ty0,p0,af0,none⟩,⟨some d1,.buildSlice 74 2 #[(0,.const (.int .u8 m)),(1,.const (.int .u8 n))],ty1,p1,af1,none⟩,
     ⟨some d2,.call { callee:=.value (.func 114),args:=#[.tmp d1],argTypes:=#[74] },ty2,p2,af2,none⟩,⟨some d3,.buildSlice 206 2 #[(0,.tmp d0),(1,.tmp d2)],ty3,p3,af3,none⟩,
     ⟨some d4,.call { callee:=.value (.func 181),args:=#[.tmp d3],argTypes:=#[206] },ty4,p4,af4,none⟩,⟨none,.store 25 (.tmp s) (.tmp d4),ty5,p5,af5,none⟩])
   (hb:Ri.backward ops=true) (hap:Ri.apart ops=true) (hsz0:(ops.toList.all fun o=>o.dst.all fun d=>decide (d < act.tmps.size))=true) (hs:ops.toList.all (fun o=>o.dst != some s)=true)
   (k2:(af2.any fun e=>Region.binds .any e && e.on == 1)=true) (k3:(af3.any fun e=>Region.binds .any e && e.on == 0)=true) (k3':(af3.any fun e=>Region.binds .any e && e.on == 2)=true)
   (k4:(af4.any fun e=>Region.binds .any e && e.on == 3)=true) (k5:(af5.any fun e=>Region.binds .any e && e.on == 4)=true) (k5':(af5.any fun e=>Region.binds .any e && e.on == 0)=true) (k5'':(af5.any fun e=>Region.binds .any e && e.on == 2)=true)
   (hslot:act.tmps.getD s undef=.pointer (some ⟨g,0,none⟩))
   (hf:∀ w v,BytesAt2 w v m n→Calls Tryz.prog 114 #[v] w fun e w'=>e=.returned (.agg #[.int .u64 (Oc.U a'),.int .u64 (Oc.U b'),.int .u64 (Oc.U c'),.int .u64 (Oc.U d')])∧Below w.heap.size w w')
   (he0:e0=a ||| a') (he1:e1=b ||| b') (he2:e2=c ||| c') (he3:e3=d ||| d')
   (hB:Below B w0 W) (hBg:B ≤ g) (hrg:r ≠ g) (hr:W.heap[r]? = some x) (hg:W.heap[g]? = some (.cells #[.int .u64 (Oc.U a),.int .u64 (Oc.U b),.int .u64 (Oc.U c),.int .u64 (Oc.U d)] 25))
   (fin:∀ v w',Below B w0 w'→W.heap.size ≤ w'.heap.size→w'.heap[r]? = some x→w'.heap[g]? = some (.cells #[.int .u64 (Oc.U e0),.int .u64 (Oc.U e1),.int .u64 (Oc.U e2),.int .u64 (Oc.U e3)] 25)→Q .normal (Ri.frame ops act (fun _=>true) v) w') :
   (Code.region id ops true).wp Tryz.prog Q act W:=by
 subst hops
 refine Ri.wp_region_frame (by kernel_rfl) hb hap hsz0 (JoinInv6 B g r x w0 W m n a b c d a' b' c' d' e0 e1 e2 e3) ?_ ?_ ?_
 · exact ⟨hB.drew,Nat.le_refl _,hr,hg,by simp,by simp,by simp,by simp,by simp,by simp,by simp,by simp⟩
 · intro i hi L v w1 y hI hL hd hvv ho
   have hi':i=0 ∨ i=1 ∨ i=2 ∨ i=3 ∨ i=4 ∨ i=5:=by simp at hi;omega
   obtain ⟨q0,q1,q2,q3,q4,q4',q4'',q5,qb,q6,q7,q8⟩:=hI
   have es:y.tmps.getD s undef=.pointer (some ⟨g,0,none⟩):=(ho s hs).trans hslot
   have hgw:g < w1.heap.size:=(Array.getElem?_eq_some_iff.1 q3).1
   rcases hi' with rfl | rfl | rfl | rfl | rfl | rfl
   · have hl4:L 5=false:=by cases h:L 5 with | false=>rfl | true=>rw [q4 h] at hL;cases hL
     refine Ri.step_plain rfl rfl (fun K' hK=>?_)
     rw [hl4] at q3
     refine wp_load_row _ _ rfl g es _ _ _ _ q3 Tryz.underlying25 rfl (by kernel_rfl) ?_
     refine hK _ _ ⟨_,_,rfl,rfl,q0,q1,q2, ?_,fun h=>rfl,q4',q4'',fun _=>rfl,qb,q6,q7,q8⟩
     show _=some (Obj.cells (if L 5=true then _ else _) _)
     rw [hl4];exact q3
   · refine Ri.step_plain rfl rfl (fun K' hK=>?_)
     refine wp_bytes2 m n rfl ?_
     exact hK _ _ ⟨_,_,rfl,rfl,q0.alloc (by omega) _,by simp;omega,heap_alloc_lt q2,heap_alloc_lt q3,q4,q4',q4'',q5,fun _ _=>⟨_,rfl,heap_alloc_new _ _⟩,q6,fun h h'=>(q7 h h').below ((Below.refl _ _).alloc (Nat.le_refl _) _),q8⟩
   · have l1:L 1=true:=edge_on (hd _ rfl) k2
     have l5:L 5=false:=by cases h:L 5 with | false=>rfl | true=>rw [q4'' h] at hL;cases hL
     have f1:=(hvv 1 d1 rfl l1)
     refine Ri.step_plain rfl rfl (fun K' hK=>?_)
     refine wp_call 114 #[.tmp d1] #[74] #[v 1] (fun v' w'=>v'=(.agg #[.int .u64 (Oc.U a'),.int .u64 (Oc.U b'),.int .u64 (Oc.U c'),.int .u64 (Oc.U d')])∧Below w1.heap.size w1 w') rfl (by simp only [List.map_toArray,List.map_cons,List.map_nil];rw [show y.eval (.tmp d1)=v 1 from f1]) (by kernel_rfl) ((hf w1 (v 1) (qb l5 l1)).mono fun _ _ h=>⟨_,h.1,rfl,h.2⟩) ?_
     rintro _ w2 ⟨rfl,hb2⟩
     exact hK _ _ ⟨_,_,rfl,rfl,q0.trans (hb2.mono (by omega)),Nat.le_trans q1 hb2.size,keep_blk hb2 q2,keep_blk hb2 q3,q4,q4',fun _=>rfl,q5,fun h h'=>(qb h h').below hb2,fun _=>rfl,fun h h'=>(q7 h h').below hb2,q8⟩
   · have l0:L 0=true:=edge_on (hd _ rfl) k3
     have l2:L 2=true:=edge_on (hd _ rfl) k3'
     have f0:=(hvv 0 d0 rfl l0).trans (q5 l0)
     have f1:=(hvv 2 d2 rfl l2).trans (q6 l2)
     refine Ri.step_plain rfl rfl (fun K' hK=>?_)
     refine wp_pair (.tmp d0) (.tmp d2) rfl f0 f1 ?_
     exact hK _ _ ⟨_,_,rfl,rfl,q0.alloc (by omega) _,by simp;omega,heap_alloc_lt q2,heap_alloc_lt q3,q4,q4',q4'',q5,fun h h'=>(qb h h').below ((Below.refl _ _).alloc (Nat.le_refl _) _),q6,fun _ _=>⟨_,rfl,heap_alloc_new _ _⟩,q8⟩
   · have l3:L 3=true:=edge_on (hd _ rfl) k4
     have l5:L 5=false:=by cases h:L 5 with | false=>rfl | true=>rw [q4' h] at hL;cases hL
     have hsl:=q7 l5 l3
     have f2:=(hvv 3 d3 rfl l3)
     refine Ri.step_plain rfl rfl (fun K' hK=>?_)
     refine wp_call 181 #[.tmp d3] #[206] #[v 3] (fun v' w'=>v'=(.agg #[.int .u64 (Oc.U e0),.int .u64 (Oc.U e1),.int .u64 (Oc.U e2),.int .u64 (Oc.U e3)])∧Below w1.heap.size w1 w') rfl (by simp only [List.map_toArray,List.map_cons,List.map_nil];rw [show y.eval (.tmp d3)=v 3 from f2]) (by kernel_rfl) ((join2_any hsl).mono fun _ _ h=>⟨_,h.1,by rw [he0,he1,he2,he3],h.2⟩) ?_
     rintro _ w2 ⟨rfl,hb2⟩
     exact hK _ _ ⟨_,_,rfl,rfl,q0.trans (hb2.mono (by omega)),Nat.le_trans q1 hb2.size,keep_blk hb2 q2,keep_blk hb2 q3,q4,fun _=>rfl,q4'',q5,fun h h'=>(qb h h').below hb2,q6,fun h h'=>(q7 h h').below hb2,fun _=>rfl⟩
   · have l3:L 4=true:=edge_on (hd _ rfl) k5
     have l0:L 0=true:=edge_on (hd _ rfl) k5'
     have l2:L 2=true:=edge_on (hd _ rfl) k5''
     have f3:=(hvv 4 d4 rfl l3).trans (q8 l3)
     refine Ri.step_plain rfl rfl (fun K' hK=>?_)
     refine wp_store_row _ (.tmp s) (.tmp d4) rfl g #[.int .u64 (Oc.U e0),.int .u64 (Oc.U e1),.int .u64 (Oc.U e2),.int .u64 (Oc.U e3)] es f3 25 _ q3 (by kernel_rfl) (by split <;> rfl) (by simp [Value.oneCell']) ?_
     exact hK _ _ ⟨_,undef,rfl,rfl,below_setRow q0 hBg _,by simpa using q1,(heap_setRow_other _ _ _ hrg).trans q2,heap_setRow q3,fun _=>l0,fun _=>l3,fun _=>l2,q5,(fun h=>by cases h),q6,(fun h=>by cases h),q8⟩
 · rintro v w1 ⟨q0,q1,q2,q3,-⟩
   exact fin v w1 q0 q1 q2 q3
theorem wp_block_hid {P:Program} {id:Nat} {c:Code} {Q:Exit→Act→World→Prop} {a:Act} {w:World} (h:∀ Q':Exit→Act→World→Prop,(∀ e a w,Exit.inBlock id Q e a w→Q' e a w)→c.wp P Q' a w):(Code.block id c).wp P Q a w:=by
 apply wp_block
 exact h _ (fun _ _ _ h=>h)
end Go.Proofs.YtfcilopifjddpaaGreatDoor
namespace Go.Proofs.YtfcilopifjddpaaGreatDoor
open Go.RowKit
theorem range_at (lo hi:Nat) (l h:Int) (hl:l=(lo:Int)) (hh:h=(hi:Int)) (h1:lo < 256) (h2:hi < 256) (w:World) :
   Calls Tryz.prog 217 #[.int .u8 l,.int .u8 h] w fun e w'=>e=.returned (.agg #[.int .u64 (Oc.U (Cl.rg lo hi 0)),.int .u64 (Oc.U (Cl.rg lo hi 1)),.int .u64 (Oc.U (Cl.rg lo hi 2)),.int .u64 (Oc.U (Cl.rg lo hi 3))])∧Below w.heap.size w w':=by
 subst hl hh
 have e:∀ q,Oc.mk (upto lo (hi+1)) q=Cl.rg lo hi q:=fun q=>Oc.mk_eq fun i hi'=>by
   unfold Cl.rg;rw [Oc.mk_bit _ _ _ hi'];unfold upto
   congr 1
   rw [decide_eq_decide];omega
 have:=range_any lo hi h1 h2 w
 rw [e,e,e,e] at this
 exact this
def oneOf (x:Nat):Nat→Nat:=fun _=>x
def twoOf (x y:Nat):Nat→Nat:=fun i=>if i=0 then x else y
theorem of_one (x:Nat) (hx:x < 256) (v:Int) (hv:v=(x:Int)) (w:World) (g:Nat) (hg:w.heap.size=g) (t:TypeId) (u0 u1 u2 u3:BitVec 64) (h0:Oc.mk (Oc.anyB (oneOf x) 1) 0=u0) (h1:Oc.mk (Oc.anyB (oneOf x) 1) 1=u1) (h2:Oc.mk (Oc.anyB (oneOf x) 1) 2=u2) (h3:Oc.mk (Oc.anyB (oneOf x) 1) 3=u3) :
   Calls Tryz.prog 114 #[.slice (some ⟨g,0,none⟩) 1 1] (w.alloc (.cells #[.int .u8 v] t))
     fun e w'=>e=.returned (.agg #[.int .u64 (Oc.U u0),.int .u64 (Oc.U u1),.int .u64 (Oc.U u2),.int .u64 (Oc.U u3)])∧Below (w.heap.size+1) (w.alloc (.cells #[.int .u8 v] t)) w':=by
 subst hv hg
 refine (of_any (some ⟨w.heap.size,0,none⟩) 1 1 (oneOf x) (by omega) _ (fun i _=>hx) ?_).mono ?_
 · intro i hi
   obtain rfl:i=0:=by omega
   refine ⟨w.heap.size,0,rfl,by simp, ?_⟩
   rw [cell_new];rfl
 · rintro e w' ⟨rfl,hb⟩
   exact ⟨by rw [h0,h1,h2,h3],by simpa using hb⟩
theorem join4_new (a b c d a1 b1 c1 d1 a2 b2 c2 d2 a3 b3 c3 d3 e0 e1 e2 e3:BitVec 64) (t:TypeId) (w:World) (he0:a ||| a1 ||| a2 ||| a3=e0) (he1:b ||| b1 ||| b2 ||| b3=e1) (he2:c ||| c1 ||| c2 ||| c3=e2) (he3:d ||| d1 ||| d2 ||| d3=e3) :
   Calls Tryz.prog 181 #[.slice (some ⟨w.heap.size,0,none⟩) 4 4]
     (w.alloc (.cells #[.int .u64 (Oc.U a),.int .u64 (Oc.U b),.int .u64 (Oc.U c),.int .u64 (Oc.U d),.int .u64 (Oc.U a1),.int .u64 (Oc.U b1),.int .u64 (Oc.U c1),.int .u64 (Oc.U d1),.int .u64 (Oc.U a2),.int .u64 (Oc.U b2),.int .u64 (Oc.U c2),.int .u64 (Oc.U d2),.int .u64 (Oc.U a3),.int .u64 (Oc.U b3),.int .u64 (Oc.U c3),.int .u64 (Oc.U d3)] t))
     fun e w'=>e=.returned (.agg #[.int .u64 (Oc.U e0),.int .u64 (Oc.U e1),.int .u64 (Oc.U e2),.int .u64 (Oc.U e3)])∧Below (w.heap.size+1) (w.alloc (.cells #[.int .u64 (Oc.U a),.int .u64 (Oc.U b),.int .u64 (Oc.U c),.int .u64 (Oc.U d),.int .u64 (Oc.U a1),.int .u64 (Oc.U b1),.int .u64 (Oc.U c1),.int .u64 (Oc.U d1),.int .u64 (Oc.U a2),.int .u64 (Oc.U b2),.int .u64 (Oc.U c2),.int .u64 (Oc.U d2),.int .u64 (Oc.U a3),.int .u64 (Oc.U b3),.int .u64 (Oc.U c3),.int .u64 (Oc.U d3)] t)) w':=by
 refine (join_any _ 4 4 (fun i=>if i=0 then a else if i=1 then a1 else if i=2 then a2 else a3) (fun i=>if i=0 then b else if i=1 then b1 else if i=2 then b2 else b3) (fun i=>if i=0 then c else if i=1 then c1 else if i=2 then c2 else c3) (fun i=>if i=0 then d else if i=1 then d1 else if i=2 then d2 else d3) (by omega) _ ?_).mono ?_
 · intro i hi
   refine ⟨w.heap.size,0,rfl,by simp, ?_⟩
   rcases (show i=0 ∨ i=1 ∨ i=2 ∨ i=3 by omega) with rfl | rfl | rfl | rfl <;> simp only [cell_new] <;> exact ⟨rfl,rfl,rfl,rfl⟩
 · rintro e w' ⟨rfl,hb⟩
   refine ⟨?_,by simpa using hb⟩
   rw [← he0,← he1,← he2,← he3]
   simp [Oc.orAll]
theorem join2_new (a b c d a1 b1 c1 d1 e0 e1 e2 e3:BitVec 64) (w:World) (he0:a ||| a1=e0) (he1:b ||| b1=e1) (he2:c ||| c1=e2) (he3:d ||| d1=e3) :
   Calls Tryz.prog 181 #[.slice (some ⟨w.heap.size,0,none⟩) 2 2]
     (w.alloc (.cells #[.int .u64 (Oc.U a),.int .u64 (Oc.U b),.int .u64 (Oc.U c),.int .u64 (Oc.U d),.int .u64 (Oc.U a1),.int .u64 (Oc.U b1),.int .u64 (Oc.U c1),.int .u64 (Oc.U d1)] 25))
     fun e w'=>e=.returned (.agg #[.int .u64 (Oc.U e0),.int .u64 (Oc.U e1),.int .u64 (Oc.U e2),.int .u64 (Oc.U e3)])∧Below (w.heap.size+1) (w.alloc (.cells #[.int .u64 (Oc.U a),.int .u64 (Oc.U b),.int .u64 (Oc.U c),.int .u64 (Oc.U d),.int .u64 (Oc.U a1),.int .u64 (Oc.U b1),.int .u64 (Oc.U c1),.int .u64 (Oc.U d1)] 25)) w':=by
 refine (join2_any ⟨_,rfl,heap_alloc_new w _⟩).mono ?_
 rintro e w' ⟨rfl,hb⟩
 exact ⟨by rw [he0,he1,he2,he3],by simpa using hb⟩
theorem marks_any (w:World):Calls Tryz.prog 216 #[] w fun e w'=>e=.returned (.agg #[.int .u64 (Oc.U (Cl.cw 8 0)),.int .u64 (Oc.U (Cl.cw 8 1)),.int .u64 (Oc.U (Cl.cw 8 2)),.int .u64 (Oc.U (Cl.cw 8 3))])∧Below w.heap.size w w':=by
 go_enter Tryz.func216,Tryz.ntmps216
 go_wp2_with fail
 refine (range_at 33 47 _ _ rfl rfl (by omega) (by omega) _).mono ?_
 rintro e w1 ⟨rfl,hb1⟩
 have h1:=((Below.refl w.heap.size w).alloc (Nat.le_refl _) _).trans (hb1.mono (by simp))
 have z1:=keep_blk hb1 (heap_alloc_new _ _)
 have H1:=Lib.hid z1;clear z1 hb1
 go_wp2_with fail
 refine (range_at 58 64 _ _ rfl rfl (by omega) (by omega) _).mono ?_
 rintro e w2 ⟨rfl,hb2⟩
 have h2:=h1.trans (hb2.mono h1.size)
 have H2:=Lib.hid (keep_blk hb2 H1.out);clear hb2 H1
 go_wp2_with fail
 refine (range_at 91 96 _ _ rfl rfl (by omega) (by omega) _).mono ?_
 rintro e w3 ⟨rfl,hb3⟩
 have h3:=h2.trans (hb3.mono h2.size)
 have H3:=Lib.hid (keep_blk hb3 H2.out);clear hb3 H2
 go_wp2_with fail
 refine (range_at 123 126 _ _ rfl rfl (by omega) (by omega) _).mono ?_
 rintro e w4 ⟨rfl,hb4⟩
 have h4:=h3.trans (hb4.mono h3.size)
 have H4:=Lib.hid (keep_blk hb4 H3.out);clear hb4 H3
 go_wp2_with fail
 refine (join4_new _ _ _ _ _ _ _ _ _ _ _ _ _ _ _ _ (Cl.cw 8 0) (Cl.cw 8 1) (Cl.cw 8 2) (Cl.cw 8 3) _ _ (by decide +kernel) (by decide +kernel) (by decide +kernel) (by decide +kernel)).mono ?_
 rintro e w5 ⟨rfl,hb5⟩
 have h5:=(h4.alloc h4.size _).trans (hb5.mono (by have:=h4.size;omega))
 have z5:=keep_new hb5 H4.out
 obtain ⟨d0,e0,d1,e1,d2,e2,d3,e3,r0,r1,r2,r3⟩:=four_st z5
 clear z5 hb5 H4
 go_wp2
 refine bodyPost_ret (v:=(.agg #[.int .u64 (Oc.U (Cl.cw 8 0)),.int .u64 (Oc.U (Cl.cw 8 1)),.int .u64 (Oc.U (Cl.cw 8 2)),.int .u64 (Oc.U (Cl.cw 8 3))])) (by simp [results,Tryz.results216,go_sem,r0,r1,r2,r3]) rfl ⟨rfl, ?_⟩
 go_grown
end Go.Proofs.YtfcilopifjddpaaGreatDoor
namespace Go.Proofs.YtfcilopifjddpaaGreatDoor
open Go.RowKit
theorem of_two_at (w:World) (v:Value) (h:BytesAt2 w v 9 32):Calls Tryz.prog 114 #[v] w fun e w'=>e=.returned (.agg #[.int .u64 (Oc.U (Cl.cw 2 0)),.int .u64 (Oc.U (Cl.cw 2 1)),.int .u64 (Oc.U (Cl.cw 2 2)),.int .u64 (Oc.U (Cl.cw 2 3))])∧Below w.heap.size w w':=by
 obtain ⟨g,rfl,hg⟩:=h
 refine (of_any (some ⟨g,0,none⟩) 2 2 (twoOf 9 32) (by omega) _ (fun i _=>by unfold twoOf;split <;> omega) ?_).mono ?_
 · intro i hi
   refine ⟨g,0,rfl,(Array.getElem?_eq_some_iff.1 hg).1, ?_⟩
   rcases (show i=0 ∨ i=1 by omega) with rfl | rfl <;> (simp [World.cell?,hg];rfl)
 · rintro e w' ⟨rfl,hb⟩
   refine ⟨?_,hb⟩
   rw [show Oc.mk (Oc.anyB (twoOf 9 32) 2) 0=Cl.cw 2 0 by decide +kernel,show Oc.mk (Oc.anyB (twoOf 9 32) 2) 1=Cl.cw 2 1 by decide +kernel,show Oc.mk (Oc.anyB (twoOf 9 32) 2) 2=Cl.cw 2 2 by decide +kernel,show Oc.mk (Oc.anyB (twoOf 9 32) 2) 3=Cl.cw 2 3 by decide +kernel]
theorem lower_w0:Cl.rg 97 122 0=Cl.cw 6 0:=by decide +kernel
theorem lower_w1:Cl.rg 97 122 1=Cl.cw 6 1:=by decide +kernel
theorem lower_w2:Cl.rg 97 122 2=Cl.cw 6 2:=by decide +kernel
theorem lower_w3:Cl.rg 97 122 3=Cl.cw 6 3:=by decide +kernel
theorem named_0 (w:World):Calls Tryz.prog 204 #[.string ⟨#[97,108,110,117,109]⟩] w fun e w'=>e=.returned (.tuple #[(.agg #[.int .u64 (Oc.U (Cl.cw 0 0)),.int .u64 (Oc.U (Cl.cw 0 1)),.int .u64 (Oc.U (Cl.cw 0 2)),.int .u64 (Oc.U (Cl.cw 0 3))]),.nilIface])∧Below w.heap.size w w':=by
 go_enter Tryz.func204,Tryz.ntmps204
 go_upto_block 0 with (fail)
 refine wp_block_hid (fun _ _=>?_)
 iterate 13 (go_step;refine wp_block_hid (fun _ _=>?_))
 go_wp2_with fail
 have hb0:Below w.heap.size w ((w.alloc (.cells #[.int .u64 0,.int .u64 0,.int .u64 0,.int .u64 0] 25)).alloc (.cells #[.int .u64 0,.int .u64 0,.int .u64 0,.int .u64 0] 25)):=by go_grown
 obtain ⟨za0,zb0⟩:=two_new w (.cells #[.int .u64 0,.int .u64 0,.int .u64 0,.int .u64 0] 25) (.cells #[.int .u64 0,.int .u64 0,.int .u64 0,.int .u64 0] 25)
 refine join_reg w.heap.size (w.heap.size+1) w.heap.size (.cells #[.int .u64 0,.int .u64 0,.int .u64 0,.int .u64 0] 25) w 0#64 0#64 0#64 0#64 (Cl.rg 48 57 0) (Cl.rg 48 57 1) (Cl.rg 48 57 2) (Cl.rg 48 57 3) (Cl.cw 4 0) (Cl.cw 4 1) (Cl.cw 4 2) (Cl.cw 4 3)
   _ _ _ _ _ _ _ #[.int .u8 48,.int .u8 57] _ _ _ _ _ _ _ _ _ _ _ _ _ _ _ _ _ rfl (by kernel_rfl) (by kernel_rfl) (by kernel_rfl) (by kernel_rfl) (by kernel_rfl) (by kernel_rfl) (by kernel_rfl) (by kernel_rfl) (by kernel_rfl)
   rfl (fun _=>by simp [Act.eval]) (fun _=>by kernel_rfl) (fun w=>range_at 48 57 _ _ rfl rfl (by omega) (by omega) w) (by decide +kernel) (by decide +kernel) (by decide +kernel) (by decide +kernel) hb0 (by omega) (by omega) za0 zb0 ?_
 clear hb0 za0 zb0
 intro v1 w1 hb1 _ za1 zb1
 simp only [Ri.frame,List.zipIdx,List.foldl_cons,List.foldl_nil,if_true,List.setIfInBounds_toArray,List.set_cons_zero,List.set_cons_succ]
 generalize v1 0=y1_0
 generalize v1 (0+1)=y1_1
 generalize v1 (0+1+1)=y1_2
 generalize v1 (0+1+1+1)=y1_3
 clear v1
 have HB:=Lib.hid hb1;have ZA:=Lib.hid za1;have ZB:=Lib.hid zb1;clear hb1 za1 zb1
 go_wp2_with fail
 have hb1:=HB.out;have za1:=ZA.out;have zb1:=ZB.out;clear HB ZA ZB
 refine join_reg w.heap.size (w.heap.size+1) w.heap.size (.cells #[.int .u64 0,.int .u64 0,.int .u64 0,.int .u64 0] 25) w (Cl.cw 4 0) (Cl.cw 4 1) (Cl.cw 4 2) (Cl.cw 4 3) (Cl.rg 97 122 0) (Cl.rg 97 122 1) (Cl.rg 97 122 2) (Cl.rg 97 122 3) (Cl.pw 6 0) (Cl.pw 6 1) (Cl.pw 6 2) (Cl.pw 6 3)
   _ _ _ _ _ _ _ #[.int .u8 97,.int .u8 122] _ _ _ _ _ _ _ _ _ _ _ _ _ _ _ _ _ rfl (by kernel_rfl) (by kernel_rfl) (by kernel_rfl) (by kernel_rfl) (by kernel_rfl) (by kernel_rfl) (by kernel_rfl) (by kernel_rfl) (by kernel_rfl)
   rfl (fun _=>by simp [Act.eval]) (fun _=>by kernel_rfl) (fun w=>range_at 97 122 _ _ rfl rfl (by omega) (by omega) w) (by decide +kernel) (by decide +kernel) (by decide +kernel) (by decide +kernel) hb1 (by omega) (by omega) za1 zb1 ?_
 clear hb1 za1 zb1
 intro v2 w2 hb2 _ za2 zb2
 simp only [Ri.frame,List.zipIdx,List.foldl_cons,List.foldl_nil,if_true,List.setIfInBounds_toArray,List.set_cons_zero,List.set_cons_succ]
 generalize v2 0=y2_0
 generalize v2 (0+1)=y2_1
 generalize v2 (0+1+1)=y2_2
 generalize v2 (0+1+1+1)=y2_3
 clear v2
 have HB:=Lib.hid hb2;have ZA:=Lib.hid za2;have ZB:=Lib.hid zb2;clear hb2 za2 zb2
 go_wp2_with fail
 have hb2:=HB.out;have za2:=ZA.out;have zb2:=ZB.out;clear HB ZA ZB
 refine join_reg w.heap.size (w.heap.size+1) w.heap.size (.cells #[.int .u64 0,.int .u64 0,.int .u64 0,.int .u64 0] 25) w (Cl.pw 6 0) (Cl.pw 6 1) (Cl.pw 6 2) (Cl.pw 6 3) (Cl.rg 65 90 0) (Cl.rg 65 90 1) (Cl.rg 65 90 2) (Cl.rg 65 90 3) (Cl.cw 0 0) (Cl.cw 0 1) (Cl.cw 0 2) (Cl.cw 0 3)
   _ _ _ _ _ _ _ #[.int .u8 65,.int .u8 90] _ _ _ _ _ _ _ _ _ _ _ _ _ _ _ _ _ rfl (by kernel_rfl) (by kernel_rfl) (by kernel_rfl) (by kernel_rfl) (by kernel_rfl) (by kernel_rfl) (by kernel_rfl) (by kernel_rfl) (by kernel_rfl)
   rfl (fun _=>by simp [Act.eval]) (fun _=>by kernel_rfl) (fun w=>range_at 65 90 _ _ rfl rfl (by omega) (by omega) w) (by decide +kernel) (by decide +kernel) (by decide +kernel) (by decide +kernel) hb2 (by omega) (by omega) za2 zb2 ?_
 clear hb2 za2 zb2
 intro v3 w3 hb3 _ za3 zb3
 simp only [Ri.frame,List.zipIdx,List.foldl_cons,List.foldl_nil,if_true,List.setIfInBounds_toArray,List.set_cons_zero,List.set_cons_succ]
 generalize v3 0=y3_0
 generalize v3 (0+1)=y3_1
 generalize v3 (0+1+1)=y3_2
 generalize v3 (0+1+1+1)=y3_3
 clear v3
 obtain ⟨c0,c1,c2,c3,-⟩:=four zb3
 obtain ⟨d0,e0,d1,e1,d2,e2,d3,e3,r0,r1,r2,r3⟩:=four_st za3
 have HB:=Lib.hid hb3
 clear hb3 za3 zb3
 go_wp2
 have hb:=HB.out
 refine bodyPost_ret (v:=.tuple #[(.agg #[.int .u64 (Oc.U (Cl.cw 0 0)),.int .u64 (Oc.U (Cl.cw 0 1)),.int .u64 (Oc.U (Cl.cw 0 2)),.int .u64 (Oc.U (Cl.cw 0 3))]),.nilIface]) (by simp [results,Tryz.results204,go_sem,r0,r1,r2,r3]) rfl ⟨rfl, ?_⟩
 go_grown
theorem named_1 (w:World):Calls Tryz.prog 204 #[.string ⟨#[97,108,112,104,97]⟩] w fun e w'=>e=.returned (.tuple #[(.agg #[.int .u64 (Oc.U (Cl.cw 1 0)),.int .u64 (Oc.U (Cl.cw 1 1)),.int .u64 (Oc.U (Cl.cw 1 2)),.int .u64 (Oc.U (Cl.cw 1 3))]),.nilIface])∧Below w.heap.size w w':=by
 go_enter Tryz.func204,Tryz.ntmps204
 go_upto_block 0 with (fail)
 refine wp_block_hid (fun _ _=>?_)
 iterate 13 (go_step;refine wp_block_hid (fun _ _=>?_))
 go_wp2_with fail
 have hb0:Below w.heap.size w ((w.alloc (.cells #[.int .u64 0,.int .u64 0,.int .u64 0,.int .u64 0] 25)).alloc (.cells #[.int .u64 0,.int .u64 0,.int .u64 0,.int .u64 0] 25)):=by go_grown
 obtain ⟨za0,zb0⟩:=two_new w (.cells #[.int .u64 0,.int .u64 0,.int .u64 0,.int .u64 0] 25) (.cells #[.int .u64 0,.int .u64 0,.int .u64 0,.int .u64 0] 25)
 refine join_reg w.heap.size (w.heap.size+1) w.heap.size (.cells #[.int .u64 0,.int .u64 0,.int .u64 0,.int .u64 0] 25) w 0#64 0#64 0#64 0#64 (Cl.rg 97 122 0) (Cl.rg 97 122 1) (Cl.rg 97 122 2) (Cl.rg 97 122 3) (Cl.cw 6 0) (Cl.cw 6 1) (Cl.cw 6 2) (Cl.cw 6 3)
   _ _ _ _ _ _ _ #[.int .u8 97,.int .u8 122] _ _ _ _ _ _ _ _ _ _ _ _ _ _ _ _ _ rfl (by kernel_rfl) (by kernel_rfl) (by kernel_rfl) (by kernel_rfl) (by kernel_rfl) (by kernel_rfl) (by kernel_rfl) (by kernel_rfl) (by kernel_rfl)
   rfl (fun _=>by simp [Act.eval]) (fun _=>by kernel_rfl) (fun w=>range_at 97 122 _ _ rfl rfl (by omega) (by omega) w) (by decide +kernel) (by decide +kernel) (by decide +kernel) (by decide +kernel) hb0 (by omega) (by omega) za0 zb0 ?_
 clear hb0 za0 zb0
 intro v1 w1 hb1 _ za1 zb1
 simp only [Ri.frame,List.zipIdx,List.foldl_cons,List.foldl_nil,if_true,List.setIfInBounds_toArray,List.set_cons_zero,List.set_cons_succ]
 generalize v1 0=y1_0
 generalize v1 (0+1)=y1_1
 generalize v1 (0+1+1)=y1_2
 generalize v1 (0+1+1+1)=y1_3
 clear v1
 have HB:=Lib.hid hb1;have ZA:=Lib.hid za1;have ZB:=Lib.hid zb1;clear hb1 za1 zb1
 go_wp2_with fail
 have hb1:=HB.out;have za1:=ZA.out;have zb1:=ZB.out;clear HB ZA ZB
 refine join_reg w.heap.size (w.heap.size+1) w.heap.size (.cells #[.int .u64 0,.int .u64 0,.int .u64 0,.int .u64 0] 25) w (Cl.cw 6 0) (Cl.cw 6 1) (Cl.cw 6 2) (Cl.cw 6 3) (Cl.rg 65 90 0) (Cl.rg 65 90 1) (Cl.rg 65 90 2) (Cl.rg 65 90 3) (Cl.cw 1 0) (Cl.cw 1 1) (Cl.cw 1 2) (Cl.cw 1 3)
   _ _ _ _ _ _ _ #[.int .u8 65,.int .u8 90] _ _ _ _ _ _ _ _ _ _ _ _ _ _ _ _ _ rfl (by kernel_rfl) (by kernel_rfl) (by kernel_rfl) (by kernel_rfl) (by kernel_rfl) (by kernel_rfl) (by kernel_rfl) (by kernel_rfl) (by kernel_rfl)
   rfl (fun _=>by simp [Act.eval]) (fun _=>by kernel_rfl) (fun w=>range_at 65 90 _ _ rfl rfl (by omega) (by omega) w) (by decide +kernel) (by decide +kernel) (by decide +kernel) (by decide +kernel) hb1 (by omega) (by omega) za1 zb1 ?_
 clear hb1 za1 zb1
 intro v2 w2 hb2 _ za2 zb2
 simp only [Ri.frame,List.zipIdx,List.foldl_cons,List.foldl_nil,if_true,List.setIfInBounds_toArray,List.set_cons_zero,List.set_cons_succ]
 generalize v2 0=y2_0
 generalize v2 (0+1)=y2_1
 generalize v2 (0+1+1)=y2_2
 generalize v2 (0+1+1+1)=y2_3
 clear v2
 obtain ⟨c0,c1,c2,c3,-⟩:=four zb2
 obtain ⟨d0,e0,d1,e1,d2,e2,d3,e3,r0,r1,r2,r3⟩:=four_st za2
 have HB:=Lib.hid hb2
 clear hb2 za2 zb2
 go_wp2
 have hb:=HB.out
 refine bodyPost_ret (v:=.tuple #[(.agg #[.int .u64 (Oc.U (Cl.cw 1 0)),.int .u64 (Oc.U (Cl.cw 1 1)),.int .u64 (Oc.U (Cl.cw 1 2)),.int .u64 (Oc.U (Cl.cw 1 3))]),.nilIface]) (by simp [results,Tryz.results204,go_sem,r0,r1,r2,r3]) rfl ⟨rfl, ?_⟩
 go_grown
theorem named_2 (w:World):Calls Tryz.prog 204 #[.string ⟨#[98,108,97,110,107]⟩] w fun e w'=>e=.returned (.tuple #[(.agg #[.int .u64 (Oc.U (Cl.cw 2 0)),.int .u64 (Oc.U (Cl.cw 2 1)),.int .u64 (Oc.U (Cl.cw 2 2)),.int .u64 (Oc.U (Cl.cw 2 3))]),.nilIface])∧Below w.heap.size w w':=by
 go_enter Tryz.func204,Tryz.ntmps204
 go_upto_block 0 with (fail)
 refine wp_block_hid (fun _ _=>?_)
 iterate 13 (go_step;refine wp_block_hid (fun _ _=>?_))
 go_wp2_with fail
 have hb0:Below w.heap.size w ((w.alloc (.cells #[.int .u64 0,.int .u64 0,.int .u64 0,.int .u64 0] 25)).alloc (.cells #[.int .u64 0,.int .u64 0,.int .u64 0,.int .u64 0] 25)):=by go_grown
 obtain ⟨za0,zb0⟩:=two_new w (.cells #[.int .u64 0,.int .u64 0,.int .u64 0,.int .u64 0] 25) (.cells #[.int .u64 0,.int .u64 0,.int .u64 0,.int .u64 0] 25)
 refine join_reg6 w.heap.size (w.heap.size+1) w.heap.size (.cells #[.int .u64 0,.int .u64 0,.int .u64 0,.int .u64 0] 25) w 9 32 0#64 0#64 0#64 0#64 (Cl.cw 2 0) (Cl.cw 2 1) (Cl.cw 2 2) (Cl.cw 2 3) (Cl.cw 2 0) (Cl.cw 2 1) (Cl.cw 2 2) (Cl.cw 2 3)
   _ _ _ _ _ _ _ _ _ _ _ _ _ _ _ _ _ _ _ _ _ _ _ _ _ rfl (by kernel_rfl) (by kernel_rfl) (by kernel_rfl) (by kernel_rfl) (by kernel_rfl) (by kernel_rfl) (by kernel_rfl) (by kernel_rfl) (by kernel_rfl) (by kernel_rfl) (by kernel_rfl)
   rfl of_two_at (by decide +kernel) (by decide +kernel) (by decide +kernel) (by decide +kernel) hb0 (by omega) (by omega) za0 zb0 ?_
 clear hb0 za0 zb0
 intro v1 w1 hb1 _ za1 zb1
 simp only [Ri.frame,List.zipIdx,List.foldl_cons,List.foldl_nil,if_true,List.setIfInBounds_toArray,List.set_cons_zero,List.set_cons_succ]
 generalize v1 0=y1_0
 generalize v1 (0+1)=y1_1
 generalize v1 (0+1+1)=y1_2
 generalize v1 (0+1+1+1)=y1_3
 generalize v1 (0+1+1+1+1)=y1_4
 clear v1
 obtain ⟨c0,c1,c2,c3,-⟩:=four zb1
 obtain ⟨d0,e0,d1,e1,d2,e2,d3,e3,r0,r1,r2,r3⟩:=four_st za1
 have HB:=Lib.hid hb1
 clear hb1 za1 zb1
 go_wp2
 have hb:=HB.out
 refine bodyPost_ret (v:=.tuple #[(.agg #[.int .u64 (Oc.U (Cl.cw 2 0)),.int .u64 (Oc.U (Cl.cw 2 1)),.int .u64 (Oc.U (Cl.cw 2 2)),.int .u64 (Oc.U (Cl.cw 2 3))]),.nilIface]) (by simp [results,Tryz.results204,go_sem,r0,r1,r2,r3]) rfl ⟨rfl, ?_⟩
 go_grown
theorem named_3 (w:World):Calls Tryz.prog 204 #[.string ⟨#[99,110,116,114,108]⟩] w fun e w'=>e=.returned (.tuple #[(.agg #[.int .u64 (Oc.U (Cl.cw 3 0)),.int .u64 (Oc.U (Cl.cw 3 1)),.int .u64 (Oc.U (Cl.cw 3 2)),.int .u64 (Oc.U (Cl.cw 3 3))]),.nilIface])∧Below w.heap.size w w':=by
 go_enter Tryz.func204,Tryz.ntmps204
 go_upto_block 0 with (fail)
 refine wp_block_hid (fun _ _=>?_)
 iterate 13 (go_step;refine wp_block_hid (fun _ _=>?_))
 go_wp2_with fail
 have hb0:Below w.heap.size w ((w.alloc (.cells #[.int .u64 0,.int .u64 0,.int .u64 0,.int .u64 0] 25)).alloc (.cells #[.int .u64 0,.int .u64 0,.int .u64 0,.int .u64 0] 25)):=by go_grown
 obtain ⟨za0,zb0⟩:=two_new w (.cells #[.int .u64 0,.int .u64 0,.int .u64 0,.int .u64 0] 25) (.cells #[.int .u64 0,.int .u64 0,.int .u64 0,.int .u64 0] 25)
 have HB:=Lib.hid hb0;have ZA:=Lib.hid za0;have ZB:=Lib.hid zb0;clear hb0 za0 zb0
 refine (range_at 0 31 _ _ rfl rfl (by omega) (by omega) _).mono ?_
 rintro e w1 ⟨rfl,hc⟩
 have hb1:=HB.out.trans (hc.mono HB.out.size);have za1:=keep_blk hc ZA.out;have zb1:=keep_blk hc ZB.out;clear hc HB ZA ZB
 have HB:=Lib.hid hb1;have ZA:=Lib.hid za1;have ZB:=Lib.hid zb1;clear hb1 za1 zb1
 go_wp2_with fail
 have hb1:=HB.out;have za1:=ZA.out;have zb1:=ZB.out;clear HB ZA ZB
 have HB:=Lib.hid hb1;have ZA:=Lib.hid za1;have ZB:=Lib.hid zb1;clear hb1 za1 zb1
 refine (of_one 127 (by omega) _ rfl _ _ rfl _ (Cl.pw 9 0) (Cl.pw 9 1) (Cl.pw 9 2) (Cl.pw 9 3) (by decide +kernel) (by decide +kernel) (by decide +kernel) (by decide +kernel)).mono ?_
 rintro e w2 ⟨rfl,hc⟩
 have hb2:=(HB.out.alloc HB.out.size _).trans (hc.mono (by have:=HB.out.size;omega));have za2:=keep_new hc ZA.out;have zb2:=keep_new hc ZB.out;clear hc HB ZA ZB
 have HB:=Lib.hid hb2;have ZA:=Lib.hid za2;have ZB:=Lib.hid zb2;clear hb2 za2 zb2
 go_wp2_with fail
 have hb2:=HB.out;have za2:=ZA.out;have zb2:=ZB.out;clear HB ZA ZB
 have HB:=Lib.hid hb2;have ZA:=Lib.hid za2;have ZB:=Lib.hid zb2;clear hb2 za2 zb2
 refine (join2_new _ _ _ _ _ _ _ _ (Cl.cw 3 0) (Cl.cw 3 1) (Cl.cw 3 2) (Cl.cw 3 3) _ (by decide +kernel) (by decide +kernel) (by decide +kernel) (by decide +kernel)).mono ?_
 rintro e w3 ⟨rfl,hc⟩
 have hb3:=(HB.out.alloc HB.out.size _).trans (hc.mono (by have:=HB.out.size;omega));have za3:=keep_new hc ZA.out;have zb3:=keep_new hc ZB.out;clear hc HB ZA ZB
 obtain ⟨c0,f0,c1,f1,c2,f2,c3,f3,-⟩:=four_st zb3
 have HB:=Lib.hid hb3;have ZA:=Lib.hid za3;have ZB:=Lib.hid zb3;clear hb3 za3 zb3
 go_upto_region 28 with (fail)
 have zb4:=set4 (.int .u64 (Oc.U (Cl.cw 3 0))) (.int .u64 (Oc.U (Cl.cw 3 1))) (.int .u64 (Oc.U (Cl.cw 3 2))) (.int .u64 (Oc.U (Cl.cw 3 3))) ZB.out
 have za4:=set4_other (.int .u64 (Oc.U (Cl.cw 3 0))) (.int .u64 (Oc.U (Cl.cw 3 1))) (.int .u64 (Oc.U (Cl.cw 3 2))) (.int .u64 (Oc.U (Cl.cw 3 3))) (b:=w.heap.size+1) ZA.out (by omega)
 have hb4:=(((HB.out.setCell (show w.heap.size ≤ (⟨w.heap.size+1,0,none⟩:Addr).block by simp) (.int .u64 (Oc.U (Cl.cw 3 0)))).setCell (show w.heap.size ≤ (⟨w.heap.size+1,1,none⟩:Addr).block by simp) (.int .u64 (Oc.U (Cl.cw 3 1)))).setCell (show w.heap.size ≤ (⟨w.heap.size+1,2,none⟩:Addr).block by simp) (.int .u64 (Oc.U (Cl.cw 3 2)))).setCell (show w.heap.size ≤ (⟨w.heap.size+1,3,none⟩:Addr).block by simp) (.int .u64 (Oc.U (Cl.cw 3 3)))
 clear HB ZA ZB c0 f0 c1 f1 c2 f2 c3 f3
 generalize World.setCell (World.setCell (World.setCell (World.setCell _ _ _) _ _) _ _) _ _=W at *
 obtain ⟨c0,c1,c2,c3,-⟩:=four zb4
 obtain ⟨d0,e0,d1,e1,d2,e2,d3,e3,r0,r1,r2,r3⟩:=four_st za4
 have HB:=Lib.hid hb4
 clear hb4 za4 zb4
 go_wp2
 have hb:=HB.out
 refine bodyPost_ret (v:=.tuple #[(.agg #[.int .u64 (Oc.U (Cl.cw 3 0)),.int .u64 (Oc.U (Cl.cw 3 1)),.int .u64 (Oc.U (Cl.cw 3 2)),.int .u64 (Oc.U (Cl.cw 3 3))]),.nilIface]) (by simp [results,Tryz.results204,go_sem,r0,r1,r2,r3]) rfl ⟨rfl, ?_⟩
 go_grown
theorem named_4 (w:World):Calls Tryz.prog 204 #[.string ⟨#[100,105,103,105,116]⟩] w fun e w'=>e=.returned (.tuple #[(.agg #[.int .u64 (Oc.U (Cl.cw 4 0)),.int .u64 (Oc.U (Cl.cw 4 1)),.int .u64 (Oc.U (Cl.cw 4 2)),.int .u64 (Oc.U (Cl.cw 4 3))]),.nilIface])∧Below w.heap.size w w':=by
 go_enter Tryz.func204,Tryz.ntmps204
 go_upto_block 0 with (fail)
 refine wp_block_hid (fun _ _=>?_)
 iterate 13 (go_step;refine wp_block_hid (fun _ _=>?_))
 go_wp2_with fail
 have hb0:Below w.heap.size w ((w.alloc (.cells #[.int .u64 0,.int .u64 0,.int .u64 0,.int .u64 0] 25)).alloc (.cells #[.int .u64 0,.int .u64 0,.int .u64 0,.int .u64 0] 25)):=by go_grown
 obtain ⟨za0,zb0⟩:=two_new w (.cells #[.int .u64 0,.int .u64 0,.int .u64 0,.int .u64 0] 25) (.cells #[.int .u64 0,.int .u64 0,.int .u64 0,.int .u64 0] 25)
 refine join_reg w.heap.size (w.heap.size+1) w.heap.size (.cells #[.int .u64 0,.int .u64 0,.int .u64 0,.int .u64 0] 25) w 0#64 0#64 0#64 0#64 (Cl.rg 48 57 0) (Cl.rg 48 57 1) (Cl.rg 48 57 2) (Cl.rg 48 57 3) (Cl.cw 4 0) (Cl.cw 4 1) (Cl.cw 4 2) (Cl.cw 4 3)
   _ _ _ _ _ _ _ #[.int .u8 48,.int .u8 57] _ _ _ _ _ _ _ _ _ _ _ _ _ _ _ _ _ rfl (by kernel_rfl) (by kernel_rfl) (by kernel_rfl) (by kernel_rfl) (by kernel_rfl) (by kernel_rfl) (by kernel_rfl) (by kernel_rfl) (by kernel_rfl)
   rfl (fun _=>by simp [Act.eval]) (fun _=>by kernel_rfl) (fun w=>range_at 48 57 _ _ rfl rfl (by omega) (by omega) w) (by decide +kernel) (by decide +kernel) (by decide +kernel) (by decide +kernel) hb0 (by omega) (by omega) za0 zb0 ?_
 clear hb0 za0 zb0
 intro v1 w1 hb1 _ za1 zb1
 simp only [Ri.frame,List.zipIdx,List.foldl_cons,List.foldl_nil,if_true,List.setIfInBounds_toArray,List.set_cons_zero,List.set_cons_succ]
 generalize v1 0=y1_0
 generalize v1 (0+1)=y1_1
 generalize v1 (0+1+1)=y1_2
 generalize v1 (0+1+1+1)=y1_3
 clear v1
 obtain ⟨c0,c1,c2,c3,-⟩:=four zb1
 obtain ⟨d0,e0,d1,e1,d2,e2,d3,e3,r0,r1,r2,r3⟩:=four_st za1
 have HB:=Lib.hid hb1
 clear hb1 za1 zb1
 go_wp2
 have hb:=HB.out
 refine bodyPost_ret (v:=.tuple #[(.agg #[.int .u64 (Oc.U (Cl.cw 4 0)),.int .u64 (Oc.U (Cl.cw 4 1)),.int .u64 (Oc.U (Cl.cw 4 2)),.int .u64 (Oc.U (Cl.cw 4 3))]),.nilIface]) (by simp [results,Tryz.results204,go_sem,r0,r1,r2,r3]) rfl ⟨rfl, ?_⟩
 go_grown
theorem named_5 (w:World):Calls Tryz.prog 204 #[.string ⟨#[103,114,97,112,104]⟩] w fun e w'=>e=.returned (.tuple #[(.agg #[.int .u64 (Oc.U (Cl.cw 5 0)),.int .u64 (Oc.U (Cl.cw 5 1)),.int .u64 (Oc.U (Cl.cw 5 2)),.int .u64 (Oc.U (Cl.cw 5 3))]),.nilIface])∧Below w.heap.size w w':=by
 go_enter Tryz.func204,Tryz.ntmps204
 go_upto_block 0 with (fail)
 refine wp_block_hid (fun _ _=>?_)
 iterate 13 (go_step;refine wp_block_hid (fun _ _=>?_))
 go_wp2_with fail
 have hb0:Below w.heap.size w ((w.alloc (.cells #[.int .u64 0,.int .u64 0,.int .u64 0,.int .u64 0] 25)).alloc (.cells #[.int .u64 0,.int .u64 0,.int .u64 0,.int .u64 0] 25)):=by go_grown
 obtain ⟨za0,zb0⟩:=two_new w (.cells #[.int .u64 0,.int .u64 0,.int .u64 0,.int .u64 0] 25) (.cells #[.int .u64 0,.int .u64 0,.int .u64 0,.int .u64 0] 25)
 refine join_reg w.heap.size (w.heap.size+1) w.heap.size (.cells #[.int .u64 0,.int .u64 0,.int .u64 0,.int .u64 0] 25) w 0#64 0#64 0#64 0#64 (Cl.cw 8 0) (Cl.cw 8 1) (Cl.cw 8 2) (Cl.cw 8 3) (Cl.cw 8 0) (Cl.cw 8 1) (Cl.cw 8 2) (Cl.cw 8 3)
   _ _ _ _ _ _ _ #[] _ _ _ _ _ _ _ _ _ _ _ _ _ _ _ _ _ rfl (by kernel_rfl) (by kernel_rfl) (by kernel_rfl) (by kernel_rfl) (by kernel_rfl) (by kernel_rfl) (by kernel_rfl) (by kernel_rfl) (by kernel_rfl)
   rfl (fun _=>by simp) (fun _=>by kernel_rfl) (fun w=>marks_any w) (by decide +kernel) (by decide +kernel) (by decide +kernel) (by decide +kernel) hb0 (by omega) (by omega) za0 zb0 ?_
 clear hb0 za0 zb0
 intro v1 w1 hb1 _ za1 zb1
 simp only [Ri.frame,List.zipIdx,List.foldl_cons,List.foldl_nil,if_true,List.setIfInBounds_toArray,List.set_cons_zero,List.set_cons_succ]
 generalize v1 0=y1_0
 generalize v1 (0+1)=y1_1
 generalize v1 (0+1+1)=y1_2
 generalize v1 (0+1+1+1)=y1_3
 clear v1
 have HB:=Lib.hid hb1;have ZA:=Lib.hid za1;have ZB:=Lib.hid zb1;clear hb1 za1 zb1
 go_wp2_with fail
 have hb1:=HB.out;have za1:=ZA.out;have zb1:=ZB.out;clear HB ZA ZB
 refine join_reg w.heap.size (w.heap.size+1) w.heap.size (.cells #[.int .u64 0,.int .u64 0,.int .u64 0,.int .u64 0] 25) w (Cl.cw 8 0) (Cl.cw 8 1) (Cl.cw 8 2) (Cl.cw 8 3) (Cl.rg 48 57 0) (Cl.rg 48 57 1) (Cl.rg 48 57 2) (Cl.rg 48 57 3) (Cl.pw 4 0) (Cl.pw 4 1) (Cl.pw 4 2) (Cl.pw 4 3)
   _ _ _ _ _ _ _ #[.int .u8 48,.int .u8 57] _ _ _ _ _ _ _ _ _ _ _ _ _ _ _ _ _ rfl (by kernel_rfl) (by kernel_rfl) (by kernel_rfl) (by kernel_rfl) (by kernel_rfl) (by kernel_rfl) (by kernel_rfl) (by kernel_rfl) (by kernel_rfl)
   rfl (fun _=>by simp [Act.eval]) (fun _=>by kernel_rfl) (fun w=>range_at 48 57 _ _ rfl rfl (by omega) (by omega) w) (by decide +kernel) (by decide +kernel) (by decide +kernel) (by decide +kernel) hb1 (by omega) (by omega) za1 zb1 ?_
 clear hb1 za1 zb1
 intro v2 w2 hb2 _ za2 zb2
 simp only [Ri.frame,List.zipIdx,List.foldl_cons,List.foldl_nil,if_true,List.setIfInBounds_toArray,List.set_cons_zero,List.set_cons_succ]
 generalize v2 0=y2_0
 generalize v2 (0+1)=y2_1
 generalize v2 (0+1+1)=y2_2
 generalize v2 (0+1+1+1)=y2_3
 clear v2
 have HB:=Lib.hid hb2;have ZA:=Lib.hid za2;have ZB:=Lib.hid zb2;clear hb2 za2 zb2
 go_wp2_with fail
 have hb2:=HB.out;have za2:=ZA.out;have zb2:=ZB.out;clear HB ZA ZB
 refine join_reg w.heap.size (w.heap.size+1) w.heap.size (.cells #[.int .u64 0,.int .u64 0,.int .u64 0,.int .u64 0] 25) w (Cl.pw 4 0) (Cl.pw 4 1) (Cl.pw 4 2) (Cl.pw 4 3) (Cl.rg 97 122 0) (Cl.rg 97 122 1) (Cl.rg 97 122 2) (Cl.rg 97 122 3) (Cl.pw 5 0) (Cl.pw 5 1) (Cl.pw 5 2) (Cl.pw 5 3)
   _ _ _ _ _ _ _ #[.int .u8 97,.int .u8 122] _ _ _ _ _ _ _ _ _ _ _ _ _ _ _ _ _ rfl (by kernel_rfl) (by kernel_rfl) (by kernel_rfl) (by kernel_rfl) (by kernel_rfl) (by kernel_rfl) (by kernel_rfl) (by kernel_rfl) (by kernel_rfl)
   rfl (fun _=>by simp [Act.eval]) (fun _=>by kernel_rfl) (fun w=>range_at 97 122 _ _ rfl rfl (by omega) (by omega) w) (by decide +kernel) (by decide +kernel) (by decide +kernel) (by decide +kernel) hb2 (by omega) (by omega) za2 zb2 ?_
 clear hb2 za2 zb2
 intro v3 w3 hb3 _ za3 zb3
 simp only [Ri.frame,List.zipIdx,List.foldl_cons,List.foldl_nil,if_true,List.setIfInBounds_toArray,List.set_cons_zero,List.set_cons_succ]
 generalize v3 0=y3_0
 generalize v3 (0+1)=y3_1
 generalize v3 (0+1+1)=y3_2
 generalize v3 (0+1+1+1)=y3_3
 clear v3
 have HB:=Lib.hid hb3;have ZA:=Lib.hid za3;have ZB:=Lib.hid zb3;clear hb3 za3 zb3
 go_wp2_with fail
 have hb3:=HB.out;have za3:=ZA.out;have zb3:=ZB.out;clear HB ZA ZB
 refine join_reg w.heap.size (w.heap.size+1) w.heap.size (.cells #[.int .u64 0,.int .u64 0,.int .u64 0,.int .u64 0] 25) w (Cl.pw 5 0) (Cl.pw 5 1) (Cl.pw 5 2) (Cl.pw 5 3) (Cl.rg 65 90 0) (Cl.rg 65 90 1) (Cl.rg 65 90 2) (Cl.rg 65 90 3) (Cl.cw 5 0) (Cl.cw 5 1) (Cl.cw 5 2) (Cl.cw 5 3)
   _ _ _ _ _ _ _ #[.int .u8 65,.int .u8 90] _ _ _ _ _ _ _ _ _ _ _ _ _ _ _ _ _ rfl (by kernel_rfl) (by kernel_rfl) (by kernel_rfl) (by kernel_rfl) (by kernel_rfl) (by kernel_rfl) (by kernel_rfl) (by kernel_rfl) (by kernel_rfl)
   rfl (fun _=>by simp [Act.eval]) (fun _=>by kernel_rfl) (fun w=>range_at 65 90 _ _ rfl rfl (by omega) (by omega) w) (by decide +kernel) (by decide +kernel) (by decide +kernel) (by decide +kernel) hb3 (by omega) (by omega) za3 zb3 ?_
 clear hb3 za3 zb3
 intro v4 w4 hb4 _ za4 zb4
 simp only [Ri.frame,List.zipIdx,List.foldl_cons,List.foldl_nil,if_true,List.setIfInBounds_toArray,List.set_cons_zero,List.set_cons_succ]
 generalize v4 0=y4_0
 generalize v4 (0+1)=y4_1
 generalize v4 (0+1+1)=y4_2
 generalize v4 (0+1+1+1)=y4_3
 clear v4
 obtain ⟨c0,c1,c2,c3,-⟩:=four zb4
 obtain ⟨d0,e0,d1,e1,d2,e2,d3,e3,r0,r1,r2,r3⟩:=four_st za4
 have HB:=Lib.hid hb4
 clear hb4 za4 zb4
 go_wp2
 have hb:=HB.out
 refine bodyPost_ret (v:=.tuple #[(.agg #[.int .u64 (Oc.U (Cl.cw 5 0)),.int .u64 (Oc.U (Cl.cw 5 1)),.int .u64 (Oc.U (Cl.cw 5 2)),.int .u64 (Oc.U (Cl.cw 5 3))]),.nilIface]) (by simp [results,Tryz.results204,go_sem,r0,r1,r2,r3]) rfl ⟨rfl, ?_⟩
 go_grown
theorem named_6 (w:World):Calls Tryz.prog 204 #[.string ⟨#[108,111,119,101,114]⟩] w fun e w'=>e=.returned (.tuple #[(.agg #[.int .u64 (Oc.U (Cl.cw 6 0)),.int .u64 (Oc.U (Cl.cw 6 1)),.int .u64 (Oc.U (Cl.cw 6 2)),.int .u64 (Oc.U (Cl.cw 6 3))]),.nilIface])∧Below w.heap.size w w':=by
 go_enter Tryz.func204,Tryz.ntmps204
 go_upto_block 0 with (fail)
 refine wp_block_hid (fun _ _=>?_)
 iterate 13 (go_step;refine wp_block_hid (fun _ _=>?_))
 go_wp2_with fail
 have hb0:Below w.heap.size w ((w.alloc (.cells #[.int .u64 0,.int .u64 0,.int .u64 0,.int .u64 0] 25)).alloc (.cells #[.int .u64 0,.int .u64 0,.int .u64 0,.int .u64 0] 25)):=by go_grown
 obtain ⟨za0,zb0⟩:=two_new w (.cells #[.int .u64 0,.int .u64 0,.int .u64 0,.int .u64 0] 25) (.cells #[.int .u64 0,.int .u64 0,.int .u64 0,.int .u64 0] 25)
 have HB:=Lib.hid hb0;have ZA:=Lib.hid za0;have ZB:=Lib.hid zb0;clear hb0 za0 zb0
 refine (range_at 97 122 _ _ rfl rfl (by omega) (by omega) _).mono ?_
 rintro e w1 ⟨rfl,hc⟩
 have hb1:=HB.out.trans (hc.mono HB.out.size);have za1:=keep_blk hc ZA.out;have zb1:=keep_blk hc ZB.out;clear hc HB ZA ZB
 obtain ⟨c0,f0,c1,f1,c2,f2,c3,f3,-⟩:=four_st zb1
 have HB:=Lib.hid hb1;have ZA:=Lib.hid za1;have ZB:=Lib.hid zb1;clear hb1 za1 zb1
 rw [lower_w0,lower_w1,lower_w2,lower_w3]
 go_upto_region 28 with (fail)
 have zb2:=set4 (.int .u64 (Oc.U (Cl.cw 6 0))) (.int .u64 (Oc.U (Cl.cw 6 1))) (.int .u64 (Oc.U (Cl.cw 6 2))) (.int .u64 (Oc.U (Cl.cw 6 3))) ZB.out
 have za2:=set4_other (.int .u64 (Oc.U (Cl.cw 6 0))) (.int .u64 (Oc.U (Cl.cw 6 1))) (.int .u64 (Oc.U (Cl.cw 6 2))) (.int .u64 (Oc.U (Cl.cw 6 3))) (b:=w.heap.size+1) ZA.out (by omega)
 have hb2:=(((HB.out.setCell (show w.heap.size ≤ (⟨w.heap.size+1,0,none⟩:Addr).block by simp) (.int .u64 (Oc.U (Cl.cw 6 0)))).setCell (show w.heap.size ≤ (⟨w.heap.size+1,1,none⟩:Addr).block by simp) (.int .u64 (Oc.U (Cl.cw 6 1)))).setCell (show w.heap.size ≤ (⟨w.heap.size+1,2,none⟩:Addr).block by simp) (.int .u64 (Oc.U (Cl.cw 6 2)))).setCell (show w.heap.size ≤ (⟨w.heap.size+1,3,none⟩:Addr).block by simp) (.int .u64 (Oc.U (Cl.cw 6 3)))
 clear HB ZA ZB c0 f0 c1 f1 c2 f2 c3 f3
 generalize World.setCell (World.setCell (World.setCell (World.setCell _ _ _) _ _) _ _) _ _=W at *
 obtain ⟨c0,c1,c2,c3,-⟩:=four zb2
 obtain ⟨d0,e0,d1,e1,d2,e2,d3,e3,r0,r1,r2,r3⟩:=four_st za2
 have HB:=Lib.hid hb2
 clear hb2 za2 zb2
 go_wp2
 have hb:=HB.out
 refine bodyPost_ret (v:=.tuple #[(.agg #[.int .u64 (Oc.U (Cl.cw 6 0)),.int .u64 (Oc.U (Cl.cw 6 1)),.int .u64 (Oc.U (Cl.cw 6 2)),.int .u64 (Oc.U (Cl.cw 6 3))]),.nilIface]) (by simp [results,Tryz.results204,go_sem,r0,r1,r2,r3]) rfl ⟨rfl, ?_⟩
 go_grown
theorem named_7 (w:World):Calls Tryz.prog 204 #[.string ⟨#[112,114,105,110,116]⟩] w fun e w'=>e=.returned (.tuple #[(.agg #[.int .u64 (Oc.U (Cl.cw 7 0)),.int .u64 (Oc.U (Cl.cw 7 1)),.int .u64 (Oc.U (Cl.cw 7 2)),.int .u64 (Oc.U (Cl.cw 7 3))]),.nilIface])∧Below w.heap.size w w':=by
 go_enter Tryz.func204,Tryz.ntmps204
 go_upto_block 0 with (fail)
 refine wp_block_hid (fun _ _=>?_)
 iterate 13 (go_step;refine wp_block_hid (fun _ _=>?_))
 go_wp2_with fail
 have hb0:Below w.heap.size w ((w.alloc (.cells #[.int .u64 0,.int .u64 0,.int .u64 0,.int .u64 0] 25)).alloc (.cells #[.int .u64 0,.int .u64 0,.int .u64 0,.int .u64 0] 25)):=by go_grown
 obtain ⟨za0,zb0⟩:=two_new w (.cells #[.int .u64 0,.int .u64 0,.int .u64 0,.int .u64 0] 25) (.cells #[.int .u64 0,.int .u64 0,.int .u64 0,.int .u64 0] 25)
 have HB:=Lib.hid hb0;have ZA:=Lib.hid za0;have ZB:=Lib.hid zb0;clear hb0 za0 zb0
 refine (of_one 32 (by omega) _ rfl _ (w.heap.size+1+1) (by simp) _ (Cl.pw 0 0) (Cl.pw 0 1) (Cl.pw 0 2) (Cl.pw 0 3) (by decide +kernel) (by decide +kernel) (by decide +kernel) (by decide +kernel)).mono ?_
 rintro e w1 ⟨rfl,hc⟩
 have hb1:=(HB.out.alloc HB.out.size _).trans (hc.mono (by have:=HB.out.size;omega));have za1:=keep_new hc ZA.out;have zb1:=keep_new hc ZB.out;clear hc HB ZA ZB
 obtain ⟨c0,f0,c1,f1,c2,f2,c3,f3,-⟩:=four_st zb1
 have HB:=Lib.hid hb1;have ZA:=Lib.hid za1;have ZB:=Lib.hid zb1;clear hb1 za1 zb1
 go_wp2_with fail
 have zb2:=set4 (.int .u64 (Oc.U (Cl.pw 0 0))) (.int .u64 (Oc.U (Cl.pw 0 1))) (.int .u64 (Oc.U (Cl.pw 0 2))) (.int .u64 (Oc.U (Cl.pw 0 3))) ZB.out
 have za2:=set4_other (.int .u64 (Oc.U (Cl.pw 0 0))) (.int .u64 (Oc.U (Cl.pw 0 1))) (.int .u64 (Oc.U (Cl.pw 0 2))) (.int .u64 (Oc.U (Cl.pw 0 3))) (b:=w.heap.size+1) ZA.out (by omega)
 have hb2:=(((HB.out.setCell (show w.heap.size ≤ (⟨w.heap.size+1,0,none⟩:Addr).block by simp) (.int .u64 (Oc.U (Cl.pw 0 0)))).setCell (show w.heap.size ≤ (⟨w.heap.size+1,1,none⟩:Addr).block by simp) (.int .u64 (Oc.U (Cl.pw 0 1)))).setCell (show w.heap.size ≤ (⟨w.heap.size+1,2,none⟩:Addr).block by simp) (.int .u64 (Oc.U (Cl.pw 0 2)))).setCell (show w.heap.size ≤ (⟨w.heap.size+1,3,none⟩:Addr).block by simp) (.int .u64 (Oc.U (Cl.pw 0 3)))
 clear HB ZA ZB c0 f0 c1 f1 c2 f2 c3 f3
 refine join_reg w.heap.size (w.heap.size+1) w.heap.size (.cells #[.int .u64 0,.int .u64 0,.int .u64 0,.int .u64 0] 25) w (Cl.pw 0 0) (Cl.pw 0 1) (Cl.pw 0 2) (Cl.pw 0 3) (Cl.cw 8 0) (Cl.cw 8 1) (Cl.cw 8 2) (Cl.cw 8 3) (Cl.pw 1 0) (Cl.pw 1 1) (Cl.pw 1 2) (Cl.pw 1 3)
   _ _ _ _ _ _ _ #[] _ _ _ _ _ _ _ _ _ _ _ _ _ _ _ _ _ rfl (by kernel_rfl) (by kernel_rfl) (by kernel_rfl) (by kernel_rfl) (by kernel_rfl) (by kernel_rfl) (by kernel_rfl) (by kernel_rfl) (by kernel_rfl)
   rfl (fun _=>by simp) (fun _=>by kernel_rfl) (fun w=>marks_any w) (by decide +kernel) (by decide +kernel) (by decide +kernel) (by decide +kernel) hb2 (by omega) (by omega) za2 zb2 ?_
 clear hb2 za2 zb2
 intro v3 w3 hb3 _ za3 zb3
 simp only [Ri.frame,List.zipIdx,List.foldl_cons,List.foldl_nil,if_true,List.setIfInBounds_toArray,List.set_cons_zero,List.set_cons_succ]
 generalize v3 0=y3_0
 generalize v3 (0+1)=y3_1
 generalize v3 (0+1+1)=y3_2
 generalize v3 (0+1+1+1)=y3_3
 clear v3
 have HB:=Lib.hid hb3;have ZA:=Lib.hid za3;have ZB:=Lib.hid zb3;clear hb3 za3 zb3
 go_wp2_with fail
 have hb3:=HB.out;have za3:=ZA.out;have zb3:=ZB.out;clear HB ZA ZB
 refine join_reg w.heap.size (w.heap.size+1) w.heap.size (.cells #[.int .u64 0,.int .u64 0,.int .u64 0,.int .u64 0] 25) w (Cl.pw 1 0) (Cl.pw 1 1) (Cl.pw 1 2) (Cl.pw 1 3) (Cl.rg 48 57 0) (Cl.rg 48 57 1) (Cl.rg 48 57 2) (Cl.rg 48 57 3) (Cl.pw 2 0) (Cl.pw 2 1) (Cl.pw 2 2) (Cl.pw 2 3)
   _ _ _ _ _ _ _ #[.int .u8 48,.int .u8 57] _ _ _ _ _ _ _ _ _ _ _ _ _ _ _ _ _ rfl (by kernel_rfl) (by kernel_rfl) (by kernel_rfl) (by kernel_rfl) (by kernel_rfl) (by kernel_rfl) (by kernel_rfl) (by kernel_rfl) (by kernel_rfl)
   rfl (fun _=>by simp [Act.eval]) (fun _=>by kernel_rfl) (fun w=>range_at 48 57 _ _ rfl rfl (by omega) (by omega) w) (by decide +kernel) (by decide +kernel) (by decide +kernel) (by decide +kernel) hb3 (by omega) (by omega) za3 zb3 ?_
 clear hb3 za3 zb3
 intro v4 w4 hb4 _ za4 zb4
 simp only [Ri.frame,List.zipIdx,List.foldl_cons,List.foldl_nil,if_true,List.setIfInBounds_toArray,List.set_cons_zero,List.set_cons_succ]
 generalize v4 0=y4_0
 generalize v4 (0+1)=y4_1
 generalize v4 (0+1+1)=y4_2
 generalize v4 (0+1+1+1)=y4_3
 clear v4
 have HB:=Lib.hid hb4;have ZA:=Lib.hid za4;have ZB:=Lib.hid zb4;clear hb4 za4 zb4
 go_wp2_with fail
 have hb4:=HB.out;have za4:=ZA.out;have zb4:=ZB.out;clear HB ZA ZB
 refine join_reg w.heap.size (w.heap.size+1) w.heap.size (.cells #[.int .u64 0,.int .u64 0,.int .u64 0,.int .u64 0] 25) w (Cl.pw 2 0) (Cl.pw 2 1) (Cl.pw 2 2) (Cl.pw 2 3) (Cl.rg 97 122 0) (Cl.rg 97 122 1) (Cl.rg 97 122 2) (Cl.rg 97 122 3) (Cl.pw 3 0) (Cl.pw 3 1) (Cl.pw 3 2) (Cl.pw 3 3)
   _ _ _ _ _ _ _ #[.int .u8 97,.int .u8 122] _ _ _ _ _ _ _ _ _ _ _ _ _ _ _ _ _ rfl (by kernel_rfl) (by kernel_rfl) (by kernel_rfl) (by kernel_rfl) (by kernel_rfl) (by kernel_rfl) (by kernel_rfl) (by kernel_rfl) (by kernel_rfl)
   rfl (fun _=>by simp [Act.eval]) (fun _=>by kernel_rfl) (fun w=>range_at 97 122 _ _ rfl rfl (by omega) (by omega) w) (by decide +kernel) (by decide +kernel) (by decide +kernel) (by decide +kernel) hb4 (by omega) (by omega) za4 zb4 ?_
 clear hb4 za4 zb4
 intro v5 w5 hb5 _ za5 zb5
 simp only [Ri.frame,List.zipIdx,List.foldl_cons,List.foldl_nil,if_true,List.setIfInBounds_toArray,List.set_cons_zero,List.set_cons_succ]
 generalize v5 0=y5_0
 generalize v5 (0+1)=y5_1
 generalize v5 (0+1+1)=y5_2
 generalize v5 (0+1+1+1)=y5_3
 clear v5
 have HB:=Lib.hid hb5;have ZA:=Lib.hid za5;have ZB:=Lib.hid zb5;clear hb5 za5 zb5
 go_wp2_with fail
 have hb5:=HB.out;have za5:=ZA.out;have zb5:=ZB.out;clear HB ZA ZB
 refine join_reg w.heap.size (w.heap.size+1) w.heap.size (.cells #[.int .u64 0,.int .u64 0,.int .u64 0,.int .u64 0] 25) w (Cl.pw 3 0) (Cl.pw 3 1) (Cl.pw 3 2) (Cl.pw 3 3) (Cl.rg 65 90 0) (Cl.rg 65 90 1) (Cl.rg 65 90 2) (Cl.rg 65 90 3) (Cl.cw 7 0) (Cl.cw 7 1) (Cl.cw 7 2) (Cl.cw 7 3)
   _ _ _ _ _ _ _ #[.int .u8 65,.int .u8 90] _ _ _ _ _ _ _ _ _ _ _ _ _ _ _ _ _ rfl (by kernel_rfl) (by kernel_rfl) (by kernel_rfl) (by kernel_rfl) (by kernel_rfl) (by kernel_rfl) (by kernel_rfl) (by kernel_rfl) (by kernel_rfl)
   rfl (fun _=>by simp [Act.eval]) (fun _=>by kernel_rfl) (fun w=>range_at 65 90 _ _ rfl rfl (by omega) (by omega) w) (by decide +kernel) (by decide +kernel) (by decide +kernel) (by decide +kernel) hb5 (by omega) (by omega) za5 zb5 ?_
 clear hb5 za5 zb5
 intro v6 w6 hb6 _ za6 zb6
 simp only [Ri.frame,List.zipIdx,List.foldl_cons,List.foldl_nil,if_true,List.setIfInBounds_toArray,List.set_cons_zero,List.set_cons_succ]
 generalize v6 0=y6_0
 generalize v6 (0+1)=y6_1
 generalize v6 (0+1+1)=y6_2
 generalize v6 (0+1+1+1)=y6_3
 clear v6
 obtain ⟨c0,c1,c2,c3,-⟩:=four zb6
 obtain ⟨d0,e0,d1,e1,d2,e2,d3,e3,r0,r1,r2,r3⟩:=four_st za6
 have HB:=Lib.hid hb6
 clear hb6 za6 zb6
 go_wp2
 have hb:=HB.out
 refine bodyPost_ret (v:=.tuple #[(.agg #[.int .u64 (Oc.U (Cl.cw 7 0)),.int .u64 (Oc.U (Cl.cw 7 1)),.int .u64 (Oc.U (Cl.cw 7 2)),.int .u64 (Oc.U (Cl.cw 7 3))]),.nilIface]) (by simp [results,Tryz.results204,go_sem,r0,r1,r2,r3]) rfl ⟨rfl, ?_⟩
 go_grown
theorem named_8 (w:World):Calls Tryz.prog 204 #[.string ⟨#[112,117,110,99,116]⟩] w fun e w'=>e=.returned (.tuple #[(.agg #[.int .u64 (Oc.U (Cl.cw 8 0)),.int .u64 (Oc.U (Cl.cw 8 1)),.int .u64 (Oc.U (Cl.cw 8 2)),.int .u64 (Oc.U (Cl.cw 8 3))]),.nilIface])∧Below w.heap.size w w':=by
 go_enter Tryz.func204,Tryz.ntmps204
 go_upto_block 0 with (fail)
 refine wp_block_hid (fun _ _=>?_)
 iterate 13 (go_step;refine wp_block_hid (fun _ _=>?_))
 go_wp2_with fail
 have hb0:Below w.heap.size w ((w.alloc (.cells #[.int .u64 0,.int .u64 0,.int .u64 0,.int .u64 0] 25)).alloc (.cells #[.int .u64 0,.int .u64 0,.int .u64 0,.int .u64 0] 25)):=by go_grown
 obtain ⟨za0,zb0⟩:=two_new w (.cells #[.int .u64 0,.int .u64 0,.int .u64 0,.int .u64 0] 25) (.cells #[.int .u64 0,.int .u64 0,.int .u64 0,.int .u64 0] 25)
 have HB:=Lib.hid hb0;have ZA:=Lib.hid za0;have ZB:=Lib.hid zb0;clear hb0 za0 zb0
 refine (marks_any _).mono ?_
 rintro e w1 ⟨rfl,hc⟩
 have hb1:=HB.out.trans (hc.mono HB.out.size);have za1:=keep_blk hc ZA.out;have zb1:=keep_blk hc ZB.out;clear hc HB ZA ZB
 obtain ⟨c0,f0,c1,f1,c2,f2,c3,f3,-⟩:=four_st zb1
 have HB:=Lib.hid hb1;have ZA:=Lib.hid za1;have ZB:=Lib.hid zb1;clear hb1 za1 zb1
 go_upto_region 28 with (fail)
 have zb2:=set4 (.int .u64 (Oc.U (Cl.cw 8 0))) (.int .u64 (Oc.U (Cl.cw 8 1))) (.int .u64 (Oc.U (Cl.cw 8 2))) (.int .u64 (Oc.U (Cl.cw 8 3))) ZB.out
 have za2:=set4_other (.int .u64 (Oc.U (Cl.cw 8 0))) (.int .u64 (Oc.U (Cl.cw 8 1))) (.int .u64 (Oc.U (Cl.cw 8 2))) (.int .u64 (Oc.U (Cl.cw 8 3))) (b:=w.heap.size+1) ZA.out (by omega)
 have hb2:=(((HB.out.setCell (show w.heap.size ≤ (⟨w.heap.size+1,0,none⟩:Addr).block by simp) (.int .u64 (Oc.U (Cl.cw 8 0)))).setCell (show w.heap.size ≤ (⟨w.heap.size+1,1,none⟩:Addr).block by simp) (.int .u64 (Oc.U (Cl.cw 8 1)))).setCell (show w.heap.size ≤ (⟨w.heap.size+1,2,none⟩:Addr).block by simp) (.int .u64 (Oc.U (Cl.cw 8 2)))).setCell (show w.heap.size ≤ (⟨w.heap.size+1,3,none⟩:Addr).block by simp) (.int .u64 (Oc.U (Cl.cw 8 3)))
 clear HB ZA ZB c0 f0 c1 f1 c2 f2 c3 f3
 generalize World.setCell (World.setCell (World.setCell (World.setCell _ _ _) _ _) _ _) _ _=W at *
 obtain ⟨c0,c1,c2,c3,-⟩:=four zb2
 obtain ⟨d0,e0,d1,e1,d2,e2,d3,e3,r0,r1,r2,r3⟩:=four_st za2
 have HB:=Lib.hid hb2
 clear hb2 za2 zb2
 go_wp2
 have hb:=HB.out
 refine bodyPost_ret (v:=.tuple #[(.agg #[.int .u64 (Oc.U (Cl.cw 8 0)),.int .u64 (Oc.U (Cl.cw 8 1)),.int .u64 (Oc.U (Cl.cw 8 2)),.int .u64 (Oc.U (Cl.cw 8 3))]),.nilIface]) (by simp [results,Tryz.results204,go_sem,r0,r1,r2,r3]) rfl ⟨rfl, ?_⟩
 go_grown
theorem named_9 (w:World):Calls Tryz.prog 204 #[.string ⟨#[115,112,97,99,101]⟩] w fun e w'=>e=.returned (.tuple #[(.agg #[.int .u64 (Oc.U (Cl.cw 9 0)),.int .u64 (Oc.U (Cl.cw 9 1)),.int .u64 (Oc.U (Cl.cw 9 2)),.int .u64 (Oc.U (Cl.cw 9 3))]),.nilIface])∧Below w.heap.size w w':=by
 go_enter Tryz.func204,Tryz.ntmps204
 go_upto_block 0 with (fail)
 refine wp_block_hid (fun _ _=>?_)
 iterate 13 (go_step;refine wp_block_hid (fun _ _=>?_))
 go_wp2_with fail
 have hb0:Below w.heap.size w ((w.alloc (.cells #[.int .u64 0,.int .u64 0,.int .u64 0,.int .u64 0] 25)).alloc (.cells #[.int .u64 0,.int .u64 0,.int .u64 0,.int .u64 0] 25)):=by go_grown
 obtain ⟨za0,zb0⟩:=two_new w (.cells #[.int .u64 0,.int .u64 0,.int .u64 0,.int .u64 0] 25) (.cells #[.int .u64 0,.int .u64 0,.int .u64 0,.int .u64 0] 25)
 have HB:=Lib.hid hb0;have ZA:=Lib.hid za0;have ZB:=Lib.hid zb0;clear hb0 za0 zb0
 refine (range_at 10 13 _ _ rfl rfl (by omega) (by omega) _).mono ?_
 rintro e w1 ⟨rfl,hc⟩
 have hb1:=HB.out.trans (hc.mono HB.out.size);have za1:=keep_blk hc ZA.out;have zb1:=keep_blk hc ZB.out;clear hc HB ZA ZB
 obtain ⟨c0,f0,c1,f1,c2,f2,c3,f3,-⟩:=four_st zb1
 have HB:=Lib.hid hb1;have ZA:=Lib.hid za1;have ZB:=Lib.hid zb1;clear hb1 za1 zb1
 go_wp2_with fail
 have zb2:=set4 (.int .u64 (Oc.U (Cl.rg 10 13 0))) (.int .u64 (Oc.U (Cl.rg 10 13 1))) (.int .u64 (Oc.U (Cl.rg 10 13 2))) (.int .u64 (Oc.U (Cl.rg 10 13 3))) ZB.out
 have za2:=set4_other (.int .u64 (Oc.U (Cl.rg 10 13 0))) (.int .u64 (Oc.U (Cl.rg 10 13 1))) (.int .u64 (Oc.U (Cl.rg 10 13 2))) (.int .u64 (Oc.U (Cl.rg 10 13 3))) (b:=w.heap.size+1) ZA.out (by omega)
 have hb2:=(((HB.out.setCell (show w.heap.size ≤ (⟨w.heap.size+1,0,none⟩:Addr).block by simp) (.int .u64 (Oc.U (Cl.rg 10 13 0)))).setCell (show w.heap.size ≤ (⟨w.heap.size+1,1,none⟩:Addr).block by simp) (.int .u64 (Oc.U (Cl.rg 10 13 1)))).setCell (show w.heap.size ≤ (⟨w.heap.size+1,2,none⟩:Addr).block by simp) (.int .u64 (Oc.U (Cl.rg 10 13 2)))).setCell (show w.heap.size ≤ (⟨w.heap.size+1,3,none⟩:Addr).block by simp) (.int .u64 (Oc.U (Cl.rg 10 13 3)))
 clear HB ZA ZB c0 f0 c1 f1 c2 f2 c3 f3
 refine join_reg6 w.heap.size (w.heap.size+1) w.heap.size (.cells #[.int .u64 0,.int .u64 0,.int .u64 0,.int .u64 0] 25) w 9 32 (Cl.rg 10 13 0) (Cl.rg 10 13 1) (Cl.rg 10 13 2) (Cl.rg 10 13 3) (Cl.cw 2 0) (Cl.cw 2 1) (Cl.cw 2 2) (Cl.cw 2 3) (Cl.cw 9 0) (Cl.cw 9 1) (Cl.cw 9 2) (Cl.cw 9 3)
   _ _ _ _ _ _ _ _ _ _ _ _ _ _ _ _ _ _ _ _ _ _ _ _ _ rfl (by kernel_rfl) (by kernel_rfl) (by kernel_rfl) (by kernel_rfl) (by kernel_rfl) (by kernel_rfl) (by kernel_rfl) (by kernel_rfl) (by kernel_rfl) (by kernel_rfl) (by kernel_rfl)
   rfl of_two_at (by decide +kernel) (by decide +kernel) (by decide +kernel) (by decide +kernel) hb2 (by omega) (by omega) za2 zb2 ?_
 clear hb2 za2 zb2
 intro v3 w3 hb3 _ za3 zb3
 simp only [Ri.frame,List.zipIdx,List.foldl_cons,List.foldl_nil,if_true,List.setIfInBounds_toArray,List.set_cons_zero,List.set_cons_succ]
 generalize v3 0=y3_0
 generalize v3 (0+1)=y3_1
 generalize v3 (0+1+1)=y3_2
 generalize v3 (0+1+1+1)=y3_3
 generalize v3 (0+1+1+1+1)=y3_4
 clear v3
 obtain ⟨c0,c1,c2,c3,-⟩:=four zb3
 obtain ⟨d0,e0,d1,e1,d2,e2,d3,e3,r0,r1,r2,r3⟩:=four_st za3
 have HB:=Lib.hid hb3
 clear hb3 za3 zb3
 go_wp2
 have hb:=HB.out
 refine bodyPost_ret (v:=.tuple #[(.agg #[.int .u64 (Oc.U (Cl.cw 9 0)),.int .u64 (Oc.U (Cl.cw 9 1)),.int .u64 (Oc.U (Cl.cw 9 2)),.int .u64 (Oc.U (Cl.cw 9 3))]),.nilIface]) (by simp [results,Tryz.results204,go_sem,r0,r1,r2,r3]) rfl ⟨rfl, ?_⟩
 go_grown
theorem named_10 (w:World):Calls Tryz.prog 204 #[.string ⟨#[117,112,112,101,114]⟩] w fun e w'=>e=.returned (.tuple #[(.agg #[.int .u64 (Oc.U (Cl.cw 10 0)),.int .u64 (Oc.U (Cl.cw 10 1)),.int .u64 (Oc.U (Cl.cw 10 2)),.int .u64 (Oc.U (Cl.cw 10 3))]),.nilIface])∧Below w.heap.size w w':=by
 go_enter Tryz.func204,Tryz.ntmps204
 go_upto_block 0 with (fail)
 refine wp_block_hid (fun _ _=>?_)
 iterate 13 (go_step;refine wp_block_hid (fun _ _=>?_))
 go_wp2_with fail
 have hb0:Below w.heap.size w ((w.alloc (.cells #[.int .u64 0,.int .u64 0,.int .u64 0,.int .u64 0] 25)).alloc (.cells #[.int .u64 0,.int .u64 0,.int .u64 0,.int .u64 0] 25)):=by go_grown
 obtain ⟨za0,zb0⟩:=two_new w (.cells #[.int .u64 0,.int .u64 0,.int .u64 0,.int .u64 0] 25) (.cells #[.int .u64 0,.int .u64 0,.int .u64 0,.int .u64 0] 25)
 refine join_reg w.heap.size (w.heap.size+1) w.heap.size (.cells #[.int .u64 0,.int .u64 0,.int .u64 0,.int .u64 0] 25) w 0#64 0#64 0#64 0#64 (Cl.rg 65 90 0) (Cl.rg 65 90 1) (Cl.rg 65 90 2) (Cl.rg 65 90 3) (Cl.cw 10 0) (Cl.cw 10 1) (Cl.cw 10 2) (Cl.cw 10 3)
   _ _ _ _ _ _ _ #[.int .u8 65,.int .u8 90] _ _ _ _ _ _ _ _ _ _ _ _ _ _ _ _ _ rfl (by kernel_rfl) (by kernel_rfl) (by kernel_rfl) (by kernel_rfl) (by kernel_rfl) (by kernel_rfl) (by kernel_rfl) (by kernel_rfl) (by kernel_rfl)
   rfl (fun _=>by simp [Act.eval]) (fun _=>by kernel_rfl) (fun w=>range_at 65 90 _ _ rfl rfl (by omega) (by omega) w) (by decide +kernel) (by decide +kernel) (by decide +kernel) (by decide +kernel) hb0 (by omega) (by omega) za0 zb0 ?_
 clear hb0 za0 zb0
 intro v1 w1 hb1 _ za1 zb1
 simp only [Ri.frame,List.zipIdx,List.foldl_cons,List.foldl_nil,if_true,List.setIfInBounds_toArray,List.set_cons_zero,List.set_cons_succ]
 generalize v1 0=y1_0
 generalize v1 (0+1)=y1_1
 generalize v1 (0+1+1)=y1_2
 generalize v1 (0+1+1+1)=y1_3
 clear v1
 obtain ⟨c0,c1,c2,c3,-⟩:=four zb1
 obtain ⟨d0,e0,d1,e1,d2,e2,d3,e3,r0,r1,r2,r3⟩:=four_st za1
 have HB:=Lib.hid hb1
 clear hb1 za1 zb1
 go_wp2
 have hb:=HB.out
 refine bodyPost_ret (v:=.tuple #[(.agg #[.int .u64 (Oc.U (Cl.cw 10 0)),.int .u64 (Oc.U (Cl.cw 10 1)),.int .u64 (Oc.U (Cl.cw 10 2)),.int .u64 (Oc.U (Cl.cw 10 3))]),.nilIface]) (by simp [results,Tryz.results204,go_sem,r0,r1,r2,r3]) rfl ⟨rfl, ?_⟩
 go_grown
theorem named_11 (w:World):Calls Tryz.prog 204 #[.string ⟨#[120,100,105,103,105,116]⟩] w fun e w'=>e=.returned (.tuple #[(.agg #[.int .u64 (Oc.U (Cl.cw 11 0)),.int .u64 (Oc.U (Cl.cw 11 1)),.int .u64 (Oc.U (Cl.cw 11 2)),.int .u64 (Oc.U (Cl.cw 11 3))]),.nilIface])∧Below w.heap.size w w':=by
 go_enter Tryz.func204,Tryz.ntmps204
 go_upto_block 0 with (fail)
 refine wp_block_hid (fun _ _=>?_)
 iterate 13 (go_step;refine wp_block_hid (fun _ _=>?_))
 go_wp2_with fail
 have hb0:Below w.heap.size w ((w.alloc (.cells #[.int .u64 0,.int .u64 0,.int .u64 0,.int .u64 0] 25)).alloc (.cells #[.int .u64 0,.int .u64 0,.int .u64 0,.int .u64 0] 25)):=by go_grown
 obtain ⟨za0,zb0⟩:=two_new w (.cells #[.int .u64 0,.int .u64 0,.int .u64 0,.int .u64 0] 25) (.cells #[.int .u64 0,.int .u64 0,.int .u64 0,.int .u64 0] 25)
 have HB:=Lib.hid hb0;have ZA:=Lib.hid za0;have ZB:=Lib.hid zb0;clear hb0 za0 zb0
 refine (range_at 65 70 _ _ rfl rfl (by omega) (by omega) _).mono ?_
 rintro e w1 ⟨rfl,hc⟩
 have hb1:=HB.out.trans (hc.mono HB.out.size);have za1:=keep_blk hc ZA.out;have zb1:=keep_blk hc ZB.out;clear hc HB ZA ZB
 have HB:=Lib.hid hb1;have ZA:=Lib.hid za1;have ZB:=Lib.hid zb1;clear hb1 za1 zb1
 go_wp2_with fail
 have hb1:=HB.out;have za1:=ZA.out;have zb1:=ZB.out;clear HB ZA ZB
 have HB:=Lib.hid hb1;have ZA:=Lib.hid za1;have ZB:=Lib.hid zb1;clear hb1 za1 zb1
 refine (range_at 97 102 _ _ rfl rfl (by omega) (by omega) _).mono ?_
 rintro e w2 ⟨rfl,hc⟩
 have hb2:=HB.out.trans (hc.mono HB.out.size);have za2:=keep_blk hc ZA.out;have zb2:=keep_blk hc ZB.out;clear hc HB ZA ZB
 have HB:=Lib.hid hb2;have ZA:=Lib.hid za2;have ZB:=Lib.hid zb2;clear hb2 za2 zb2
 go_wp2_with fail
 have hb2:=HB.out;have za2:=ZA.out;have zb2:=ZB.out;clear HB ZA ZB
 have HB:=Lib.hid hb2;have ZA:=Lib.hid za2;have ZB:=Lib.hid zb2;clear hb2 za2 zb2
 refine (join2_new _ _ _ _ _ _ _ _ (Cl.pw 7 0) (Cl.pw 7 1) (Cl.pw 7 2) (Cl.pw 7 3) _ (by decide +kernel) (by decide +kernel) (by decide +kernel) (by decide +kernel)).mono ?_
 rintro e w3 ⟨rfl,hc⟩
 have hb3:=(HB.out.alloc HB.out.size _).trans (hc.mono (by have:=HB.out.size;omega));have za3:=keep_new hc ZA.out;have zb3:=keep_new hc ZB.out;clear hc HB ZA ZB
 obtain ⟨c0,f0,c1,f1,c2,f2,c3,f3,-⟩:=four_st zb3
 have HB:=Lib.hid hb3;have ZA:=Lib.hid za3;have ZB:=Lib.hid zb3;clear hb3 za3 zb3
 go_wp2_with fail
 have zb4:=set4 (.int .u64 (Oc.U (Cl.pw 7 0))) (.int .u64 (Oc.U (Cl.pw 7 1))) (.int .u64 (Oc.U (Cl.pw 7 2))) (.int .u64 (Oc.U (Cl.pw 7 3))) ZB.out
 have za4:=set4_other (.int .u64 (Oc.U (Cl.pw 7 0))) (.int .u64 (Oc.U (Cl.pw 7 1))) (.int .u64 (Oc.U (Cl.pw 7 2))) (.int .u64 (Oc.U (Cl.pw 7 3))) (b:=w.heap.size+1) ZA.out (by omega)
 have hb4:=(((HB.out.setCell (show w.heap.size ≤ (⟨w.heap.size+1,0,none⟩:Addr).block by simp) (.int .u64 (Oc.U (Cl.pw 7 0)))).setCell (show w.heap.size ≤ (⟨w.heap.size+1,1,none⟩:Addr).block by simp) (.int .u64 (Oc.U (Cl.pw 7 1)))).setCell (show w.heap.size ≤ (⟨w.heap.size+1,2,none⟩:Addr).block by simp) (.int .u64 (Oc.U (Cl.pw 7 2)))).setCell (show w.heap.size ≤ (⟨w.heap.size+1,3,none⟩:Addr).block by simp) (.int .u64 (Oc.U (Cl.pw 7 3)))
 clear HB ZA ZB c0 f0 c1 f1 c2 f2 c3 f3
 refine join_reg w.heap.size (w.heap.size+1) w.heap.size (.cells #[.int .u64 0,.int .u64 0,.int .u64 0,.int .u64 0] 25) w (Cl.pw 7 0) (Cl.pw 7 1) (Cl.pw 7 2) (Cl.pw 7 3) (Cl.rg 48 57 0) (Cl.rg 48 57 1) (Cl.rg 48 57 2) (Cl.rg 48 57 3) (Cl.cw 11 0) (Cl.cw 11 1) (Cl.cw 11 2) (Cl.cw 11 3)
   _ _ _ _ _ _ _ #[.int .u8 48,.int .u8 57] _ _ _ _ _ _ _ _ _ _ _ _ _ _ _ _ _ rfl (by kernel_rfl) (by kernel_rfl) (by kernel_rfl) (by kernel_rfl) (by kernel_rfl) (by kernel_rfl) (by kernel_rfl) (by kernel_rfl) (by kernel_rfl)
   rfl (fun _=>by simp [Act.eval]) (fun _=>by kernel_rfl) (fun w=>range_at 48 57 _ _ rfl rfl (by omega) (by omega) w) (by decide +kernel) (by decide +kernel) (by decide +kernel) (by decide +kernel) hb4 (by omega) (by omega) za4 zb4 ?_
 clear hb4 za4 zb4
 intro v5 w5 hb5 _ za5 zb5
 simp only [Ri.frame,List.zipIdx,List.foldl_cons,List.foldl_nil,if_true,List.setIfInBounds_toArray,List.set_cons_zero,List.set_cons_succ]
 generalize v5 0=y5_0
 generalize v5 (0+1)=y5_1
 generalize v5 (0+1+1)=y5_2
 generalize v5 (0+1+1+1)=y5_3
 clear v5
 obtain ⟨c0,c1,c2,c3,-⟩:=four zb5
 obtain ⟨d0,e0,d1,e1,d2,e2,d3,e3,r0,r1,r2,r3⟩:=four_st za5
 have HB:=Lib.hid hb5
 clear hb5 za5 zb5
 go_wp2
 have hb:=HB.out
 refine bodyPost_ret (v:=.tuple #[(.agg #[.int .u64 (Oc.U (Cl.cw 11 0)),.int .u64 (Oc.U (Cl.cw 11 1)),.int .u64 (Oc.U (Cl.cw 11 2)),.int .u64 (Oc.U (Cl.cw 11 3))]),.nilIface]) (by simp [results,Tryz.results204,go_sem,r0,r1,r2,r3]) rfl ⟨rfl, ?_⟩
 go_grown
theorem named_no (s:ByteArray) (hs:Cl.No s) (v:Value) (w:World) (hE:w.cell? ⟨5,0,none⟩=some v):Calls Tryz.prog 204 #[.string s] w fun e w'=>e=.returned (.tuple #[.agg #[.int .u64 0,.int .u64 0,.int .u64 0,.int .u64 0],v])∧Below w.heap.size w w':=by
 have n0:(s.toList == [97,108,110,117,109])=false:=hs 0 (by omega)
 have n1:(s.toList == [97,108,112,104,97])=false:=hs 1 (by omega)
 have n2:(s.toList == [98,108,97,110,107])=false:=hs 2 (by omega)
 have n3:(s.toList == [99,110,116,114,108])=false:=hs 3 (by omega)
 have n4:(s.toList == [100,105,103,105,116])=false:=hs 4 (by omega)
 have n5:(s.toList == [103,114,97,112,104])=false:=hs 5 (by omega)
 have n6:(s.toList == [108,111,119,101,114])=false:=hs 6 (by omega)
 have n7:(s.toList == [112,114,105,110,116])=false:=hs 7 (by omega)
 have n8:(s.toList == [112,117,110,99,116])=false:=hs 8 (by omega)
 have n9:(s.toList == [115,112,97,99,101])=false:=hs 9 (by omega)
 have n10:(s.toList == [117,112,112,101,114])=false:=hs 10 (by omega)
 have n11:(s.toList == [120,100,105,103,105,116])=false:=hs 11 (by omega)
 clear hs
 have hg:=block_lt_of_cell hE
 go_enter Tryz.func204,Tryz.ntmps204
 go_upto_block 0 with (fail)
 refine wp_block_hid (fun _ _=>?_)
 iterate 13 (go_step;refine wp_block_hid (fun _ _=>?_))
 go_wp2_with fail
 have hb0:Below w.heap.size w ((w.alloc (.cells #[.int .u64 0,.int .u64 0,.int .u64 0,.int .u64 0] 25)).alloc (.cells #[.int .u64 0,.int .u64 0,.int .u64 0,.int .u64 0] 25)):=by go_grown
 obtain ⟨za0,-⟩:=two_new w (.cells #[.int .u64 0,.int .u64 0,.int .u64 0,.int .u64 0] 25) (.cells #[.int .u64 0,.int .u64 0,.int .u64 0,.int .u64 0] 25)
 have hE0:=(hb0.cell (p:=⟨5,0,none⟩) hg).trans hE
 generalize World.alloc (World.alloc _ _) _=W at *
 clear n0 n1 n2 n3 n4 n5 n6 n7 n8 n9 n10 n11 hE
 obtain ⟨d0,e0,d1,e1,d2,e2,d3,e3,r0,r1,r2,r3⟩:=four_st za0
 have HB:=Lib.hid hb0;have ZA:=Lib.hid za0;clear hb0 za0
 go_region
 go_wp2
 have hb:=HB.out
 refine bodyPost_ret (v:=.tuple #[.agg #[.int .u64 0,.int .u64 0,.int .u64 0,.int .u64 0],v]) (by simp [results,Tryz.results204,go_sem,r0,r1,r2,r3]) rfl ⟨rfl, ?_⟩
 go_grown
end Go.Proofs.YtfcilopifjddpaaGreatDoor
namespace Go.Proofs.YtfcilopifjddpaaGreatDoor
open Go.RowKit
theorem in_any (b:Nat) (lo hi:Int) (w:World):Calls Tryz.prog 189 #[.int .i64 b,.int .i64 lo,.int .i64 hi] w fun e w'=>e=.returned (.bool (Cl.inI b lo hi))∧w=w':=by
 unfold Cl.inI
 by_cases h1:lo ≤ (b:Int)
 · by_cases h2:(b:Int) ≤ hi
   · go_enter Tryz.func189,Tryz.ntmps189
     go_wp2
     go_ret
     exact ⟨ret_bool (by simp [h1,h2]),rfl⟩
   · have h3:decide ((b:Int) ≤ hi)=false:=by simpa using h2
     go_enter Tryz.func189,Tryz.ntmps189
     go_wp2
     go_ret
     exact ⟨ret_bool (by simp),rfl⟩
 · have h3:decide (lo ≤ (b:Int))=false:=by simpa using h1
   go_enter Tryz.func189,Tryz.ntmps189
   go_wp2
   go_ret
   exact ⟨ret_bool (by simp),rfl⟩
theorem member_0 (b:Nat) (w:World):Calls Tryz.prog 169 #[.string ⟨#[97,108,110,117,109]⟩,.int .i64 b] w fun e w'=>e=.returned (.bool (Cl.cls 0 b))∧w=w':=by
 show Calls _ _ _ _ fun e w'=>e=.returned (.bool ((Cl.inI b 65 90 || Cl.inI b 97 122) || Cl.inI b 48 57))∧w=w'
 have h1:=in_any b 65 90;have h2:=in_any b 97 122;have h3:=in_any b 48 57
 generalize Cl.inI b 65 90=x at *
 generalize Cl.inI b 97 122=y at *
 generalize Cl.inI b 48 57=z at *
 have H1:=Lib.hid h1;have H2:=Lib.hid h2;have H3:=Lib.hid h3
 clear h1 h2 h3
 go_enter Tryz.func169,Tryz.ntmps169
 go_wp2_with fail
 refine (H1.out _).mono ?_;rintro e w' ⟨rfl,rfl⟩
 go_wp2_with fail
 refine (H2.out _).mono ?_;rintro e w' ⟨rfl,rfl⟩
 go_wp2_with fail
 refine (H3.out _).mono ?_;rintro e w' ⟨rfl,rfl⟩
 cases x <;> cases y <;> cases z
 all_goals
   go_wp2
   go_ret
   exact ⟨rfl,rfl⟩
theorem member_1 (b:Nat) (w:World):Calls Tryz.prog 169 #[.string ⟨#[97,108,112,104,97]⟩,.int .i64 b] w fun e w'=>e=.returned (.bool (Cl.cls 1 b))∧w=w':=by
 show Calls _ _ _ _ fun e w'=>e=.returned (.bool (Cl.inI b 65 90 || Cl.inI b 97 122))∧w=w'
 have h1:=in_any b 65 90;have h2:=in_any b 97 122;have h3:=in_any b 48 57
 generalize Cl.inI b 65 90=x at *
 generalize Cl.inI b 97 122=y at *
 generalize Cl.inI b 48 57=z at *
 have H1:=Lib.hid h1;have H2:=Lib.hid h2;have H3:=Lib.hid h3
 clear h1 h2 h3
 go_enter Tryz.func169,Tryz.ntmps169
 go_wp2_with fail
 refine (H1.out _).mono ?_;rintro e w' ⟨rfl,rfl⟩
 go_wp2_with fail
 refine (H2.out _).mono ?_;rintro e w' ⟨rfl,rfl⟩
 go_wp2_with fail
 refine (H3.out _).mono ?_;rintro e w' ⟨rfl,rfl⟩
 cases x <;> cases y
 all_goals
   go_wp2
   go_ret
   exact ⟨rfl,rfl⟩
theorem member_2 (b:Nat) (w:World):Calls Tryz.prog 169 #[.string ⟨#[98,108,97,110,107]⟩,.int .i64 b] w fun e w'=>e=.returned (.bool (Cl.cls 2 b))∧w=w':=by
 show Calls _ _ _ _ fun e w'=>e=.returned (.bool (Cl.isI b 9 || Cl.isI b 32))∧w=w'
 have j0:((b:Int) == 9)=Cl.isI b 9:=rfl
 have j1:((b:Int) == 32)=Cl.isI b 32:=rfl
 have h1:=in_any b 65 90;have h2:=in_any b 97 122;have h3:=in_any b 48 57
 generalize Cl.inI b 65 90=x at *
 generalize Cl.inI b 97 122=y at *
 generalize Cl.inI b 48 57=z at *
 generalize Cl.isI b 9=i0 at *
 generalize Cl.isI b 32=i1 at *
 have H1:=Lib.hid h1;have H2:=Lib.hid h2;have H3:=Lib.hid h3
 have J0:=Lib.hid j0
 have J1:=Lib.hid j1
 clear h1 h2 h3 j0 j1
 go_enter Tryz.func169,Tryz.ntmps169
 go_wp2_with fail
 refine (H1.out _).mono ?_;rintro e w' ⟨rfl,rfl⟩
 go_wp2_with fail
 refine (H2.out _).mono ?_;rintro e w' ⟨rfl,rfl⟩
 go_wp2_with fail
 refine (H3.out _).mono ?_;rintro e w' ⟨rfl,rfl⟩
 cases i0 <;> cases i1
 all_goals
   have j0:=J0.out;clear J0
   have j1:=J1.out;clear J1
   go_wp2
   go_ret
   exact ⟨rfl,rfl⟩
theorem member_3 (b:Nat) (w:World):Calls Tryz.prog 169 #[.string ⟨#[99,110,116,114,108]⟩,.int .i64 b] w fun e w'=>e=.returned (.bool (Cl.cls 3 b))∧w=w':=by
 show Calls _ _ _ _ fun e w'=>e=.returned (.bool (Cl.inI b 0 31 || Cl.isI b 127))∧w=w'
 have j0:((b:Int) == 127)=Cl.isI b 127:=rfl
 have h1:=in_any b 65 90;have h2:=in_any b 97 122;have h3:=in_any b 48 57
 have k0:=in_any b 0 31
 generalize Cl.inI b 65 90=x at *
 generalize Cl.inI b 97 122=y at *
 generalize Cl.inI b 48 57=z at *
 generalize Cl.inI b 0 31=e0 at *
 generalize Cl.isI b 127=i0 at *
 have H1:=Lib.hid h1;have H2:=Lib.hid h2;have H3:=Lib.hid h3
 have K0:=Lib.hid k0
 have J0:=Lib.hid j0
 clear h1 h2 h3 k0 j0
 go_enter Tryz.func169,Tryz.ntmps169
 go_wp2_with fail
 refine (H1.out _).mono ?_;rintro e w' ⟨rfl,rfl⟩
 go_wp2_with fail
 refine (H2.out _).mono ?_;rintro e w' ⟨rfl,rfl⟩
 go_wp2_with fail
 refine (H3.out _).mono ?_;rintro e w' ⟨rfl,rfl⟩
 cases e0 <;> cases i0
 all_goals
   have j0:=J0.out;clear J0
   go_wp2_with (first | (go_at_call 189;((with_reducible refine (K0.out _).mono ?_);rintro e w' ⟨rfl,rfl⟩)))
   go_ret
   exact ⟨rfl,rfl⟩
theorem member_4 (b:Nat) (w:World):Calls Tryz.prog 169 #[.string ⟨#[100,105,103,105,116]⟩,.int .i64 b] w fun e w'=>e=.returned (.bool (Cl.cls 4 b))∧w=w':=by
 show Calls _ _ _ _ fun e w'=>e=.returned (.bool (Cl.inI b 48 57))∧w=w'
 have h1:=in_any b 65 90;have h2:=in_any b 97 122;have h3:=in_any b 48 57
 generalize Cl.inI b 65 90=x at *
 generalize Cl.inI b 97 122=y at *
 generalize Cl.inI b 48 57=z at *
 have H1:=Lib.hid h1;have H2:=Lib.hid h2;have H3:=Lib.hid h3
 clear h1 h2 h3
 go_enter Tryz.func169,Tryz.ntmps169
 go_wp2_with fail
 refine (H1.out _).mono ?_;rintro e w' ⟨rfl,rfl⟩
 go_wp2_with fail
 refine (H2.out _).mono ?_;rintro e w' ⟨rfl,rfl⟩
 go_wp2_with fail
 refine (H3.out _).mono ?_;rintro e w' ⟨rfl,rfl⟩
 go_wp2
 go_ret
 exact ⟨rfl,rfl⟩
theorem member_5 (b:Nat) (w:World):Calls Tryz.prog 169 #[.string ⟨#[103,114,97,112,104]⟩,.int .i64 b] w fun e w'=>e=.returned (.bool (Cl.cls 5 b))∧w=w':=by
 show Calls _ _ _ _ fun e w'=>e=.returned (.bool (Cl.inI b 33 126))∧w=w'
 have h1:=in_any b 65 90;have h2:=in_any b 97 122;have h3:=in_any b 48 57
 have k0:=in_any b 33 126
 generalize Cl.inI b 65 90=x at *
 generalize Cl.inI b 97 122=y at *
 generalize Cl.inI b 48 57=z at *
 generalize Cl.inI b 33 126=e0 at *
 have H1:=Lib.hid h1;have H2:=Lib.hid h2;have H3:=Lib.hid h3
 have K0:=Lib.hid k0
 clear h1 h2 h3 k0
 go_enter Tryz.func169,Tryz.ntmps169
 go_wp2_with fail
 refine (H1.out _).mono ?_;rintro e w' ⟨rfl,rfl⟩
 go_wp2_with fail
 refine (H2.out _).mono ?_;rintro e w' ⟨rfl,rfl⟩
 go_wp2_with fail
 refine (H3.out _).mono ?_;rintro e w' ⟨rfl,rfl⟩
 go_wp2_with (first | (go_at_call 189;((with_reducible refine (K0.out _).mono ?_);rintro e w' ⟨rfl,rfl⟩)))
 go_ret
 exact ⟨rfl,rfl⟩
theorem member_6 (b:Nat) (w:World):Calls Tryz.prog 169 #[.string ⟨#[108,111,119,101,114]⟩,.int .i64 b] w fun e w'=>e=.returned (.bool (Cl.cls 6 b))∧w=w':=by
 show Calls _ _ _ _ fun e w'=>e=.returned (.bool (Cl.inI b 97 122))∧w=w'
 have h1:=in_any b 65 90;have h2:=in_any b 97 122;have h3:=in_any b 48 57
 generalize Cl.inI b 65 90=x at *
 generalize Cl.inI b 97 122=y at *
 generalize Cl.inI b 48 57=z at *
 have H1:=Lib.hid h1;have H2:=Lib.hid h2;have H3:=Lib.hid h3
 clear h1 h2 h3
 go_enter Tryz.func169,Tryz.ntmps169
 go_wp2_with fail
 refine (H1.out _).mono ?_;rintro e w' ⟨rfl,rfl⟩
 go_wp2_with fail
 refine (H2.out _).mono ?_;rintro e w' ⟨rfl,rfl⟩
 go_wp2_with fail
 refine (H3.out _).mono ?_;rintro e w' ⟨rfl,rfl⟩
 go_wp2
 go_ret
 exact ⟨rfl,rfl⟩
theorem member_7 (b:Nat) (w:World):Calls Tryz.prog 169 #[.string ⟨#[112,114,105,110,116]⟩,.int .i64 b] w fun e w'=>e=.returned (.bool (Cl.cls 7 b))∧w=w':=by
 show Calls _ _ _ _ fun e w'=>e=.returned (.bool (Cl.inI b 32 126))∧w=w'
 have h1:=in_any b 65 90;have h2:=in_any b 97 122;have h3:=in_any b 48 57
 have k0:=in_any b 32 126
 generalize Cl.inI b 65 90=x at *
 generalize Cl.inI b 97 122=y at *
 generalize Cl.inI b 48 57=z at *
 generalize Cl.inI b 32 126=e0 at *
 have H1:=Lib.hid h1;have H2:=Lib.hid h2;have H3:=Lib.hid h3
 have K0:=Lib.hid k0
 clear h1 h2 h3 k0
 go_enter Tryz.func169,Tryz.ntmps169
 go_wp2_with fail
 refine (H1.out _).mono ?_;rintro e w' ⟨rfl,rfl⟩
 go_wp2_with fail
 refine (H2.out _).mono ?_;rintro e w' ⟨rfl,rfl⟩
 go_wp2_with fail
 refine (H3.out _).mono ?_;rintro e w' ⟨rfl,rfl⟩
 go_wp2_with (first | (go_at_call 189;((with_reducible refine (K0.out _).mono ?_);rintro e w' ⟨rfl,rfl⟩)))
 go_ret
 exact ⟨rfl,rfl⟩
theorem member_8 (b:Nat) (w:World):Calls Tryz.prog 169 #[.string ⟨#[112,117,110,99,116]⟩,.int .i64 b] w fun e w'=>e=.returned (.bool (Cl.cls 8 b))∧w=w':=by
 show Calls _ _ _ _ fun e w'=>e=.returned (.bool (((Cl.inI b 33 126 && !Cl.inI b 65 90) && !Cl.inI b 97 122) && !Cl.inI b 48 57))∧w=w'
 have h1:=in_any b 65 90;have h2:=in_any b 97 122;have h3:=in_any b 48 57
 have k0:=in_any b 33 126
 generalize Cl.inI b 65 90=x at *
 generalize Cl.inI b 97 122=y at *
 generalize Cl.inI b 48 57=z at *
 generalize Cl.inI b 33 126=e0 at *
 have H1:=Lib.hid h1;have H2:=Lib.hid h2;have H3:=Lib.hid h3
 have K0:=Lib.hid k0
 clear h1 h2 h3 k0
 go_enter Tryz.func169,Tryz.ntmps169
 go_wp2_with fail
 refine (H1.out _).mono ?_;rintro e w' ⟨rfl,rfl⟩
 go_wp2_with fail
 refine (H2.out _).mono ?_;rintro e w' ⟨rfl,rfl⟩
 go_wp2_with fail
 refine (H3.out _).mono ?_;rintro e w' ⟨rfl,rfl⟩
 cases e0 <;> cases x <;> cases y <;> cases z
 all_goals
   go_wp2_with (first | (go_at_call 189;((with_reducible refine (K0.out _).mono ?_);rintro e w' ⟨rfl,rfl⟩)))
   go_ret
   exact ⟨rfl,rfl⟩
theorem member_9 (b:Nat) (w:World):Calls Tryz.prog 169 #[.string ⟨#[115,112,97,99,101]⟩,.int .i64 b] w fun e w'=>e=.returned (.bool (Cl.cls 9 b))∧w=w':=by
 show Calls _ _ _ _ fun e w'=>e=.returned (.bool (Cl.inI b 9 13 || Cl.isI b 32))∧w=w'
 have j0:((b:Int) == 32)=Cl.isI b 32:=rfl
 have h1:=in_any b 65 90;have h2:=in_any b 97 122;have h3:=in_any b 48 57
 have k0:=in_any b 9 13
 generalize Cl.inI b 65 90=x at *
 generalize Cl.inI b 97 122=y at *
 generalize Cl.inI b 48 57=z at *
 generalize Cl.inI b 9 13=e0 at *
 generalize Cl.isI b 32=i0 at *
 have H1:=Lib.hid h1;have H2:=Lib.hid h2;have H3:=Lib.hid h3
 have K0:=Lib.hid k0
 have J0:=Lib.hid j0
 clear h1 h2 h3 k0 j0
 go_enter Tryz.func169,Tryz.ntmps169
 go_wp2_with fail
 refine (H1.out _).mono ?_;rintro e w' ⟨rfl,rfl⟩
 go_wp2_with fail
 refine (H2.out _).mono ?_;rintro e w' ⟨rfl,rfl⟩
 go_wp2_with fail
 refine (H3.out _).mono ?_;rintro e w' ⟨rfl,rfl⟩
 cases e0 <;> cases i0
 all_goals
   have j0:=J0.out;clear J0
   go_wp2_with (first | (go_at_call 189;((with_reducible refine (K0.out _).mono ?_);rintro e w' ⟨rfl,rfl⟩)))
   go_ret
   exact ⟨rfl,rfl⟩
theorem member_10 (b:Nat) (w:World):Calls Tryz.prog 169 #[.string ⟨#[117,112,112,101,114]⟩,.int .i64 b] w fun e w'=>e=.returned (.bool (Cl.cls 10 b))∧w=w':=by
 show Calls _ _ _ _ fun e w'=>e=.returned (.bool (Cl.inI b 65 90))∧w=w'
 have h1:=in_any b 65 90;have h2:=in_any b 97 122;have h3:=in_any b 48 57
 generalize Cl.inI b 65 90=x at *
 generalize Cl.inI b 97 122=y at *
 generalize Cl.inI b 48 57=z at *
 have H1:=Lib.hid h1;have H2:=Lib.hid h2;have H3:=Lib.hid h3
 clear h1 h2 h3
 go_enter Tryz.func169,Tryz.ntmps169
 go_wp2_with fail
 refine (H1.out _).mono ?_;rintro e w' ⟨rfl,rfl⟩
 go_wp2_with fail
 refine (H2.out _).mono ?_;rintro e w' ⟨rfl,rfl⟩
 go_wp2_with fail
 refine (H3.out _).mono ?_;rintro e w' ⟨rfl,rfl⟩
 go_wp2
 go_ret
 exact ⟨rfl,rfl⟩
theorem member_11 (b:Nat) (w:World):Calls Tryz.prog 169 #[.string ⟨#[120,100,105,103,105,116]⟩,.int .i64 b] w fun e w'=>e=.returned (.bool (Cl.cls 11 b))∧w=w':=by
 show Calls _ _ _ _ fun e w'=>e=.returned (.bool ((Cl.inI b 48 57 || Cl.inI b 65 70) || Cl.inI b 97 102))∧w=w'
 have h1:=in_any b 65 90;have h2:=in_any b 97 122;have h3:=in_any b 48 57
 have k0:=in_any b 65 70
 have k1:=in_any b 97 102
 generalize Cl.inI b 65 90=x at *
 generalize Cl.inI b 97 122=y at *
 generalize Cl.inI b 48 57=z at *
 generalize Cl.inI b 65 70=e0 at *
 generalize Cl.inI b 97 102=e1 at *
 have H1:=Lib.hid h1;have H2:=Lib.hid h2;have H3:=Lib.hid h3
 have K0:=Lib.hid k0
 have K1:=Lib.hid k1
 clear h1 h2 h3 k0 k1
 go_enter Tryz.func169,Tryz.ntmps169
 go_wp2_with fail
 refine (H1.out _).mono ?_;rintro e w' ⟨rfl,rfl⟩
 go_wp2_with fail
 refine (H2.out _).mono ?_;rintro e w' ⟨rfl,rfl⟩
 go_wp2_with fail
 refine (H3.out _).mono ?_;rintro e w' ⟨rfl,rfl⟩
 cases z <;> cases e0 <;> cases e1
 all_goals
   go_wp2_with (first | (go_at_call 189;((with_reducible refine (K0.out _).mono ?_);rintro e w' ⟨rfl,rfl⟩)) | (go_at_call 189;((with_reducible refine (K1.out _).mono ?_);rintro e w' ⟨rfl,rfl⟩)))
   go_ret
   exact ⟨rfl,rfl⟩
theorem member_no (s:ByteArray) (hs:Cl.No s) (b:Nat) (w:World):Calls Tryz.prog 169 #[.string s,.int .i64 b] w fun e w'=>e=.returned (.bool false)∧w=w':=by
 have n0:(s.toList == [97,108,110,117,109])=false:=hs 0 (by omega)
 have n1:(s.toList == [97,108,112,104,97])=false:=hs 1 (by omega)
 have n2:(s.toList == [98,108,97,110,107])=false:=hs 2 (by omega)
 have n3:(s.toList == [99,110,116,114,108])=false:=hs 3 (by omega)
 have n4:(s.toList == [100,105,103,105,116])=false:=hs 4 (by omega)
 have n5:(s.toList == [103,114,97,112,104])=false:=hs 5 (by omega)
 have n6:(s.toList == [108,111,119,101,114])=false:=hs 6 (by omega)
 have n7:(s.toList == [112,114,105,110,116])=false:=hs 7 (by omega)
 have n8:(s.toList == [112,117,110,99,116])=false:=hs 8 (by omega)
 have n9:(s.toList == [115,112,97,99,101])=false:=hs 9 (by omega)
 have n10:(s.toList == [117,112,112,101,114])=false:=hs 10 (by omega)
 have n11:(s.toList == [120,100,105,103,105,116])=false:=hs 11 (by omega)
 clear hs
 have h1:=in_any b 65 90;have h2:=in_any b 97 122;have h3:=in_any b 48 57
 generalize Cl.inI b 65 90=x at *
 generalize Cl.inI b 97 122=y at *
 generalize Cl.inI b 48 57=z at *
 have H1:=Lib.hid h1;have H2:=Lib.hid h2;have H3:=Lib.hid h3
 clear h1 h2 h3
 go_enter Tryz.func169,Tryz.ntmps169
 go_wp2_with fail
 refine (H1.out _).mono ?_;rintro e w' ⟨rfl,rfl⟩
 go_wp2_with fail
 refine (H2.out _).mono ?_;rintro e w' ⟨rfl,rfl⟩
 go_wp2_with fail
 refine (H3.out _).mono ?_;rintro e w' ⟨rfl,rfl⟩
 go_wp2
 go_ret
 exact ⟨rfl,rfl⟩
end Go.Proofs.YtfcilopifjddpaaGreatDoor
namespace Go.Proofs.YtfcilopifjddpaaGreatDoor
open Go.RowKit
theorem letter_spec (n:Nat):Cl.cls 1 n=true ↔ (65 ≤ n∧n ≤ 90) ∨ (97 ≤ n∧n ≤ 122):=by
 show (Cl.inI n 65 90 || Cl.inI n 97 122)=true ↔ _
 unfold Cl.inI;simp;omega
theorem xor_case:∀ n:Nat,n < 256→Cl.cls 1 n=true→bits .xor .u8 (n:Int) 32=(Cl.oth n:Int):=by decide +kernel
theorem oth_no {n:Nat} (h:Cl.cls 1 n=false):Cl.oth n=n:=by
 have:¬ ((65 ≤ n∧n ≤ 90) ∨ (97 ≤ n∧n ≤ 122)):=fun k=>by rw [(letter_spec n).2 k] at h;cases h
 unfold Cl.oth;rw [if_neg (by omega),if_neg (by omega)]
theorem letter_any (n:Nat) (hn:n < 256) (w:World):Calls Tryz.prog 201 #[.int .u8 n] w fun e w'=>e=.returned (.bool (Cl.cls 1 n))∧w=w':=by
 by_cases h1:65 ≤ n
 · by_cases h2:n ≤ 90
   · have hr:Cl.cls 1 n=true:=(letter_spec n).2 (.inl ⟨h1,h2⟩)
     rw [hr];clear hr
     have i1:(65:Int) ≤ (n:Int):=by omega
     have i2:(n:Int) ≤ 90:=by omega
     go_enter Tryz.func201,Tryz.ntmps201
     go_wp2
     go_ret
     exact ⟨rfl,rfl⟩
   · have i2:decide ((n:Int) ≤ 90)=false:=by simp;omega
     have i1:(65:Int) ≤ (n:Int):=by omega
     by_cases h3:97 ≤ n
     · by_cases h4:n ≤ 122
       · have hr:Cl.cls 1 n=true:=(letter_spec n).2 (.inr ⟨h3,h4⟩)
         rw [hr];clear hr
         have i3:(97:Int) ≤ (n:Int):=by omega
         have i4:(n:Int) ≤ 122:=by omega
         go_enter Tryz.func201,Tryz.ntmps201
         go_wp2
         go_ret
         exact ⟨rfl,rfl⟩
       · have hr:Cl.cls 1 n=false:=by rw [Bool.eq_false_iff];intro h;have:=(letter_spec n).1 h;omega
         rw [hr];clear hr
         have i3:(97:Int) ≤ (n:Int):=by omega
         have i4:decide ((n:Int) ≤ 122)=false:=by simp;omega
         go_enter Tryz.func201,Tryz.ntmps201
         go_wp2
         go_ret
         exact ⟨rfl,rfl⟩
     · have hr:Cl.cls 1 n=false:=by rw [Bool.eq_false_iff];intro h;have:=(letter_spec n).1 h;omega
       rw [hr];clear hr
       have i3:decide ((97:Int) ≤ (n:Int))=false:=by simp;omega
       go_enter Tryz.func201,Tryz.ntmps201
       go_wp2
       go_ret
       exact ⟨rfl,rfl⟩
 · have hr:Cl.cls 1 n=false:=by rw [Bool.eq_false_iff];intro h;have:=(letter_spec n).1 h;omega
   rw [hr];clear hr
   have i1:decide ((65:Int) ≤ (n:Int))=false:=by simp;omega
   have i3:decide ((97:Int) ≤ (n:Int))=false:=by simp;omega
   go_enter Tryz.func201,Tryz.ntmps201
   go_wp2
   go_ret
   exact ⟨rfl,rfl⟩
theorem other_any (n:Nat) (hn:n < 256) (w:World):Calls Tryz.prog 180 #[.int .u8 n] w fun e w'=>e=.returned (.int .u8 (Cl.oth n))∧w=w':=by
 have hl:=letter_any n hn
 cases h:Cl.cls 1 n with
 | true =>
   rw [h] at hl
   have hx:=xor_case n hn h
   clear h
   have HL:=Lib.hid hl;clear hl
   go_enter Tryz.func180,Tryz.ntmps180
   go_wp2_with (go_at_call 201;refine (HL.out _).mono ?_;rintro e w' ⟨rfl,rfl⟩)
   go_ret
   exact ⟨rfl,rfl⟩
 | false =>
   rw [h] at hl
   rw [oth_no h]
   clear h
   have HL:=Lib.hid hl;clear hl
   go_enter Tryz.func180,Tryz.ntmps180
   go_wp2_with (go_at_call 201;refine (HL.out _).mono ?_;rintro e w' ⟨rfl,rfl⟩)
   go_ret
   exact ⟨rfl,rfl⟩
theorem up_spec (n:Nat):Cl.cls 10 n=true ↔ 65 ≤ n∧n ≤ 90:=by
 show Cl.inI n 65 90=true ↔ _
 unfold Cl.inI;simp;omega
theorem low_spec (n:Nat):Cl.cls 6 n=true ↔ 97 ≤ n∧n ≤ 122:=by
 show Cl.inI n 97 122=true ↔ _
 unfold Cl.inI;simp;omega
theorem refother_any (n:Nat) (hn:n < 256) (w:World):Calls Tryz.prog 170 #[.int .u8 n] w fun e w'=>e=.returned (.int .u8 (Cl.oth n))∧w=w':=by
 have hu:=member_10 n
 have hl:=member_6 n
 cases h:Cl.cls 10 n with
 | true =>
   rw [h] at hu
   have hs:=(up_spec n).1 h
   have ho:((n:Int)+32)=(Cl.oth n:Int):=by unfold Cl.oth;rw [if_pos hs];omega
   have hb:((n:Int)+32) < 256:=by omega
   clear h hl
   have HU:=Lib.hid hu;clear hu
   have HO:=Lib.hid ho;clear ho
   go_enter Tryz.func170,Tryz.ntmps170
   go_wp2_with (go_at_call 169;refine (HU.out _).mono ?_;rintro e w' ⟨rfl,rfl⟩)
   go_ret
   exact ⟨ret_int (by first | exact HO.out | (rw [← HO.out];simp [IntKind.wrap_u8];omega)),rfl⟩
 | false =>
   rw [h] at hu
   have hs:¬ (65 ≤ n∧n ≤ 90):=fun k=>by rw [(up_spec n).2 k] at h;cases h
   cases h':Cl.cls 6 n with
   | true =>
     rw [h'] at hl
     have hs':=(low_spec n).1 h'
     have ho:((n:Int) - 32)=(Cl.oth n:Int):=by unfold Cl.oth;rw [if_neg hs,if_pos hs'];omega
     clear h h'
     have HU:=Lib.hid hu;clear hu
     have HL:=Lib.hid hl;clear hl
     have HO:=Lib.hid ho;clear ho
     have hb:(0:Int) ≤ (n:Int) - 32:=by omega
     go_enter Tryz.func170,Tryz.ntmps170
     go_wp2_with fail
     refine (HU.out _).mono ?_;rintro e w' ⟨rfl,rfl⟩
     go_wp2_with fail
     refine (HL.out _).mono ?_;rintro e w' ⟨rfl,rfl⟩
     go_wp2
     go_ret
     exact ⟨ret_int (by first | exact HO.out | (rw [← HO.out];simp [IntKind.wrap_u8];omega)),rfl⟩
   | false =>
     rw [h'] at hl
     have ho:Cl.oth n=n:=by
       have:¬ (97 ≤ n∧n ≤ 122):=fun k=>by rw [(low_spec n).2 k] at h';cases h'
       unfold Cl.oth;rw [if_neg hs,if_neg this]
     rw [ho]
     clear h h' ho
     have HU:=Lib.hid hu;clear hu
     have HL:=Lib.hid hl;clear hl
     go_enter Tryz.func170,Tryz.ntmps170
     go_wp2_with fail
     refine (HU.out _).mono ?_;rintro e w' ⟨rfl,rfl⟩
     go_wp2_with fail
     refine (HL.out _).mono ?_;rintro e w' ⟨rfl,rfl⟩
     go_wp2
     go_ret
     exact ⟨rfl,rfl⟩
end Go.Proofs.YtfcilopifjddpaaGreatDoor
namespace Go.Proofs.YtfcilopifjddpaaGreatDoor
open Go.RowKit
def Cl.any (p:Nat→Bool):Nat→Bool
 | 0=>false
 | n+1=>Cl.any p n || p n
theorem refnamed_any (s:ByteArray) (P:Nat→Bool) (hm:∀ (b:Nat) (w:World),Calls Tryz.prog 169 #[.string s,.int .i64 b] w fun e w'=>e=.returned (.bool (P b))∧w=w') (w:World) :
   Calls Tryz.prog 138 #[.string s] w fun e w'=>e=.returned (.tuple #[(.agg #[.int .u64 (Oc.U (Oc.mk P 0)),.int .u64 (Oc.U (Oc.mk P 1)),.int .u64 (Oc.U (Oc.mk P 2)),.int .u64 (Oc.U (Oc.mk P 3))]),.bool (Cl.any P 256)])∧Below w.heap.size w w':=by
 have hz:∀ w,(zeroValue 159).run Tryz.prog w=.ok (.agg (bools fun _=>false)) w:=fun _=>by kernel_rfl
 have HM:=Lib.hid hm;clear hm
 go_enter Tryz.func138,Tryz.ntmps138
 go_wp2
 go_loopw [6,5] (fun i so wr=>∃ k:Nat,k ≤ 256∧i=.int .i64 k∧so=.bool (Cl.any P k)∧Below w.heap.size w wr∧w.heap.size+1 < wr.heap.size∧wr.heap[w.heap.size]? = some (.cells #[.int .u64 0,.int .u64 0,.int .u64 0,.int .u64 0] 25) ∧
   wr.heap[w.heap.size+1]? = some (.cells (bools fun j=>decide (j < k) && P j) 159)) (fun i _ _=>256 - (intOf i).toNat)
 case atStart=>exact ⟨0,Nat.zero_le _,rfl,rfl,by go_grown,by simp,(two_new _ _ _).1,(two_new _ _ _).2.trans (by simp)⟩
 case round =>
   obtain ⟨k,hk,rfl,rfl,hbel,hsz,hz0,hz1⟩:=hrel
   by_cases hlt:k < 256
   · obtain ⟨v0,l0,f0⟩:∃ v,wr.cell? ⟨w.heap.size+1,k,none⟩=some v∧wr.frozen? ⟨w.heap.size+1,k,none⟩=false:=⟨_,one_cell hlt hz1⟩
     have HZ0:=Lib.hid hz0
     have HZ1:=Lib.hid hz1
     have hmk:=HM.out k
     have key:∀ b:Bool,P k=b→(wr.setCell ⟨w.heap.size+1,k,none⟩ (.bool b)).heap[w.heap.size+1]? = some (.cells (bools fun j=>decide (j < k+1) && P j) 159):=fun b hb =>
       one_set hlt HZ1.out (by simp [hb]) fun j hj=>by
         have:decide (j < k+1)=decide (j < k):=by simp;omega
         simp only [this]
     have nxt:Cl.any P (k+1)=(Cl.any P k || P k):=rfl
     have KEY:=Lib.hid key
     have NX:=Lib.hid nxt
     have HMK:=Lib.hid hmk
     have same:∀ v,(wr.setCell ⟨w.heap.size+1,k,none⟩ v).cell? ⟨w.heap.size+1,k,none⟩=some v:=fun v=>by
       have:=one_cell hlt hz1
       unfold World.setCell World.cell?
       simp [Array.getElem?_modify,hz1,bools_size,hlt]
     clear hz0 hz1 key nxt hmk hz
     generalize hx:Cl.any P k=x at *
     generalize hy:P k=y at *
     have HX:=Lib.hid hx;have HY:=Lib.hid hy
     clear hx hy
     cases x <;> cases y
     all_goals
       go_wp2_with (go_at_call 169;refine (HMK.out _).mono ?_;rintro e w' ⟨rfl,rfl⟩)
       exact ⟨⟨k+1,by omega,by go_num,by rw [NX.out];rfl,by go_grown,by simpa using hsz,by rw [Below.heap_setCell _ _ _ _ (by simp)];exact HZ0.out,KEY.out _ rfl⟩,by simp [intOf];omega⟩
   · obtain rfl:k=256:=by omega
     have HZ0:=Lib.hid hz0
     have HZ1:=Lib.hid hz1
     clear hz0 hz1
     have hw:=mk_same4 (p:=fun j=>decide (j < 256) && P j) (q:=P) fun i hi=>by simp [hi]
     have HW:=Lib.hid hw
     clear hw
     go_wp2_with (first
       | (refine wpList_load_row rfl 159 (.tmp 4) rfl (w.heap.size+1) rfl 159 (bools fun j=>decide (j < 256) && P j) (0,0) _ HZ1.out Tryz.underlying159 rfl (by rw [bools_size];kernel_rfl) ?_)
       | fail)
     refine (made_any _ _).mono ?_
     rintro e w2 ⟨rfl,hb2⟩
     rw [HW.out.1,HW.out.2.1,HW.out.2.2.1,HW.out.2.2.2]
     obtain ⟨d0,e0,d1,e1,d2,e2,d3,e3,r0,r1,r2,r3⟩:=four_st (keep_blk hb2 HZ0.out)
     have hbw2:=hbel.trans (hb2.mono hbel.size)
     go_wp2
     refine bodyPost_ret (v:=.tuple #[(.agg #[.int .u64 (Oc.U (Oc.mk P 0)),.int .u64 (Oc.U (Oc.mk P 1)),.int .u64 (Oc.U (Oc.mk P 2)),.int .u64 (Oc.U (Oc.mk P 3))]),.bool (Cl.any P 256)]) (by simp [results,Tryz.results138,go_sem,r0,r1,r2,r3]) rfl ⟨rfl, ?_⟩
     go_grown
namespace Cl
def foldTo (p:Nat→Bool) (k:Nat):Nat→Bool:=fun j=>p j || (decide (oth j < k) && p (oth j))
theorem foldTo_zero (p:Nat→Bool):foldTo p 0=p:=by funext j;simp [foldTo]
theorem foldTo_end (p:Nat→Bool) {j:Nat} (h:j < 256):foldTo p 256 j=fold p j:=by
 have:=oth_lt h
 simp [foldTo,fold,this]
theorem foldTo_old {p:Nat→Bool} {k j:Nat} (h:j ≠ oth k):foldTo p (k+1) j=foldTo p k j:=by
 have:decide (oth j < k+1)=decide (oth j < k):=by
   have:oth j ≠ k:=fun e=>h (by rw [← e,oth_oth])
   rw [decide_eq_decide];omega
 unfold foldTo;rw [this]
theorem foldTo_new {p:Nat→Bool} {k:Nat} (h:p k=true):foldTo p (k+1) (oth k)=true:=by
 unfold foldTo;rw [oth_oth];simp [h]
theorem foldTo_no {p:Nat→Bool} {k:Nat} (h:p k=false):foldTo p (k+1)=foldTo p k:=by
 funext j
 by_cases e:j=oth k
 · subst e;unfold foldTo;rw [oth_oth];simp [h]
 · exact foldTo_old e
end Cl
theorem reffold_any (a b c d:BitVec 64) (w:World) :
   Calls Tryz.prog 140 #[(.agg #[.int .u64 (Oc.U a),.int .u64 (Oc.U b),.int .u64 (Oc.U c),.int .u64 (Oc.U d)])] w fun e w'=>e=.returned (.agg #[.int .u64 (Oc.U (Oc.mk (Cl.fold (Oc.mem a b c d)) 0)),.int .u64 (Oc.U (Oc.mk (Cl.fold (Oc.mem a b c d)) 1)),.int .u64 (Oc.U (Oc.mk (Cl.fold (Oc.mem a b c d)) 2)),.int .u64 (Oc.U (Oc.mk (Cl.fold (Oc.mem a b c d)) 3))])∧Below w.heap.size w w':=by
 have hz:∀ w,(zeroValue 159).run Tryz.prog w=.ok (.agg (bools fun _=>false)) w:=fun _=>by kernel_rfl
 go_enter Tryz.func140,Tryz.ntmps140
 go_wp2_with fail
 refine (bits_any _ _ _ _ _).mono ?_
 rintro e w1 ⟨rfl,hb1⟩
 have hr:w1.heap[w.heap.size+1]? = some (.cells #[.int .u64 0,.int .u64 0,.int .u64 0,.int .u64 0] 25):=(hb1.block _ (by simp)).trans (two_new _ _ _).2
 have hsz1:w.heap.size+2 ≤ w1.heap.size:=by have:=hb1.size;simp at this;omega
 have hb0:Below w.heap.size w w1:=(((Below.refl _ _).alloc (Nat.le_refl _) _).alloc (by simp) _).trans (hb1.mono (by simp;omega))
 have HR:=Lib.hid hr;have HB:=Lib.hid hb0
 clear hr hb1 hb0
 go_upto_region 2 with (first
   | (refine wpList_store_row rfl 159 (.tmp 3) (.tmp 7) rfl w1.heap.size (bools (Oc.mem a b c d)) rfl rfl 159 (bools fun _=>false) (heap_alloc_new _ _) (by rw [bools_size];kernel_rfl) (by rw [bools_size,bools_size]) (bools_one _) ?_)
   | fail)
 have hw2:((w1.alloc (.cells (bools fun _=>false) 159)).setRow w1.heap.size (bools (Oc.mem a b c d))).heap[w1.heap.size]? = some (.cells (bools (Oc.mem a b c d)) 159):=heap_setRow (heap_alloc_new _ _)
 have hb2:=below_setRow (HB.out.alloc HB.out.size (.cells (bools fun _=>false) 159)) (show w.heap.size ≤ w1.heap.size by omega) (bools (Oc.mem a b c d))
 have hr2:=(heap_setRow_other (w1.alloc (.cells (bools fun _=>false) 159)) w1.heap.size (bools (Oc.mem a b c d)) (show w.heap.size+1 ≠ w1.heap.size by omega)).trans (heap_alloc_lt HR.out)
 have hs2:((w1.alloc (.cells (bools fun _=>false) 159)).setRow w1.heap.size (bools (Oc.mem a b c d))).heap.size=w1.heap.size+1:=by simp
 generalize World.setRow _ _ _=W2 at *
 have H2:=Lib.hid hw2;have B2:=Lib.hid hb2;have R2:=Lib.hid hr2;have S2:=Lib.hid hs2
 clear hw2 hb2 hr2 hs2 HR HB
 go_upto_region 3 with (first
   | (refine wpList_load_row rfl 159 (.tmp 3) rfl w1.heap.size rfl 159 (bools (Oc.mem a b c d)) (0,0) _ H2.out Tryz.underlying159 rfl (by rw [bools_size];kernel_rfl) ?_)
   | (refine wpList_store_row rfl 159 (.tmp 4) (.tmp 8) rfl W2.heap.size (bools (Oc.mem a b c d)) rfl rfl 159 (bools fun _=>false) (heap_alloc_new _ _) (by rw [bools_size];kernel_rfl) (by rw [bools_size,bools_size]) (bools_one _) ?_)
   | fail)
 have hw3:((W2.alloc (.cells (bools fun _=>false) 159)).setRow W2.heap.size (bools (Oc.mem a b c d))).heap[W2.heap.size]? = some (.cells (bools (Oc.mem a b c d)) 159):=heap_setRow (heap_alloc_new _ _)
 have hb3:=below_setRow (B2.out.alloc B2.out.size (.cells (bools fun _=>false) 159)) B2.out.size (bools (Oc.mem a b c d))
 have hr3:=(heap_setRow_other (W2.alloc (.cells (bools fun _=>false) 159)) W2.heap.size (bools (Oc.mem a b c d)) (show w.heap.size+1 ≠ W2.heap.size by rw [S2.out];omega)).trans (heap_alloc_lt R2.out)
 have ho3:=(heap_setRow_other (W2.alloc (.cells (bools fun _=>false) 159)) W2.heap.size (bools (Oc.mem a b c d)) (show w1.heap.size ≠ W2.heap.size by rw [S2.out];omega)).trans (heap_alloc_lt H2.out)
 generalize World.setRow _ _ _=W3 at *
 have hlt2:w1.heap.size < W2.heap.size:=by rw [S2.out];omega
 have hlw:w.heap.size+1 < W2.heap.size:=by omega
 rw [← Cl.foldTo_zero (Oc.mem a b c d)] at hw3
 have H3:=Lib.hid hw3;have B3:=Lib.hid hb3;have R3:=Lib.hid hr3;have O3:=Lib.hid ho3
 clear hw3 hb3 hr3 ho3 H2 B2 R2 S2 hz
 go_wp2
 go_loopw [5] (fun i wr=>∃ k:Nat,k ≤ 256∧i=.int .i64 k∧Below w.heap.size w wr∧wr.heap[w.heap.size+1]? = some (.cells #[.int .u64 0,.int .u64 0,.int .u64 0,.int .u64 0] 25)∧wr.heap[w1.heap.size]? = some (.cells (bools (Oc.mem a b c d)) 159) ∧
   wr.heap[W2.heap.size]? = some (.cells (bools (Cl.foldTo (Oc.mem a b c d) k)) 159)) (fun i _=>256 - (intOf i).toNat)
 case atStart=>exact ⟨0,Nat.zero_le _,rfl,B3.out,R3.out,O3.out,H3.out⟩
 case round =>
   clear B3 R3 O3 H3
   obtain ⟨k,hk,rfl,hbel,hz0,hz1,hz2⟩:=hrel
   by_cases hlt:k < 256
   · obtain ⟨l0,-⟩:=one_cell hlt hz1
     have hol:=Cl.oth_lt hlt
     obtain ⟨v0,l2,f2⟩:∃ v,wr.cell? ⟨W2.heap.size,Cl.oth k,none⟩=some v∧wr.frozen? ⟨W2.heap.size,Cl.oth k,none⟩=false:=⟨_,one_cell hol hz2⟩
     have HB:=Lib.hid hbel;have Z0:=Lib.hid hz0;have Z1:=Lib.hid hz1;have Z2:=Lib.hid hz2
     clear hbel hz0 hz1 hz2
     have hcv:IntKind.u8.wrap (k:Int)=(k:Int):=by rw [IntKind.wrap_u8];omega
     cases hm:Oc.mem a b c d k with
     | true =>
       rw [hm] at l0
       have hn:=one_set hol Z2.out (Cl.foldTo_new hm) (fun j hj=>Cl.foldTo_old hj)
       have HN:=Lib.hid hn
       clear hn hm
       go_wp2_with fail
       refine (refother_any k hlt _).mono ?_
       rintro e w' ⟨rfl,rfl⟩
       go_wp2
       refine ⟨⟨k+1,by omega,by go_num, ?_, ?_, ?_,HN.out⟩,by simp [intOf];omega⟩
       · exact HB.out.setCell (by show w.heap.size ≤ W2.heap.size;omega) _
       · rw [Below.heap_setCell _ _ _ _ (by show w.heap.size+1 ≠ W2.heap.size;omega)];exact Z0.out
       · rw [Below.heap_setCell _ _ _ _ (by show w1.heap.size ≠ W2.heap.size;omega)];exact Z1.out
     | false =>
       rw [hm] at l0
       have hn:=Cl.foldTo_no hm
       have HN:=Lib.hid hn
       clear hn hm
       go_wp2
       refine ⟨⟨k+1,by omega,by go_num,HB.out,Z0.out,Z1.out, ?_⟩,by simp [intOf];omega⟩
       rw [HN.out];exact Z2.out
   · obtain rfl:k=256:=by omega
     have hw:=mk_same4 (p:=Cl.foldTo (Oc.mem a b c d) 256) (q:=Cl.fold (Oc.mem a b c d)) fun i hi=>Cl.foldTo_end _ hi
     have HW:=Lib.hid hw
     have HB:=Lib.hid hbel;have Z0:=Lib.hid hz0;have Z2:=Lib.hid hz2
     clear hw hbel hz0 hz1 hz2
     go_wp2_with (first
       | (refine wpList_load_row rfl 159 (.tmp 4) rfl W2.heap.size rfl 159 (bools (Cl.foldTo (Oc.mem a b c d) 256)) (0,0) _ Z2.out Tryz.underlying159 rfl (by rw [bools_size];kernel_rfl) ?_)
       | fail)
     refine (made_any _ _).mono ?_
     rintro e w4 ⟨rfl,hb4⟩
     rw [HW.out.1,HW.out.2.1,HW.out.2.2.1,HW.out.2.2.2]
     obtain ⟨d0,e0,d1,e1,d2,e2,d3,e3,r0,r1,r2,r3⟩:=four_st (keep_blk hb4 Z0.out)
     have hbw:=HB.out.trans (hb4.mono HB.out.size)
     clear hb4
     go_wp2
     refine bodyPost_ret (v:=(.agg #[.int .u64 (Oc.U (Oc.mk (Cl.fold (Oc.mem a b c d)) 0)),.int .u64 (Oc.U (Oc.mk (Cl.fold (Oc.mem a b c d)) 1)),.int .u64 (Oc.U (Oc.mk (Cl.fold (Oc.mem a b c d)) 2)),.int .u64 (Oc.U (Oc.mk (Cl.fold (Oc.mem a b c d)) 3))])) (by simp [results,Tryz.results140,go_sem,r0,r1,r2,r3]) rfl ⟨rfl, ?_⟩
     go_grown
end Go.Proofs.YtfcilopifjddpaaGreatDoor
namespace Go.Proofs.YtfcilopifjddpaaGreatDoor
open Go.RowKit
def Known (s:ByteArray) (k:Nat):Prop:=(∀ w,Calls Tryz.prog 204 #[.string s] w fun e w'=>e=.returned (.tuple #[(.agg #[.int .u64 (Oc.U (Cl.cw k 0)),.int .u64 (Oc.U (Cl.cw k 1)),.int .u64 (Oc.U (Cl.cw k 2)),.int .u64 (Oc.U (Cl.cw k 3))]),.nilIface])∧Below w.heap.size w w') ∧
 ∀ w,Calls Tryz.prog 138 #[.string s] w fun e w'=>e=.returned (.tuple #[(.agg #[.int .u64 (Oc.U (Cl.cw k 0)),.int .u64 (Oc.U (Cl.cw k 1)),.int .u64 (Oc.U (Cl.cw k 2)),.int .u64 (Oc.U (Cl.cw k 3))]),.bool true])∧Below w.heap.size w w'
theorem refnamed_0 (w:World):Calls Tryz.prog 138 #[.string (Cl.nm 0)] w fun e w'=>e=.returned (.tuple #[(.agg #[.int .u64 (Oc.U (Cl.cw 0 0)),.int .u64 (Oc.U (Cl.cw 0 1)),.int .u64 (Oc.U (Cl.cw 0 2)),.int .u64 (Oc.U (Cl.cw 0 3))]),.bool true])∧Below w.heap.size w w':=by
 have h:=refnamed_any (Cl.nm 0) (Cl.cls 0) (member_0) w
 rw [show Cl.any (Cl.cls 0) 256=true by decide +kernel] at h
 exact h
theorem refnamed_1 (w:World):Calls Tryz.prog 138 #[.string (Cl.nm 1)] w fun e w'=>e=.returned (.tuple #[(.agg #[.int .u64 (Oc.U (Cl.cw 1 0)),.int .u64 (Oc.U (Cl.cw 1 1)),.int .u64 (Oc.U (Cl.cw 1 2)),.int .u64 (Oc.U (Cl.cw 1 3))]),.bool true])∧Below w.heap.size w w':=by
 have h:=refnamed_any (Cl.nm 1) (Cl.cls 1) (member_1) w
 rw [show Cl.any (Cl.cls 1) 256=true by decide +kernel] at h
 exact h
theorem refnamed_2 (w:World):Calls Tryz.prog 138 #[.string (Cl.nm 2)] w fun e w'=>e=.returned (.tuple #[(.agg #[.int .u64 (Oc.U (Cl.cw 2 0)),.int .u64 (Oc.U (Cl.cw 2 1)),.int .u64 (Oc.U (Cl.cw 2 2)),.int .u64 (Oc.U (Cl.cw 2 3))]),.bool true])∧Below w.heap.size w w':=by
 have h:=refnamed_any (Cl.nm 2) (Cl.cls 2) (member_2) w
 rw [show Cl.any (Cl.cls 2) 256=true by decide +kernel] at h
 exact h
theorem refnamed_3 (w:World):Calls Tryz.prog 138 #[.string (Cl.nm 3)] w fun e w'=>e=.returned (.tuple #[(.agg #[.int .u64 (Oc.U (Cl.cw 3 0)),.int .u64 (Oc.U (Cl.cw 3 1)),.int .u64 (Oc.U (Cl.cw 3 2)),.int .u64 (Oc.U (Cl.cw 3 3))]),.bool true])∧Below w.heap.size w w':=by
 have h:=refnamed_any (Cl.nm 3) (Cl.cls 3) (member_3) w
 rw [show Cl.any (Cl.cls 3) 256=true by decide +kernel] at h
 exact h
theorem refnamed_4 (w:World):Calls Tryz.prog 138 #[.string (Cl.nm 4)] w fun e w'=>e=.returned (.tuple #[(.agg #[.int .u64 (Oc.U (Cl.cw 4 0)),.int .u64 (Oc.U (Cl.cw 4 1)),.int .u64 (Oc.U (Cl.cw 4 2)),.int .u64 (Oc.U (Cl.cw 4 3))]),.bool true])∧Below w.heap.size w w':=by
 have h:=refnamed_any (Cl.nm 4) (Cl.cls 4) (member_4) w
 rw [show Cl.any (Cl.cls 4) 256=true by decide +kernel] at h
 exact h
theorem refnamed_5 (w:World):Calls Tryz.prog 138 #[.string (Cl.nm 5)] w fun e w'=>e=.returned (.tuple #[(.agg #[.int .u64 (Oc.U (Cl.cw 5 0)),.int .u64 (Oc.U (Cl.cw 5 1)),.int .u64 (Oc.U (Cl.cw 5 2)),.int .u64 (Oc.U (Cl.cw 5 3))]),.bool true])∧Below w.heap.size w w':=by
 have h:=refnamed_any (Cl.nm 5) (Cl.cls 5) (member_5) w
 rw [show Cl.any (Cl.cls 5) 256=true by decide +kernel] at h
 exact h
theorem refnamed_6 (w:World):Calls Tryz.prog 138 #[.string (Cl.nm 6)] w fun e w'=>e=.returned (.tuple #[(.agg #[.int .u64 (Oc.U (Cl.cw 6 0)),.int .u64 (Oc.U (Cl.cw 6 1)),.int .u64 (Oc.U (Cl.cw 6 2)),.int .u64 (Oc.U (Cl.cw 6 3))]),.bool true])∧Below w.heap.size w w':=by
 have h:=refnamed_any (Cl.nm 6) (Cl.cls 6) (member_6) w
 rw [show Cl.any (Cl.cls 6) 256=true by decide +kernel] at h
 exact h
theorem refnamed_7 (w:World):Calls Tryz.prog 138 #[.string (Cl.nm 7)] w fun e w'=>e=.returned (.tuple #[(.agg #[.int .u64 (Oc.U (Cl.cw 7 0)),.int .u64 (Oc.U (Cl.cw 7 1)),.int .u64 (Oc.U (Cl.cw 7 2)),.int .u64 (Oc.U (Cl.cw 7 3))]),.bool true])∧Below w.heap.size w w':=by
 have h:=refnamed_any (Cl.nm 7) (Cl.cls 7) (member_7) w
 rw [show Cl.any (Cl.cls 7) 256=true by decide +kernel] at h
 exact h
theorem refnamed_8 (w:World):Calls Tryz.prog 138 #[.string (Cl.nm 8)] w fun e w'=>e=.returned (.tuple #[(.agg #[.int .u64 (Oc.U (Cl.cw 8 0)),.int .u64 (Oc.U (Cl.cw 8 1)),.int .u64 (Oc.U (Cl.cw 8 2)),.int .u64 (Oc.U (Cl.cw 8 3))]),.bool true])∧Below w.heap.size w w':=by
 have h:=refnamed_any (Cl.nm 8) (Cl.cls 8) (member_8) w
 rw [show Cl.any (Cl.cls 8) 256=true by decide +kernel] at h
 exact h
theorem refnamed_9 (w:World):Calls Tryz.prog 138 #[.string (Cl.nm 9)] w fun e w'=>e=.returned (.tuple #[(.agg #[.int .u64 (Oc.U (Cl.cw 9 0)),.int .u64 (Oc.U (Cl.cw 9 1)),.int .u64 (Oc.U (Cl.cw 9 2)),.int .u64 (Oc.U (Cl.cw 9 3))]),.bool true])∧Below w.heap.size w w':=by
 have h:=refnamed_any (Cl.nm 9) (Cl.cls 9) (member_9) w
 rw [show Cl.any (Cl.cls 9) 256=true by decide +kernel] at h
 exact h
theorem refnamed_10 (w:World):Calls Tryz.prog 138 #[.string (Cl.nm 10)] w fun e w'=>e=.returned (.tuple #[(.agg #[.int .u64 (Oc.U (Cl.cw 10 0)),.int .u64 (Oc.U (Cl.cw 10 1)),.int .u64 (Oc.U (Cl.cw 10 2)),.int .u64 (Oc.U (Cl.cw 10 3))]),.bool true])∧Below w.heap.size w w':=by
 have h:=refnamed_any (Cl.nm 10) (Cl.cls 10) (member_10) w
 rw [show Cl.any (Cl.cls 10) 256=true by decide +kernel] at h
 exact h
theorem refnamed_11 (w:World):Calls Tryz.prog 138 #[.string (Cl.nm 11)] w fun e w'=>e=.returned (.tuple #[(.agg #[.int .u64 (Oc.U (Cl.cw 11 0)),.int .u64 (Oc.U (Cl.cw 11 1)),.int .u64 (Oc.U (Cl.cw 11 2)),.int .u64 (Oc.U (Cl.cw 11 3))]),.bool true])∧Below w.heap.size w w':=by
 have h:=refnamed_any (Cl.nm 11) (Cl.cls 11) (member_11) w
 rw [show Cl.any (Cl.cls 11) 256=true by decide +kernel] at h
 exact h
theorem known:∀ k,k < 12→Known (Cl.nm k) k
 | 0,_=>⟨named_0,refnamed_0⟩
 | 1,_=>⟨named_1,refnamed_1⟩
 | 2,_=>⟨named_2,refnamed_2⟩
 | 3,_=>⟨named_3,refnamed_3⟩
 | 4,_=>⟨named_4,refnamed_4⟩
 | 5,_=>⟨named_5,refnamed_5⟩
 | 6,_=>⟨named_6,refnamed_6⟩
 | 7,_=>⟨named_7,refnamed_7⟩
 | 8,_=>⟨named_8,refnamed_8⟩
 | 9,_=>⟨named_9,refnamed_9⟩
 | 10,_=>⟨named_10,refnamed_10⟩
 | 11,_=>⟨named_11,refnamed_11⟩
 | k+12,h=>absurd h (by omega)
theorem toList_loop (s:ByteArray):∀ n i r,s.size - i=n→ByteArray.toList.loop s i r=r.reverse ++ s.data.toList.drop i:=by
 intro n
 induction n with
 | zero =>
   intro i r h
   unfold ByteArray.toList.loop
   rw [if_neg (by omega),List.drop_eq_nil_of_le (by simp;show s.data.size ≤ i;have:s.data.size=s.size:=rfl;omega),List.append_nil]
 | succ n ih =>
   intro i r h
   have hi:i < s.size:=by omega
   unfold ByteArray.toList.loop
   rw [if_pos hi,ih (i+1) _ (by omega)]
   have hl:i < s.data.toList.length:=by simpa using hi
   rw [List.drop_eq_getElem_cons hl]
   have:s.get! i=s.data.toList[i]:=by
     show s.data[i]! = _
     rw [getElem!_pos s.data i hi];simp
   rw [this];simp
theorem toList_eq (s:ByteArray):s.toList=s.data.toList:=by
 show ByteArray.toList.loop s 0 []=_
 rw [toList_loop s s.size 0 [] (by omega)];simp
theorem nm_bytes:∀ k,k < 12→(Cl.nm k).data.toList=Cl.nl k:=by decide +kernel
theorem refnamed_no (s:ByteArray) (hs:Cl.No s) (w:World):Calls Tryz.prog 138 #[.string s] w fun e w'=>e=.returned (.tuple #[.agg #[.int .u64 0,.int .u64 0,.int .u64 0,.int .u64 0],.bool false])∧Below w.heap.size w w':=by
 have h:=refnamed_any s (fun _=>false) (member_no s hs) w
 rw [show Cl.any (fun _=>false) 256=false by decide +kernel,Oc.mk_none,Oc.mk_none,Oc.mk_none,Oc.mk_none] at h
 exact h
theorem clsAt_some {t:ByteArray} {k:Nat} (h:Br.clsAt (t.data.toList.map (·.toNat))=some k):k < 12∧t=Cl.nm k:=by
 unfold Br.clsAt at h
 have hk:=List.mem_range.1 (List.mem_of_find?_eq_some h)
 refine ⟨hk, ?_⟩
 have h1:=List.find?_some h
 simp only [beq_iff_eq] at h1
 have h2:Cl.nl k=t.data.toList:=List.map_inj_right (fun x y h=>UInt8.toNat_inj.1 h) |>.1 h1
 rw [← nm_bytes k hk] at h2
 cases t;cases hh:Cl.nm k with
 | mk d=>rw [hh] at h2;simp only at h2;rw [Array.toList_inj.1 h2]
theorem clsAt_none {t:ByteArray} (h:Br.clsAt (t.data.toList.map (·.toNat))=none):Cl.No t:=by
 intro k hk
 unfold Br.clsAt at h
 have:=List.find?_eq_none.1 h k (List.mem_range.2 hk)
 cases hb:t.toList == Cl.nl k with
 | false=>rfl
 | true =>
   rw [beq_iff_eq,toList_eq] at hb
   rw [hb] at this
   simp at this
end Go.Proofs.YtfcilopifjddpaaGreatDoor
