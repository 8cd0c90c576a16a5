/- Part 1 of what these proofs need. -/
import Derived.WalkKit
import Derived.WalkSpells
import Derived.WalkLawsBesides
import Derived.Handy
import Derived.Lib.Hide
import Derived.Test.YtnfdknhhkdphhaaGreatDoorRows
import Derived.Deep.MidRow
import Derived.Laws.AppendOwn
import Derived.Great.BuildSlice
import Derived.Laws.MakeOwn
import Derived.Deep.RegionWith
import Derived.Deep.RegionHeld3
import Derived.StillTailTactics
import Derived.Deep.QuietTactic
import Derived.BigQuiet
import Derived.RegionTactic
import Derived.Shelf.Spec.TrailingZeros
import Derived.Deep.CutBlock
import Derived.ChangeAlike
import Derived.Deep.Cut
import Derived.Test.YtnfdknhhkdphhaaGreatDoorChecked
import Derived.LaidEql
import Derived.Stop.Asserts
import Derived.Stop.IfaceNil
import Derived.RowKitTokens
import Derived.Deep.LoopGhost
import Derived.ProofKit
import Derived.LaidMore
import Derived.LaidHandle
import Derived.OpenShut
import Derived.MakeChecks
import Derived.Stop.LaidErr
set_option maxRecDepth 100000
set_option maxHeartbeats 16000000
namespace Go.Proofs.YtnfdknhhkdphhaaGreatDoor
open Go.RowKit
theorem ret_int {k:IntKind} {a b:Int} (h:a=b):Ending.returned (.int k a)=.returned (.int k b):=by rw [h]
theorem ret_bool {a b:Bool} (h:a=b):Ending.returned (.bool a)=.returned (.bool b):=by rw [h]
theorem four {w:World} {b:Nat} {x0 x1 x2 x3:Value} {t:TypeId} (h:w.heap[b]? = some (.cells #[x0,x1,x2,x3] t)) :
   w.cell? ⟨b,0,none⟩=some x0∧w.cell? ⟨b,1,none⟩=some x1∧w.cell? ⟨b,2,none⟩=some x2∧w.cell? ⟨b,3,none⟩=some x3 ∧
   w.frozen? ⟨b,0,none⟩=false∧w.frozen? ⟨b,1,none⟩=false∧w.frozen? ⟨b,2,none⟩=false∧w.frozen? ⟨b,3,none⟩=false:=by
 simp [World.cell?,World.frozen?,h]
theorem heap_alloc_lt {w:World} {b:Nat} {o x:Obj} (h:w.heap[b]? = some x):(w.alloc o).heap[b]? = some x:=by
 rw [Below.heap_alloc _ _ _ (by have:=Array.getElem?_eq_some_iff.1 h;exact this.1)];exact h
theorem set4 {w:World} {b:Nat} {x0 x1 x2 x3:Value} {t:TypeId} (v0 v1 v2 v3:Value) (h:w.heap[b]? = some (.cells #[x0,x1,x2,x3] t)) :
   ((((w.setCell ⟨b,0,none⟩ v0).setCell ⟨b,1,none⟩ v1).setCell ⟨b,2,none⟩ v2).setCell ⟨b,3,none⟩ v3).heap[b]? = some (.cells #[v0,v1,v2,v3] t):=by
 simp [World.setCell,Array.getElem?_modify,h]
theorem set4_other {w:World} {b b':Nat} {x:Obj} (v0 v1 v2 v3:Value) (h:w.heap[b']? = some x) (hb:b' ≠ b) :
   ((((w.setCell ⟨b,0,none⟩ v0).setCell ⟨b,1,none⟩ v1).setCell ⟨b,2,none⟩ v2).setCell ⟨b,3,none⟩ v3).heap[b']? = some x:=by
 rw [Below.heap_setCell _ _ _ _ hb,Below.heap_setCell _ _ _ _ hb,Below.heap_setCell _ _ _ _ hb,Below.heap_setCell _ _ _ _ hb];exact h
theorem four_on {w:World} {b:Nat} {x0 x1 x2 x3:Value} {t:TypeId} (h:w.heap[b]? = some (.cells #[x0,x1,x2,x3] t)) :
   (∀ o,(w.alloc o).cell? ⟨b,0,none⟩=some x0)∧(∀ o,(w.alloc o).frozen? ⟨b,0,none⟩=false) ∧
   (∀ v o,((w.setCell ⟨b,0,none⟩ v).alloc o).cell? ⟨b,1,none⟩=some x1)∧(∀ v o,((w.setCell ⟨b,0,none⟩ v).alloc o).frozen? ⟨b,1,none⟩=false) ∧
   (∀ v v' o,(((w.setCell ⟨b,0,none⟩ v).setCell ⟨b,1,none⟩ v').alloc o).cell? ⟨b,2,none⟩=some x2)∧(∀ v v' o,(((w.setCell ⟨b,0,none⟩ v).setCell ⟨b,1,none⟩ v').alloc o).frozen? ⟨b,2,none⟩=false) ∧
   (∀ v v' v'' o,((((w.setCell ⟨b,0,none⟩ v).setCell ⟨b,1,none⟩ v').setCell ⟨b,2,none⟩ v'').alloc o).cell? ⟨b,3,none⟩=some x3)∧(∀ v v' v'' o,((((w.setCell ⟨b,0,none⟩ v).setCell ⟨b,1,none⟩ v').setCell ⟨b,2,none⟩ v'').alloc o).frozen? ⟨b,3,none⟩=false):=by
 have k1:∀ v,(w.setCell ⟨b,0,none⟩ v).heap[b]? = some (.cells #[v,x1,x2,x3] t):=fun v=>by simp [World.setCell,Array.getElem?_modify,h]
 have k2:∀ v v',((w.setCell ⟨b,0,none⟩ v).setCell ⟨b,1,none⟩ v').heap[b]? = some (.cells #[v,v',x2,x3] t):=fun v v'=>by simp [World.setCell,Array.getElem?_modify,h]
 have k3:∀ v v' v'',(((w.setCell ⟨b,0,none⟩ v).setCell ⟨b,1,none⟩ v').setCell ⟨b,2,none⟩ v'').heap[b]? = some (.cells #[v,v',v'',x3] t):=fun v v' v''=>by simp [World.setCell,Array.getElem?_modify,h]
 refine ⟨fun o=>?_,fun o=>?_,fun v o=>?_,fun v o=>?_,fun v v' o=>?_,fun v v' o=>?_,fun v v' v'' o=>?_,fun v v' v'' o=>?_⟩
 · exact (four (heap_alloc_lt (o:=o) h)).1
 · exact (four (heap_alloc_lt (o:=o) h)).2.2.2.2.1
 · exact (four (heap_alloc_lt (o:=o) (k1 v))).2.1
 · exact (four (heap_alloc_lt (o:=o) (k1 v))).2.2.2.2.2.1
 · exact (four (heap_alloc_lt (o:=o) (k2 v v'))).2.2.1
 · exact (four (heap_alloc_lt (o:=o) (k2 v v'))).2.2.2.2.2.2.1
 · exact (four (heap_alloc_lt (o:=o) (k3 v v' v''))).2.2.2.1
 · exact (four (heap_alloc_lt (o:=o) (k3 v v' v''))).2.2.2.2.2.2.2
theorem four_st {w:World} {b:Nat} {x0 x1 x2 x3:Value} {t:TypeId} (h:w.heap[b]? = some (.cells #[x0,x1,x2,x3] t)) :
   w.cell? ⟨b,0,none⟩=some x0∧w.frozen? ⟨b,0,none⟩=false ∧
   (∀ v,(w.setCell ⟨b,0,none⟩ v).cell? ⟨b,1,none⟩=some x1)∧(∀ v,(w.setCell ⟨b,0,none⟩ v).frozen? ⟨b,1,none⟩=false) ∧
   (∀ v v',((w.setCell ⟨b,0,none⟩ v).setCell ⟨b,1,none⟩ v').cell? ⟨b,2,none⟩=some x2)∧(∀ v v',((w.setCell ⟨b,0,none⟩ v).setCell ⟨b,1,none⟩ v').frozen? ⟨b,2,none⟩=false) ∧
   (∀ v v' v'',(((w.setCell ⟨b,0,none⟩ v).setCell ⟨b,1,none⟩ v').setCell ⟨b,2,none⟩ v'').cell? ⟨b,3,none⟩=some x3)∧(∀ v v' v'',(((w.setCell ⟨b,0,none⟩ v).setCell ⟨b,1,none⟩ v').setCell ⟨b,2,none⟩ v'').frozen? ⟨b,3,none⟩=false) ∧
   (∀ v,(w.setCell ⟨b,0,none⟩ v).cell? ⟨b,0,none⟩=some v) ∧
   (∀ v v',((w.setCell ⟨b,0,none⟩ v).setCell ⟨b,1,none⟩ v').cell? ⟨b,1,none⟩=some v') ∧
   (∀ v v' v'',(((w.setCell ⟨b,0,none⟩ v).setCell ⟨b,1,none⟩ v').setCell ⟨b,2,none⟩ v'').cell? ⟨b,2,none⟩=some v'') ∧
   (∀ v v' v'' v3,((((w.setCell ⟨b,0,none⟩ v).setCell ⟨b,1,none⟩ v').setCell ⟨b,2,none⟩ v'').setCell ⟨b,3,none⟩ v3).cell? ⟨b,3,none⟩=some v3):=by
 have k1:∀ v,(w.setCell ⟨b,0,none⟩ v).heap[b]? = some (.cells #[v,x1,x2,x3] t):=fun v=>by simp [World.setCell,Array.getElem?_modify,h]
 have k2:∀ v v',((w.setCell ⟨b,0,none⟩ v).setCell ⟨b,1,none⟩ v').heap[b]? = some (.cells #[v,v',x2,x3] t):=fun v v'=>by simp [World.setCell,Array.getElem?_modify,h]
 have k3:∀ v v' v'',(((w.setCell ⟨b,0,none⟩ v).setCell ⟨b,1,none⟩ v').setCell ⟨b,2,none⟩ v'').heap[b]? = some (.cells #[v,v',v'',x3] t):=fun v v' v''=>by simp [World.setCell,Array.getElem?_modify,h]
 have k4:=fun v v' v'' v3=>set4 v v' v'' v3 h
 exact ⟨(four h).1,(four h).2.2.2.2.1,fun v=>(four (k1 v)).2.1,fun v=>(four (k1 v)).2.2.2.2.2.1,fun v v'=>(four (k2 v v')).2.2.1,fun v v'=>(four (k2 v v')).2.2.2.2.2.2.1,fun v v' v''=>(four (k3 v v' v'')).2.2.2.1,fun v v' v''=>(four (k3 v v' v'')).2.2.2.2.2.2.2,
   fun v=>(four (k1 v)).1,fun v v'=>(four (k2 v v')).2.1,fun v v' v''=>(four (k3 v v' v'')).2.2.1,fun v v' v'' v3=>(four (k4 v v' v'' v3)).2.2.2.1⟩
theorem two_new (w:World) (x y:Obj):((w.alloc x).alloc y).heap[w.heap.size]? = some x∧((w.alloc x).alloc y).heap[w.heap.size+1]? = some y:=by
 show ((w.heap.push x).push y)[w.heap.size]? = _∧((w.heap.push x).push y)[w.heap.size+1]? = _
 constructor
 · simp [Array.getElem?_push]
 · rw [Array.getElem?_push,if_pos (by simp)]
theorem bcell {W w1:World} (hb:Below W.heap.size W w1):(∀ b o,b < W.heap.size→w1.cell? ⟨b,o,none⟩=W.cell? ⟨b,o,none⟩)∧(∀ b o,b < W.heap.size→w1.frozen? ⟨b,o,none⟩=W.frozen? ⟨b,o,none⟩) :=
 ⟨fun b o h=>hb.cell (p:=⟨b,o,none⟩) h,fun b o h=>hb.frozen (p:=⟨b,o,none⟩) h⟩
theorem cell_new (w:World) (cs:Array Value) (t:TypeId) (j:Nat):(w.alloc (.cells cs t)).cell? ⟨w.heap.size,j,none⟩=cs[j]?:=by
 have e:(w.alloc (.cells cs t)).heap[w.heap.size]? = some (.cells cs t):=by show (w.heap.push _)[w.heap.size]? = _;simp
 unfold World.cell?;rw [e];rfl
theorem three_new (w:World) (x y z:Obj):(((w.alloc x).alloc y).alloc z).heap[w.heap.size]? = some x∧(((w.alloc x).alloc y).alloc z).heap[w.heap.size+1]? = some y∧(((w.alloc x).alloc y).alloc z).heap[w.heap.size+1+1]? = some z:=by
 show (((w.heap.push x).push y).push z)[w.heap.size]? = _∧(((w.heap.push x).push y).push z)[w.heap.size+1]? = _∧(((w.heap.push x).push y).push z)[w.heap.size+1+1]? = _
 refine ⟨?_, ?_, ?_⟩
 · simp [Array.getElem?_push];omega
 · rw [Array.getElem?_push,if_neg (by simp),Array.getElem?_push,if_pos (by simp)]
 · rw [Array.getElem?_push,if_pos (by simp)]
theorem below_setRow {B g:Nat} {a w:World} (h:Below B a w) (hg:B ≤ g) (cs:Array Value):Below B a (w.setRow g cs) :=
 h.trans ⟨rfl,rfl,rfl,by simp,fun k hk=>by simp only [World.setRow,Array.getElem?_modify];rw [if_neg (by omega)]⟩
theorem heap_setRow {w:World} {g:Nat} {old cs:Array Value} {t:TypeId} (h:w.heap[g]? = some (.cells old t)):(w.setRow g cs).heap[g]? = some (.cells cs t):=by
 simp [World.setRow,Array.getElem?_modify,h]
theorem keep_blk {w w':World} {g:Nat} {x:Obj} (hb:Below w.heap.size w w') (h:w.heap[g]? = some x):w'.heap[g]? = some x :=
 (hb.block g (Array.getElem?_eq_some_iff.1 h).1).trans h
theorem heap_setRow_other (w:World) (g:Nat) (cs:Array Value) {k:Nat} (h:k ≠ g):(w.setRow g cs).heap[k]? = w.heap[k]?:=by
 simp only [World.setRow,Array.getElem?_modify];rw [if_neg (Ne.symm h)]
end Go.Proofs.YtnfdknhhkdphhaaGreatDoor
namespace Go.Proofs.YtnfdknhhkdphhaaGreatDoor
namespace Oc
def U (x:BitVec 64):Int:=x.toNat
theorem U_nonneg (x:BitVec 64):0 ≤ U x:=by unfold U;omega
theorem U_lt (x:BitVec 64):U x < 18446744073709551616:=by have:=x.isLt;unfold U;omega
theorem U_inj {x y:BitVec 64} (h:U x=U y):x=y:=by
 unfold U at h;exact BitVec.eq_of_toNat_eq (by omega)
theorem ofInt_U (x:BitVec 64):BitVec.ofInt 64 (U x)=x:=by
 unfold U;rw [BitVec.ofInt_natCast];exact BitVec.eq_of_toNat_eq (by rw [BitVec.toNat_ofNat];exact Nat.mod_eq_of_lt x.isLt)
theorem wrapU (n:Int):IntKind.u64.wrap n=U (BitVec.ofInt 64 n):=by
 rw [IntKind.wrap_u64];unfold U;rw [BitVec.toNat_ofInt];omega
theorem andU (x y:BitVec 64):bits .and .u64 (U x) (U y)=U (x &&& y):=by
 show IntKind.u64.wrap ((BitVec.ofInt 64 (U x) &&& BitVec.ofInt 64 (U y)).toNat:Int)=_
 rw [ofInt_U,ofInt_U,wrapU];exact congrArg U (ofInt_U (x &&& y))
theorem orU (x y:BitVec 64):bits .or .u64 (U x) (U y)=U (x ||| y):=by
 show IntKind.u64.wrap ((BitVec.ofInt 64 (U x) ||| BitVec.ofInt 64 (U y)).toNat:Int)=_
 rw [ofInt_U,ofInt_U,wrapU];exact congrArg U (ofInt_U (x ||| y))
theorem maxU:IntKind.u64.max=U (BitVec.allOnes 64):=by decide
theorem notU (x:BitVec 64):bits .xor .u64 IntKind.u64.max (U x)=U (~~~x):=by
 rw [maxU]
 show IntKind.u64.wrap ((BitVec.ofInt 64 (U (BitVec.allOnes 64)) ^^^ BitVec.ofInt 64 (U x)).toNat:Int)=_
 rw [ofInt_U,ofInt_U,wrapU]
 exact congrArg U ((ofInt_U (BitVec.allOnes 64 ^^^ x)).trans BitVec.allOnes_xor)
theorem addU (x y:BitVec 64):IntKind.u64.wrap (U x+U y)=U (x+y):=by
 rw [wrapU];refine congrArg U ?_
 rw [BitVec.ofInt_add,ofInt_U,ofInt_U]
theorem shrU (x:BitVec 64) (n:Nat):U x / ((2 ^ n:Nat):Int)=U (x >>> n):=by
 unfold U;rw [BitVec.toNat_ushiftRight,Nat.shiftRight_eq_div_pow];simp
theorem shr1 (x:BitVec 64):U x / (2:Int)=U (x >>> 1):=shrU x 1
theorem shr2 (x:BitVec 64):U x / (4:Int)=U (x >>> 2):=shrU x 2
theorem shr4 (x:BitVec 64):U x / (16:Int)=U (x >>> 4):=shrU x 4
theorem shr8 (x:BitVec 64):U x / (256:Int)=U (x >>> 8):=shrU x 8
theorem shr16 (x:BitVec 64):U x / (65536:Int)=U (x >>> 16):=shrU x 16
theorem shr32 (x:BitVec 64):U x / (4294967296:Int)=U (x >>> 32):=shrU x 32
theorem hasBit (x:BitVec 64) (k:Nat):(bits .and .u64 (U x / (2:Int) ^ k) 1 == 1)=x.getLsbD k:=by
 have e:U x / (2:Int) ^ k=U (x >>> k):=by
   rw [← shrU];congr 1
 have e1:(1:Int)=U 1#64:=by decide
 rw [e]
 show (bits .and .u64 (U (x >>> k)) (U 1#64) == U 1#64)=_
 rw [andU]
 have hb:(x >>> k &&& 1#64)=if x.getLsbD k then 1#64 else 0#64:=by
   apply BitVec.eq_of_getLsbD_eq;intro i hi
   by_cases h:i=0
   · subst h;cases hx:x.getLsbD k <;> simp [hx]
   · cases hx:x.getLsbD k <;> simp [h]
 rw [hb]
 cases x.getLsbD k <;> decide
theorem shlBit (k:Nat):IntKind.u64.wrap ((2:Int) ^ k)=U (1#64 <<< k):=by
 rw [wrapU];refine congrArg U ?_
 apply BitVec.eq_of_toNat_eq
 rw [BitVec.toNat_shiftLeft,show ((2:Int) ^ k)=((2 ^ k:Nat):Int) by simp,BitVec.ofInt_natCast,BitVec.toNat_ofNat,Nat.shiftLeft_eq]
 simp
def cnt (p:Nat→Bool):Nat→Nat
 | 0=>0
 | n+1=>cnt p n+(p n).toNat
theorem cnt_le (p:Nat→Bool):∀ n,cnt p n ≤ n
 | 0=>Nat.le_refl _
 | n+1=>by have:=cnt_le p n;have:=(p n).toNat_le;simp only [cnt];omega
theorem cnt_add (p:Nat→Bool) (m:Nat):∀ n,cnt p (m+n)=cnt p m+cnt (fun i=>p (m+i)) n
 | 0=>rfl
 | n+1=>by rw [← Nat.add_assoc];simp only [cnt];rw [cnt_add p m n];omega
theorem cnt_congr {p q:Nat→Bool} : ∀ n,(∀ i,i < n→p i=q i)→cnt p n=cnt q n
 | 0,_=>rfl
 | n+1,h=>by simp only [cnt];rw [cnt_congr n (fun i hi=>h i (by omega)),h n (by omega)]
def w4 (a b c d:BitVec 64) (k:Nat):BitVec 64:=if k=0 then a else if k=1 then b else if k=2 then c else d
def mem (a b c d:BitVec 64) (i:Nat):Bool:=(w4 a b c d (i / 64)).getLsbD (i % 64)
theorem mem0 (a b c d:BitVec 64) (i:Nat) (h:i < 64):mem a b c d i=a.getLsbD i:=by
 unfold mem w4;rw [show i / 64=0 by omega,show i % 64=i by omega];rfl
theorem mem1 (a b c d:BitVec 64) (i:Nat) (h:i < 64):mem a b c d (64+i)=b.getLsbD i:=by
 unfold mem w4;rw [show (64+i) / 64=1 by omega,show (64+i) % 64=i by omega];rfl
theorem mem2 (a b c d:BitVec 64) (i:Nat) (h:i < 64):mem a b c d (128+i)=c.getLsbD i:=by
 unfold mem w4;rw [show (128+i) / 64=2 by omega,show (128+i) % 64=i by omega];rfl
theorem mem3 (a b c d:BitVec 64) (i:Nat) (h:i < 64):mem a b c d (192+i)=d.getLsbD i:=by
 unfold mem w4;rw [show (192+i) / 64=3 by omega,show (192+i) % 64=i by omega];rfl
theorem mem_and (a b c d a' b' c' d':BitVec 64) (i:Nat):mem (a &&& a') (b &&& b') (c &&& c') (d &&& d') i=(mem a b c d i && mem a' b' c' d' i):=by
 unfold mem w4;split <;> (try split) <;> (try split) <;> simp
theorem mem_not (a b c d:BitVec 64) (i:Nat):mem (~~~a) (~~~b) (~~~c) (~~~d) i = !mem a b c d i:=by
 have:i % 64 < 64:=by omega
 unfold mem w4;split <;> (try split) <;> (try split) <;> simp [this]
def wn (p:Nat→Bool) (k:Nat):Nat→Nat
 | 0=>0
 | n+1=>wn p k n+(if p (64 * k+n) then 2 ^ n else 0)
theorem wn_lt (p:Nat→Bool) (k:Nat):∀ n,wn p k n < 2 ^ n
 | 0=>by simp [wn]
 | n+1=>by have:=wn_lt p k n;simp only [wn];split <;> omega
theorem wn_bit (p:Nat→Bool) (k:Nat):∀ n i,i < n→(wn p k n).testBit i=p (64 * k+i)
 | 0,i,h=>by omega
 | n+1,i,h=>by
   have hl:=wn_lt p k n
   simp only [wn]
   by_cases e:i=n
   · subst e
     by_cases q:p (64 * k+i)=true
     · rw [if_pos q,q,Nat.add_comm,Nat.testBit_two_pow_add_eq,Nat.testBit_lt_two_pow hl];rfl
     · rw [if_neg q,Nat.add_zero,Nat.testBit_lt_two_pow hl];simpa using q
   · rw [← wn_bit p k n i (by omega)]
     split
     · rw [Nat.add_comm,Nat.testBit_two_pow_add_gt (by omega)]
     · rw [Nat.add_zero]
def mk (p:Nat→Bool) (k:Nat):BitVec 64:=BitVec.ofNat 64 (wn p k 64)
theorem mk_bit (p:Nat→Bool) (k i:Nat) (h:i < 64):(mk p k).getLsbD i=p (64 * k+i):=by
 unfold mk;rw [BitVec.getLsbD_ofNat,wn_bit p k 64 i h];simp [h]
theorem mk_eq {p:Nat→Bool} {k:Nat} {x:BitVec 64} (h:∀ i,i < 64→p (64 * k+i)=x.getLsbD i):mk p k=x:=by
 apply BitVec.eq_of_getLsbD_eq;intro i hi;rw [mk_bit p k i hi,h i hi]
theorem mem_mk (p:Nat→Bool) (i:Nat) (h:i < 256):mem (mk p 0) (mk p 1) (mk p 2) (mk p 3) i=p i:=by
 have h3:i % 64 < 64:=by omega
 have:i / 64=0 ∨ i / 64=1 ∨ i / 64=2 ∨ i / 64=3:=by omega
 unfold mem w4
 rcases this with e | e | e | e <;> simp only [e] <;> simp only [if_true,if_false,Nat.reduceEqDiff] <;> rw [mk_bit _ _ _ h3] <;> congr 1 <;> omega
theorem cnt_mem (a b c d:BitVec 64):cnt (mem a b c d) 256=cnt a.getLsbD 64+cnt b.getLsbD 64+cnt c.getLsbD 64+cnt d.getLsbD 64:=by
 rw [show 256=192+64 from rfl,cnt_add,show 192=128+64 from rfl,cnt_add,show 128=64+64 from rfl,cnt_add]
 rw [cnt_congr 64 (fun i hi=>mem0 a b c d i hi),cnt_congr 64 (fun i hi=>mem1 a b c d i hi)]
 rw [cnt_congr 64 (fun i hi=>mem2 a b c d i hi),cnt_congr 64 (fun i hi=>mem3 a b c d i hi)]
def andAll (A:Nat→BitVec 64):Nat→BitVec 64
 | 0=>BitVec.allOnes 64
 | n+1=>andAll A n &&& A n
def anyB (bs:Nat→Nat):Nat→Nat→Bool
 | 0,_=>false
 | n+1,j=>anyB bs n j || j == bs n
theorem mk_same {p q:Nat→Bool} {v k:Nat} (hq:∀ j,q j=(p j || j == v)) (hk:v / 64 ≠ k):mk q k=mk p k:=by
 refine mk_eq fun i hi=>?_
 rw [mk_bit p k i hi,hq,show (64 * k+i == v)=false from by simp;omega];simp
theorem mk_turn {p q:Nat→Bool} {v k:Nat} (hq:∀ j,q j=(p j || j == v)) (hk:v / 64=k):mk q k=mk p k ||| (1#64 <<< (v % 64)):=by
 refine mk_eq fun i hi=>?_
 rw [hq,BitVec.getLsbD_or,mk_bit p k i hi]
 congr 1
 rw [BitVec.getLsbD_shiftLeft,BitVec.getLsbD_one,Bool.eq_iff_iff]
 simp [hi];omega
theorem mk_none (k:Nat):mk (fun _=>false) k=0#64:=by
 refine mk_eq fun i _=>?_
 simp
end Oc
end Go.Proofs.YtnfdknhhkdphhaaGreatDoor
namespace Go.Proofs.YtnfdknhhkdphhaaGreatDoor
open Go.RowKit
inductive Tr
 | node (kind:Int) (a b c d:BitVec 64) (subs:List Tr) (num least most:Int) (bare:Bool)
namespace Tr
def kind:Tr→Int | .node k _ _ _ _ _ _ _ _ _=>k
def w0:Tr→BitVec 64 | .node _ a _ _ _ _ _ _ _ _=>a
def w1:Tr→BitVec 64 | .node _ _ b _ _ _ _ _ _ _=>b
def w2:Tr→BitVec 64 | .node _ _ _ c _ _ _ _ _ _=>c
def w3:Tr→BitVec 64 | .node _ _ _ _ d _ _ _ _ _=>d
def subs:Tr→List Tr | .node _ _ _ _ _ s _ _ _ _=>s
def num:Tr→Int | .node _ _ _ _ _ _ n _ _ _=>n
def least:Tr→Int | .node _ _ _ _ _ _ _ m _ _=>m
def most:Tr→Int | .node _ _ _ _ _ _ _ _ m _=>m
def bare:Tr→Bool | .node _ _ _ _ _ _ _ _ _ b=>b
theorem size_sub {t u:Tr} (h:u ∈ t.subs):SizeOf.sizeOf u < SizeOf.sizeOf t:=by
 cases t with
 | node k a b c d s n lo hi br =>
   have:=List.sizeOf_lt_of_mem h
   simp only [subs] at this
   simp only [node.sizeOf_spec]
   omega
theorem rec_subs {P:Tr→Prop} (h:∀ t,(∀ u,u ∈ t.subs→P u)→P t) (t:Tr):P t:=by
 induction hn:SizeOf.sizeOf t using Nat.strongRecOn generalizing t with
 | _ n ih=>exact h t fun u hu=>ih _ (by have:=size_sub hu;omega) u rfl
theorem eta:∀ t:Tr,t=.node t.kind t.w0 t.w1 t.w2 t.w3 t.subs t.num t.least t.most t.bare
 | .node _ _ _ _ _ _ _ _ _ _=>rfl
def cells (t:Tr) (s:Value):Array Value :=
 #[.int .i64 t.kind,.int .u64 (Oc.U t.w0),.int .u64 (Oc.U t.w1),.int .u64 (Oc.U t.w2),.int .u64 (Oc.U t.w3),s,.int .i64 t.num,.int .i64 t.least,.int .i64 t.most,.bool t.bare]
end Tr
structure TenAt (w:World) (b o:Nat) (t:Tr) (s:Value):Prop where
 c0:w.cell? ⟨b,o,none⟩=some (.int .i64 t.kind)
 c1:w.cell? ⟨b,o+1,none⟩=some (.int .u64 (Oc.U t.w0))
 c2:w.cell? ⟨b,o+2,none⟩=some (.int .u64 (Oc.U t.w1))
 c3:w.cell? ⟨b,o+3,none⟩=some (.int .u64 (Oc.U t.w2))
 c4:w.cell? ⟨b,o+4,none⟩=some (.int .u64 (Oc.U t.w3))
 c5:w.cell? ⟨b,o+5,none⟩=some s
 c6:w.cell? ⟨b,o+6,none⟩=some (.int .i64 t.num)
 c7:w.cell? ⟨b,o+7,none⟩=some (.int .i64 t.least)
 c8:w.cell? ⟨b,o+8,none⟩=some (.int .i64 t.most)
 c9:w.cell? ⟨b,o+9,none⟩=some (.bool t.bare)
inductive TreesAt (w:World) (B:Nat→Prop):Value→List Tr→Prop
 | mk (p:Option Addr) (cap:Nat) (ts:List Tr) (S:Nat→Value) (hlen:ts.length * 96 ≤ 140737488351232)
     (hc:∀ i t,ts[i]? = some t→∃ b o,p=some ⟨b,o,none⟩∧B b∧TenAt w b (o+i * 10) t (S i))
     (hs:∀ i t,ts[i]? = some t→TreesAt w B (S i) t.subs):TreesAt w B (.slice p ts.length cap) ts
def NodeV (w:World) (B:Nat→Prop) (v:Value) (t:Tr):Prop:=∃ s,v=.agg (t.cells s)∧TreesAt w B s t.subs
theorem TenAt.keep {w w':World} {b o:Nat} {t:Tr} {s:Value} (h:TenAt w b o t s) (hk:w'.heap[b]? = w.heap[b]?):TenAt w' b o t s:=by
 have e:∀ k,w'.cell? ⟨b,k,none⟩=w.cell? ⟨b,k,none⟩:=fun k=>by unfold World.cell?;rw [hk]
 exact ⟨(e _).trans h.c0,(e _).trans h.c1,(e _).trans h.c2,(e _).trans h.c3,(e _).trans h.c4,(e _).trans h.c5,(e _).trans h.c6,(e _).trans h.c7,(e _).trans h.c8,(e _).trans h.c9⟩
theorem TenAt.lt {w:World} {b o:Nat} {t:Tr} {s:Value} (h:TenAt w b o t s):b < w.heap.size:=block_lt_of_cell h.c0
theorem TreesAt.keep {w w':World} {B:Nat→Prop} {s:Value} {ts:List Tr} (h:TreesAt w B s ts) (hk:∀ b,b < w.heap.size→B b→w'.heap[b]? = w.heap[b]?):TreesAt w' B s ts:=by
 induction h with
 | mk p cap ts S hlen hc hs ih =>
   refine .mk p cap ts S hlen (fun i t hi=>?_) (fun i t hi=>ih i t hi)
   obtain ⟨b,o,hp,hB,h10⟩:=hc i t hi
   exact ⟨b,o,hp,hB,h10.keep (hk b h10.lt hB)⟩
theorem TreesAt.later {w w':World} {B:Nat→Prop} {s:Value} {ts:List Tr} (h:TreesAt w B s ts) (hb:Below w.heap.size w w'):TreesAt w' B s ts :=
 h.keep fun b hb' _=>hb.block b hb'
theorem TreesAt.mono {w:World} {B B':Nat→Prop} {s:Value} {ts:List Tr} (h:TreesAt w B s ts) (hB:∀ b,b < w.heap.size→B b→B' b):TreesAt w B' s ts:=by
 induction h with
 | mk p cap ts S hlen hc hs ih =>
   refine .mk p cap ts S hlen (fun i t hi=>?_) (fun i t hi=>ih i t hi)
   obtain ⟨b,o,hp,hb,h10⟩:=hc i t hi
   exact ⟨b,o,hp,hB b h10.lt hb,h10⟩
theorem NodeV.later {w w':World} {B:Nat→Prop} {v:Value} {t:Tr} (h:NodeV w B v t) (hb:Below w.heap.size w w'):NodeV w' B v t:=by
 obtain ⟨s,e,hs⟩:=h;exact ⟨s,e,hs.later hb⟩
theorem TreesAt.nil {w:World} {B:Nat→Prop} {p:Option Addr} {cap:Nat} : TreesAt w B (.slice p 0 cap) [] :=
 .mk p cap [] (fun _=>.nilIface) (by simp) (fun i t h=>by simp at h) (fun i t h=>by simp at h)
theorem TreesAt.slice {w:World} {B:Nat→Prop} {s:Value} {ts:List Tr} (h:TreesAt w B s ts):∃ p cap,s=.slice p ts.length cap∧ts.length * 96 ≤ 140737488351232:=by
 cases h with | mk p cap _ S hlen hc hs=>exact ⟨p,cap,rfl,hlen⟩
theorem TreesAt.get {w:World} {B:Nat→Prop} {p:Option Addr} {len cap:Nat} {ts:List Tr} (h:TreesAt w B (.slice p len cap) ts) {i:Nat} {t:Tr} (hi:ts[i]? = some t) :
   ∃ b o s,p=some ⟨b,o,none⟩∧B b∧TenAt w b (o+i * 10) t s∧TreesAt w B s t.subs:=by
 cases h with
 | mk _ _ _ S hlen hc hs =>
   obtain ⟨b,o,hp,hB,h10⟩:=hc i t hi
   exact ⟨b,o,S i,hp,hB,h10,hs i t hi⟩
end Go.Proofs.YtnfdknhhkdphhaaGreatDoor
namespace Go.Proofs.YtnfdknhhkdphhaaGreatDoor
namespace Oc
theorem and_split (a c b d:Nat) (hb:b < 256) (hd:d < 256):(256 * a+b) &&& (256 * c+d)=256 * (a &&& c)+(b &&& d):=by
 have hbd:b &&& d < 2 ^ 8:=Nat.and_lt_two_pow _ (by omega)
 apply Nat.eq_of_testBit_eq;intro i
 rw [show (256:Nat)=2 ^ 8 from rfl,Nat.testBit_and,Nat.testBit_two_pow_mul_add _ (by omega),Nat.testBit_two_pow_mul_add _ (by omega),Nat.testBit_two_pow_mul_add _ hbd]
 split <;> simp
def m1:Nat→Nat | 0=>0 | n+1=>256 * m1 n+85
def m2:Nat→Nat | 0=>0 | n+1=>256 * m2 n+51
def m4:Nat→Nat | 0=>0 | n+1=>256 * m4 n+15
def k4:Nat→Nat | 0=>0 | n+1=>256 * k4 n+68
def y1 (n x:Nat):Nat:=((x / 2) &&& m1 n)+(x &&& m1 n)
def y2 (n x:Nat):Nat:=((y1 n x / 4) &&& m2 n)+(y1 n x &&& m2 n)
def y3 (n x:Nat):Nat:=(y2 n x / 16+y2 n x) &&& m4 n
def a1 (x:Nat):Nat:=((x / 2) &&& 85)+(x &&& 85)
def a2 (x:Nat):Nat:=((a1 x / 4) &&& 51)+(a1 x &&& 51)
def a3 (x:Nat):Nat:=(a2 x / 16+a2 x) &&& 15
theorem byte_facts:∀ r,r < 256→a1 r < 256∧a2 r ≤ 68∧a2 r % 16 ≤ 4∧a3 r=cnt r.testBit 8∧a3 r ≤ 8:=by decide +kernel
theorem mask_facts:∀ r,r < 256→(∀ t,t < 2→(128 * t+r / 2) &&& 85=(r / 2) &&& 85)∧(∀ t,t < 4→(64 * t+r / 4) &&& 51=(r / 4) &&& 51):=by decide +kernel
theorem low_facts:∀ s,s < 73→∀ t,t < 5→(16 * t+s) &&& 15=s &&& 15:=by decide +kernel
theorem y1_step (n q r:Nat) (h:r < 256):y1 (n+1) (256 * q+r)=256 * y1 n q+a1 r:=by
 have e:(256 * q+r) / 2=256 * (q / 2)+(128 * (q % 2)+r / 2):=by omega
 unfold y1 a1;simp only [m1]
 rw [e,and_split _ _ _ _ (by omega) (by omega),and_split _ _ _ _ h (by omega),(mask_facts r h).1 (q % 2) (by omega)]
 omega
theorem y2_step (n q r:Nat) (h:r < 256):y2 (n+1) (256 * q+r)=256 * y2 n q+a2 r:=by
 have hb:=(byte_facts r h).1
 have e:(256 * y1 n q+a1 r) / 4=256 * (y1 n q / 4)+(64 * (y1 n q % 4)+a1 r / 4):=by omega
 unfold y2 a2;simp only [m2]
 rw [y1_step n q r h,e,and_split _ _ _ _ (by omega) (by omega),and_split _ _ _ _ hb (by omega),(mask_facts (a1 r) hb).2 (y1 n q % 4) (by omega)]
 omega
theorem y2_le:∀ n x,x < 256 ^ n→y2 n x ≤ k4 n∧y2 n x % 16 ≤ 4
 | 0,x,h=>by
   have:x=0:=by simpa using h
   subst this;decide
 | n+1,x,h=>by
   have hr:x % 256 < 256:=by omega
   have hq:x / 256 < 256 ^ n:=by rw [Nat.pow_succ] at h;omega
   have:=y2_le n (x / 256) hq
   have hb:=byte_facts _ hr
   have e:=y2_step n (x / 256) (x % 256) hr
   rw [show 256 * (x / 256)+x % 256=x by omega] at e
   rw [e];simp only [k4];omega
theorem y3_step (n q r:Nat) (hq:q < 256 ^ n) (h:r < 256):y3 (n+1) (256 * q+r)=256 * y3 n q+a3 r:=by
 have hb:=byte_facts r h
 have hy:=(y2_le n q hq).2
 have e:(256 * y2 n q+a2 r) / 16+(256 * y2 n q+a2 r)=256 * (y2 n q / 16+y2 n q)+(16 * (y2 n q % 16)+(a2 r / 16+a2 r)):=by omega
 unfold y3 a3;simp only [m4]
 rw [y2_step n q r h,e,and_split _ _ _ _ (by omega) (by omega),low_facts _ (by omega) _ (by omega)]
theorem chain8 (z0 z1 z2 z3 z4 z5 z6 z7 z8 q0 q1 q2 q3 q4 q5 q6 q7:Nat) (h0:z0=256 * z1+q0) (h1:z1=256 * z2+q1) (h2:z2=256 * z3+q2) (h3:z3=256 * z4+q3) (h4:z4=256 * z5+q4)
   (h5:z5=256 * z6+q5) (h6:z6=256 * z7+q6) (h7:z7=256 * z8+q7) (h8:z8=0) :
   z0=q0+256 * q1+65536 * q2+16777216 * q3+4294967296 * q4+1099511627776 * q5+281474976710656 * q6+72057594037927936 * q7:=by omega
def byt (x j:Nat):Nat:=x / 256 ^ j % 256
def top (x j:Nat):Nat:=x / 256 ^ j
theorem top_succ (x j:Nat):top x j=256 * top x (j+1)+byt x j:=by
 unfold top byt;rw [Nat.pow_succ,← Nat.div_div_eq_div_mul];omega
theorem byt_lt (x j:Nat):byt x j < 256:=by unfold byt;omega
theorem top_lt (x:Nat) (h:x < 256 ^ 8) (n j:Nat) (hj:j+n=8):top x j < 256 ^ n:=by
 unfold top;rw [Nat.div_lt_iff_lt_mul (Nat.pow_pos (by omega)),← Nat.pow_add,Nat.add_comm,hj];exact h
theorem byt_cnt (x j:Nat):cnt (fun i=>x.testBit (8 * j+i)) 8=a3 (byt x j):=by
 rw [(byte_facts (byt x j) (byt_lt x j)).2.2.2.1]
 refine cnt_congr 8 fun i hi=>?_
 unfold byt
 rw [show (256:Nat)=2 ^ 8 from rfl,Nat.testBit_mod_two_pow,← Nat.pow_mul,Nat.testBit_div_two_pow]
 simp [hi,Nat.add_comm]
theorem cnt8 (x:Nat):∀ n,cnt x.testBit (8 * n)=(List.range n).foldl (fun s j=>s+a3 (byt x j)) 0
 | 0=>rfl
 | n+1=>by rw [List.range_succ,List.foldl_append,← cnt8 x n,Nat.mul_succ,cnt_add,byt_cnt];rfl
theorem y3_top (x:Nat) (h:x < 256 ^ 8) (n j:Nat) (hj:j+(n+1)=8):y3 (n+1) (top x j)=256 * y3 n (top x (j+1))+a3 (byt x j):=by
 rw [top_succ x j];exact y3_step n _ _ (top_lt x h n (j+1) (by omega)) (byt_lt x j)
theorem y3_eight (x:Nat) (h:x < 18446744073709551616):∃ p0 p1 p2 p3 p4 p5 p6 p7:Nat,p0 ≤ 8∧p1 ≤ 8∧p2 ≤ 8∧p3 ≤ 8∧p4 ≤ 8∧p5 ≤ 8∧p6 ≤ 8∧p7 ≤ 8 ∧
   y3 8 x=p0+256 * p1+65536 * p2+16777216 * p3+4294967296 * p4+1099511627776 * p5+281474976710656 * p6+72057594037927936 * p7∧cnt x.testBit 64=p0+p1+p2+p3+p4+p5+p6+p7:=by
 have hx:x < 256 ^ 8:=h
 have hb:∀ j,a3 (byt x j) ≤ 8:=fun j=>(byte_facts _ (byt_lt x j)).2.2.2.2
 have ht:top x 0=x:=by unfold top;simp
 have h8:y3 0 (top x 8)=0:=by unfold y3;simp [m4]
 have s0:=y3_top x hx 7 0 rfl
 rw [ht] at s0
 refine ⟨a3 (byt x 0),a3 (byt x 1),a3 (byt x 2),a3 (byt x 3),a3 (byt x 4),a3 (byt x 5),a3 (byt x 6),a3 (byt x 7),hb 0,hb 1,hb 2,hb 3,hb 4,hb 5,hb 6,hb 7, ?_, ?_⟩
 · exact chain8 _ (y3 7 (top x 1)) (y3 6 (top x 2)) (y3 5 (top x 3)) (y3 4 (top x 4)) (y3 3 (top x 5)) (y3 2 (top x 6)) (y3 1 (top x 7)) (y3 0 (top x 8)) _ _ _ _ _ _ _ _
     s0 (y3_top x hx 6 1 rfl) (y3_top x hx 5 2 rfl) (y3_top x hx 4 3 rfl) (y3_top x hx 3 4 rfl) (y3_top x hx 2 5 rfl) (y3_top x hx 1 6 rfl) (y3_top x hx 0 7 rfl) h8
 · have:=cnt8 x 8
   rw [show 8 * 8=64 from rfl] at this
   rw [this,show List.range 8=[0,1,2,3,4,5,6,7] from rfl]
   simp only [List.foldl_cons,List.foldl_nil]
   omega
def v1 (x:BitVec 64):BitVec 64:=((x >>> 1) &&& 6148914691236517205#64)+(x &&& 6148914691236517205#64)
def v2 (x:BitVec 64):BitVec 64:=((v1 x >>> 2) &&& 3689348814741910323#64)+(v1 x &&& 3689348814741910323#64)
def v3 (x:BitVec 64):BitVec 64:=((v2 x >>> 4)+v2 x) &&& 1085102592571150095#64
def v4 (x:BitVec 64):BitVec 64:=v3 x+(v3 x >>> 8)
def v5 (x:BitVec 64):BitVec 64:=v4 x+(v4 x >>> 16)
def v6 (x:BitVec 64):BitVec 64:=v5 x+(v5 x >>> 32)
theorem and_lit1 (x:BitVec 64):bits .and .u64 (U x) 6148914691236517205=U (x &&& 6148914691236517205#64):=andU x 6148914691236517205#64
theorem and_lit2 (x:BitVec 64):bits .and .u64 (U x) 3689348814741910323=U (x &&& 3689348814741910323#64):=andU x 3689348814741910323#64
theorem and_lit4 (x:BitVec 64):bits .and .u64 (U x) 1085102592571150095=U (x &&& 1085102592571150095#64):=andU x 1085102592571150095#64
theorem k4_8:k4 8=4919131752989213764:=by decide
theorem m1_8:m1 8=6148914691236517205:=by decide
theorem m2_8:m2 8=3689348814741910323:=by decide
theorem m4_8:m4 8=1085102592571150095:=by decide
theorem v1_eq (x:BitVec 64):(v1 x).toNat=y1 8 x.toNat:=by
 unfold v1 y1
 rw [m1_8,BitVec.toNat_add,BitVec.toNat_and,BitVec.toNat_and,BitVec.toNat_ushiftRight,Nat.shiftRight_eq_div_pow,BitVec.toNat_ofNat]
 have a:(x.toNat / 2 ^ 1) &&& (6148914691236517205 % 2 ^ 64) ≤ 6148914691236517205:=Nat.and_le_right
 have b:x.toNat &&& (6148914691236517205 % 2 ^ 64) ≤ 6148914691236517205:=Nat.and_le_right
 rw [Nat.mod_eq_of_lt]
 exact Nat.lt_of_le_of_lt (Nat.add_le_add a b) (by decide)
theorem v2_eq (x:BitVec 64):(v2 x).toNat=y2 8 x.toNat:=by
 unfold v2 y2
 rw [m2_8,BitVec.toNat_add,BitVec.toNat_and,BitVec.toNat_and,BitVec.toNat_ushiftRight,Nat.shiftRight_eq_div_pow,BitVec.toNat_ofNat,v1_eq]
 have a:(y1 8 x.toNat / 2 ^ 2) &&& (3689348814741910323 % 2 ^ 64) ≤ 3689348814741910323:=Nat.and_le_right
 have b:y1 8 x.toNat &&& (3689348814741910323 % 2 ^ 64) ≤ 3689348814741910323:=Nat.and_le_right
 rw [Nat.mod_eq_of_lt]
 exact Nat.lt_of_le_of_lt (Nat.add_le_add a b) (by decide)
theorem v3_eq (x:BitVec 64):(v3 x).toNat=y3 8 x.toNat:=by
 have hk:=(y2_le 8 x.toNat (show x.toNat < 256 ^ 8 from x.isLt)).1
 rw [k4_8] at hk
 unfold v3 y3
 rw [m4_8,BitVec.toNat_and,BitVec.toNat_add,BitVec.toNat_ushiftRight,Nat.shiftRight_eq_div_pow,BitVec.toNat_ofNat,v2_eq]
 have a:y2 8 x.toNat / 2 ^ 4 ≤ 4919131752989213764:=Nat.le_trans (Nat.div_le_self _ _) hk
 rw [Nat.mod_eq_of_lt (Nat.lt_of_le_of_lt (Nat.add_le_add a hk) (by decide))]
theorem v4_eq {x:BitVec 64} {p0 p1 p2 p3 p4 p5 p6 p7:Nat} (b0:p0 ≤ 8) (b1:p1 ≤ 8) (b2:p2 ≤ 8) (b3:p3 ≤ 8) (b4:p4 ≤ 8) (b5:p5 ≤ 8) (b6:p6 ≤ 8) (b7:p7 ≤ 8)
   (h:(v3 x).toNat=p0+256 * p1+65536 * p2+16777216 * p3+4294967296 * p4+1099511627776 * p5+281474976710656 * p6+72057594037927936 * p7) :
   (v4 x).toNat=(p0+p1)+256 * (p1+p2)+65536 * (p2+p3)+16777216 * (p3+p4)+4294967296 * (p4+p5)+1099511627776 * (p5+p6)+281474976710656 * (p6+p7)+72057594037927936 * p7:=by
 unfold v4
 rw [BitVec.toNat_add,BitVec.toNat_ushiftRight,Nat.shiftRight_eq_div_pow,show 2 ^ 8=256 from rfl]
 have e:(v3 x).toNat / 256=p1+256 * p2+65536 * p3+16777216 * p4+4294967296 * p5+1099511627776 * p6+281474976710656 * p7:=by omega
 rw [e,h,Nat.mod_eq_of_lt] <;> omega
theorem v5_eq {x:BitVec 64} {q0 q1 q2 q3 q4 q5 q6 q7:Nat} (b0:q0 ≤ 16) (b1:q1 ≤ 16) (b2:q2 ≤ 16) (b3:q3 ≤ 16) (b4:q4 ≤ 16) (b5:q5 ≤ 16) (b6:q6 ≤ 16) (_:q7 ≤ 16)
   (h:(v4 x).toNat=q0+256 * q1+65536 * q2+16777216 * q3+4294967296 * q4+1099511627776 * q5+281474976710656 * q6+72057594037927936 * q7) :
   (v5 x).toNat=(q0+q2)+256 * (q1+q3)+65536 * (q2+q4)+16777216 * (q3+q5)+4294967296 * (q4+q6)+1099511627776 * (q5+q7)+281474976710656 * q6+72057594037927936 * q7:=by
 unfold v5
 rw [BitVec.toNat_add,BitVec.toNat_ushiftRight,Nat.shiftRight_eq_div_pow,show 2 ^ 16=65536 from rfl]
 have e:(v4 x).toNat / 65536=q2+256 * q3+65536 * q4+16777216 * q5+4294967296 * q6+1099511627776 * q7:=by omega
 rw [e,h,Nat.mod_eq_of_lt] <;> omega
theorem v6_eq {x:BitVec 64} {q0 q1 q2 q3 q4 q5 q6 q7:Nat} (b0:q0 ≤ 32) (b1:q1 ≤ 32) (b2:q2 ≤ 32) (b3:q3 ≤ 32) (b4:q4 ≤ 32) (_:q5 ≤ 32) (_:q6 ≤ 32) (_:q7 ≤ 32)
   (h:(v5 x).toNat=q0+256 * q1+65536 * q2+16777216 * q3+4294967296 * q4+1099511627776 * q5+281474976710656 * q6+72057594037927936 * q7) :
   (v6 x).toNat=(q0+q4)+256 * (q1+q5)+65536 * (q2+q6)+16777216 * (q3+q7)+4294967296 * q4+1099511627776 * q5+281474976710656 * q6+72057594037927936 * q7:=by
 unfold v6
 rw [BitVec.toNat_add,BitVec.toNat_ushiftRight,Nat.shiftRight_eq_div_pow,show 2 ^ 32=4294967296 from rfl]
 have e:(v5 x).toNat / 4294967296=q4+256 * q5+65536 * q6+16777216 * q7:=by omega
 rw [e,h,Nat.mod_eq_of_lt] <;> omega
theorem and127 (y:BitVec 64):bits .and .i64 (RowKit.wrap64 (U y)) 127=((y.toNat % 128:Nat):Int):=by
 have e:BitVec.ofInt 64 (RowKit.wrap64 (U y))=y:=by
   apply BitVec.eq_of_toNat_eq
   rw [BitVec.toNat_ofInt]
   have:=y.isLt
   unfold RowKit.wrap64 U
   omega
 show IntKind.i64.wrap ((BitVec.ofInt 64 (RowKit.wrap64 (U y)) &&& BitVec.ofInt 64 127).toNat:Int)=_
 rw [e,BitVec.toNat_and,show (BitVec.ofInt 64 127).toNat=2 ^ 7 - 1 from rfl,Nat.and_two_pow_sub_one_eq_mod]
 rw [IntKind.wrap_i64]
 have:y.toNat % 2 ^ 7 < 128:=by omega
 omega
theorem ones_eq (x:BitVec 64):(v6 x).toNat % 128=cnt x.getLsbD 64:=by
 obtain ⟨p0,p1,p2,p3,p4,p5,p6,p7,b0,b1,b2,b3,b4,b5,b6,b7,hy,hc⟩:=y3_eight x.toNat x.isLt
 have h3:(v3 x).toNat=_:=(v3_eq x).trans hy
 have h4:=v4_eq b0 b1 b2 b3 b4 b5 b6 b7 h3
 have h5:=v5_eq (by omega) (by omega) (by omega) (by omega) (by omega) (by omega) (by omega) (by omega) h4
 have h6:=v6_eq (by omega) (by omega) (by omega) (by omega) (by omega) (by omega) (by omega) (by omega) h5
 have h7:cnt x.getLsbD 64=cnt x.toNat.testBit 64:=rfl
 rw [h7,hc,h6]
 clear h3 h4 h5 h6 h7 hy hc
 omega
end Oc
end Go.Proofs.YtnfdknhhkdphhaaGreatDoor
namespace Go.Proofs.YtnfdknhhkdphhaaGreatDoor
open Go.RowKit
theorem ret_agg {a b c d a' b' c' d':Int} (ha:a=a') (hb:b=b') (hc:c=c') (hd:d=d') :
   Ending.returned (.agg #[.int .u64 a,.int .u64 b,.int .u64 c,.int .u64 d])=.returned (.agg #[.int .u64 a',.int .u64 b',.int .u64 c',.int .u64 d']):=by rw [ha,hb,hc,hd]
theorem cells4 {w:World} {t:TypeId} {o:Obj} {a b c d a' b' c' d':BitVec 64} (ha:a=a') (hb:b=b') (hc:c=c') (hd:d=d') :
   (w.alloc o).alloc (.cells #[.int .u64 (Oc.U a),.int .u64 (Oc.U b),.int .u64 (Oc.U c),.int .u64 (Oc.U d)] t)=(w.alloc o).alloc (.cells #[.int .u64 (Oc.U a'),.int .u64 (Oc.U b'),.int .u64 (Oc.U c'),.int .u64 (Oc.U d')] t):=by rw [ha,hb,hc,hd]
theorem not_any (a b c d:BitVec 64) (w:World) :
   Calls Tryz.prog 111 #[(.agg #[.int .u64 (Oc.U a),.int .u64 (Oc.U b),.int .u64 (Oc.U c),.int .u64 (Oc.U d)])] w fun e w'=>e=.returned (.agg #[.int .u64 (Oc.U (~~~a)),.int .u64 (Oc.U (~~~b)),.int .u64 (Oc.U (~~~c)),.int .u64 (Oc.U (~~~d))])∧Below w.heap.size w w':=by
 go_enter Tryz.func111,Tryz.ntmps111
 go_wp2
 go_rounds 5
 go_returns
 exact ⟨ret_agg (Oc.notU a) (Oc.notU b) (Oc.notU c) (Oc.notU d),by go_grown⟩
theorem ones_any (x:BitVec 64) (w:World) :
   Calls Tryz.prog 142 #[.int .u64 (Oc.U x)] w fun e w'=>e=.returned (.int .i64 (Oc.cnt x.getLsbD 64))∧w=w':=by
 have h0:=Oc.U_nonneg x
 go_enter Tryz.func142,Tryz.ntmps142
 go_wp2
 go_returns
 refine ⟨ret_int ?_,rfl⟩
 simp only [Oc.and_lit1,Oc.and_lit2,Oc.and_lit4,Oc.shr1,Oc.shr2,Oc.shr4,Oc.shr8,Oc.shr16,Oc.shr32,Oc.addU]
 show bits .and .i64 (wrap64 (Oc.U (Oc.v6 x))) 127=_
 rw [Oc.and127,Oc.ones_eq]
theorem at0 (a b c d:Value) (w:World):(Instr.index 25 (.agg #[a,b,c,d]) (.int .i64 0)).run Tryz.prog w=.ok a w:=by kernel_rfl
theorem at1 (a b c d:Value) (w:World):(Instr.index 25 (.agg #[a,b,c,d]) (.int .i64 1)).run Tryz.prog w=.ok b w:=by kernel_rfl
theorem at2 (a b c d:Value) (w:World):(Instr.index 25 (.agg #[a,b,c,d]) (.int .i64 2)).run Tryz.prog w=.ok c w:=by kernel_rfl
theorem at3 (a b c d:Value) (w:World):(Instr.index 25 (.agg #[a,b,c,d]) (.int .i64 3)).run Tryz.prog w=.ok d w:=by kernel_rfl
theorem count_any (a b c d:BitVec 64) (w:World) :
   Calls Tryz.prog 108 #[(.agg #[.int .u64 (Oc.U a),.int .u64 (Oc.U b),.int .u64 (Oc.U c),.int .u64 (Oc.U d)])] w fun e w'=>e=.returned (.int .i64 (Oc.cnt (Oc.mem a b c d) 256))∧Below w.heap.size w w':=by
 have hc:=Oc.cnt_mem a b c d
 have ha:=Oc.cnt_le a.getLsbD 64
 have hb:=Oc.cnt_le b.getLsbD 64
 have hc':=Oc.cnt_le c.getLsbD 64
 have hd:=Oc.cnt_le d.getLsbD 64
 rw [hc]
 clear hc
 have i0:=at0;have i1:=at1;have i2:=at2;have i3:=at3
 go_enter Tryz.func108,Tryz.ntmps108
 go_wp2
 refine wp_loop_rounds 5 ?_
 iterate 4
   rw [rounds_succ]
   go_wp2_with fail
   refine (ones_any _ _).mono ?_
   rintro e w' ⟨rfl,rfl⟩
   go_wp2_with fail
 rw [rounds_succ]
 go_wp2
 go_returns
 exact ⟨ret_int (by simp),by go_grown⟩
theorem has_any (a b c d:BitVec 64) (n:Nat) (hn:n < 256) (w:World) :
   Calls Tryz.prog 171 #[(.agg #[.int .u64 (Oc.U a),.int .u64 (Oc.U b),.int .u64 (Oc.U c),.int .u64 (Oc.U d)]),.int .u8 n] w fun e w'=>e=.returned (.bool (Oc.mem a b c d n))∧Below w.heap.size w w':=by
 have ha:=Oc.U_nonneg a;have hb:=Oc.U_nonneg b;have hc:=Oc.U_nonneg c;have hd:=Oc.U_nonneg d
 have hq:n / 64=0 ∨ n / 64=1 ∨ n / 64=2 ∨ n / 64=3:=by omega
 rcases hq with hq | hq | hq | hq
 all_goals
   go_enter Tryz.func171,Tryz.ntmps171
   go_wp2
   go_returns
   refine ⟨ret_bool ?_,by go_grown⟩
   rw [Oc.hasBit]
   unfold Oc.mem Oc.w4
   rw [hq]
   rfl
theorem of_any (p:Option Addr) (len cap:Nat) (bs:Nat→Nat) (hlen:len ≤ 9223372036854775807) (w:World) (hb:∀ i,i < len→bs i < 256) (hc:∀ i,i < len→∃ b o,p=some ⟨b,o,none⟩∧b < w.heap.size∧w.cell? ⟨b,o+i,none⟩=some (.int .u8 (bs i))) :
   Calls Tryz.prog 112 #[.slice p len cap] w fun e w'=>e=.returned (.agg #[.int .u64 (Oc.U (Oc.mk (Oc.anyB bs len) 0)),.int .u64 (Oc.U (Oc.mk (Oc.anyB bs len) 1)),.int .u64 (Oc.U (Oc.mk (Oc.anyB bs len) 2)),.int .u64 (Oc.U (Oc.mk (Oc.anyB bs len) 3))])∧Below w.heap.size w w':=by
 go_enter Tryz.func112,Tryz.ntmps112
 go_wp2
 go_loopw [8] (fun i wr=>∃ k:Nat,k ≤ len∧i=.int .i64 k∧wr=(w.alloc (.cells #[.int .u64 0,.int .u64 0,.int .u64 0,.int .u64 0] 25)).alloc (.cells #[.int .u64 (Oc.U (Oc.mk (Oc.anyB bs k) 0)),.int .u64 (Oc.U (Oc.mk (Oc.anyB bs k) 1)),.int .u64 (Oc.U (Oc.mk (Oc.anyB bs k) 2)),.int .u64 (Oc.U (Oc.mk (Oc.anyB bs k) 3))] 25)) (fun i _=>len - (intOf i).toNat)
 case atStart =>
   exact ⟨0,Nat.zero_le _,rfl,by rw [show Oc.anyB bs 0=fun _=>false from rfl,Oc.mk_none,Oc.mk_none,Oc.mk_none,Oc.mk_none];rfl⟩
 case round =>
   obtain ⟨k,hk,rfl,rfl⟩:=hrel
   by_cases hlt:k < len
   · obtain ⟨b,o,rfl,hbs,hcell⟩:=hc k hlt
     have hv:=hb k hlt
     generalize hv':bs k=v at *
     have HV:=Lib.hid hv'
     clear hv' hc hb
     have hc1:∀ o1 o2,((w.alloc o1).alloc o2).cell? ⟨b,o+k,none⟩=some (.int .u8 v):=by
       intro o1 o2
       rw [← hcell]
       exact (((Below.refl w.heap.size w).alloc (Nat.le_refl _) o1).alloc (by simp) o2).cell hbs
     have hq:v / 64=0 ∨ v / 64=1 ∨ v / 64=2 ∨ v / 64=3:=by omega
     rcases hq with hq | hq | hq | hq
     all_goals
       go_wp2
       refine ⟨⟨k+1,by omega,by go_num, ?_⟩,by simp [intOf];omega⟩
       rw [Oc.shlBit,Oc.orU]
       have ht:∀ j,Oc.anyB bs (k+1) j=(Oc.anyB bs k j || j == v):=fun j=>by rw [← HV.out];rfl
       refine cells4 ?_ ?_ ?_ ?_
       all_goals first
         | rw [Oc.mk_turn ht hq]
         | rw [Oc.mk_same ht (by omega)]
   · obtain rfl:k=len:=by omega
     go_wp2
     go_returns
     exact ⟨rfl,by go_grown⟩
end Go.Proofs.YtnfdknhhkdphhaaGreatDoor
namespace Go.Proofs.YtnfdknhhkdphhaaGreatDoor
open Go.RowKit
namespace Tr
def fieldsOk (t:Tr):Prop :=
 ((t.kind=1 ∨ t.kind=3 ∨ t.kind=4)∧t.w0=0#64∧t.w1=0#64∧t.w2=0#64∧t.w3=0#64∧t.subs=[]∧t.num=0∧t.least=0∧t.most=0∧t.bare=false) ∨
 (t.kind=2∧t.subs=[]∧t.num=0∧t.least=0∧t.most=0∧t.bare=false) ∨
 ((t.kind=5 ∨ t.kind=6)∧t.w0=0#64∧t.w1=0#64∧t.w2=0#64∧t.w3=0#64∧2 ≤ t.subs.length∧t.num=0∧t.least=0∧t.most=0∧t.bare=false) ∨
 (t.kind=7∧t.w0=0#64∧t.w1=0#64∧t.w2=0#64∧t.w3=0#64∧t.subs.length=1∧1 ≤ t.num∧t.num ≤ 999∧t.least=0∧t.most=0∧t.bare=false) ∨
 (t.kind=8∧t.w0=0#64∧t.w1=0#64∧t.w2=0#64∧t.w3=0#64∧t.subs.length=1∧t.num=0∧0 ≤ t.least∧t.least ≤ 255∧(t.most = -1 ∨ (t.least ≤ t.most∧t.most ≤ 255))∧(t.bare=true→t.least=0))
inductive InForm:Tr→Prop
 | mk (t:Tr) (h:fieldsOk t) (hs:∀ u,u ∈ t.subs→InForm u):InForm t
theorem InForm.fields {t:Tr} (h:InForm t):fieldsOk t:=by cases h;assumption
theorem InForm.sub {t u:Tr} (h:InForm t) (hu:u ∈ t.subs):InForm u:=by cases h with | mk _ _ hs=>exact hs u hu
def sat (n:Nat):Nat:=min 2001 n
theorem sat_sat (a b:Nat):sat (sat a+b)=sat (a+b):=by unfold sat;omega
theorem sat_le (a:Nat):sat a ≤ 2001:=by unfold sat;omega
def repSz (lo hi:Int) (n:Nat):Nat :=
 if hi=0 then 1
 else if lo=1∧hi=1 then n
 else if lo=0∧(hi=1 ∨ hi = -1) then sat (1+n)
 else if hi = -1 then sat (1+lo.toNat * n+(1+n))
 else sat (1+lo.toNat * n+(hi - lo).toNat * (1+n))
mutual
def szT:Tr→Nat
 | .node k _ _ _ _ s _ lo hi _=>if k=8 then repSz lo hi (szH s) else sat (1+szS s)
def szS:List Tr→Nat
 | []=>0
 | t :: l=>szT t+szS l
def szH:List Tr→Nat
 | []=>0
 | t :: _=>szT t
end
theorem repSz_le {lo hi:Int} {n:Nat} (h:n ≤ 2001):repSz lo hi n ≤ 2001:=by
 unfold repSz
 split
 · omega
 split
 · exact h
 split
 · exact sat_le _
 split <;> exact sat_le _
theorem szT_le:∀ t:Tr,szT t ≤ 2001:=by
 intro t
 induction t using Tr.rec_subs with
 | h t ih =>
   cases t with
   | node k a b c d s n lo hi br =>
     rw [szT]
     split
     · refine repSz_le ?_
       cases s with
       | nil=>simp [szH]
       | cons x l=>rw [szH];exact ih x (by simp [subs])
     · exact sat_le _
theorem szS_append:∀ (l m:List Tr),szS (l ++ m)=szS l+szS m
 | [],m=>by simp [szS]
 | t :: l,m=>by rw [List.cons_append,szS,szS,szS_append l m];omega
theorem szS_take (l:List Tr) (m:Nat) (x:Tr) (h:l[m]? = some x):szS (l.take (m+1))=szS (l.take m)+szT x:=by
 rw [List.take_add_one,h,Option.toList_some,szS_append,szS,szS];rfl
end Tr
theorem trcount_any (a b:Nat) (ha:a ≤ 2001) (hb:b ≤ 2002) (x y:Int) (hx:x=a) (hy:y=b) (w:World):Calls Tryz.prog 116 #[.int .i64 x,.int .i64 y] w fun e w'=>e=.returned (.int .i64 (Tr.sat (a+b):Nat))∧w=w':=by
 subst hx hy
 have hw:IntKind.i64.wrap ((a:Int)+b)=(a:Int)+b:=IntWalk.i64_in _ (by omega)
 go_enter Tryz.func116,Tryz.ntmps116
 go_wp2
 all_goals
   go_ret
   exact ⟨ret_int (by unfold Tr.sat;omega),rfl⟩
theorem box5 {w:World} {b:Nat} {t:Tr} {s:Value} {ty:TypeId} (h:w.heap[b]? = some (.cells (t.cells s) ty)) :
   w.cell? ⟨b,0,none⟩=some (.int .i64 t.kind)∧w.cell? ⟨b,4+1,none⟩=some s∧w.cell? ⟨b,5,none⟩=some s∧w.cell? ⟨b,7,none⟩=some (.int .i64 t.least)∧w.cell? ⟨b,8,none⟩=some (.int .i64 t.most):=by
 simp [World.cell?,h,Tr.cells]
def SizeEnd (n:Nat) (w:World) (e:Ending) (w':World):Prop:=e=.returned (.int .i64 n)∧Below w.heap.size w w'
theorem refsize_seq (t:Tr) (ih:∀ u,u ∈ t.subs→u.InForm→∀ (w:World) (B:Nat→Prop) (v:Value),NodeV w B v u→Calls Tryz.prog 82 #[v] w (SizeEnd u.szT w)) (hf:t.InForm) (hk:t.kind ≠ 8)
   (w:World) (B:Nat→Prop) (v:Value) (hv:NodeV w B v t):Calls Tryz.prog 82 #[v] w (SizeEnd t.szT w):=by
 obtain ⟨s,rfl,hs⟩:=hv
 obtain ⟨p,cap,rfl,hlen⟩:=hs.slice
 have HE:=Lib.hid (show t.szT=Tr.sat (1+Tr.szS t.subs) by cases t;rw [Tr.szT];simp only [Tr.kind] at hk;rw [if_neg hk];rfl)
 have HF:=Lib.hid hf
 generalize hts:t.subs=ts at *
 have HTS:=Lib.hid hts;have IH:=Lib.hid ih;have HS:=Lib.hid hs
 have e8:(t.kind != 8)=true:=by simpa using hk
 clear ih hs hf hk hts
 unfold Tr.cells
 go_enter Tryz.func82,Tryz.ntmps82
 go_wp2
 go_loopw [3,4] (fun nv iv wr=>∃ m:Nat,iv=.int .i64 m∧m ≤ ts.length∧nv=.int .i64 (Tr.sat (1+Tr.szS (ts.take m)):Nat)∧Hid (Below w.heap.size w wr)∧w.heap.size < wr.heap.size∧Hid (wr.heap[w.heap.size]? = some (.cells (t.cells (.slice p ts.length cap)) 28))) (fun _ iv _=>ts.length - (intOf iv).toNat)
 case atStart=>exact ⟨0,rfl,Nat.zero_le _,rfl,Lib.hid (by go_grown),by simp,Lib.hid (heap_alloc_new _ _)⟩
 case round =>
   obtain ⟨m,rfl,hm,rfl,HB,hsz,Z0⟩:=hrel
   have wm:IntKind.i64.wrap ((m:Int)+1)=(m:Int)+1:=IntWalk.i64_in _ (by omega)
   obtain ⟨-,-,f5,-,-⟩:=box5 Z0.out
   by_cases hlt:m < ts.length
   · obtain ⟨x,hx⟩:∃ x,ts[m]? = some x:=⟨_,List.getElem?_eq_getElem hlt⟩
     obtain ⟨b1,o1,s1,rfl,-,t1,sub1⟩:=HS.out.get hx
     obtain ⟨d0,d1,d2,d3,d4,d5,d6,d7,d8,d9⟩:=t1.keep (HB.out.block _ t1.lt)
     have hmem:=List.mem_of_getElem? hx
     have HC:=Lib.hid (IH.out x hmem (HF.out.sub (by rw [HTS.out];exact hmem)) wr B (.agg (x.cells s1)) ⟨_,rfl,sub1.later HB.out⟩)
     have hle:=Tr.sat_le (1+Tr.szS (ts.take m));have hlx:=Tr.szT_le x
     have HST:=Lib.hid (Tr.szS_take ts m x hx)
     clear t1 sub1 hmem hx
     generalize hn:Tr.sat (1+Tr.szS (ts.take m))=n at *
     have HN:=Lib.hid hn
     clear hn
     unfold Tr.cells at HC
     go_wp2_with fail
     refine HC.out.mono ?_
     rintro e w2 ⟨rfl,hb2⟩
     have HB2:=Lib.hid (HB.out.trans (hb2.mono HB.out.size));have Z2:=Lib.hid (keep_blk hb2 Z0.out)
     have hsz2:w.heap.size < w2.heap.size:=Nat.lt_of_lt_of_le hsz hb2.size
     clear d0 d1 d2 d3 d4 d5 d6 d7 d8 d9 f5 hb2 HC
     go_wp2_with fail
     refine (trcount_any n x.szT hle (by omega) _ _ rfl rfl _).mono ?_
     rintro e w3 ⟨rfl,rfl⟩
     have hsum:Tr.sat (n+x.szT)=Tr.sat (1+Tr.szS (ts.take (m+1))):=by rw [← HN.out,Tr.sat_sat,HST.out];congr 1;omega
     rw [hsum]
     clear hsum
     go_wp2
     exact ⟨⟨m+1,by go_num,by omega,rfl,HB2,hsz2,Z2⟩,by simp [intOf];omega⟩
   · obtain rfl:m=ts.length:=by omega
     have HX:=Lib.hid (show Tr.sat (1+Tr.szS (ts.take ts.length))=t.szT by rw [List.take_length,HE.out])
     go_wp2
     go_ret
     exact ⟨ret_int (by rw [HX.out]),HB.out⟩
theorem refsize_rep (t x:Tr) (ih:∀ (w:World) (B:Nat→Prop) (v:Value),NodeV w B v x→Calls Tryz.prog 82 #[v] w (SizeEnd x.szT w)) (hsub:t.subs=[x]) (hk:t.kind=8) (h0:0 ≤ t.least) (h1:t.least ≤ 255) (h2:t.most = -1 ∨ (t.least ≤ t.most∧t.most ≤ 255))
   (w:World) (B:Nat→Prop) (v:Value) (hv:NodeV w B v t):Calls Tryz.prog 82 #[v] w (SizeEnd t.szT w):=by
 obtain ⟨s,rfl,hs⟩:=hv
 have hsz0:t.szT=Tr.repSz t.least t.most x.szT:=by
   cases t;simp only [Tr.kind,Tr.subs] at hk hsub;subst hk hsub;rw [Tr.szT,if_pos rfl,Tr.szH];rfl
 rw [hsub] at hs
 obtain ⟨p,cap,rfl,hlen⟩:=hs.slice
 have hs:TreesAt w B (.slice p 1 cap) [x]:=hs
 obtain ⟨b1,o1,s1,rfl,-,t1,sub1⟩:=hs.get (i:=0) (t:=x) rfl
 have HE:=Lib.hid hsz0
 have HC:=Lib.hid ih
 have t1':TenAt w b1 o1 x s1:=by simpa using t1
 have T1:=Lib.hid t1';have SUB:=Lib.hid sub1
 have e8:(t.kind != 8)=false:=by simpa using hk
 have hN:=Tr.szT_le x
 clear ih hs hk hsub hsz0 t1 t1' sub1 hlen
 obtain ⟨lo,hlo⟩:∃ lo:Nat,t.least=lo:=⟨t.least.toNat,by omega⟩
 rw [hlo] at h0 h1 h2
 by_cases hm0:t.most=0
 · have HX:=Lib.hid (show t.szT=1 by rw [HE.out];unfold Tr.repSz;rw [if_pos hm0])
   unfold Tr.cells
   rw [hm0]
   clear hlo hm0
   go_enter Tryz.func82,Tryz.ntmps82
   go_wp2
   go_ret
   exact ⟨ret_int (by rw [HX.out];rfl),by go_grown⟩
 · have em0:(t.most == 0)=false:=by simpa using hm0
   have HM:=Lib.hid hm0;have HLO:=Lib.hid hlo
   unfold Tr.cells
   clear hm0 hlo
   go_enter Tryz.func82,Tryz.ntmps82
   have d:=fun (o:Obj)=>T1.out.keep (w':=w.alloc o) (Below.heap_alloc w o b1 T1.out.lt)
   have e0:=fun o=>(d o).c0;have e1:=fun o=>(d o).c1;have e2:=fun o=>(d o).c2;have e3:=fun o=>(d o).c3;have e4:=fun o=>(d o).c4
   have e5:=fun o=>(d o).c5;have e6:=fun o=>(d o).c6;have e7:=fun o=>(d o).c7;have e8':=fun o=>(d o).c8;have e9:=fun o=>(d o).c9
   clear d
   go_wp2_with fail
   generalize hw1:World.alloc w _=w1
   have hb1:Below w.heap.size w w1:=by rw [← hw1];exact (Below.refl _ _).alloc (Nat.le_refl _) _
   have Z1:Hid (w1.heap[w.heap.size]? = some (.cells (t.cells (.slice (some ⟨b1,o1,none⟩) 1 cap)) 28)):=Lib.hid (by rw [← hw1];exact heap_alloc_new _ _)
   have hs1:w.heap.size < w1.heap.size:=by rw [← hw1];simp
   have hcall:=HC.out w1 B (.agg (x.cells s1)) ⟨_,rfl,SUB.out.later hb1⟩
   unfold Tr.cells at hcall
   have HB1:=Lib.hid hb1
   clear hw1 e0 e1 e2 e3 e4 e5 e6 e7 e8' e9 hb1
   refine hcall.mono ?_
   rintro e w2 ⟨rfl,hb2⟩
   have HB2:=Lib.hid (HB1.out.trans (hb2.mono HB1.out.size));have Z2:=Lib.hid (keep_blk hb2 Z1.out)
   have hs2:w.heap.size < w2.heap.size:=Nat.lt_of_lt_of_le hs1 hb2.size
   clear hb2 hcall HB1 Z1
   generalize hNe:x.szT=N at *
   clear hNe
   have hlo255:lo ≤ 255:=by omega
   go_wp2
   go_loopw [6,7,8] (fun pv nv iv wr=>∃ m:Nat,iv=.int .i64 m∧pv=.int .i64 m∧m ≤ lo∧nv=.int .i64 (Tr.sat (m * N):Nat)∧wr=w2) (fun _ _ iv _=>lo - (intOf iv).toNat)
   case atStart=>exact ⟨0,rfl,rfl,Nat.zero_le _,by simp [Tr.sat],rfl⟩
   case round =>
     obtain ⟨m,rfl,rfl,hm,rfl,rfl⟩:=hrel
     have wm:IntKind.i64.wrap ((m:Int)+1)=(m:Int)+1:=IntWalk.i64_in _ (by omega)
     obtain ⟨-,-,-,f7,f8⟩:=box5 Z2.out
     rw [HLO.out] at f7
     by_cases hlt:m < lo
     · have hsat:=Tr.sat_le (m * N)
       have HS:=Lib.hid (show Tr.sat (Tr.sat (m * N)+N)=Tr.sat ((m+1) * N) by rw [Tr.sat_sat,Nat.succ_mul])
       generalize Tr.sat (m * N)=n at *
       go_wp2_with fail
       refine (trcount_any n N hsat (by omega) _ _ rfl rfl _).mono ?_
       rintro e w3 ⟨rfl,rfl⟩
       rw [HS.out]
       go_wp2
       exact ⟨⟨m+1,by go_num,by go_num,by omega,rfl,trivial⟩,by simp [intOf];omega⟩
     · obtain rfl:m=lo:=by omega
       have hsat0:=Tr.sat_le (m * N)
       generalize hA:m * N=A at *
       have HA:=Lib.hid hA
       clear hA
       generalize hhi:t.most=hi at *
       have HHI:=Lib.hid hhi
       clear hhi
       obtain ⟨J,hJ⟩:∃ J:Nat,J=(hi - m).toNat:=⟨_,rfl⟩
       have HJ:=Lib.hid hJ
       have hJ2:J ≤ 255:=by omega
       clear hJ
       go_wp2
       go_loopw [6,7,9] (fun pv nv iv wz=>∃ j:Nat,iv=.int .i64 ((m+j:Nat):Int)∧pv=.int .i64 ((m+j:Nat):Int)∧j ≤ J∧nv=.int .i64 (Tr.sat (A+j * (N+1)):Nat)∧wz=wr) (fun _ _ iv _=>(m+J) - (intOf iv).toNat)
       case atStart=>exact ⟨0,rfl,rfl,Nat.zero_le _,by simp,rfl⟩
       case round =>
         obtain ⟨j,rfl,rfl,hj,rfl,rfl⟩:=hrel
         have wj:IntKind.i64.wrap (((m+j:Nat):Int)+1)=((m+j:Nat):Int)+1:=IntWalk.i64_in _ (by omega)
         have wj2:IntKind.i64.wrap ((m:Int)+j+1)=(m:Int)+j+1:=IntWalk.i64_in _ (by omega)
         obtain ⟨-,-,-,f7,f8⟩:=box5 Z2.out
         rw [HHI.out] at f8
         by_cases hjJ:j < J
         · have hd:decide (((m+j:Nat):Int) < hi)=true:=by have:=HJ.out;simp;omega
           have hd2:decide ((m:Int)+j < hi)=true:=by have:=HJ.out;simp;omega
           have hsat:=Tr.sat_le (A+j * (N+1))
           have HS:=Lib.hid (show Tr.sat (Tr.sat (Tr.sat (A+j * (N+1))+N)+1)=Tr.sat (A+(j+1) * (N+1)) by rw [Tr.sat_sat,show Tr.sat (A+j * (N+1))+N+1=Tr.sat (A+j * (N+1))+(N+1) by omega,Tr.sat_sat,Nat.succ_mul,Nat.add_assoc])
           generalize Tr.sat (A+j * (N+1))=n at *
           go_wp2_with fail
           refine (trcount_any n N hsat (by omega) _ _ rfl rfl _).mono ?_
           rintro e w3 ⟨rfl,rfl⟩
           have hs2':=Tr.sat_le (n+N)
           generalize Tr.sat (n+N)=n2 at *
           go_wp2_with fail
           refine (trcount_any n2 1 hs2' (by omega) _ _ rfl rfl _).mono ?_
           rintro e w3 ⟨rfl,rfl⟩
           rw [HS.out]
           go_wp2
           exact ⟨⟨j+1,by go_num,by go_num,by omega,rfl,trivial⟩,by simp [intOf];omega⟩
         · obtain rfl:j=J:=by omega
           have hd:decide (((m+j:Nat):Int) < hi)=false:=by have:=HJ.out;simp;omega
           have hd2:decide ((m:Int)+j < hi)=false:=by have:=HJ.out;simp;omega
           have hsat:=Tr.sat_le (A+j * (N+1))
           by_cases hend:hi = -1
           · have hj0:j=0:=by have:=HJ.out;omega
             subst hj0
             have eend:(hi == -1)=true:=by simpa using hend
             have HS:=Lib.hid (show Tr.sat (Tr.sat (Tr.sat (A+0 * (N+1))+N)+1)=Tr.sat (A+N+1) by rw [Tr.sat_sat,show Tr.sat (A+0 * (N+1))+N+1=Tr.sat (A+0 * (N+1))+(N+1) by omega,Tr.sat_sat];congr 1;omega)
             generalize Tr.sat (A+0 * (N+1))=n at *
             go_wp2_with fail
             refine (trcount_any n N hsat (by omega) _ _ rfl rfl _).mono ?_
             rintro e w3 ⟨rfl,rfl⟩
             have hs2':=Tr.sat_le (n+N)
             generalize Tr.sat (n+N)=n2 at *
             go_wp2_with fail
             refine (trcount_any n2 1 hs2' (by omega) _ _ rfl rfl _).mono ?_
             rintro e w3 ⟨rfl,rfl⟩
             rw [HS.out]
             by_cases hm1:m=0
             · subst hm1
               have HX:=Lib.hid (show Tr.sat (A+N+1)=t.szT by
                 rw [HE.out,HLO.out];unfold Tr.repSz;rw [if_neg (by omega),if_neg (by omega),if_pos ⟨rfl,.inr hend⟩]
                 have:=HA.out;congr 1;omega)
               go_wp2
               go_ret
               exact ⟨ret_int (by rw [HX.out]),HB2.out⟩
             · have HX:=Lib.hid (show Tr.sat (Tr.sat (A+N+1)+1)=t.szT by
                 rw [HE.out,HLO.out];unfold Tr.repSz;rw [if_neg (by omega),if_neg (by omega),if_neg (by omega),if_pos hend,Tr.sat_sat]
                 have:=HA.out;congr 1;simp;omega)
               have hgt:decide ((1:Int) < (m:Int)+1)=true:=by simp;omega
               have hgt2:decide ((0:Int) < (m:Int))=true:=by simp;omega
               have hs3:=Tr.sat_le (A+N+1)
               generalize Tr.sat (A+N+1)=n3 at *
               go_wp2_with fail
               refine (trcount_any n3 1 hs3 (by omega) _ _ rfl rfl _).mono ?_
               rintro e w3 ⟨rfl,rfl⟩
               rw [HX.out]
               go_wp2
               go_ret
               exact ⟨rfl,HB2.out⟩
           · have eend:(hi == -1)=false:=by simpa using hend
             have hhim:(m:Int) ≤ hi:=by omega
             have hJm:((m+j:Nat):Int)=hi:=by have:=HJ.out;omega
             have hpos:1 ≤ m+j:=by have:=HM.out;omega
             by_cases h1':m+j=1
             · have HX:=Lib.hid (show Tr.sat (A+j * (N+1))=t.szT by
                 rw [HE.out,HLO.out];unfold Tr.repSz;rw [if_neg (by omega)]
                 have hA:=HA.out
                 by_cases hm1:m=1
                 · rw [if_pos ⟨by omega,by omega⟩]
                   have:j=0:=by omega
                   subst this hm1
                   unfold Tr.sat;omega
                 · have:m=0:=by omega
                   have:j=1:=by omega
                   subst this;subst m
                   rw [if_neg (by omega),if_pos ⟨rfl,.inl (by omega)⟩];congr 1;omega)
               have hgt:decide ((1:Int) < ((m+j:Nat):Int))=false:=by simp;omega
               have hgt2:decide ((1:Int) < (m:Int)+j)=false:=by simp;omega
               rw [HX.out]
               go_wp2
               go_ret
               exact ⟨rfl,HB2.out⟩
             · have HX:=Lib.hid (show Tr.sat (Tr.sat (A+j * (N+1))+1)=t.szT by
                 rw [HE.out,HLO.out];unfold Tr.repSz;rw [if_neg (by omega),if_neg (by omega),if_neg (by omega),if_neg (by omega),Tr.sat_sat]
                 have hA:=HA.out
                 have hjj:(hi - (m:Int)).toNat=j:=by omega
                 rw [hjj]
                 congr 1
                 rw [show ((m:Int)).toNat=m by simp,hA,Nat.add_comm 1 N]
                 omega)
               have hgt:decide ((1:Int) < ((m+j:Nat):Int))=true:=by simp;omega
               have hgt2:decide ((1:Int) < (m:Int)+j)=true:=by simp;omega
               generalize Tr.sat (A+j * (N+1))=n3 at *
               go_wp2_with fail
               refine (trcount_any n3 1 hsat (by omega) _ _ rfl rfl _).mono ?_
               rintro e w3 ⟨rfl,rfl⟩
               rw [HX.out]
               go_wp2
               go_ret
               exact ⟨rfl,HB2.out⟩
theorem refsize_any:∀ t:Tr,t.InForm→∀ (w:World) (B:Nat→Prop) (v:Value),NodeV w B v t→Calls Tryz.prog 82 #[v] w (SizeEnd t.szT w):=by
 intro t
 induction t using Tr.rec_subs with
 | h t ih =>
   intro hf w B v hv
   by_cases hk:t.kind=8
   · have hfl:=hf.fields
     unfold Tr.fieldsOk at hfl
     obtain ⟨-,-,-,-,-,hl,-,h0,h1,h2,-⟩:t.kind=8∧t.w0=0#64∧t.w1=0#64∧t.w2=0#64∧t.w3=0#64∧t.subs.length=1∧t.num=0∧0 ≤ t.least∧t.least ≤ 255∧(t.most = -1 ∨ (t.least ≤ t.most∧t.most ≤ 255))∧(t.bare=true→t.least=0):=by
       rcases hfl with h | h | h | h | h
       · omega
       · omega
       · omega
       · omega
       · exact h
     obtain ⟨x,hx⟩:=List.length_eq_one_iff.1 hl
     have hmem:x ∈ t.subs:=by rw [hx];exact List.mem_cons_self
     exact refsize_rep t x (fun w B v hv=>ih x hmem (hf.sub hmem) w B v hv) hx hk h0 h1 h2 w B v hv
   · exact refsize_seq t ih hf hk w B v hv
end Go.Proofs.YtnfdknhhkdphhaaGreatDoor
namespace Go.Proofs.YtnfdknhhkdphhaaGreatDoor
open Go.RowKit
theorem stays_is (t:Tr) (s:Value) (hs:∃ p l c,s=.slice p l c) (b:Bool) (hb:b=decide (t.least=0∧(t.most=1 ∨ t.most = -1))) (w:World):Calls Tryz.prog 105 #[.agg (t.cells s)] w fun e w'=>e=.returned (.bool b)∧Below w.heap.size w w':=by
 obtain ⟨p,l,c,rfl⟩:=hs
 unfold Tr.cells
 by_cases h0:t.least=0
 · by_cases h1:t.most=1
   · have hb1:b=true:=by rw [hb];simp [h0,h1]
     subst hb1
     rw [h0,h1]
     clear hb
     go_enter Tryz.func105,Tryz.ntmps105
     go_wp2
     go_ret
     exact ⟨rfl,by go_grown⟩
   · by_cases h2:t.most = -1
     · have hb1:b=true:=by rw [hb];simp [h0,h2]
       subst hb1
       rw [h0,h2]
       clear hb
       go_enter Tryz.func105,Tryz.ntmps105
       go_wp2
       go_ret
       exact ⟨rfl,by go_grown⟩
     · have hb1:b=false:=by rw [hb];simp [h1,h2]
       subst hb1
       rw [h0]
       have e1:(t.most == 1)=false:=by simpa using h1
       have e2:(t.most == -1)=false:=by simpa using h2
       clear hb h1 h2
       go_enter Tryz.func105,Tryz.ntmps105
       go_wp2
       go_ret
       exact ⟨rfl,by go_grown⟩
 · have hb1:b=false:=by rw [hb];simp [h0]
   subst hb1
   have e1:(t.least == 0)=false:=by simpa using h0
   clear hb h0
   go_enter Tryz.func105,Tryz.ntmps105
   go_wp2
   go_ret
   exact ⟨rfl,by go_grown⟩
theorem treerep (t x:Tr) (ih:∀ (w:World) (B:Nat→Prop) (v:Value),NodeV w B v x→Calls Tryz.prog 72 #[v] w (SizeEnd x.szT w)) (hsub:t.subs=[x]) (h0:0 ≤ t.least) (h1:t.least ≤ 255) (h2:t.most = -1 ∨ (t.least ≤ t.most∧t.most ≤ 255))
   (w:World) (B:Nat→Prop) (v:Value) (hv:NodeV w B v t):Calls Tryz.prog 106 #[v] w (SizeEnd (Tr.repSz t.least t.most x.szT) w):=by
 obtain ⟨s,rfl,hs⟩:=hv
 rw [hsub] at hs
 obtain ⟨p,cap,rfl,hlen⟩:=hs.slice
 have hs:TreesAt w B (.slice p 1 cap) [x]:=hs
 obtain ⟨b1,o1,s1,rfl,-,t1,sub1⟩:=hs.get (i:=0) (t:=x) rfl
 have t1':TenAt w b1 o1 x s1:=by simpa using t1
 have HC:=Lib.hid ih
 have T1:=Lib.hid t1';have SUB:=Lib.hid sub1
 have hN:=Tr.szT_le x
 have HST:=Lib.hid (fun b hb=>stays_is t (.slice (some ⟨b1,o1,none⟩) 1 cap) ⟨_,_,_,rfl⟩ b hb)
 clear ih hs hsub t1 t1' sub1 hlen
 obtain ⟨m,hm⟩:∃ m:Nat,t.least=m:=⟨t.least.toNat,by omega⟩
 have HM:=Lib.hid hm
 rw [hm] at h0 h1 h2
 have hm255:m ≤ 255:=by omega
 have hmul:m * x.szT ≤ 510255:=Nat.le_trans (Nat.mul_le_mul hm255 hN) (by omega)
 have wmul:IntKind.i64.wrap ((m:Int) * (x.szT:Int))=((m * x.szT:Nat):Int):=by rw [← Int.natCast_mul];exact IntWalk.i64_in _ (by omega)
 generalize hhi:t.most=hi at *
 have HHI:=Lib.hid hhi
 unfold Tr.cells
 rw [hm,hhi]
 clear hm hhi
 go_enter Tryz.func106,Tryz.ntmps106
 have d:=fun (o:Obj)=>T1.out.keep (w':=w.alloc o) (Below.heap_alloc w o b1 T1.out.lt)
 have e0:=fun o=>(d o).c0;have e1:=fun o=>(d o).c1;have e2:=fun o=>(d o).c2;have e3:=fun o=>(d o).c3;have e4:=fun o=>(d o).c4
 have e5:=fun o=>(d o).c5;have e6:=fun o=>(d o).c6;have e7:=fun o=>(d o).c7;have e8:=fun o=>(d o).c8;have e9:=fun o=>(d o).c9
 clear d
 go_wp2_with fail
 generalize hw1:World.alloc w _=w1
 have hb1:Below w.heap.size w w1:=by rw [← hw1];exact (Below.refl _ _).alloc (Nat.le_refl _) _
 have Z1:Hid (w1.heap[w.heap.size]? = some (.cells (t.cells (.slice (some ⟨b1,o1,none⟩) 1 cap)) 28)):=Lib.hid (by rw [← hw1,heap_alloc_new];unfold Tr.cells;rw [HM.out,HHI.out])
 have hs1:w.heap.size < w1.heap.size:=by rw [← hw1];simp
 have hcall:=HC.out w1 B (.agg (x.cells s1)) ⟨_,rfl,SUB.out.later hb1⟩
 unfold Tr.cells at hcall
 have HB1:=Lib.hid hb1
 clear hw1 e0 e1 e2 e3 e4 e5 e6 e7 e8 e9 hb1
 refine hcall.mono ?_
 rintro e w2 ⟨rfl,hb2⟩
 have HB2:=Lib.hid (HB1.out.trans (hb2.mono HB1.out.size));have Z2:=Lib.hid (keep_blk hb2 Z1.out)
 have hs2:w.heap.size < w2.heap.size:=Nat.lt_of_lt_of_le hs1 hb2.size
 clear hb2 hcall HB1 Z1
 generalize hNe:x.szT=N at *
 clear hNe
 obtain ⟨-,-,f5,f7,f8⟩:=box5 Z2.out
 rw [HM.out] at f7
 rw [HHI.out] at f8
 generalize hA:m * N=A at *
 have HA:=Lib.hid hA
 clear hA
 by_cases h11:m=1∧hi=1
 · obtain ⟨rfl,rfl⟩:=h11
   go_wp2
   go_ret
   exact ⟨ret_int (by unfold Tr.repSz;simp),HB2.out⟩
 · have H11:=Lib.hid h11
   clear h11 f5 f7 f8
   obtain ⟨-,-,f5,f7,f8⟩:=box5 Z2.out
   rw [HM.out] at f7
   rw [HHI.out] at f8
   by_cases hst:m=0∧(hi=1 ∨ hi = -1)
   · have HX:=Lib.hid (show Tr.repSz m hi N=Tr.sat (1+N) by unfold Tr.repSz;rw [if_neg (by omega),if_neg (by omega),if_pos ⟨by omega,hst.2⟩])
     obtain ⟨rfl,hst2⟩:=hst
     have HS2:=Lib.hid hst2
     have w1n:IntKind.i64.wrap (1+(N:Int))=1+(N:Int):=IntWalk.i64_in _ (by omega)
     clear hst2
     go_wp2_with (first
       | (refine wpList_load_row rfl 28 (.tmp 1) rfl w.heap.size rfl 28 _ (0,0) _ Z2.out Tryz.underlying28 rfl (by kernel_rfl) ?_)
       | fail)
     refine (HST.out true (by rw [HM.out];have:=HS2.out;simp [this]) _).mono ?_
     rintro e w3 ⟨rfl,hb3⟩
     obtain ⟨-,-,f5,f7,f8⟩:=box5 (keep_blk hb3 Z2.out)
     rw [HM.out] at f7
     rw [HHI.out] at f8
     have HB3:=Lib.hid (HB2.out.trans (hb3.mono HB2.out.size))
     clear hb3
     go_wp2
     all_goals
       go_ret
       exact ⟨ret_int (by have h:=HX.out;(first | rw [h] | (push_cast at h;rw [h]));unfold Tr.sat;have ha:=HA.out;(try simp only [Nat.zero_mul] at ha);omega),HB3.out⟩
   · by_cases hend:hi = -1
     · have hmpos:1 ≤ m:=by omega
       subst hend
       have HX:=Lib.hid (show Tr.repSz m (-1) N=Tr.sat (1+A+(1+N)) by unfold Tr.repSz;rw [if_neg (by omega),if_neg (by omega),if_neg (by omega),if_pos rfl];have:=HA.out;simp [this])
       have HS2:=Lib.hid hst
       have w1n:IntKind.i64.wrap (1+(N:Int))=1+(N:Int):=IntWalk.i64_in _ (by omega)
       have w1a:IntKind.i64.wrap (1+(A:Int))=1+(A:Int):=IntWalk.i64_in _ (by omega)
       have w1s:IntKind.i64.wrap (1+(A:Int)+(1+(N:Int)))=1+(A:Int)+(1+(N:Int)):=IntWalk.i64_in _ (by omega)
       clear hst
       by_cases hm1:m=1
       · subst hm1
         go_wp2_with (first
           | (refine wpList_load_row rfl 28 (.tmp 1) rfl w.heap.size rfl 28 _ (0,0) _ Z2.out Tryz.underlying28 rfl (by kernel_rfl) ?_)
           | fail)
         refine (HST.out false (by rw [HM.out];have:=HS2.out;first | (simp;done) | (simp;omega)) _).mono ?_
         rintro e w3 ⟨rfl,hb3⟩
         obtain ⟨-,-,f5,f7,f8⟩:=box5 (keep_blk hb3 Z2.out)
         rw [HM.out] at f7
         rw [HHI.out] at f8
         have HB3:=Lib.hid (HB2.out.trans (hb3.mono HB2.out.size))
         clear hb3
         go_wp2
         all_goals
           go_ret
           exact ⟨ret_int (by have h:=HX.out;(first | rw [h] | (push_cast at h;rw [h]));unfold Tr.sat;have ha:=HA.out;(try simp only [Nat.one_mul] at ha);omega),HB3.out⟩
       · have g1:((m:Int) == 1)=false:=by simp;omega
         clear hm1
         go_wp2_with (first
           | (refine wpList_load_row rfl 28 (.tmp 1) rfl w.heap.size rfl 28 _ (0,0) _ Z2.out Tryz.underlying28 rfl (by kernel_rfl) ?_)
           | fail)
         refine (HST.out false (by rw [HM.out];have:=HS2.out;first | (simp;done) | (simp;omega)) _).mono ?_
         rintro e w3 ⟨rfl,hb3⟩
         obtain ⟨-,-,f5,f7,f8⟩:=box5 (keep_blk hb3 Z2.out)
         rw [HM.out] at f7
         rw [HHI.out] at f8
         have HB3:=Lib.hid (HB2.out.trans (hb3.mono HB2.out.size))
         clear hb3
         go_wp2
         all_goals
           go_ret
           exact ⟨ret_int (by have h:=HX.out;(first | rw [h] | (push_cast at h;rw [h]));unfold Tr.sat;have ha:=HA.out;(try simp only [Nat.one_mul,Nat.zero_mul] at ha);omega),HB3.out⟩
     · obtain ⟨d,hd⟩:∃ d:Nat,hi=(m:Int)+d:=⟨(hi - m).toNat,by omega⟩
       have hdm:d * (1+N) ≤ 510510:=Nat.le_trans (Nat.mul_le_mul (show d ≤ 255 by omega) (show 1+N ≤ 2002 by omega)) (by omega)
       obtain ⟨B2,hB⟩:∃ B2,d * (1+N)=B2:=⟨_,rfl⟩
       have HX:=Lib.hid (show Tr.repSz m hi N=Tr.sat (1+A+B2) by
         rw [← hB]
         unfold Tr.repSz
         by_cases hz:hi=0
         · rw [if_pos hz]
           have hm0:m=0:=by omega
           have hd0:d=0:=by omega
           have:=HA.out
           subst hm0 hd0
           simp at this
           subst this
           simp [Tr.sat]
         · rw [if_neg hz,if_neg (by have:=H11.out;omega),if_neg (by omega),if_neg hend]
           have:=HA.out
           have hdd:(hi - (m:Int)).toNat=d:=by omega
           rw [hdd];simp [this])
       have HS2:=Lib.hid hst
       have eend:(hi == -1)=false:=by simpa using hend
       have w1n:IntKind.i64.wrap (1+(N:Int))=1+(N:Int):=IntWalk.i64_in _ (by omega)
       have w1a:IntKind.i64.wrap (1+(A:Int))=1+(A:Int):=IntWalk.i64_in _ (by omega)
       have wsub:IntKind.i64.wrap (hi - (m:Int))=(d:Int):=by rw [hd,show (m:Int)+d - m=d by omega];exact IntWalk.i64_in _ (by omega)
       have wmul2:IntKind.i64.wrap ((d:Int) * (1+(N:Int)))=((d * (1+N):Nat):Int):=by
         rw [show (d:Int) * (1+(N:Int))=((d * (1+N):Nat):Int) by push_cast;rfl];exact IntWalk.i64_in _ (by omega)
       have HD:=Lib.hid hd
       rw [hB] at hdm wmul2
       have w1s:IntKind.i64.wrap (1+(A:Int)+(B2:Int))=1+(A:Int)+(B2:Int):=IntWalk.i64_in _ (by omega)
       clear hst hd hB
       by_cases hm1:m=1
       · subst hm1
         have g2:(hi == 1)=false:=by have:=H11.out;simp;omega
         have wsub':IntKind.i64.wrap (hi - 1)=(d:Int):=by simpa using wsub
         have w1s':IntKind.i64.wrap (1+(N:Int)+(B2:Int))=1+(N:Int)+(B2:Int):=IntWalk.i64_in _ (by omega)
         clear wsub w1s w1a wmul
         go_wp2_with (first
           | (refine wpList_load_row rfl 28 (.tmp 1) rfl w.heap.size rfl 28 _ (0,0) _ Z2.out Tryz.underlying28 rfl (by kernel_rfl) ?_)
           | fail)
         refine (HST.out false (by rw [HM.out];have:=HS2.out;first | (simp;done) | (simp;omega)) _).mono ?_
         rintro e w3 ⟨rfl,hb3⟩
         obtain ⟨-,-,f5,f7,f8⟩:=box5 (keep_blk hb3 Z2.out)
         rw [HM.out] at f7
         rw [HHI.out] at f8
         have HB3:=Lib.hid (HB2.out.trans (hb3.mono HB2.out.size))
         clear hb3
         go_wp2
         all_goals
           go_ret
           exact ⟨ret_int (by have h:=HX.out;(first | rw [h] | (push_cast at h;rw [h]));unfold Tr.sat;have ha:=HA.out;(try simp only [Nat.one_mul] at ha);omega),HB3.out⟩
       · have g1:((m:Int) == 1)=false:=by simp;omega
         clear hm1
         go_wp2_with (first
           | (refine wpList_load_row rfl 28 (.tmp 1) rfl w.heap.size rfl 28 _ (0,0) _ Z2.out Tryz.underlying28 rfl (by kernel_rfl) ?_)
           | fail)
         refine (HST.out false (by rw [HM.out];have:=HS2.out;first | (simp;done) | (simp;omega)) _).mono ?_
         rintro e w3 ⟨rfl,hb3⟩
         obtain ⟨-,-,f5,f7,f8⟩:=box5 (keep_blk hb3 Z2.out)
         rw [HM.out] at f7
         rw [HHI.out] at f8
         have HB3:=Lib.hid (HB2.out.trans (hb3.mono HB2.out.size))
         clear hb3
         go_wp2
         all_goals
           go_ret
           exact ⟨ret_int (by have h:=HX.out;(first | rw [h] | (push_cast at h;rw [h]));unfold Tr.sat;have ha:=HA.out;(try simp only [Nat.one_mul,Nat.zero_mul] at ha);omega),HB3.out⟩
end Go.Proofs.YtnfdknhhkdphhaaGreatDoor
namespace Go.Proofs.YtnfdknhhkdphhaaGreatDoor
open Go.RowKit
theorem heap_setCells_other {b k:Nat} (hk:k ≠ b):∀ (vs:List Value) (o:Nat) (w:World),(w.setCells b o vs).heap[k]? = w.heap[k]?
 | [],_,_=>rfl
 | v :: r,o,w=>by rw [World.setCells,heap_setCells_other hk r (o+1) _,Below.heap_setCell _ _ _ _ hk]
theorem size_setCells (b:Nat):∀ (vs:List Value) (o:Nat) (w:World),(w.setCells b o vs).heap.size=w.heap.size
 | [],_,_=>rfl
 | v :: r,o,w=>by rw [World.setCells,size_setCells b r (o+1) _];simp [World.setCell]
theorem streams_setCells (b:Nat):∀ (vs:List Value) (o:Nat) (w:World),(w.setCells b o vs).os=w.os∧(w.setCells b o vs).tape=w.tape∧(w.setCells b o vs).output=w.output
 | [],_,_=>⟨rfl,rfl,rfl⟩
 | v :: r,o,w=>by rw [World.setCells];exact streams_setCells b r (o+1) _
inductive Owned (w:World):Value→List Tr→List Nat→Prop
 | nil (p:Option Addr) (cap:Nat):Owned w (.slice p 0 cap) [] []
 | row (g o cap:Nat) (ts:List Tr) (S:Nat→Value) (L:Nat→List Nat) (hlen:ts.length * 96 ≤ 140737488351232) (hf:∃ cs ty,w.heap[g]? = some (.cells cs ty (0,0)))
     (hc:∀ i t,ts[i]? = some t→TenAt w g (o+i * 10) t (S i)) (hs:∀ i t,ts[i]? = some t→Owned w (S i) t.subs (L i))
     (hg:∀ i,i < ts.length→g ∉ L i) (hd:∀ i j b,i < ts.length→j < ts.length→i ≠ j→b ∈ L i→b ∉ L j) :
     Owned w (.slice (some ⟨g,o,none⟩) ts.length cap) ts (g :: (List.range ts.length).flatMap L)
theorem mem_range_flatMap {L:Nat→List Nat} {n b:Nat} : b ∈ (List.range n).flatMap L ↔ ∃ i,i < n∧b ∈ L i:=by
 simp [List.mem_flatMap,List.mem_range]
theorem lt_of_some {ts:List Tr} {i:Nat} {t:Tr} (h:ts[i]? = some t):i < ts.length:=by
 by_cases hi:i < ts.length
 · exact hi
 · rw [List.getElem?_eq_none (by omega)] at h;cases h
theorem Owned.trees {w:World} {s:Value} {ts:List Tr} {F:List Nat} (h:Owned w s ts F):TreesAt w (fun b=>b ∈ F) s ts:=by
 induction h with
 | nil p cap=>exact TreesAt.nil
 | row g o cap ts S L hlen hf hc hs hg hd ih =>
   refine .mk _ cap ts S hlen (fun i t hi=>⟨g,o,rfl,List.mem_cons_self,hc i t hi⟩) (fun i t hi=>?_)
   exact (ih i t hi).mono fun b _ hb=>List.mem_cons_of_mem _ (mem_range_flatMap.2 ⟨i,lt_of_some hi,hb⟩)
theorem Owned.lt {w:World} {s:Value} {ts:List Tr} {F:List Nat} (h:Owned w s ts F):∀ b,b ∈ F→b < w.heap.size:=by
 induction h with
 | nil p cap=>intro b hb;cases hb
 | row g o cap ts S L hlen hf hc hs hg hd ih =>
   intro b hb
   rcases List.mem_cons.1 hb with rfl | hb
   · obtain ⟨cs,ty,h⟩:=hf;exact (Array.getElem?_eq_some_iff.1 h).1
   · obtain ⟨i,hi,hb⟩:=mem_range_flatMap.1 hb
     exact ih i ts[i] (List.getElem?_eq_getElem hi) b hb
theorem Owned.keep {w w':World} {s:Value} {ts:List Tr} {F:List Nat} (h:Owned w s ts F) (hk:∀ b,b ∈ F→w'.heap[b]? = w.heap[b]?):Owned w' s ts F:=by
 induction h with
 | nil p cap=>exact .nil p cap
 | row g o cap ts S L hlen hf hc hs hg hd ih =>
   refine .row g o cap ts S L hlen ?_ (fun i t hi=>(hc i t hi).keep (hk g List.mem_cons_self)) (fun i t hi=>ih i t hi fun b hb=>hk b (List.mem_cons_of_mem _ (mem_range_flatMap.2 ⟨i,lt_of_some hi,hb⟩))) hg hd
   obtain ⟨cs,ty,h⟩:=hf
   exact ⟨cs,ty,(hk g List.mem_cons_self).trans h⟩
theorem Owned.later {w w':World} {s:Value} {ts:List Tr} {F:List Nat} (h:Owned w s ts F) (hb:Below w.heap.size w w'):Owned w' s ts F:=h.keep fun b hbF=>hb.block b (h.lt b hbF)
end Go.Proofs.YtnfdknhhkdphhaaGreatDoor
namespace Go.Proofs.YtnfdknhhkdphhaaGreatDoor
open Go.RowKit
theorem frozen_of {w:World} {g o:Nat} (h:∃ cs ty,w.heap[g]? = some (.cells cs ty (0,0))):w.frozen? ⟨g,o,none⟩=false:=by
 obtain ⟨cs,ty,h⟩:=h;simp [World.frozen?,h]
theorem TenAt.setCells {w:World} {g o o':Nat} {t:Tr} {s:Value} {vs:List Value} (h:TenAt w g o t s) (hv:vs.length=10) (ho:o'+10 ≤ o ∨ o+10 ≤ o'):TenAt (w.setCells g o' vs) g o t s:=by
 have e:∀ k,o ≤ k→k < o+10→(w.setCells g o' vs).cell? ⟨g,k,none⟩=w.cell? ⟨g,k,none⟩:=fun k h1 h2=>World.cell?_setCells_out g vs o' w _ (fun _ _=>by simp;omega)
 exact ⟨(e _ (by omega) (by omega)).trans h.c0,(e _ (by omega) (by omega)).trans h.c1,(e _ (by omega) (by omega)).trans h.c2,(e _ (by omega) (by omega)).trans h.c3,(e _ (by omega) (by omega)).trans h.c4,(e _ (by omega) (by omega)).trans h.c5,(e _ (by omega) (by omega)).trans h.c6,(e _ (by omega) (by omega)).trans h.c7,(e _ (by omega) (by omega)).trans h.c8,(e _ (by omega) (by omega)).trans h.c9⟩
end Go.Proofs.YtnfdknhhkdphhaaGreatDoor
namespace Go.Proofs.YtnfdknhhkdphhaaGreatDoor
open Go.RowKit
def rowOf (ps:List (Tr × Value)):List Value:=ps.flatMap fun x=>(x.1.cells x.2).toList
theorem rowOf_snoc (ps:List (Tr × Value)) (t:Tr) (s:Value):rowOf (ps ++ [(t,s)])=rowOf ps ++ (t.cells s).toList:=by
 unfold rowOf;simp
theorem rowOf_length (ps:List (Tr × Value)):(rowOf ps).length=ps.length * 10:=by
 unfold rowOf
 induction ps with
 | nil=>rfl
 | cons x ps ih=>rw [List.flatMap_cons,List.length_append,ih];simp [Tr.cells];omega
theorem rowOf_get:∀ (ps:List (Tr × Value)) (i:Nat) (t:Tr) (s:Value),ps[i]? = some (t,s)→∀ j,j < 10→(rowOf ps)[i * 10+j]? = (t.cells s)[j]?
 | [],i,t,s,h,_,_=>by simp at h
 | x :: ps,0,t,s,h,j,hj=>by
   simp only [List.getElem?_cons_zero,Option.some.injEq] at h
   subst h
   unfold rowOf
   rw [List.flatMap_cons,Nat.zero_mul,Nat.zero_add,List.getElem?_append_left (by simp [Tr.cells];omega)]
   simp
 | x :: ps,i+1,t,s,h,j,hj=>by
   have ih:=rowOf_get ps i t s (by simpa using h) j hj
   unfold rowOf at ih ⊢
   rw [List.flatMap_cons,List.getElem?_append_right (by simp [Tr.cells];omega)]
   rw [← ih]
   congr 1
   simp [Tr.cells];omega
theorem trees_of_row {w:World} {base:Nat} {B B':Nat→Prop} {v:Value} {n:Nat} {ps:List (Tr × Value)} (h:w.ownsRow base 28 10 v n (rowOf ps)) (hn:ps.length * 96 ≤ 140737488351232)
   (hs:∀ (i:Nat) (t:Tr) (s:Value),ps[i]? = some (t,s)→TreesAt w B s t.subs) (hB:∀ b,B b→B' b) (hg:∀ g,v.ownBlock=some g→B' g):TreesAt w B' v (ps.map (·.1)):=by
 have hlen:ps.length=n:=by have:=h.1;rw [rowOf_length] at this;omega
 have hcells:=fun g hv=>World.ownsRow.cells h (g:=g) hv
 rcases h.2 with ⟨rfl,hn0⟩ | ⟨g,cap,cur,rfl,hbg,hheap,-⟩
 · have:ps=[]:=List.length_eq_zero_iff.1 (by omega)
   subst this
   exact TreesAt.nil
 · have hc:=hcells g rfl
   have key:∀ (i:Nat) (t:Tr) (s:Value),ps[i]? = some (t,s)→TenAt w g (0+i * 10) t s:=by
     intro i t s hi
     have get:∀ j u,j < 10→(t.cells s)[j]? = some u→w.cell? ⟨g,0+i * 10+j,none⟩=some u:=by
       intro j u hj hu
       have:=hc (i * 10+j) u (by rw [rowOf_get ps i t s hi j hj];exact hu)
       have ea:(⟨g,0,none⟩:Addr).add (i * 10+j)=⟨g,0+i * 10+j,none⟩:=by unfold Addr.add;split <;> simp_all <;> omega
       rw [ea] at this;exact this
     exact ⟨get 0 _ (by omega) rfl,get 1 _ (by omega) rfl,get 2 _ (by omega) rfl,get 3 _ (by omega) rfl,get 4 _ (by omega) rfl,get 5 _ (by omega) rfl,get 6 _ (by omega) rfl,get 7 _ (by omega) rfl,get 8 _ (by omega) rfl,get 9 _ (by omega) rfl⟩
   have hl2:n=(ps.map (·.1)).length:=by rw [List.length_map];omega
   rw [hl2]
   have split:∀ (i:Nat) (t:Tr),(ps.map (·.1))[i]? = some t→∃ s,ps[i]? = some (t,s):=by
     intro i t hi
     rw [List.getElem?_map] at hi
     cases hx:ps[i]? with
     | none=>rw [hx] at hi;cases hi
     | some x=>rw [hx] at hi;cases x with | mk a b=>simp only [Option.map_some,Option.some.injEq] at hi;subst hi;exact ⟨b,rfl⟩
   refine .mk (some ⟨g,0,none⟩) cap (ps.map (·.1)) (fun i=>((ps[i]?).map (·.2)).getD undef) (by rw [List.length_map];exact hn) (fun i t hi=>?_) (fun i t hi=>?_)
   · obtain ⟨s,hs'⟩:=split i t hi
     exact ⟨g,0,rfl,hg g rfl,by simp only [hs',Option.map_some,Option.getD_some];exact key i t s hs'⟩
   · obtain ⟨s,hs'⟩:=split i t hi
     simp only [hs',Option.map_some,Option.getD_some]
     exact (hs i t s hs').mono fun b _ hb=>hB b hb
end Go.Proofs.YtnfdknhhkdphhaaGreatDoor
namespace Go.Proofs.YtnfdknhhkdphhaaGreatDoor
open Go.RowKit
theorem append_block {P:Program} {w w':World} (base:Nat) (t ty e:TypeId) (i:TypeInfo) (z:Value) (size bytes:Nat) (ht:P.underlying t=some (.slice e)) (hi:P.info? e=some i) (hz:i.zero=some z)
   (hsize:i.size=size) (hby:i.bytes=bytes) (v v':Value) (n:Nat) (xs:List Value) (hown:w.ownsRow base e size v n xs)
   (a:Addr) (m c:Nat) (news:List Value) (hl:news.length=m * size) (hnews:∀ j u,news[j]? = some u→w.cell? (a.add j)=some u) (h1:∀ u ∈ news,u.oneCell'=true) (hm:0 < m)
   (h63:n+m ≤ maxLen) (hbytes:(n+m) * bytes ≤ 140737488355328) (hr:(Builtin.append_ #[t,t] ty #[v,.slice (some a) m c]).run P w=.ok v' w') :
   v'.ownBlock=v.ownBlock ∨ v'.ownBlock=some w.heap.size:=by
 subst hsize hby
 unfold maxLen at h63
 have hxl:=hown.1
 have hcells:=fun g hg=>World.ownsRow.cells hown (g:=g) hg
 rcases hown.2 with ⟨rfl,rfl⟩ | ⟨g,cap,cur,rfl,-,hg,hnc,hcm,hcs,-⟩
 · rw [run_append_nil (P:=P) w t ty e i z ht hi hz a m c news hl hnews hm (by omega) (by rw [Nat.zero_add] at hbytes;omega)] at hr
   injection hr with h2 h3
   right;rw [← h2];rfl
 · by_cases hroom:n+m ≤ cap
   · rw [run_append_room (P:=P) w t ty e i ht hi g n cap cur hg a m c news hl hnews h1 hroom (by rw [hl,hcs,← Nat.add_mul];exact Nat.mul_le_mul_right _ hroom)] at hr
     injection hr with h2 h3
     left;rw [← h2];rfl
   · rw [run_append_grow (P:=P) w t ty e i z ht hi hz ⟨g,0,none⟩ n cap xs hxl (hcells g rfl) a m c news hl hnews (by omega) (by omega) (growslice_fits (by omega) hbytes)] at hr
     injection hr with h2 h3
     right;rw [← h2];rfl
theorem wpList_append_fresh {P:Program} (w:World) {ops:Array Oper} {rest:List Oper} {o:Oper} {a:Act} {Q:Exit→Act→World→Prop} (hgd:o.guard=none) (s x:Operand) (t:TypeId)
   (ho:o.op=.call { callee:=.builtin .append,args:=#[s,x],argTypes:=#[t,t] })
   (base:Nat) (e:TypeId) (i:TypeInfo) (z:Value) (size bytes:Nat) (ht:P.underlying t=some (.slice e)) (hi:P.info? e=some i) (hz:i.zero=some z)
   (hsize:i.size=size) (hby:i.bytes=bytes) (hzs:z.cells.size=size) (hsz:0 < size)
   (v:Value) (n:Nat) (xs:List Value) (hs:a.eval s=v) (hown:w.ownsRow base e size v n xs)
   (ad:Addr) (m c:Nat) (news:List Value) (hx:a.eval x=.slice (some ad) m c) (hl:news.length=m * size) (hnews:∀ j u,news[j]? = some u→w.cell? (ad.add j)=some u) (h1:∀ u ∈ news,u.oneCell'=true) (hm:0 < m)
   (h63:n+m ≤ maxLen) (hbytes:(n+m) * bytes ≤ 140737488355328) (hbase:base ≤ w.heap.size)
   (h:∀ v' w',w'.ownsRow base e size v' (n+m) (xs ++ news)→w.grownBy w' v.ownBlock→(v'.ownBlock=v.ownBlock ∨ v'.ownBlock=some w.heap.size)→wpList P ops Q rest (a.put o.dst v') w'):wpList P ops Q (o :: rest) a w:=by
 refine wpList_plain hgd fun K hK=>?_
 obtain ⟨v',w',hr,h2,h3,-⟩:=run_append_own (P:=P) w base t o.type e i z size bytes ht hi hz hsize hby hzs hsz v n xs hown ad m c news hl hnews h1 h63 hbytes hbase
 have h4:=append_block base t o.type e i z size bytes ht hi hz hsize hby v v' n xs hown ad m c news hl hnews h1 hm h63 hbytes hr
 unfold Oper.wp execOp
 simp only [ho,resolve,invoke,builtin,Sem.run_bind,Sem.run_pure,Result.andThen_ok,List.map_toArray,List.map_cons,List.map_nil,hs,hx,hr]
 exact hK _ _ (h v' w' h2 h3 h4)
end Go.Proofs.YtnfdknhhkdphhaaGreatDoor
namespace Go.Proofs.YtnfdknhhkdphhaaGreatDoor
open Go.RowKit
theorem Tryz.infoNode:(Tryz.prog.info? 28).map (fun i=>(i.zero,i.size,i.bytes))=some (some (.agg #[.int .i64 0,.int .u64 0,.int .u64 0,.int .u64 0,.int .u64 0,.slice none 0 0,.int .i64 0,.int .i64 0,.int .i64 0,.bool false]),10,96):=by kernel_rfl
def NewEnd (t:Tr) (w:World) (e:Ending) (w':World):Prop:=∃ v,e=.returned v∧NodeV w' (fun b=>w.heap.size ≤ b) v t∧Below w.heap.size w w'
theorem NewEnd.of {t:Tr} {w:World} {e:Ending} {w':World} (h:NewEnd t w e w'):∃ s,e=.returned (.agg (t.cells s))∧TreesAt w' (fun b=>w.heap.size ≤ b) s t.subs∧Below w.heap.size w w':=by
 obtain ⟨v,rfl,⟨s,rfl,hs⟩,hb⟩:=h;exact ⟨s,rfl,hs,hb⟩
theorem nodeC_one (x:Tr) (p:Option Addr) (l c:Nat):∀ u ∈ (x.cells (.slice p l c)).toList,u.oneCell'=true:=by simp [Tr.cells,Value.oneCell']
theorem wpList_node1 {ops:Array Oper} {rest:List Oper} {o:Oper} {a:Act} {w:World} {Q:Exit→Act→World→Prop} (hgd:o.guard=none) (x:Operand) (t:Tr) (p:Option Addr) (len cap:Nat) (ho:o.op=.buildSlice 26 1 #[(0,x)]) (hx:a.eval x=.agg (t.cells (.slice p len cap)))
   (h:wpList Tryz.prog ops Q rest (a.put o.dst (.slice (some ⟨w.heap.size,0,none⟩) 1 1)) (w.alloc (.cells (t.cells (.slice p len cap)) 28))):wpList Tryz.prog ops Q (o :: rest) a w:=by
 refine wpList_plain hgd fun K hK=>?_
 obtain ⟨ie,hi,hz0,hz1,-⟩:=info_parts Tryz.infoNode
 refine wp_buildSlice 26 28 1 _ ho _ ie _ Tryz.underlying26 hi hz0 (by rw [hz1];decide) (by rw [hz1];decide) ?_ (hK _ _ h)
 rw [hz1]
 simp only [List.map_toArray,List.map_cons,List.map_nil,hx]
 kernel_rfl
theorem subs_step {w3 w4:World} {base:Nat} {v v':Value} {s:Value} {ts:List Tr} (h:TreesAt w3 (fun b=>base ≤ b∧v.ownBlock ≠ some b) s ts) (hg:w3.grownBy w4 v.ownBlock) (hw:v'.ownBlock=v.ownBlock ∨ v'.ownBlock=some w3.heap.size) :
   TreesAt w4 (fun b=>base ≤ b∧v'.ownBlock ≠ some b) s ts:=by
 have h1:TreesAt w3 (fun b=>(base ≤ b∧v.ownBlock ≠ some b)∧v'.ownBlock ≠ some b) s ts:=h.mono fun b hb hB=>⟨hB,by
   rcases hw with e | e
   · rw [e];exact hB.2
   · rw [e];intro h;have:=Option.some.inj h;omega⟩
 exact (h1.keep (w':=w4) fun b hb hB=>hg.block b hb (fun e=>hB.1.2 e.symm)).mono fun b _ hB=>⟨hB.1.1,hB.2⟩
theorem set5 {w:World} {b:Nat} {x0 x1 x2 x3 x4 x5 x6 x7 x8 x9 y:Value} {t:TypeId} (h:w.heap[b]? = some (.cells #[x0,x1,x2,x3,x4,x5,x6,x7,x8,x9] t)):(w.setCell ⟨b,5,none⟩ y).heap[b]? = some (.cells #[x0,x1,x2,x3,x4,y,x6,x7,x8,x9] t):=by
 simp [World.setCell,Array.getElem?_modify,h]
theorem at5 {w:World} {b:Nat} {x0 x1 x2 x3 x4 x5 x6 x7 x8 x9:Value} {t:TypeId} (h:w.heap[b]? = some (.cells #[x0,x1,x2,x3,x4,x5,x6,x7,x8,x9] t)):w.cell? ⟨b,5,none⟩=some x5∧w.frozen? ⟨b,5,none⟩=false:=by
 simp [World.cell?,World.frozen?,h]
theorem copynode_any:∀ t:Tr,∀ (w:World) (B:Nat→Prop) (v:Value),NodeV w B v t→Calls Tryz.prog 15 #[v] w (NewEnd t w):=by
 intro t
 induction t using Tr.rec_subs with
 | h t ih =>
   intro w B v hv
   obtain ⟨s,rfl,hs⟩:=hv
   obtain ⟨p,cap,rfl,hlen⟩:=hs.slice
   cases t with | node k a b c d ts n lo hi br =>
   simp only [Tr.cells,Tr.kind,Tr.w0,Tr.w1,Tr.w2,Tr.w3,Tr.num,Tr.least,Tr.most,Tr.bare,Tr.subs] at *
   have IH:=Lib.hid ih
   have HS:=Lib.hid hs
   clear ih hs
   go_enter Tryz.func15,Tryz.ntmps15
   obtain ⟨ie,hi0,hz0,hz1,hz2⟩:=info_parts Tryz.infoNode
   have HI:=Lib.hid hi0;have HZ0:=Lib.hid hz0;have HZ1:=Lib.hid hz1;have HZ2:=Lib.hid hz2
   clear hi0 hz0 hz1 hz2
   go_wp2
   go_loopw [9,3] (fun iv sv wr=>∃ ps:List (Tr × Value),iv=.int .i64 ps.length∧ps.length ≤ ts.length∧Hid (ps.map (·.1)=ts.take ps.length)∧Hid (wr.ownsRow (w.heap.size+2) 28 10 sv ps.length (rowOf ps)) ∧
     Hid (∀ (i:Nat) (t:Tr) (s:Value),ps[i]? = some (t,s)→TreesAt wr (fun b=>w.heap.size+2 ≤ b∧sv.ownBlock ≠ some b) s t.subs)∧Hid (Below w.heap.size w wr)∧w.heap.size+1 < wr.heap.size ∧
     Hid (wr.heap[w.heap.size]? = some (.cells #[.int .i64 k,.int .u64 (Oc.U a),.int .u64 (Oc.U b),.int .u64 (Oc.U c),.int .u64 (Oc.U d),.slice p ts.length cap,.int .i64 n,.int .i64 lo,.int .i64 hi,.bool br] 28))∧Hid (wr.heap[w.heap.size+1]? = some (.cells #[.int .i64 0,.int .u64 0,.int .u64 0,.int .u64 0,.int .u64 0,.slice none 0 0,.int .i64 0,.int .i64 0,.int .i64 0,.bool false] 28))) (fun iv _ _=>ts.length - (intOf iv).toNat)
   case atStart =>
     exact ⟨[],rfl,Nat.zero_le _,Lib.hid (by simp),Lib.hid (World.ownsRow_nil _ _ _ _),Lib.hid (fun i t s h=>by simp at h),Lib.hid (by go_grown),by simp,Lib.hid (two_new _ _ _).1,Lib.hid (two_new _ _ _).2⟩
   case round =>
     obtain ⟨ps,rfl,hm,hmap,hown,hsubs,HB,hsz,Z0,Z1⟩:=hrel
     have wm:IntKind.i64.wrap ((ps.length:Int)+1)=(ps.length:Int)+1:=IntWalk.i64_in _ (by omega)
     by_cases hlt:ps.length < ts.length
     · obtain ⟨x,hx⟩:∃ x,ts[ps.length]? = some x:=⟨_,List.getElem?_eq_getElem hlt⟩
       obtain ⟨b1,o1,s1,rfl,-,t1,sub1⟩:=HS.out.get hx
       obtain ⟨d0,d1,d2,d3,d4,d5,d6,d7,d8,d9⟩:=t1.keep (HB.out.block _ t1.lt)
       obtain ⟨p1,c1,rfl,hl1⟩:=sub1.slice
       have HC:=Lib.hid (fun w9 hb=>IH.out x (List.mem_of_getElem? hx) w9 B (.agg (x.cells (.slice p1 x.subs.length c1))) ⟨_,rfl,sub1.later hb⟩)
       have HX:=Lib.hid hx
       clear t1 sub1 hx
       go_wp2_with fail
       generalize hw1:World.alloc wr _=w1
       have hb1:Below wr.heap.size wr w1:=by rw [← hw1];exact (Below.refl _ _).alloc (Nat.le_refl _) _
       have hs1:w1.heap.size=wr.heap.size+1:=by rw [← hw1];simp
       clear hw1
       refine (HC.out w1 (HB.out.trans (hb1.mono HB.out.size))).mono ?_
       intro e w2 he2
       obtain ⟨s2,rfl,hsub2,hb2⟩:=he2.of
       obtain ⟨p2,c2,rfl,hl2⟩:=hsub2.slice
       clear he2
       have hb12:Below wr.heap.size wr w2:=hb1.trans (hb2.mono hb1.size)
       have HB2:=Lib.hid (HB.out.trans (hb12.mono HB.out.size))
       have HB12:=Lib.hid hb12
       have hs2:w1.heap.size ≤ w2.heap.size:=hb2.size
       have hown2:=(hown.out.kept (w':=w2) (row:=none) ⟨hb12.os,hb12.tape,hb12.output,hb12.size,fun k hk _=>hb12.block k hk⟩ (by
         cases h:Value.ownBlock u3 with
         | none=>exact .inl rfl
         | some g=>exact .inr (by simp)))
       have hlt3:=hown.out.lt
       have HOWN2:=Lib.hid (hown2.alloc (.cells (x.cells (.slice p2 x.subs.length c2)) 28))
       have HSUB2:=Lib.hid hsub2;have HLT3:=Lib.hid hlt3
       have ND:=Lib.hid (heap_alloc_new w2 (.cells (x.cells (.slice p2 x.subs.length c2)) 28))
       clear hown2 hsub2 hb1 hb2 hb12 hlt3
       have HNW:Hid (∀ (j:Nat) (u:Value),(x.cells (.slice p2 x.subs.length c2)).toList[j]? = some u→(w2.alloc (.cells (x.cells (.slice p2 x.subs.length c2)) 28)).cell? ((⟨w2.heap.size,0,none⟩:Addr).add j)=some u):=Lib.hid (fun j u hu=>by
         have ea:(⟨w2.heap.size,0,none⟩:Addr).add j=⟨w2.heap.size,j,none⟩:=by unfold Addr.add;split <;> simp_all
         rw [ea,cell_new];simpa using hu)
       have HBA:Hid (w.heap.size+2 ≤ (w2.alloc (.cells (x.cells (.slice p2 x.subs.length c2)) 28)).heap.size):=Lib.hid (by simp;omega)
       have hml:ps.length+1 ≤ maxLen:=by unfold maxLen;omega
       have hbyt:(ps.length+1) * 96 ≤ 140737488355328:=by omega
       go_wp2_with (first
         | (refine wpList_node1 rfl (.tmp 15) x p2 x.subs.length c2 rfl rfl ?_)
         | (refine wpList_append_fresh _ rfl (.tmp 13) (.tmp 16) 26 rfl (w.heap.size+2) 28 ie _ 10 96 Tryz.underlying26 HI.out HZ0.out HZ1.out HZ2.out rfl (by decide) _ _ _ rfl HOWN2.out ⟨w2.heap.size,0,none⟩ 1 1 (x.cells (.slice p2 x.subs.length c2)).toList rfl rfl HNW.out (nodeC_one _ _ _ _) (by decide) hml hbyt HBA.out ?_;intro v' w4 hown4 hgrow4 hwhere)
         | fail)
       have HG4:=Lib.hid hgrow4;have HW4:=Lib.hid hwhere
       have hb3:Below wr.heap.size wr (w2.alloc (.cells (x.cells (.slice p2 x.subs.length c2)) 28)):=HB12.out.alloc HB12.out.size _
       have key:∀ k,k < wr.heap.size→k < w.heap.size+2→w4.heap[k]? = wr.heap[k]?:=fun k hk hk2 =>
         (HG4.out.block k (Nat.lt_of_lt_of_le hk hb3.size) (fun e=>by have:=(HLT3.out k e.symm).1;omega)).trans (hb3.block k hk)
       refine ⟨⟨ps ++ [(x,.slice p2 x.subs.length c2)],by simp,by simp;omega,Lib.hid ?_,Lib.hid ?_,Lib.hid ?_,Lib.hid ?_, ?_,Lib.hid ((key _ (by omega) (by omega)).trans Z0.out),Lib.hid ((key _ hsz (by omega)).trans Z1.out)⟩,by simp [intOf];omega⟩
       · rw [List.map_append,hmap.out,List.length_append]
         show List.take ps.length ts ++ [x]=List.take (ps.length+1) ts
         rw [List.take_add_one,HX.out];rfl
       · rw [rowOf_snoc,List.length_append];exact hown4
       · intro i t s hi
         by_cases hip:i < ps.length
         · rw [List.getElem?_append_left hip] at hi
           exact subs_step ((hsubs.out i t s hi).later hb3) HG4.out HW4.out
         · rw [List.getElem?_append_right (by omega)] at hi
           have hi0:i - ps.length=0:=by
             by_cases h0:i - ps.length=0
             · exact h0
             · rw [List.getElem?_eq_none (by simp;omega)] at hi;cases hi
           rw [hi0] at hi
           simp only [List.getElem?_cons_zero,Option.some.injEq,Prod.mk.injEq] at hi
           obtain ⟨rfl,rfl⟩:=hi
           refine subs_step ?_ HG4.out HW4.out
           refine ((HSUB2.out.later ((Below.refl _ _).alloc (Nat.le_refl _) _)).mono fun b _ hb=>⟨by omega,fun e=>?_⟩)
           have:=(HLT3.out b e).2
           omega
       · exact (HB2.out.alloc HB2.out.size _).grown HG4.out (by have:=HB2.out.size;simp;omega) (fun k e=>by have:=(HLT3.out k e).1;omega)
       · have:=HG4.out.size;have h3:=hb3.size;omega
     · have hlen2:ps.length=ts.length:=by omega
       have hmap2:ps.map (·.1)=ts:=by rw [hmap.out,hlen2,List.take_length]
       have hlt3:=hown.out.lt
       have htr:=trees_of_row (B':=fun b=>w.heap.size+2 ≤ b) hown.out (by omega) hsubs.out (fun b hb=>hb.1) (fun g hg=>(hlt3 g hg).1)
       rw [hmap2] at htr
       have HTR:=Lib.hid htr
       obtain ⟨f5,g5⟩:=at5 Z0.out
       have Z0s:=Lib.hid (set5 (y:=u3) Z0.out)
       have Z1s:Hid ((wr.setCell ⟨w.heap.size,5,none⟩ u3).heap[w.heap.size+1]? = some (.cells #[.int .i64 0,.int .u64 0,.int .u64 0,.int .u64 0,.int .u64 0,.slice none 0 0,.int .i64 0,.int .i64 0,.int .i64 0,.bool false] 28)):=Lib.hid (by rw [Below.heap_setCell _ _ _ _ (by simp)];exact Z1.out)
       clear htr hlt3 hmap2
       obtain ⟨q3,l3,c3,rfl⟩:∃ q l c,u3=.slice q l c:=by
         obtain ⟨q,c,e,-⟩:=HTR.out.slice;exact ⟨_,_,_,e⟩
       go_wp2_with (first
         | (refine wpList_load_row rfl 28 (.tmp 1) rfl w.heap.size rfl 28 _ (0,0) _ Z0s.out Tryz.underlying28 rfl (by kernel_rfl) ?_)
         | (refine wpList_store_row rfl 28 (.tmp 2) (.tmp 21) rfl (w.heap.size+1) #[.int .i64 k,.int .u64 (Oc.U a),.int .u64 (Oc.U b),.int .u64 (Oc.U c),.int .u64 (Oc.U d),.slice q3 l3 c3,.int .i64 n,.int .i64 lo,.int .i64 hi,.bool br] rfl rfl 28 _ Z1s.out (by kernel_rfl) rfl (by simp [Value.oneCell']) ?_)
         | fail)
       refine bodyPost_ret (results_cell_row rfl _ _ (w.heap.size+1) 28 #[.int .i64 k,.int .u64 (Oc.U a),.int .u64 (Oc.U b),.int .u64 (Oc.U c),.int .u64 (Oc.U d),.slice q3 l3 c3,.int .i64 n,.int .i64 lo,.int .i64 hi,.bool br] (0,0) _ rfl (heap_setRow Z1s.out) Tryz.underlying28 rfl (by kernel_rfl)) rfl ⟨_,rfl,⟨_,rfl, ?_⟩, ?_⟩
       · exact (HTR.out.keep fun b _ hb=>by
           rw [heap_setRow_other _ _ _ (by omega),Below.heap_setCell _ _ _ _ (by simp;omega)]).mono fun b _ hb=>by omega
       · exact below_setRow (HB.out.setCell (Nat.le_refl _) _) (Nat.le_succ _) _
end Go.Proofs.YtnfdknhhkdphhaaGreatDoor
namespace Go.Proofs.YtnfdknhhkdphhaaGreatDoor
open Go.RowKit
def OwnEnd (t:Tr) (w:World) (e:Ending) (w':World):Prop:=∃ s F,e=.returned (.agg (t.cells s))∧Owned w' s t.subs F∧(∀ b,b ∈ F→w.heap.size ≤ b)∧Below w.heap.size w w'
def OwnsEnd (ts:List Tr) (w:World) (e:Ending) (w':World):Prop:=∃ v F,e=.returned v∧Owned w' v ts F∧(∀ b,b ∈ F→w.heap.size ≤ b)∧Below w.heap.size w w'
theorem Owned.slice {w:World} {s:Value} {ts:List Tr} {F:List Nat} (h:Owned w s ts F):∃ p cap,s=.slice p ts.length cap∧ts.length * 96 ≤ 140737488351232:=h.trees.slice
theorem nodeC_all (x:Tr) (p:Option Addr) (l c:Nat):(x.cells (.slice p l c)).all (·.oneCell')=true:=by simp [Tr.cells,Value.oneCell']
def pick {α:Type} (f:Nat→α) (m:Nat) (x:α) (i:Nat):α:=if i=m then x else f i
theorem pick_eq {α:Type} (f:Nat→α) (m:Nat) (x:α):pick f m x m=x:=if_pos rfl
theorem pick_ne {α:Type} (f:Nat→α) (m:Nat) (x:α) {i:Nat} (h:i ≠ m):pick f m x i=f i:=if_neg h
def CopiedTo (w:World) (g:Nat) (ts:List Tr) (m:Nat):Prop :=
 ∃ (S:Nat→Value) (L:Nat→List Nat),(∀ i t,i < m→ts[i]? = some t→TenAt w g (i * 10) t (S i)∧Owned w (S i) t.subs (L i))∧(∀ i,i < m→∀ b,b ∈ L i→g < b) ∧
   (∀ i j b,i < m→j < m→i ≠ j→b ∈ L i→b ∉ L j)∧(∀ i,i < m→∀ b,b ∈ L i→b < w.heap.size)
theorem CopiedTo.zero (w:World) (g:Nat) (ts:List Tr):CopiedTo w g ts 0:=⟨fun _=>undef,fun _=>[],fun i t h=>by omega,fun i h=>by omega,fun i j b h=>by omega,fun i h=>by omega⟩
theorem TenAt.of_range {w:World} {g o:Nat} {t:Tr} {s:Value} (h:w.rangeAt g o (t.cells s).toList):TenAt w g o t s:=by
 have get:=fun j u (hu:(t.cells s).toList[j]? = some u)=>h j u hu
 exact ⟨get 0 _ rfl,get 1 _ rfl,get 2 _ rfl,get 3 _ rfl,get 4 _ rfl,get 5 _ rfl,get 6 _ rfl,get 7 _ rfl,get 8 _ rfl,get 9 _ rfl⟩
theorem there_row {w:World} {g o n:Nat} {cs:Array Value} {ty:TypeId} (h:w.heap[g]? = some (.cells cs ty (0,0))) (hn:o+n ≤ cs.size):w.there g o n:=by
 intro j hj
 refine ⟨?_,frozen_of ⟨cs,ty,h⟩⟩
 have hlt:o+j < cs.size:=by omega
 simp [World.cell?,h,hlt]
theorem CopiedTo.step {wr w2:World} {g m:Nat} {ts:List Tr} {x:Tr} {s:Value} {F:List Nat} (h:CopiedTo wr g ts m) (hx:ts[m]? = some x) (hb:Below wr.heap.size wr w2) (hg:g < wr.heap.size)
   (ho:Owned w2 s x.subs F) (hF:∀ b,b ∈ F→wr.heap.size ≤ b) (ht:w2.there g (m * 10) 10):CopiedTo (w2.setCells g (m * 10) (x.cells s).toList) g ts (m+1):=by
 obtain ⟨S,L,h1,h2,h3,h4⟩:=h
 have hg2:w2.heap[g]? = wr.heap[g]?:=hb.block g hg
 have hsz:=hb.size
 have hoth:∀ b,b ≠ g→(w2.setCells g (m * 10) (x.cells s).toList).heap[b]? = w2.heap[b]?:=fun b hbg=>heap_setCells_other hbg _ _ _
 refine ⟨pick S m s,pick L m F,fun i t hi hti=>?_,fun i hi b hbL=>?_,fun i j b hi hj hij h5 h6=>?_,fun i hi b hbL=>?_⟩
 · by_cases e:i=m
   · subst e
     rw [pick_eq,pick_eq]
     rw [hx] at hti
     obtain rfl:=Option.some.inj hti
     refine ⟨TenAt.of_range (World.rangeAt_setCells_same _ _ _ _ (by simpa [Tr.cells] using ht)),ho.keep fun b hb'=>hoth b (fun e=>by subst e;have:=hF _ hb';omega)⟩
   · rw [pick_ne _ _ _ e,pick_ne _ _ _ e]
     obtain ⟨q1,q2⟩:=h1 i t (by omega) hti
     refine ⟨(q1.keep hg2).setCells rfl (by omega),(q2.later hb).keep fun b hb'=>hoth b (fun e=>by subst e;exact absurd (h2 i (by omega) _ hb') (by omega))⟩
 · by_cases e:i=m
   · subst e;rw [pick_eq] at hbL;have:=hF b hbL;omega
   · rw [pick_ne _ _ _ e] at hbL;exact h2 i (by omega) b hbL
 · by_cases e:i=m
   · subst e
     rw [pick_eq] at h5;rw [pick_ne _ _ _ (Ne.symm hij)] at h6
     have:=hF b h5;have:=h4 j (by omega) b h6;omega
   · rw [pick_ne _ _ _ e] at h5
     by_cases e2:j=m
     · subst e2;rw [pick_eq] at h6
       have:=hF b h6;have:=h4 i (by omega) b h5;omega
     · rw [pick_ne _ _ _ e2] at h6;exact h3 i j b (by omega) (by omega) hij h5 h6
 · rw [size_setCells]
   by_cases e:i=m
   · subst e;rw [pick_eq] at hbL;exact ho.lt b hbL
   · rw [pick_ne _ _ _ e] at hbL;have:=h4 i (by omega) b hbL;omega
theorem CopiedTo.owned {w:World} {g:Nat} {ts:List Tr} (h:CopiedTo w g ts ts.length) (hlen:ts.length * 96 ≤ 140737488351232) (hf:∃ cs ty,w.heap[g]? = some (.cells cs ty (0,0))) (cap:Nat) :
   ∃ F,Owned w (.slice (some ⟨g,0,none⟩) ts.length cap) ts F∧∀ b,b ∈ F→g ≤ b:=by
 obtain ⟨S,L,h1,h2,h3,h4⟩:=h
 refine ⟨_,.row g 0 cap ts S L hlen hf (fun i t hi=>by rw [Nat.zero_add];exact (h1 i t (lt_of_some hi) hi).1) (fun i t hi=>(h1 i t (lt_of_some hi) hi).2) (fun i hi hm=>absurd (h2 i hi g hm) (by omega)) h3,fun b hb=>?_⟩
 rcases List.mem_cons.1 hb with rfl | hb
 · omega
 · obtain ⟨i,hi,hb⟩:=mem_range_flatMap.1 hb
   have:=h2 i hi b hb;omega
theorem row_setCells {b n:Nat} {ty:TypeId} : ∀ {vs:List Value} {o:Nat} {w:World} {C:Array Value},w.heap[b]? = some (.cells C ty)→C.size=n→∃ C':Array Value,(w.setCells b o vs).heap[b]? = some (.cells C' ty)∧C'.size=n
 | [],_,_,C,h,hn=>⟨C,h,hn⟩
 | v :: r,o,w,C,h,hn=>by
   rw [World.setCells]
   exact row_setCells (vs:=r) (o:=o+1) (C:=C.setIfInBounds o v) (by simp [World.setCell,Array.getElem?_modify,h]) (by simpa using hn)
theorem setCells_below {B b:Nat} {a w:World} (h:Below B a w) (hb:B ≤ b) (o:Nat) (vs:List Value):Below B a (w.setCells b o vs):=by
 obtain ⟨h1,h2,h3⟩:=streams_setCells b vs o w
 exact h.trans ⟨h1,h2,h3,by rw [size_setCells];omega,fun k hk=>heap_setCells_other (by omega) _ _ _⟩
theorem make_nodes (n:Nat) (hn:n * 96 ≤ 140737488351232):∃ CS:Array Value,CS.size=n * 10∧∀ w:World,(Instr.makeSlice 26 (.int .i64 n) (.int .i64 n)).run Tryz.prog w=.ok (.slice (some ⟨w.heap.size,0,none⟩) n n) (w.alloc (.cells CS 28)):=by
 obtain ⟨ie,hi,hz0,hz1,hz2⟩:=info_parts Tryz.infoNode
 refine ⟨madeCells (Value.agg #[.int .i64 0,.int .u64 0,.int .u64 0,.int .u64 0,.int .u64 0,.slice none 0 0,.int .i64 0,.int .i64 0,.int .i64 0,.bool false]).cells (n * 10),size_madeCells _ _,fun w=>?_⟩
 have h:=run_make (P:=Tryz.prog) w 26 28 ie _ Tryz.underlying26 hi hz0 .i64 .i64 n n (by omega) (Int.le_refl _) (by rw [hz2];omega) (by omega)
 simp only [Int.toNat_natCast,hz1] at h
 exact h
theorem copies_of (ts:List Tr) (ih:∀ u,u ∈ ts→∀ (w:World) (B:Nat→Prop) (v:Value),NodeV w B v u→Calls Tryz.prog 101 #[v] w (OwnEnd u w)) (w:World) (B:Nat→Prop) (v:Value) (hs:TreesAt w B v ts) :
   Calls Tryz.prog 65 #[v] w (OwnsEnd ts w):=by
 obtain ⟨p,cap,rfl,hlen⟩:=hs.slice
 by_cases h0:ts.length=0
 · obtain rfl:=List.length_eq_zero_iff.1 h0
   simp only [List.length_nil] at *
   clear hs
   go_enter Tryz.func65,Tryz.ntmps65
   go_wp2
   go_ret
   exact ⟨_,[],rfl,.nil _ _,fun b hb=>(by cases hb),Below.refl _ _⟩
 · have e0:((ts.length:Int) == 0)=false:=by simp;exact fun h=>h0 (by rw [h];rfl)
   obtain ⟨CS,hCS,hmk⟩:=make_nodes ts.length hlen
   have IH:=Lib.hid ih;have HS:=Lib.hid hs;have HCS:=Lib.hid hCS;have H0:=Lib.hid h0
   clear ih hs hCS h0
   go_enter Tryz.func65,Tryz.ntmps65
   go_wp2
   go_loopw [14] (fun iv wr=>∃ m:Nat,iv=.int .i64 m∧m ≤ ts.length∧Hid (Below w.heap.size w wr)∧w.heap.size < wr.heap.size∧Hid (∃ C:Array Value,wr.heap[w.heap.size]? = some (.cells C 28)∧C.size=ts.length * 10)∧Hid (CopiedTo wr w.heap.size ts m)) (fun iv _=>ts.length - (intOf iv).toNat)
   case atStart=>exact ⟨0,rfl,Nat.zero_le _,Lib.hid (by go_grown),by simp,Lib.hid ⟨CS,heap_alloc_new _ _,HCS.out⟩,Lib.hid (CopiedTo.zero _ _ _)⟩
   case round =>
     obtain ⟨m,rfl,hm,HB,hsz,HC,HD⟩:=hrel
     have wm:IntKind.i64.wrap ((m:Int)+1)=(m:Int)+1:=IntWalk.i64_in _ (by omega)
     by_cases hlt:m < ts.length
     · obtain ⟨x,hx⟩:∃ x,ts[m]? = some x:=⟨_,List.getElem?_eq_getElem hlt⟩
       obtain ⟨b1,o1,s1,rfl,-,t1,sub1⟩:=HS.out.get hx
       obtain ⟨d0,d1,d2,d3,d4,d5,d6,d7,d8,d9⟩:=t1.keep (HB.out.block _ t1.lt)
       obtain ⟨p1,c1,rfl,hl1⟩:=sub1.slice
       have HCALL:=Lib.hid (fun w9 hb=>IH.out x (List.mem_of_getElem? hx) w9 B (.agg (x.cells (.slice p1 x.subs.length c1))) ⟨_,rfl,sub1.later hb⟩)
       have HX:=Lib.hid hx
       clear t1 sub1 hx
       go_wp2_with fail
       generalize hw1:World.alloc wr _=w1
       have hb1:Below wr.heap.size wr w1:=by rw [← hw1];exact (Below.refl _ _).alloc (Nat.le_refl _) _
       clear hw1
       refine (HCALL.out w1 (HB.out.trans (hb1.mono HB.out.size))).mono ?_
       rintro e w2 ⟨s2,F2,rfl,ho2,hF2,hb2⟩
       obtain ⟨p2,c2,rfl,hl2⟩:=ho2.slice
       have hb12:Below wr.heap.size wr w2:=hb1.trans (hb2.mono hb1.size)
       obtain ⟨C,hC1,hC2⟩:=HC.out
       have hC3:=keep_blk hb12 hC1
       have hth:w2.there w.heap.size (m * 10) 10:=there_row hC3 (by omega)
       have HTH:=Lib.hid hth
       have HST:=Lib.hid (HD.out.step HX.out hb12 hsz ho2 (fun b hb=>Nat.le_trans hb1.size (hF2 b hb)) hth)
       have HB2:=Lib.hid (HB.out.trans (hb12.mono HB.out.size))
       have HC4:Hid (∃ C:Array Value,(w2.setCells w.heap.size (m * 10) (x.cells (.slice p2 x.subs.length c2)).toList).heap[w.heap.size]? = some (.cells C 28)∧C.size=ts.length * 10):=Lib.hid (row_setCells hC3 hC2)
       have hs2:w.heap.size < w2.heap.size:=Nat.lt_of_lt_of_le hsz hb12.size
       clear hb1 hb2 hb12 ho2 hF2 hC1 hC2 hC3 hth d0 d1 d2 d3 d4 d5 d6 d7 d8 d9
       go_wp2_with (first
         | (refine wpList_store_mid rfl 28 (.tmp 23) (.tmp 22) rfl w.heap.size (m * 10) (x.cells (.slice p2 x.subs.length c2)) rfl rfl HTH.out (by kernel_rfl) (nodeC_all _ _ _ _) ?_;generalize hw3:World.setCells w2 _ _ _=w3;have HW3:=Lib.hid hw3;clear hw3)
         | fail)
       rw [← HW3.out]
       refine ⟨⟨m+1,by go_num,by omega,Lib.hid (setCells_below HB2.out (Nat.le_refl _) _ _),by rw [size_setCells];exact hs2,HC4,HST⟩,by simp [intOf];omega⟩
     · obtain rfl:m=ts.length:=by omega
       go_wp2
       go_ret
       obtain ⟨C,hC1,-⟩:=HC.out
       obtain ⟨F,hF,hF2⟩:=HD.out.owned hlen ⟨C,_,hC1⟩ ts.length
       exact ⟨_,F,rfl,hF,hF2,HB.out⟩
theorem copy_any:∀ t:Tr,∀ (w:World) (B:Nat→Prop) (v:Value),NodeV w B v t→Calls Tryz.prog 101 #[v] w (OwnEnd t w):=by
 intro t
 induction t using Tr.rec_subs with
 | h t ih =>
   intro w B v hv
   obtain ⟨s,rfl,hs⟩:=hv
   obtain ⟨p,cap,rfl,hlen⟩:=hs.slice
   have HC:=Lib.hid (fun w9 (hb:Below w.heap.size w w9)=>copies_of t.subs ih w9 B _ (hs.later hb))
   cases t with | node k a b c d ts n lo hi br =>
   simp only [Tr.cells,Tr.kind,Tr.w0,Tr.w1,Tr.w2,Tr.w3,Tr.num,Tr.least,Tr.most,Tr.bare,Tr.subs] at *
   clear ih hs
   go_enter Tryz.func101,Tryz.ntmps101
   go_wp2_with fail
   obtain ⟨z0,z1⟩:=two_new w (.cells #[.int .i64 k,.int .u64 (Oc.U a),.int .u64 (Oc.U b),.int .u64 (Oc.U c),.int .u64 (Oc.U d),.slice p ts.length cap,.int .i64 n,.int .i64 lo,.int .i64 hi,.bool br] 28) (.cells #[.int .i64 0,.int .u64 0,.int .u64 0,.int .u64 0,.int .u64 0,.slice none 0 0,.int .i64 0,.int .i64 0,.int .i64 0,.bool false] 28)
   have hb1:Below w.heap.size w ((w.alloc (.cells #[.int .i64 k,.int .u64 (Oc.U a),.int .u64 (Oc.U b),.int .u64 (Oc.U c),.int .u64 (Oc.U d),.slice p ts.length cap,.int .i64 n,.int .i64 lo,.int .i64 hi,.bool br] 28)).alloc (.cells #[.int .i64 0,.int .u64 0,.int .u64 0,.int .u64 0,.int .u64 0,.slice none 0 0,.int .i64 0,.int .i64 0,.int .i64 0,.bool false] 28)):=by go_grown
   have hs1:((w.alloc (.cells #[.int .i64 k,.int .u64 (Oc.U a),.int .u64 (Oc.U b),.int .u64 (Oc.U c),.int .u64 (Oc.U d),.slice p ts.length cap,.int .i64 n,.int .i64 lo,.int .i64 hi,.bool br] 28)).alloc (.cells #[.int .i64 0,.int .u64 0,.int .u64 0,.int .u64 0,.int .u64 0,.slice none 0 0,.int .i64 0,.int .i64 0,.int .i64 0,.bool false] 28)).heap.size=w.heap.size+2:=by simp
   generalize World.alloc (World.alloc _ _) _=w1 at *
   have Z0:=Lib.hid z0;have Z1:=Lib.hid z1;have HB1:=Lib.hid hb1
   clear z0 z1 hb1
   refine (HC.out w1 HB1.out).mono ?_
   rintro e w2 ⟨s2,F,rfl,ho,hF,hb2⟩
   obtain ⟨p2,c2,rfl,hl2⟩:=ho.slice
   have HO:=Lib.hid ho;have HF:=Lib.hid hF
   have Y0:=Lib.hid (keep_blk hb2 Z0.out);have Y1:=Lib.hid (keep_blk hb2 Z1.out)
   have HB2:=Lib.hid (HB1.out.trans (hb2.mono HB1.out.size))
   obtain ⟨f5,g5⟩:=at5 Y0.out
   have Y0s:=Lib.hid (set5 (y:=.slice p2 ts.length c2) Y0.out)
   have Y1s:Hid ((w2.setCell ⟨w.heap.size,5,none⟩ (.slice p2 ts.length c2)).heap[w.heap.size+1]? = some (.cells #[.int .i64 0,.int .u64 0,.int .u64 0,.int .u64 0,.int .u64 0,.slice none 0 0,.int .i64 0,.int .i64 0,.int .i64 0,.bool false] 28)):=Lib.hid (by rw [Below.heap_setCell _ _ _ _ (by simp)];exact Y1.out)
   clear ho hF hb2
   go_wp2_with (first
     | (refine wpList_load_row rfl 28 (.tmp 1) rfl w.heap.size rfl 28 _ (0,0) _ Y0s.out Tryz.underlying28 rfl (by kernel_rfl) ?_)
     | (refine wpList_store_row rfl 28 (.tmp 2) (.tmp 7) rfl (w.heap.size+1) #[.int .i64 k,.int .u64 (Oc.U a),.int .u64 (Oc.U b),.int .u64 (Oc.U c),.int .u64 (Oc.U d),.slice p2 ts.length c2,.int .i64 n,.int .i64 lo,.int .i64 hi,.bool br] rfl rfl 28 _ Y1s.out (by kernel_rfl) rfl (by simp [Value.oneCell']) ?_)
     | fail)
   refine bodyPost_ret (results_cell_row rfl _ _ (w.heap.size+1) 28 #[.int .i64 k,.int .u64 (Oc.U a),.int .u64 (Oc.U b),.int .u64 (Oc.U c),.int .u64 (Oc.U d),.slice p2 ts.length c2,.int .i64 n,.int .i64 lo,.int .i64 hi,.bool br] (0,0) _ rfl (heap_setRow Y1s.out) Tryz.underlying28 rfl (by kernel_rfl)) rfl ⟨_,F,rfl, ?_, ?_, ?_⟩
   · exact HO.out.keep fun b hb=>by
       have:=HF.out b hb
       rw [heap_setRow_other _ _ _ (by omega),Below.heap_setCell _ _ _ _ (by simp;omega)]
   · intro b hb;have:=HF.out b hb;omega
   · exact below_setRow (HB2.out.setCell (Nat.le_refl _) _) (Nat.le_succ _) _
theorem copies_any (ts:List Tr) (w:World) (B:Nat→Prop) (v:Value) (hs:TreesAt w B v ts):Calls Tryz.prog 65 #[v] w (OwnsEnd ts w) :=
 copies_of ts (fun u _ w B v h=>copy_any u w B v h) w B v hs
end Go.Proofs.YtnfdknhhkdphhaaGreatDoor
namespace Go.Proofs.YtnfdknhhkdphhaaGreatDoor
open Go.RowKit
def SetsAt (w:World) (p:Option Addr) (len:Nat) (A B C D:Nat→BitVec 64):Prop :=
 ∀ i,i < len→∃ b o,p=some ⟨b,o,none⟩∧b < w.heap.size∧w.cell? ⟨b,o+i * 4,none⟩=some (.int .u64 (Oc.U (A i)))∧w.cell? ⟨b,o+i * 4+1,none⟩=some (.int .u64 (Oc.U (B i))) ∧
   w.cell? ⟨b,o+i * 4+2,none⟩=some (.int .u64 (Oc.U (C i)))∧w.cell? ⟨b,o+i * 4+3,none⟩=some (.int .u64 (Oc.U (D i)))
theorem SetsAt.below {w w':World} {p:Option Addr} {len:Nat} {A B C D:Nat→BitVec 64} (h:SetsAt w p len A B C D) (hb:Below w.heap.size w w'):SetsAt w' p len A B C D:=by
 intro i hi
 obtain ⟨b,o,e,hlt,h0,h1,h2,h3⟩:=h i hi
 exact ⟨b,o,e,Nat.lt_of_lt_of_le hlt hb.size,(hb.cell (p:=⟨b,_,none⟩) hlt).trans h0,(hb.cell (p:=⟨b,_,none⟩) hlt).trans h1,(hb.cell (p:=⟨b,_,none⟩) hlt).trans h2,(hb.cell (p:=⟨b,_,none⟩) hlt).trans h3⟩
theorem meet_any (p:Option Addr) (len cap:Nat) (A B C D:Nat→BitVec 64) (hlen:len ≤ 9223372036854775807) (w:World) (hs:SetsAt w p len A B C D) :
   Calls Tryz.prog 173 #[.slice p len cap] w fun e w'=>e=.returned (.agg #[.int .u64 (Oc.U (Oc.andAll A len)),.int .u64 (Oc.U (Oc.andAll B len)),.int .u64 (Oc.U (Oc.andAll C len)),.int .u64 (Oc.U (Oc.andAll D len))])∧Below w.heap.size w w':=by
 go_enter Tryz.func173,Tryz.ntmps173
 go_wp2_with fail
 refine (not_any 0#64 0#64 0#64 0#64 _).mono ?_
 rintro e w1 ⟨rfl,hb1⟩
 have z0:w1.heap[w.heap.size]? = some (.cells #[.int .u64 0,.int .u64 0,.int .u64 0,.int .u64 0] 25):=by
   rw [hb1.block _ (by simp)];show (w.heap.push _)[w.heap.size]? = _;simp
 have hsz1:w.heap.size < w1.heap.size:=by have:=hb1.size;simp at this;omega
 have hbw:Below w.heap.size w w1:=((Below.refl _ _).alloc (Nat.le_refl _) _).trans (hb1.mono (by simp))
 have HZ:=Lib.hid z0
 clear z0
 go_wp2
 go_loopw [12] (fun i wr=>∃ k:Nat,k ≤ len∧i=.int .i64 k∧Below w.heap.size w wr∧w1.heap.size < wr.heap.size∧wr.heap[w.heap.size]? = some (.cells #[.int .u64 0,.int .u64 0,.int .u64 0,.int .u64 0] 25)∧wr.heap[w1.heap.size]? = some (.cells #[.int .u64 (Oc.U (Oc.andAll A k)),.int .u64 (Oc.U (Oc.andAll B k)),.int .u64 (Oc.U (Oc.andAll C k)),.int .u64 (Oc.U (Oc.andAll D k))] 25)) (fun i _=>len - (intOf i).toNat)
 case atStart =>
   refine ⟨0,Nat.zero_le _,rfl,hbw.alloc (by omega) _,by simp, ?_, ?_⟩
   · rw [Below.heap_alloc _ _ _ hsz1];exact HZ.out
   · show (w1.heap.push _)[w1.heap.size]? = _;simp;exact ⟨rfl,rfl,rfl,rfl⟩
 case round =>
   obtain ⟨k,hk,rfl,hbel,hsz,hz0,hz1⟩:=hrel
   by_cases hlt:k < len
   · obtain ⟨b,o,rfl,hbs,h0,h1,h2,h3⟩:=hs.below hbel k hlt
     have i0:=at0;have i1:=at1;have i2:=at2;have i3:=at3
     obtain ⟨c0,f0,c1,f1,c2,f2,c3,f3⟩:=four_on hz1
     have HZ0:=Lib.hid hz0
     have HZ1:=Lib.hid hz1
     clear hs hz0 hz1
     go_wp2
     go_rounds 5
     refine ⟨⟨k+1,by omega,by go_num, ?_, ?_, ?_, ?_⟩,by simp [intOf];omega⟩
     · go_grown
     · simp;omega
     · exact heap_alloc_lt (set4_other _ _ _ _ HZ0.out (by omega))
     · rw [Oc.andU,Oc.andU,Oc.andU,Oc.andU];exact heap_alloc_lt (set4 _ _ _ _ HZ1.out)
   · obtain rfl:k=len:=by omega
     obtain ⟨c0,c1,c2,c3,-,-,-,-⟩:=four hz1
     obtain ⟨d0,e0,d1,e1,d2,e2,d3,e3,r0,r1,r2,r3⟩:=four_st hz0
     clear hs
     go_wp2
     refine bodyPost_ret (v:=(.agg #[.int .u64 (Oc.U (Oc.andAll A k)),.int .u64 (Oc.U (Oc.andAll B k)),.int .u64 (Oc.U (Oc.andAll C k)),.int .u64 (Oc.U (Oc.andAll D k))])) (by simp [results,Tryz.results173,go_sem,r0,r1,r2,r3]) rfl ⟨rfl, ?_⟩
     go_grown
theorem meet2 (a b c d a' b' c' d':BitVec 64) (t:TypeId) (w:World) :
   Calls Tryz.prog 173 #[.slice (some ⟨w.heap.size,0,none⟩) 2 2]
     (w.alloc (.cells #[.int .u64 (Oc.U a),.int .u64 (Oc.U b),.int .u64 (Oc.U c),.int .u64 (Oc.U d),.int .u64 (Oc.U a'),.int .u64 (Oc.U b'),.int .u64 (Oc.U c'),.int .u64 (Oc.U d')] t))
     fun e w'=>e=.returned (.agg #[.int .u64 (Oc.U (a &&& a')),.int .u64 (Oc.U (b &&& b')),.int .u64 (Oc.U (c &&& c')),.int .u64 (Oc.U (d &&& d'))])∧Below (w.heap.size+1) (w.alloc (.cells #[.int .u64 (Oc.U a),.int .u64 (Oc.U b),.int .u64 (Oc.U c),.int .u64 (Oc.U d),.int .u64 (Oc.U a'),.int .u64 (Oc.U b'),.int .u64 (Oc.U c'),.int .u64 (Oc.U d')] t)) w':=by
 have hs:SetsAt (w.alloc (.cells #[.int .u64 (Oc.U a),.int .u64 (Oc.U b),.int .u64 (Oc.U c),.int .u64 (Oc.U d),.int .u64 (Oc.U a'),.int .u64 (Oc.U b'),.int .u64 (Oc.U c'),.int .u64 (Oc.U d')] t))
     (some ⟨w.heap.size,0,none⟩) 2 (fun i=>if i=0 then a else a') (fun i=>if i=0 then b else b') (fun i=>if i=0 then c else c') (fun i=>if i=0 then d else d'):=by
   intro i hi
   have:i=0 ∨ i=1:=by omega
   refine ⟨w.heap.size,0,rfl,by simp, ?_⟩
   rcases this with rfl | rfl <;> simp only [cell_new] <;> exact ⟨rfl,rfl,rfl,rfl⟩
 refine (meet_any _ 2 2 _ _ _ _ (by omega) _ hs).mono ?_
 rintro e w' ⟨rfl,hb⟩
 refine ⟨?_,by simpa using hb⟩
 have one:∀ x y:BitVec 64,BitVec.allOnes 64 &&& x &&& y=x &&& y:=fun x y=>by rw [BitVec.allOnes_and]
 simp only [Oc.andAll,one,if_true,if_false,Nat.succ_ne_zero]
theorem less_z {w w0 w1 w2:World} {k:Nat} {x o:Obj} (hz:w0.heap[k]? = some x) (hb1:Below w0.heap.size w0 w1) (hb2:Below (w1.heap.size+1) (w1.alloc o) w2) (_:w.heap.size=k):w2.heap[k]? = some x:=by
 have hk:k < w0.heap.size:=(Array.getElem?_eq_some_iff.1 hz).1
 rw [hb2.block k (by have:=hb1.size;omega),Below.heap_alloc _ _ _ (by have:=hb1.size;omega),hb1.block k hk,hz]
theorem less_b {w w0 w1 w2:World} {o:Obj} (h0:Below w.heap.size w w0) (hb1:Below w0.heap.size w0 w1) (hb2:Below (w1.heap.size+1) (w1.alloc o) w2):Below w.heap.size w w2 :=
 ((h0.trans (hb1.mono h0.size)).alloc (Nat.le_trans h0.size hb1.size) _).trans (hb2.mono (Nat.le_succ_of_le (Nat.le_trans h0.size hb1.size)))
theorem less_any (a b c d a' b' c' d':BitVec 64) (w:World) :
   Calls Tryz.prog 146 #[(.agg #[.int .u64 (Oc.U a),.int .u64 (Oc.U b),.int .u64 (Oc.U c),.int .u64 (Oc.U d)]),(.agg #[.int .u64 (Oc.U a'),.int .u64 (Oc.U b'),.int .u64 (Oc.U c'),.int .u64 (Oc.U d')])] w fun e w'=>e=.returned (.agg #[.int .u64 (Oc.U (a &&& ~~~a')),.int .u64 (Oc.U (b &&& ~~~b')),.int .u64 (Oc.U (c &&& ~~~c')),.int .u64 (Oc.U (d &&& ~~~d'))])∧Below w.heap.size w w':=by
 go_enter Tryz.func146,Tryz.ntmps146
 go_wp2_with fail
 go_region_with (first
   | (go_at_call 111;refine (not_any _ _ _ _ _).mono ?_;rintro e w1 ⟨rfl,hb1⟩;obtain ⟨hc1,hf1⟩:=bcell hb1)
   | (go_at_call 173;refine (meet2 _ _ _ _ _ _ _ _ _ _).mono ?_;rintro e w2 ⟨rfl,hb2⟩;obtain ⟨d0,e0,d1,e1,d2,e2,d3,e3,r0,r1,r2,r3⟩:=four_st (less_z (k:=w.heap.size+1+1) (x:=.cells #[.int .u64 0,.int .u64 0,.int .u64 0,.int .u64 0] 25) (by show (((w.heap.push _).push _).push _)[w.heap.size+1+1]? = _;rw [Array.getElem?_push,if_pos (by simp)]) hb1 hb2 (w:=(w.alloc default).alloc default) (by simp))))
 all_goals
   go_wp2
   refine bodyPost_ret (v:=(.agg #[.int .u64 (Oc.U (a &&& ~~~a')),.int .u64 (Oc.U (b &&& ~~~b')),.int .u64 (Oc.U (c &&& ~~~c')),.int .u64 (Oc.U (d &&& ~~~d'))])) (by simp [results,Tryz.results146,go_sem,r0,r1,r2,r3]) rfl ⟨rfl, ?_⟩
   have hbw:Below w.heap.size w w2:=less_b (by go_grown) hb1 hb2
   go_grown
end Go.Proofs.YtnfdknhhkdphhaaGreatDoor
namespace Go.Proofs.YtnfdknhhkdphhaaGreatDoor
open Go.RowKit
theorem part0 (a b c d:Value) (w:World):(Go.part 23 #[a,b,c,d] 0).run Tryz.prog w=.ok a w:=by kernel_rfl
theorem part1 (a b c d:Value) (w:World):(Go.part 23 #[a,b,c,d] 1).run Tryz.prog w=.ok b w:=by kernel_rfl
theorem part2 (a b c d:Value) (w:World):(Go.part 23 #[a,b,c,d] 2).run Tryz.prog w=.ok c w:=by kernel_rfl
theorem part3 (a b c d:Value) (w:World):(Go.part 23 #[a,b,c,d] 3).run Tryz.prog w=.ok d w:=by kernel_rfl
theorem eqi (a b:Int) (w:World):(Op.equalIn 9999 23 (.int .u64 a) (.int .u64 b)).run Tryz.prog w=.ok (a == b) w:=run_equalIn_int w 9998 23 .u64 .u64 a b Tryz.underlying23
theorem eq4 (a b c d a' b' c' d':Int) (w:World):(Op.equalIn 10000 25 (.agg #[.int .u64 a,.int .u64 b,.int .u64 c,.int .u64 d]) (.agg #[.int .u64 a',.int .u64 b',.int .u64 c',.int .u64 d'])).run Tryz.prog w=.ok (a == a' && (b == b' && (c == c' && d == d'))) w:=by
 have h0:=run_underlying (P:=Tryz.prog) (w:=w) Tryz.underlying25
 unfold Op.equalIn
 simp only [Sem.run_bind,h0,Result.andThen_ok]
 simp
 rw [show List.range' 0 4=[0,1,2,3] from rfl]
 simp only [List.forIn_cons,List.forIn_nil,Sem.run_bind,part0,eqi,Result.andThen_ok]
 by_cases h1:a=a'
 · by_cases h2:b=b'
   · by_cases h3:c=c'
     · by_cases h4:d=d' <;> simp [h1,h2,h3,h4,part1,part2,part3,eqi]
     · simp [h1,h2,h3,part1,part2,eqi]
   · simp [h1,h2,part1,eqi]
 · simp [h1]
end Go.Proofs.YtnfdknhhkdphhaaGreatDoor
namespace Go.Proofs.YtnfdknhhkdphhaaGreatDoor
open Go.RowKit
namespace Ri
def up {T:Type} (f:Nat→T) (i:Nat) (x:T):Nat→T:=fun j=>if j=i then x else f j
theorem up_same {T:Type} (f:Nat→T) (i:Nat) (x:T):up f i x i=x:=by simp [up]
theorem up_other {T:Type} (f:Nat→T) (i:Nat) (x:T) (j:Nat) (h:j ≠ i):up f i x j=f j:=by simp [up,h]
def backward (ops:Array Oper):Bool:=(List.range ops.size).all fun i=>((ops[i]?).map fun o=>o.after.all fun e=>!Region.binds .any e || decide (e.on < i)).getD true
variable {P:Program} {ops:Array Oper} {Q:Exit→Act→World→Prop}
theorem all_listed (hb:backward ops=true) {listed:Array Bool} (hr:Region.ready .any ops listed=[]) (hs:listed.size=ops.size):∀ i,i < ops.size→listed.getD i false=true:=by
 intro i
 induction i using Nat.strongRecOn with
 | _ i ih =>
   intro hi
   cases hl:listed.getD i false with
   | true=>rfl
   | false =>
     exfalso
     have hmem:i ∈ Region.ready .any ops listed:=by
       unfold Region.ready
       refine List.mem_filter.2 ⟨List.mem_range.2 hi, ?_⟩
       have h1:listed.getD i true=false:=by
         have:i < listed.size:=by omega
         simp only [Array.getD,this,dif_pos] at hl ⊢
         exact hl
       have ho:ops[i]? = some ops[i]:=Array.getElem?_eq_getElem hi
       rw [h1,ho]
       simp only [Bool.not_false,Bool.true_and,Option.map_some,Option.getD_some]
       rw [Array.all_eq_true_iff_forall_mem]
       intro e he
       cases hbi:Region.binds .any e with
       | false=>rfl
       | true =>
         have hlt:e.on < i:=by
           have h2:=List.all_eq_true.1 hb i (List.mem_range.2 hi)
           rw [ho] at h2
           simp only [Option.map_some,Option.getD_some] at h2
           have h3:=(Array.all_eq_true_iff_forall_mem.1 h2) e he
           rw [hbi] at h3
           simpa using h3
         simp [ih e.on hlt (by omega)]
     rw [hr] at hmem
     cases hmem
theorem wpAny_inv (hb:backward ops=true) (I:(Nat→Bool)→(Nat→Value)→World→Prop) (A:(Nat→Bool)→(Nat→Value)→Act)
   (step:∀ i,i < ops.size→∀ L v w,I L v w→L i=false→(∀ o,ops[i]? = some o→∀ e ∈ o.after,Region.binds .any e=true→L e.on=true) →
     wpOp P ops Q i (fun a' w'=>∃ u,a'=A (up L i true) (up v i u)∧I (up L i true) (up v i u) w') (A L v) w)
   (fin:∀ L v w,(∀ i,i < ops.size→L i=true)→I L v w→Q .normal (A L v) w) :
   ∀ (fuel:Nat) (U:List Nat) (listed:Array Bool) (v:Nat→Value) (w:World),listed.size=ops.size→U.length ≤ fuel→(∀ i,i < ops.size→listed.getD i false=false→i ∈ U) →
     I (fun i=>listed.getD i false) v w→wpAny P .any ops Q fuel listed (A (fun i=>listed.getD i false) v) w:=by
 intro fuel
 induction fuel with
 | zero =>
   intro U listed v w hs hU hin hI
   have hnil:U=[]:=List.eq_nil_of_length_eq_zero (by omega)
   subst hnil
   have hall:∀ i,i < ops.size→listed.getD i false=true:=fun i hi=>by
     cases h:listed.getD i false with
     | true=>rfl
     | false=>exact absurd (hin i hi h) (by simp)
   refine ⟨?_,fin _ v w hall hI⟩
   unfold Region.ready
   rw [List.filter_eq_nil_iff]
   intro i hi
   have hi':=List.mem_range.1 hi
   have h1:listed.getD i true=true:=by
     have h0:=hall i hi'
     have:i < listed.size:=by omega
     simp only [Array.getD,this,dif_pos] at h0 ⊢
     exact h0
   simp [h1]
 | succ fuel ih =>
   intro U listed v w hs hU hin hI
   refine ⟨fun hr=>fin _ v w (all_listed hb hr hs) hI,fun i hi=>?_⟩
   unfold Region.ready at hi
   obtain ⟨hir,hcond⟩:=List.mem_filter.1 hi
   have hin':=List.mem_range.1 hir
   have ho:ops[i]? = some ops[i]:=Array.getElem?_eq_getElem hin'
   rw [ho] at hcond
   simp only [Bool.and_eq_true,Option.map_some,Option.getD_some] at hcond
   obtain ⟨hl,hafter⟩:=hcond
   have hlf:listed.getD i false=false:=by
     have:i < listed.size:=by omega
     simp only [Array.getD,this,dif_pos] at hl ⊢
     simpa using hl
   have hst:=step i hin' (fun j=>listed.getD j false) v w hI hlf (fun o hoo e he hbi=>by
     rw [ho] at hoo;cases hoo
     have h3:=(Array.all_eq_true_iff_forall_mem.1 hafter) e he
     rw [hbi] at h3
     simpa using h3)
   refine wpOp_mono (fun a' w' h=>?_) hst
   obtain ⟨u,rfl,hI'⟩:=h
   have hup:(fun j=>(listed.setIfInBounds i true).getD j false)=up (fun j=>listed.getD j false) i true:=by
     funext j
     unfold up
     by_cases e:j=i
     · subst e
       have:j < (listed.setIfInBounds j true).size:=by simp;omega
       simp [Array.getD];omega
     · rw [if_neg e]
       simp only [Array.getD,Array.size_setIfInBounds]
       split
       · rename_i h;exact Array.getElem_setIfInBounds_ne h (Ne.symm e)
       · rfl
   have hmemU:i ∈ U:=hin i hin' hlf
   have:=ih (U.erase i) (listed.setIfInBounds i true) (up v i u) w' (by simpa using hs) (by rw [List.length_erase_of_mem hmemU];have:=List.length_pos_of_mem hmemU;omega)
     (fun j hj hjl=>by
       have hj2:(up (fun j=>listed.getD j false) i true) j=false:=by rw [← hup];exact hjl
       by_cases e:j=i
       · subst e;rw [up_same] at hj2;cases hj2
       · rw [up_other _ _ _ _ e] at hj2
         exact (List.mem_erase_of_ne e).2 (hin j hj hj2))
     (by rw [hup];exact hI')
   rw [hup] at this
   exact this
theorem wp_region_inv {id:Nat} {a:Act} {w:World} (hm:P.follows .mixedOrders=true) (hb:backward ops=true) (I:(Nat→Bool)→(Nat→Value)→World→Prop) (A:(Nat→Bool)→(Nat→Value)→Act)
   (ha:a=A (fun _=>false) (fun _=>undef)) (hi:I (fun _=>false) (fun _=>undef) w.drew)
   (step:∀ i,i < ops.size→∀ L v w,I L v w→L i=false→(∀ o,ops[i]? = some o→∀ e ∈ o.after,Region.binds .any e=true→L e.on=true) →
     wpOp P ops Q i (fun a' w'=>∃ u,a'=A (up L i true) (up v i u)∧I (up L i true) (up v i u) w') (A L v) w)
   (fin:∀ L v w,(∀ i,i < ops.size→L i=true)→I L v w→Q .normal (A L v) w) :
   (Code.region id ops true).wp P Q a w:=by
 refine wp_region_any hm ?_
 have hz:(fun i=>(Array.replicate ops.size false).getD i false)=fun _=>false:=by
   funext i;simp only [Array.getD,Array.size_replicate];split <;> simp
 have:=wpAny_inv (P:=P) hb I A step fin ops.size (List.range ops.size) (Array.replicate ops.size false) (fun _=>undef) w.drew (by simp) (by simp) (fun i hi _=>List.mem_range.2 hi) (by rw [hz];exact hi)
 rw [hz,← ha] at this
 exact this
def frame (ops:Array Oper) (a:Act) (L:Nat→Bool) (v:Nat→Value):Act :=
 { a with tmps:=ops.toList.zipIdx.foldl (fun t p=>match p.1.dst with | some d=>if L p.2 then t.setIfInBounds d (v p.2) else t | none=>t) a.tmps }
def apart (ops:Array Oper):Bool:=(ops.toList.filterMap (·.dst)).eraseDups.length == (ops.toList.filterMap (·.dst)).length && ops.toList.zipIdx.all fun p=>ops.toList.zipIdx.all fun q=>p.2 == q.2 || p.1.dst == none || p.1.dst != q.1.dst
theorem fold_size (L:Nat→Bool) (v:Nat→Value):∀ (l:List (Oper × Nat)) (t:Array Value),
   (l.foldl (fun t p=>match p.1.dst with | some d=>if L p.2 then t.setIfInBounds d (v p.2) else t | none=>t) t).size=t.size:=by
 intro l
 induction l with
 | nil=>intro t;rfl
 | cons p l ih =>
   intro t
   rw [List.foldl_cons,ih]
   split
   · split <;> simp
   · rfl
theorem fold_other (L:Nat→Bool) (v:Nat→Value) (s:Nat):∀ (l:List (Oper × Nat)) (t:Array Value),(∀ p ∈ l,p.1.dst ≠ some s) →
   (l.foldl (fun t p=>match p.1.dst with | some d=>if L p.2 then t.setIfInBounds d (v p.2) else t | none=>t) t)[s]? = t[s]?:=by
 intro l
 induction l with
 | nil=>intro t _;rfl
 | cons p l ih =>
   intro t h
   rw [List.foldl_cons,ih _ (fun q hq=>h q (List.mem_cons_of_mem _ hq))]
   have hp:=h p (List.mem_cons_self ..)
   split
   · rename_i d hd
     split
     · rw [Array.getElem?_setIfInBounds_ne];intro e;subst e;exact hp hd
     · rfl
   · rfl
theorem fold_own (L:Nat→Bool) (v:Nat→Value) (s:Nat) (i:Nat):∀ (l:List (Oper × Nat)) (t:Array Value),s < t.size→(∃ p ∈ l,p.1.dst=some s∧p.2=i)→(∀ p ∈ l,p.1.dst=some s→p.2=i) →
   (l.foldl (fun t p=>match p.1.dst with | some d=>if L p.2 then t.setIfInBounds d (v p.2) else t | none=>t) t)[s]? = if L i then some (v i) else t[s]?:=by
 intro l
 induction l with
 | nil=>rintro t _ ⟨p,hp,_⟩ _;cases hp
 | cons p l ih =>
   intro t hs hex hun
   rw [List.foldl_cons]
   by_cases hp:p.1.dst=some s
   · have hi:=hun p (List.mem_cons_self ..) hp
     rw [hp,hi]
     simp only []
     by_cases hl:∃ q ∈ l,q.1.dst=some s∧q.2=i
     · rw [ih _ (by split <;> simpa using hs) hl (fun q hq=>hun q (List.mem_cons_of_mem _ hq))]
       cases L i <;> simp
     · rw [fold_other L v s l _ (fun q hq e=>hl ⟨q,hq,e,hun q (List.mem_cons_of_mem _ hq) e⟩)]
       cases L i <;> simp [hs]
   · obtain ⟨q,hq,hqd,hqi⟩:=hex
     rcases List.mem_cons.1 hq with rfl | hq
     · exact absurd hqd hp
     · have hne:∀ d,p.1.dst=some d→d ≠ s:=fun d hd e=>hp (by rw [hd,e])
       rw [ih _ (by split <;> (try split) <;> simpa using hs) ⟨q,hq,hqd,hqi⟩ (fun q hq=>hun q (List.mem_cons_of_mem _ hq))]
       congr 1
       split
       · rename_i d hd
         split
         · rw [Array.getElem?_setIfInBounds_ne (hne d hd)]
         · rfl
       · rfl
theorem mem_zip {ops:Array Oper} {p:Oper × Nat} (h:p ∈ ops.toList.zipIdx):ops[p.2]? = some p.1:=by
 obtain ⟨_,_,h3⟩:=List.mem_zipIdx (x:=p.1) (i:=p.2) (k:=0) h
 rw [Array.getElem?_eq_some_iff]
 exact ⟨by rename_i h2;simpa using h2,by rw [h3];simp⟩
theorem zip_mem {ops:Array Oper} {i:Nat} {o:Oper} (h:ops[i]? = some o):(o,i) ∈ ops.toList.zipIdx:=by
 rw [List.mem_zipIdx_iff_getElem?]
 simpa using h
theorem apart_un (hap:apart ops=true) {i j:Nat} {o o':Oper} {d:Nat} (hi:ops[i]? = some o) (hj:ops[j]? = some o') (h1:o.dst=some d) (h2:o'.dst=some d):i=j:=by
 unfold apart at hap
 rw [Bool.and_eq_true] at hap
 have h3:=List.all_eq_true.1 (List.all_eq_true.1 hap.2 _ (zip_mem hi)) _ (zip_mem hj)
 simpa [h1,h2] using h3
theorem frame_size (a:Act) (L:Nat→Bool) (v:Nat→Value):(frame ops a L v).tmps.size=a.tmps.size:=fold_size L v _ _
theorem frame_own (hap:apart ops=true) (a:Act) (L:Nat→Bool) (v:Nat→Value) {i d:Nat} {o:Oper} (ho:ops[i]? = some o) (hd:o.dst=some d) (hs:d < a.tmps.size) :
   (frame ops a L v).tmps[d]? = if L i then some (v i) else a.tmps[d]? :=
 fold_own L v d i _ _ hs ⟨_,zip_mem ho,hd,rfl⟩ (fun _ hp e=>(apart_un hap ho (mem_zip hp) hd e).symm)
theorem frame_other (a:Act) (L:Nat→Bool) (v:Nat→Value) {d:Nat} (h:∀ (i:Nat) (o:Oper),ops[i]? = some o→o.dst ≠ some d):(frame ops a L v).tmps[d]? = a.tmps[d]? :=
 fold_other L v d _ _ (fun p hp=>h p.2 p.1 (mem_zip hp))
theorem frame_put (hap:apart ops=true) (a:Act) (L:Nat→Bool) (v:Nat→Value) {i:Nat} {o:Oper} (ho:ops[i]? = some o) (u:Value) :
   (frame ops a L v).put o.dst u=frame ops a (up L i true) (up v i u):=by
 have key:∀ s:Nat,((frame ops a L v).put o.dst u).tmps[s]? = (frame ops a (up L i true) (up v i u)).tmps[s]?:=by
   intro s
   by_cases hs:s < a.tmps.size
   · by_cases hex:∃ (j:Nat) (o':Oper),ops[j]? = some o'∧o'.dst=some s
     · obtain ⟨j,o',hj,hd⟩:=hex
       rw [frame_own hap a _ _ hj hd hs]
       by_cases e:j=i
       · subst e
         rw [ho] at hj;cases hj
         rw [hd,up_same,up_same]
         simp only [Act.put,if_true]
         rw [Array.getElem?_setIfInBounds_self,if_pos (by rw [frame_size];exact hs)]
       · rw [up_other _ _ _ _ e,up_other _ _ _ _ e,← frame_own hap a L v hj hd hs]
         cases hod:o.dst with
         | none=>rfl
         | some d =>
           simp only [Act.put]
           rw [Array.getElem?_setIfInBounds_ne]
           intro e';subst e';exact e (apart_un hap hj ho hd hod)
     · have hno:∀ (j:Nat) (o':Oper),ops[j]? = some o'→o'.dst ≠ some s:=fun j o' h1 h2=>hex ⟨j,o',h1,h2⟩
       rw [frame_other a _ _ hno,← frame_other a L v hno]
       cases hod:o.dst with
       | none=>rfl
       | some d =>
         simp only [Act.put]
         rw [Array.getElem?_setIfInBounds_ne]
         intro e';subst e';exact hno i o ho hod
   · have h1:(frame ops a (up L i true) (up v i u)).tmps[s]? = none:=Array.getElem?_eq_none (by rw [frame_size];omega)
     have h2:((frame ops a L v).put o.dst u).tmps[s]? = none:=by
       refine Array.getElem?_eq_none ?_
       cases o.dst <;> simp [Act.put,frame_size] <;> omega
     rw [h1,h2]
 have ht:((frame ops a L v).put o.dst u).tmps=(frame ops a (up L i true) (up v i u)).tmps:=Array.ext_getElem? key
 have hd:((frame ops a L v).put o.dst u).defers=(frame ops a (up L i true) (up v i u)).defers:=by cases o.dst <;> rfl
 generalize (frame ops a L v).put o.dst u=x at *
 generalize frame ops a (up L i true) (up v i u)=y at *
 cases x;cases y;simp_all
theorem fold_none (v:Nat→Value):∀ (l:List (Oper × Nat)) (t:Array Value),
   l.foldl (fun t p=>match p.1.dst with | some d=>if (fun _:Nat=>false) p.2 then t.setIfInBounds d (v p.2) else t | none=>t) t=t:=by
 intro l
 induction l with
 | nil=>intro t;rfl
 | cons p l ih=>intro t;rw [List.foldl_cons];cases p.1.dst <;> exact ih t
theorem wp_region_frame {id:Nat} {a:Act} {w:World} (hm:P.follows .mixedOrders=true) (hb:backward ops=true) (hap:apart ops=true) (hsz0:(ops.toList.all fun o=>o.dst.all fun d=>decide (d < a.tmps.size))=true)
   (I:(Nat→Bool)→(Nat→Value)→World→Prop)
   (hi:I (fun _=>false) (fun _=>undef) w.drew)
   (step:∀ i,i < ops.size→∀ L v w (a':Act),I L v w→L i=false→(∀ o,ops[i]? = some o→∀ e ∈ o.after,Region.binds .any e=true→L e.on=true) →
     (∀ j d:Nat,(ops[j]?).bind (·.dst)=some d→L j=true→a'.tmps.getD d undef=v j)→(∀ d,ops.toList.all (fun o=>o.dst != some d)=true→a'.tmps.getD d undef=a.tmps.getD d undef) →
     wpOp P ops Q i (fun b w'=>∃ (o:Oper) (u:Value),ops[i]? = some o∧b=a'.put o.dst u∧I (up L i true) (up v i u) w') a' w)
   (fin:∀ v w,I (fun i=>decide (i < ops.size)) v w→Q .normal (frame ops a (fun _=>true) v) w) :
   (Code.region id ops true).wp P Q a w:=by
 have hsz:∀ (i:Nat) (o:Oper) (d:Nat),ops[i]? = some o→o.dst=some d→d < a.tmps.size:=fun i o d h1 h2=>by
   have:=List.all_eq_true.1 hsz0 o (Array.mem_toList_iff.2 (Array.mem_of_getElem? h1))
   rw [h2] at this
   simpa using this
 refine wp_region_inv hm hb (fun L v w=>I L v w∧∀ i,ops.size ≤ i→L i=false) (frame ops a) ?_ ⟨hi,fun _ _=>rfl⟩ ?_ ?_
 · have:=fold_none (fun _=>undef) ops.toList.zipIdx a.tmps
   unfold frame;rw [show (List.foldl _ a.tmps _)=a.tmps from this]
 · intro i hin L v w ⟨hI,hL⟩ hLi hd
   refine wpOp_mono ?_ (step i hin L v w (frame ops a L v) hI hLi hd ?_ ?_)
   · rintro b w' ⟨o,u,ho,rfl,hI'⟩
     exact ⟨u,frame_put hap a L v ho u,hI',fun j hj=>by rw [up_other _ _ _ _ (by omega)];exact hL j hj⟩
   · intro j d hjd hlj
     obtain ⟨o,ho,hod⟩:=Option.bind_eq_some_iff.1 hjd
     have hs:=hsz j o d ho hod
     have:=frame_own hap a L v ho hod hs
     rw [hlj,if_pos rfl] at this
     rw [Array.getD_eq_getD_getElem?,this];rfl
   · intro d hall
     have hno:∀ (j:Nat) (o:Oper),ops[j]? = some o→o.dst ≠ some d:=fun j o ho=>by
       have:=List.all_eq_true.1 hall o (Array.mem_toList_iff.2 (Array.mem_of_getElem? ho))
       simpa using this
     rw [Array.getD_eq_getD_getElem?,Array.getD_eq_getD_getElem?,frame_other a L v hno]
 · intro L v w hall ⟨hI,hL⟩
   have e:L=fun i=>decide (i < ops.size):=by
     funext i
     by_cases h:i < ops.size
     · rw [hall i h];simp [h]
     · rw [hL i (by omega)];simp [h]
   have e2:frame ops a L v=frame ops a (fun _=>true) v:=by
     have:∀ s:Nat,(frame ops a L v).tmps[s]? = (frame ops a (fun _=>true) v).tmps[s]?:=by
       intro s
       by_cases hex:∃ (j:Nat) (o':Oper),ops[j]? = some o'∧o'.dst=some s
       · obtain ⟨j,o',hj,hd⟩:=hex
         have hs:=hsz j o' s hj hd
         rw [frame_own hap a _ _ hj hd hs,frame_own hap a _ _ hj hd hs,hall j (Array.getElem?_eq_some_iff.1 hj).1]
       · have hno:∀ (j:Nat) (o':Oper),ops[j]? = some o'→o'.dst ≠ some s:=fun j o' h1 h2=>hex ⟨j,o',h1,h2⟩
         rw [frame_other a _ _ hno,frame_other a _ _ hno]
     have ht:=Array.ext_getElem? this
     have hd:(frame ops a L v).defers=(frame ops a (fun _=>true) v).defers:=rfl
     generalize frame ops a L v=x at *
     generalize frame ops a (fun _=>true) v=y at *
     cases x;cases y;simp_all
   rw [e2]
   exact fin v w (e ▸ hI)
theorem step_plain {i:Nat} {o:Oper} {K:Act→World→Prop} {a:Act} {w:World} (ho:ops[i]? = some o) (hg:o.guard=none)
   (h:∀ K':Act→World→Prop,(∀ a w,K a w→K' a w)→Oper.wp P o a w K' Q):wpOp P ops Q i K a w :=
 wpOp_step ho fun K' hK=>by rw [if_pos (by simp [Region.wanted,hg])];exact h K' hK
theorem some_of_getD {t:Array Value} {i:Nat} {b:Bool} (h:t.getD i undef=.bool b):t[i]? = some (.bool b):=by
 rw [Array.getD_eq_getD_getElem?] at h
 cases hx:t[i]? with
 | none=>rw [hx] at h;cases h
 | some v=>rw [hx] at h;exact congrArg some h
theorem step_wanted {i j d:Nat} {b:Bool} {o:Oper} {K:Act→World→Prop} {a:Act} {w:World} (ho:ops[i]? = some o) (hg:o.guard=some (j,b)) (hd:(ops[j]?).bind (·.dst)=some d) (hv:a.tmps.getD d undef=.bool b)
   (h:∀ K':Act→World→Prop,(∀ a w,K a w→K' a w)→Oper.wp P o a w K' Q):wpOp P ops Q i K a w :=
 wpOp_step ho fun K' hK=>by
   rw [if_pos (by simp [Region.wanted,hg,yielded,hd,some_of_getD hv])];exact h K' hK
theorem step_unwanted {i j d:Nat} {b:Bool} {o:Oper} {K:Act→World→Prop} {a:Act} {w:World} (ho:ops[i]? = some o) (hg:o.guard=some (j,!b)) (hd:(ops[j]?).bind (·.dst)=some d) (hv:a.tmps.getD d undef=.bool b)
   (h:K (a.put o.dst undef) w):wpOp P ops Q i K a w :=
 wpOp_step ho fun K' hK=>by
   rw [if_neg (by cases b <;> simp [Region.wanted,hg,yielded,hd,some_of_getD hv])];exact hK _ _ h
end Ri
end Go.Proofs.YtnfdknhhkdphhaaGreatDoor
namespace Go.Proofs.YtnfdknhhkdphhaaGreatDoor
open Go.RowKit
def SameEnd (t u:Tr) (w:World) (e:Ending) (w':World):Prop:=∃ b:Bool,e=.returned (.bool b)∧(b=true ↔ t=u)∧Below w.heap.size w w'
theorem sameEnd_no {t u:Tr} {w w':World} (h:t ≠ u) (hb:Below w.heap.size w w'):SameEnd t u w (.returned (.bool false)) w':=⟨false,rfl,⟨fun h=>(by cases h),fun e=>absurd e h⟩,hb⟩
theorem sameEnd_yes {t u:Tr} {w w':World} (h:t=u) (hb:Below w.heap.size w w'):SameEnd t u w (.returned (.bool true)) w':=⟨true,rfl,⟨fun _=>h,fun _=>rfl⟩,hb⟩
theorem SameEnd.yes {t u:Tr} {w w':World} {e:Ending} (h:SameEnd t u w e w') (ht:t=u):e=.returned (.bool true)∧Below w.heap.size w w':=by
 obtain ⟨b,rfl,hb,hw⟩:=h;rw [hb.2 ht];exact ⟨rfl,hw⟩
theorem SameEnd.no {t u:Tr} {w w':World} {e:Ending} (h:SameEnd t u w e w') (ht:t ≠ u):e=.returned (.bool false)∧Below w.heap.size w w':=by
 obtain ⟨b,rfl,hb,hw⟩:=h
 cases b with
 | false=>exact ⟨rfl,hw⟩
 | true=>exact absurd (hb.1 rfl) ht
theorem U_ne {a b c d a' b' c' d':BitVec 64} (h:¬ (a=a'∧b=b'∧c=c'∧d=d')):(Oc.U a == Oc.U a' && (Oc.U b == Oc.U b' && (Oc.U c == Oc.U c' && Oc.U d == Oc.U d')))=false:=by
 cases hb:(Oc.U a == Oc.U a' && (Oc.U b == Oc.U b' && (Oc.U c == Oc.U c' && Oc.U d == Oc.U d'))) with
 | false=>rfl
 | true =>
   simp only [Bool.and_eq_true,beq_iff_eq] at hb
   exact absurd ⟨Oc.U_inj hb.1,Oc.U_inj hb.2.1,Oc.U_inj hb.2.2.1,Oc.U_inj hb.2.2.2⟩ h
theorem field5 {w:World} {b:Nat} {x0 x1 x2 x3 x4 x5 x6 x7 x8 x9:Value} {t:TypeId} (h:w.heap[b]? = some (.cells #[x0,x1,x2,x3,x4,x5,x6,x7,x8,x9] t)):w.cell? ⟨b,5,none⟩=some x5:=by
 simp [World.cell?,h]
theorem samenodes_any:∀ t u:Tr,∀ (w:World) (B C:Nat→Prop) (va vb:Value),NodeV w B va t→NodeV w C vb u →
   Calls Tryz.prog 10 #[va,vb] w (SameEnd t u w):=by
 intro t
 induction t using Tr.rec_subs with
 | h t ih =>
   intro u w B C va vb ha hb
   obtain ⟨sa,rfl,hsa⟩:=ha
   obtain ⟨sb,rfl,hsb⟩:=hb
   obtain ⟨p,cap,rfl,hla⟩:=hsa.slice
   obtain ⟨q,cbp,rfl,hlb⟩:=hsb.slice
   have he:=eq4
   cases t with | node k a b c d ts n lo hi br =>
   cases u with | node k' a' b' c' d' us n' lo' hi' br' =>
   simp only [Tr.cells,Tr.kind,Tr.w0,Tr.w1,Tr.w2,Tr.w3,Tr.num,Tr.least,Tr.most,Tr.bare,Tr.subs] at *
   have IH:=Lib.hid ih
   clear ih
   by_cases hx:k=k'
   case neg =>
     have HN:=Lib.hid (show Tr.node k a b c d ts n lo hi br ≠ .node k' a' b' c' d' us n' lo' hi' br' from fun h=>by cases h;exact hx rfl)
     have e1:(k != k')=true:=by simpa using hx
     clear hx
     go_enter Tryz.func10,Tryz.ntmps10
     go_wp2
     go_ret
     exact sameEnd_no HN.out (by go_grown)
   obtain rfl:=hx
   by_cases hx:a=a'∧b=b'∧c=c'∧d=d'
   case neg =>
     have HN:=Lib.hid (show Tr.node k a b c d ts n lo hi br ≠ .node k a' b' c' d' us n' lo' hi' br' from fun h=>by cases h;exact hx ⟨rfl,rfl,rfl,rfl⟩)
     have e2:=U_ne hx
     clear hx
     go_enter Tryz.func10,Tryz.ntmps10
     go_wp2
     go_ret
     exact sameEnd_no HN.out (by go_grown)
   obtain ⟨rfl,rfl,rfl,rfl⟩:=hx
   by_cases hx:n=n'
   case neg =>
     have HN:=Lib.hid (show Tr.node k a b c d ts n lo hi br ≠ .node k a b c d us n' lo' hi' br' from fun h=>by cases h;exact hx rfl)
     have e1:(n != n')=true:=by simpa using hx
     clear hx
     go_enter Tryz.func10,Tryz.ntmps10
     go_wp2
     go_ret
     exact sameEnd_no HN.out (by go_grown)
   obtain rfl:=hx
   by_cases hx:lo=lo'
   case neg =>
     have HN:=Lib.hid (show Tr.node k a b c d ts n lo hi br ≠ .node k a b c d us n lo' hi' br' from fun h=>by cases h;exact hx rfl)
     have e1:(lo != lo')=true:=by simpa using hx
     clear hx
     go_enter Tryz.func10,Tryz.ntmps10
     go_wp2
     go_ret
     exact sameEnd_no HN.out (by go_grown)
   obtain rfl:=hx
   by_cases hx:hi=hi'
   case neg =>
     have HN:=Lib.hid (show Tr.node k a b c d ts n lo hi br ≠ .node k a b c d us n lo hi' br' from fun h=>by cases h;exact hx rfl)
     have e1:(hi != hi')=true:=by simpa using hx
     clear hx
     go_enter Tryz.func10,Tryz.ntmps10
     go_wp2
     go_ret
     exact sameEnd_no HN.out (by go_grown)
   obtain rfl:=hx
   by_cases hx:br=br'
   case neg =>
     have HN:=Lib.hid (show Tr.node k a b c d ts n lo hi br ≠ .node k a b c d us n lo hi br' from fun h=>by cases h;exact hx rfl)
     have hbb:(br=true∧br'=false) ∨ (br=false∧br'=true):=by cases br <;> cases br' <;> simp at hx ⊢
     clear hx
     rcases hbb with ⟨rfl,rfl⟩ | ⟨rfl,rfl⟩
     all_goals
       go_enter Tryz.func10,Tryz.ntmps10
       go_wp2
       go_ret
       exact sameEnd_no HN.out (by go_grown)
   obtain rfl:=hx
   by_cases hx:ts.length=us.length
   case neg =>
     have HN:=Lib.hid (show Tr.node k a b c d ts n lo hi br ≠ .node k a b c d us n lo hi br from fun h=>by cases h;exact hx rfl)
     have e1:((ts.length:Int) != (us.length:Int))=true:=by simp;omega
     have e2:(ts.length != us.length)=true:=by simpa using hx
     have e3:(ts.length == us.length)=false:=by simpa using hx
     clear hx
     go_enter Tryz.func10,Tryz.ntmps10
     go_wp2
     go_ret
     exact sameEnd_no HN.out (by go_grown)
   have hlen:us.length=ts.length:=hx.symm
   clear hx
   have HSA:=Lib.hid hsa;have HSB:=Lib.hid hsb
   clear hsa hsb
   rw [hlen] at HSB hlb ⊢
   go_enter Tryz.func10,Tryz.ntmps10
   go_wp2
   go_loopw [58] (fun iv wr=>∃ m:Nat,iv=.int .i64 m∧m ≤ ts.length∧Hid (∀ j,j < m→ts[j]? = us[j]?)∧Below w.heap.size w wr∧w.heap.size+1 < wr.heap.size ∧
     wr.heap[w.heap.size]? = some (.cells #[.int .i64 k,.int .u64 (Oc.U a),.int .u64 (Oc.U b),.int .u64 (Oc.U c),.int .u64 (Oc.U d),.slice p ts.length cap,.int .i64 n,.int .i64 lo,.int .i64 hi,.bool br] 28)∧wr.heap[w.heap.size+1]? = some (.cells #[.int .i64 k,.int .u64 (Oc.U a),.int .u64 (Oc.U b),.int .u64 (Oc.U c),.int .u64 (Oc.U d),.slice q ts.length cbp,.int .i64 n,.int .i64 lo,.int .i64 hi,.bool br] 28)) (fun iv _=>ts.length - (intOf iv).toNat)
   case atStart=>exact ⟨0,rfl,Nat.zero_le _,Lib.hid (fun j hj=>absurd hj (Nat.not_lt_zero _)),by go_grown,by simp,(two_new _ _ _).1,(two_new _ _ _).2⟩
   case round =>
     obtain ⟨m,rfl,hm,hall,hbel,hsz,z2,z3⟩:=hrel
     have Z2:=Lib.hid z2;have Z3:=Lib.hid z3;have HB:=Lib.hid hbel
     clear z2 z3 hbel
     have wm:IntKind.i64.wrap ((m:Int)+1)=(m:Int)+1:=IntWalk.i64_in _ (by omega)
     by_cases hlt:m < ts.length
     · obtain ⟨x,hx⟩:∃ x,ts[m]? = some x:=⟨_,List.getElem?_eq_getElem hlt⟩
       obtain ⟨y,hy⟩:∃ y,us[m]? = some y:=⟨_,List.getElem?_eq_getElem (by omega)⟩
       obtain ⟨b1,o1,s1,rfl,-,t1,sub1⟩:=HSA.out.get hx
       obtain ⟨b2,o2,s2,rfl,-,t2,sub2⟩:=HSB.out.get hy
       have T1:=Lib.hid t1;have T2:=Lib.hid t2
       have l1:=t1.lt;have l2:=t2.lt
       have HS:=Lib.hid (fun w9 (hb:Below wr.heap.size wr w9)=>IH.out x (List.mem_of_getElem? hx) y w9 B C (.agg #[.int .i64 x.kind,.int .u64 (Oc.U x.w0),.int .u64 (Oc.U x.w1),.int .u64 (Oc.U x.w2),.int .u64 (Oc.U x.w3),s1,.int .i64 x.num,.int .i64 x.least,.int .i64 x.most,.bool x.bare]) (.agg #[.int .i64 y.kind,.int .u64 (Oc.U y.w0),.int .u64 (Oc.U y.w1),.int .u64 (Oc.U y.w2),.int .u64 (Oc.U y.w3),s2,.int .i64 y.num,.int .i64 y.least,.int .i64 y.most,.bool y.bare]) ⟨s1,rfl,sub1.later (HB.out.trans (hb.mono HB.out.size))⟩ ⟨s2,rfl,sub2.later (HB.out.trans (hb.mono HB.out.size))⟩)
       clear t1 t2 sub1 sub2
       have HX:=Lib.hid hx;have HY:=Lib.hid hy
       clear hx hy
       by_cases heq:x=y
       · have HQ:=Lib.hid heq
         clear heq
         go_wp2
         refine Ri.wp_region_frame (by kernel_rfl) (by kernel_rfl) (by kernel_rfl) (by kernel_rfl)
           (fun L v w'=>Below wr.heap.size wr w'∧(L 0=true→v 0=.pointer (some ⟨w.heap.size,5,none⟩))∧(L 1=true→v 1=.slice (some ⟨b1,o1,none⟩) ts.length cap)∧(L 2=true→v 2=.int .i64 m)∧(L 3=true→v 3=.pointer (some ⟨b1,o1+m * 10,none⟩))∧(L 4=true→v 4=.agg #[.int .i64 x.kind,.int .u64 (Oc.U x.w0),.int .u64 (Oc.U x.w1),.int .u64 (Oc.U x.w2),.int .u64 (Oc.U x.w3),s1,.int .i64 x.num,.int .i64 x.least,.int .i64 x.most,.bool x.bare])∧(L 5=true→v 5=.pointer (some ⟨w.heap.size+1,5,none⟩))∧(L 6=true→v 6=.slice (some ⟨b2,o2,none⟩) ts.length cbp)∧(L 7=true→v 7=.int .i64 m)∧(L 8=true→v 8=.pointer (some ⟨b2,o2+m * 10,none⟩))∧(L 9=true→v 9=.agg #[.int .i64 y.kind,.int .u64 (Oc.U y.w0),.int .u64 (Oc.U y.w1),.int .u64 (Oc.U y.w2),.int .u64 (Oc.U y.w3),s2,.int .i64 y.num,.int .i64 y.least,.int .i64 y.most,.bool y.bare])∧(L 10=true→v 10=.bool true)∧(L 11=true→v 11=.bool false))
           ?_ ?_ ?_
         · exact ⟨(Below.refl _ _).drew,by simp,by simp,by simp,by simp,by simp,by simp,by simp,by simp,by simp,by simp,by simp,by simp⟩
         · intro i hi9 L v w9 xa hI hL hd hv ho
           have hi':i=0 ∨ i=1 ∨ i=2 ∨ i=3 ∨ i=4 ∨ i=5 ∨ i=6 ∨ i=7 ∨ i=8 ∨ i=9 ∨ i=10 ∨ i=11:=by simp at hi9;omega
           obtain ⟨hb,q0,q1,q2,q3,q4,q5,q6,q7,q8,q9,q10,q11⟩:=hI
           rcases hi' with rfl | rfl | rfl | rfl | rfl | rfl | rfl | rfl | rfl | rfl | rfl | rfl
           · have e2:xa.tmps.getD 2 undef=.pointer (some ⟨w.heap.size,0,none⟩):=ho 2 (by kernel_rfl)
             refine Ri.step_plain rfl rfl (fun K' hK=>?_)
             go_simp
             exact hK _ _ ⟨_,_,rfl,rfl,hb,fun _=>rfl,q1,q2,q3,q4,q5,q6,q7,q8,q9,q10,q11⟩
           · have l0:L 0=true:=by have:=hd _ rfl;simp [Region.binds] at this;simp [this]
             have f0:=(hv 0 61 rfl l0).trans (q0 l0)
             refine Ri.step_plain rfl rfl (fun K' hK=>?_)
             obtain c5:=field5 (keep_blk hb Z2.out)
             go_simp
             exact hK _ _ ⟨_,_,rfl,rfl,hb,q0,fun _=>rfl,q2,q3,q4,q5,q6,q7,q8,q9,q10,q11⟩
           · have e5:xa.tmps.getD 5 undef=.int .i64 m:=ho 5 (by kernel_rfl)
             refine Ri.step_plain rfl rfl (fun K' hK=>?_)
             go_simp
             exact hK _ _ ⟨_,_,rfl,rfl,hb,q0,q1,fun _=>rfl,q3,q4,q5,q6,q7,q8,q9,q10,q11⟩
           · have l0:L 1=true∧L 2=true:=by have:=hd _ rfl;simp [Region.binds] at this;simp [this]
             have f1:=(hv 1 62 rfl l0.1).trans (q1 l0.1)
             have f2:=(hv 2 63 rfl l0.2).trans (q2 l0.2)
             refine Ri.step_plain rfl rfl (fun K' hK=>?_)
             go_simp
             exact hK _ _ ⟨_,_,rfl,rfl,hb,q0,q1,q2,fun _=>rfl,q4,q5,q6,q7,q8,q9,q10,q11⟩
           · have l0:L 3=true:=by have:=hd _ rfl;simp [Region.binds] at this;simp [this]
             have f3:=(hv 3 64 rfl l0).trans (q3 l0)
             refine Ri.step_plain rfl rfl (fun K' hK=>?_)
             obtain ⟨d0,d1,d2,d3,d4,d5,d6,d7,d8,d9⟩:=(T1.out.keep ((HB.out.trans (hb.mono HB.out.size)).block _ l1))
             go_simp
             exact hK _ _ ⟨_,_,rfl,rfl,hb,q0,q1,q2,q3,fun _=>rfl,q5,q6,q7,q8,q9,q10,q11⟩
           · have e3:xa.tmps.getD 3 undef=.pointer (some ⟨w.heap.size+1,0,none⟩):=ho 3 (by kernel_rfl)
             refine Ri.step_plain rfl rfl (fun K' hK=>?_)
             go_simp
             exact hK _ _ ⟨_,_,rfl,rfl,hb,q0,q1,q2,q3,q4,fun _=>rfl,q6,q7,q8,q9,q10,q11⟩
           · have l0:L 5=true:=by have:=hd _ rfl;simp [Region.binds] at this;simp [this]
             have f5:=(hv 5 66 rfl l0).trans (q5 l0)
             refine Ri.step_plain rfl rfl (fun K' hK=>?_)
             obtain c5:=field5 (keep_blk hb Z3.out)
             go_simp
             exact hK _ _ ⟨_,_,rfl,rfl,hb,q0,q1,q2,q3,q4,q5,fun _=>rfl,q7,q8,q9,q10,q11⟩
           · have e5:xa.tmps.getD 5 undef=.int .i64 m:=ho 5 (by kernel_rfl)
             refine Ri.step_plain rfl rfl (fun K' hK=>?_)
             go_simp
             exact hK _ _ ⟨_,_,rfl,rfl,hb,q0,q1,q2,q3,q4,q5,q6,fun _=>rfl,q8,q9,q10,q11⟩
           · have l0:L 6=true∧L 7=true:=by have:=hd _ rfl;simp [Region.binds] at this;simp [this]
             have f6:=(hv 6 67 rfl l0.1).trans (q6 l0.1)
             have f7:=(hv 7 68 rfl l0.2).trans (q7 l0.2)
             refine Ri.step_plain rfl rfl (fun K' hK=>?_)
             go_simp
             exact hK _ _ ⟨_,_,rfl,rfl,hb,q0,q1,q2,q3,q4,q5,q6,q7,fun _=>rfl,q9,q10,q11⟩
           · have l0:L 8=true:=by have:=hd _ rfl;simp [Region.binds] at this;simp [this]
             have f8:=(hv 8 69 rfl l0).trans (q8 l0)
             refine Ri.step_plain rfl rfl (fun K' hK=>?_)
             obtain ⟨d0,d1,d2,d3,d4,d5,d6,d7,d8,d9⟩:=(T2.out.keep ((HB.out.trans (hb.mono HB.out.size)).block _ l2))
             go_simp
             exact hK _ _ ⟨_,_,rfl,rfl,hb,q0,q1,q2,q3,q4,q5,q6,q7,q8,fun _=>rfl,q10,q11⟩
           · have l0:L 4=true∧L 9=true:=by have:=hd _ rfl;simp [Region.binds] at this;simp [this]
             have f4:=(hv 4 65 rfl l0.1).trans (q4 l0.1)
             have f9:=(hv 9 70 rfl l0.2).trans (q9 l0.2)
             refine Ri.step_plain rfl rfl (fun K' hK=>?_)
             go_simp
             refine ((HS.out _ hb).mono fun _ _ h=>h.yes HQ.out).mono ?_
             rintro e w8 ⟨rfl,hb8⟩
             exact hK _ _ ⟨_,_,rfl,rfl,hb.trans (hb8.mono hb.size),q0,q1,q2,q3,q4,q5,q6,q7,q8,q9,fun _=>rfl,q11⟩
           · have l0:L 10=true:=by have:=hd _ rfl;simp [Region.binds] at this;simp [this]
             have f10:=(hv 10 71 rfl l0).trans (q10 l0)
             refine Ri.step_plain rfl rfl (fun K' hK=>?_)
             go_simp
             exact hK _ _ ⟨_,_,rfl,rfl,hb,q0,q1,q2,q3,q4,q5,q6,q7,q8,q9,q10,fun _=>rfl⟩
         · rintro v w9 ⟨hb,-,-,-,-,-,-,-,-,-,-,-,q11⟩
           have q11':v 11=.bool false:=q11 rfl
           simp only [Ri.frame,List.zipIdx,List.foldl_cons,List.foldl_nil,if_true,List.setIfInBounds_toArray,List.set_cons_zero,List.set_cons_succ,Nat.reduceAdd,q11']
           clear q11 q11'
           generalize v 0=y0;generalize v 1=y1;generalize v 2=y2;generalize v 3=y3;generalize v 4=y4;generalize v 5=y5;generalize v 6=y6;generalize v 7=y7;generalize v 8=y8;generalize v 9=y9;generalize v 10=y10
           have Y2:=keep_blk hb Z2.out;have Y3:=keep_blk hb Z3.out;have HB9:=HB.out.trans (hb.mono HB.out.size);have hz9:=hb.size
           have W2:=Lib.hid Y2;have W3:=Lib.hid Y3;have HB10:=Lib.hid HB9
           clear hb Y2 Y3 HB9
           go_wp2
           exact ⟨⟨m+1,by go_num,by omega,Lib.hid (fun j hj=>by
             by_cases hjm:j=m
             · rw [hjm,HX.out,HY.out,HQ.out]
             · exact hall.out j (by omega)),HB10.out,by omega,W2.out,W3.out⟩,by simp [intOf];omega⟩
       · have HQ:=Lib.hid heq
         clear heq
         go_wp2
         refine Ri.wp_region_frame (by kernel_rfl) (by kernel_rfl) (by kernel_rfl) (by kernel_rfl)
           (fun L v w'=>Below wr.heap.size wr w'∧(L 0=true→v 0=.pointer (some ⟨w.heap.size,5,none⟩))∧(L 1=true→v 1=.slice (some ⟨b1,o1,none⟩) ts.length cap)∧(L 2=true→v 2=.int .i64 m)∧(L 3=true→v 3=.pointer (some ⟨b1,o1+m * 10,none⟩))∧(L 4=true→v 4=.agg #[.int .i64 x.kind,.int .u64 (Oc.U x.w0),.int .u64 (Oc.U x.w1),.int .u64 (Oc.U x.w2),.int .u64 (Oc.U x.w3),s1,.int .i64 x.num,.int .i64 x.least,.int .i64 x.most,.bool x.bare])∧(L 5=true→v 5=.pointer (some ⟨w.heap.size+1,5,none⟩))∧(L 6=true→v 6=.slice (some ⟨b2,o2,none⟩) ts.length cbp)∧(L 7=true→v 7=.int .i64 m)∧(L 8=true→v 8=.pointer (some ⟨b2,o2+m * 10,none⟩))∧(L 9=true→v 9=.agg #[.int .i64 y.kind,.int .u64 (Oc.U y.w0),.int .u64 (Oc.U y.w1),.int .u64 (Oc.U y.w2),.int .u64 (Oc.U y.w3),s2,.int .i64 y.num,.int .i64 y.least,.int .i64 y.most,.bool y.bare])∧(L 10=true→v 10=.bool false)∧(L 11=true→v 11=.bool true))
           ?_ ?_ ?_
         · exact ⟨(Below.refl _ _).drew,by simp,by simp,by simp,by simp,by simp,by simp,by simp,by simp,by simp,by simp,by simp,by simp⟩
         · intro i hi9 L v w9 xa hI hL hd hv ho
           have hi':i=0 ∨ i=1 ∨ i=2 ∨ i=3 ∨ i=4 ∨ i=5 ∨ i=6 ∨ i=7 ∨ i=8 ∨ i=9 ∨ i=10 ∨ i=11:=by simp at hi9;omega
           obtain ⟨hb,q0,q1,q2,q3,q4,q5,q6,q7,q8,q9,q10,q11⟩:=hI
           rcases hi' with rfl | rfl | rfl | rfl | rfl | rfl | rfl | rfl | rfl | rfl | rfl | rfl
           · have e2:xa.tmps.getD 2 undef=.pointer (some ⟨w.heap.size,0,none⟩):=ho 2 (by kernel_rfl)
             refine Ri.step_plain rfl rfl (fun K' hK=>?_)
             go_simp
             exact hK _ _ ⟨_,_,rfl,rfl,hb,fun _=>rfl,q1,q2,q3,q4,q5,q6,q7,q8,q9,q10,q11⟩
           · have l0:L 0=true:=by have:=hd _ rfl;simp [Region.binds] at this;simp [this]
             have f0:=(hv 0 61 rfl l0).trans (q0 l0)
             refine Ri.step_plain rfl rfl (fun K' hK=>?_)
             obtain c5:=field5 (keep_blk hb Z2.out)
             go_simp
             exact hK _ _ ⟨_,_,rfl,rfl,hb,q0,fun _=>rfl,q2,q3,q4,q5,q6,q7,q8,q9,q10,q11⟩
           · have e5:xa.tmps.getD 5 undef=.int .i64 m:=ho 5 (by kernel_rfl)
             refine Ri.step_plain rfl rfl (fun K' hK=>?_)
             go_simp
             exact hK _ _ ⟨_,_,rfl,rfl,hb,q0,q1,fun _=>rfl,q3,q4,q5,q6,q7,q8,q9,q10,q11⟩
           · have l0:L 1=true∧L 2=true:=by have:=hd _ rfl;simp [Region.binds] at this;simp [this]
             have f1:=(hv 1 62 rfl l0.1).trans (q1 l0.1)
             have f2:=(hv 2 63 rfl l0.2).trans (q2 l0.2)
             refine Ri.step_plain rfl rfl (fun K' hK=>?_)
             go_simp
             exact hK _ _ ⟨_,_,rfl,rfl,hb,q0,q1,q2,fun _=>rfl,q4,q5,q6,q7,q8,q9,q10,q11⟩
           · have l0:L 3=true:=by have:=hd _ rfl;simp [Region.binds] at this;simp [this]
             have f3:=(hv 3 64 rfl l0).trans (q3 l0)
             refine Ri.step_plain rfl rfl (fun K' hK=>?_)
             obtain ⟨d0,d1,d2,d3,d4,d5,d6,d7,d8,d9⟩:=(T1.out.keep ((HB.out.trans (hb.mono HB.out.size)).block _ l1))
             go_simp
             exact hK _ _ ⟨_,_,rfl,rfl,hb,q0,q1,q2,q3,fun _=>rfl,q5,q6,q7,q8,q9,q10,q11⟩
           · have e3:xa.tmps.getD 3 undef=.pointer (some ⟨w.heap.size+1,0,none⟩):=ho 3 (by kernel_rfl)
             refine Ri.step_plain rfl rfl (fun K' hK=>?_)
             go_simp
             exact hK _ _ ⟨_,_,rfl,rfl,hb,q0,q1,q2,q3,q4,fun _=>rfl,q6,q7,q8,q9,q10,q11⟩
           · have l0:L 5=true:=by have:=hd _ rfl;simp [Region.binds] at this;simp [this]
             have f5:=(hv 5 66 rfl l0).trans (q5 l0)
             refine Ri.step_plain rfl rfl (fun K' hK=>?_)
             obtain c5:=field5 (keep_blk hb Z3.out)
             go_simp
             exact hK _ _ ⟨_,_,rfl,rfl,hb,q0,q1,q2,q3,q4,q5,fun _=>rfl,q7,q8,q9,q10,q11⟩
           · have e5:xa.tmps.getD 5 undef=.int .i64 m:=ho 5 (by kernel_rfl)
             refine Ri.step_plain rfl rfl (fun K' hK=>?_)
             go_simp
             exact hK _ _ ⟨_,_,rfl,rfl,hb,q0,q1,q2,q3,q4,q5,q6,fun _=>rfl,q8,q9,q10,q11⟩
           · have l0:L 6=true∧L 7=true:=by have:=hd _ rfl;simp [Region.binds] at this;simp [this]
             have f6:=(hv 6 67 rfl l0.1).trans (q6 l0.1)
             have f7:=(hv 7 68 rfl l0.2).trans (q7 l0.2)
             refine Ri.step_plain rfl rfl (fun K' hK=>?_)
             go_simp
             exact hK _ _ ⟨_,_,rfl,rfl,hb,q0,q1,q2,q3,q4,q5,q6,q7,fun _=>rfl,q9,q10,q11⟩
           · have l0:L 8=true:=by have:=hd _ rfl;simp [Region.binds] at this;simp [this]
             have f8:=(hv 8 69 rfl l0).trans (q8 l0)
             refine Ri.step_plain rfl rfl (fun K' hK=>?_)
             obtain ⟨d0,d1,d2,d3,d4,d5,d6,d7,d8,d9⟩:=(T2.out.keep ((HB.out.trans (hb.mono HB.out.size)).block _ l2))
             go_simp
             exact hK _ _ ⟨_,_,rfl,rfl,hb,q0,q1,q2,q3,q4,q5,q6,q7,q8,fun _=>rfl,q10,q11⟩
           · have l0:L 4=true∧L 9=true:=by have:=hd _ rfl;simp [Region.binds] at this;simp [this]
             have f4:=(hv 4 65 rfl l0.1).trans (q4 l0.1)
             have f9:=(hv 9 70 rfl l0.2).trans (q9 l0.2)
             refine Ri.step_plain rfl rfl (fun K' hK=>?_)
             go_simp
             refine ((HS.out _ hb).mono fun _ _ h=>h.no HQ.out).mono ?_
             rintro e w8 ⟨rfl,hb8⟩
             exact hK _ _ ⟨_,_,rfl,rfl,hb.trans (hb8.mono hb.size),q0,q1,q2,q3,q4,q5,q6,q7,q8,q9,fun _=>rfl,q11⟩
           · have l0:L 10=true:=by have:=hd _ rfl;simp [Region.binds] at this;simp [this]
             have f10:=(hv 10 71 rfl l0).trans (q10 l0)
             refine Ri.step_plain rfl rfl (fun K' hK=>?_)
             go_simp
             exact hK _ _ ⟨_,_,rfl,rfl,hb,q0,q1,q2,q3,q4,q5,q6,q7,q8,q9,q10,fun _=>rfl⟩
         · rintro v w9 ⟨hb,-,-,-,-,-,-,-,-,-,-,-,q11⟩
           have q11':v 11=.bool true:=q11 rfl
           simp only [Ri.frame,List.zipIdx,List.foldl_cons,List.foldl_nil,if_true,List.setIfInBounds_toArray,List.set_cons_zero,List.set_cons_succ,Nat.reduceAdd,q11']
           clear q11 q11'
           generalize v 0=y0;generalize v 1=y1;generalize v 2=y2;generalize v 3=y3;generalize v 4=y4;generalize v 5=y5;generalize v 6=y6;generalize v 7=y7;generalize v 8=y8;generalize v 9=y9;generalize v 10=y10
           have HB10:=Lib.hid (HB.out.trans (hb.mono HB.out.size))
           clear hb
           go_wp2
           go_ret
           refine sameEnd_no (fun h=>?_) HB10.out
           have hts:ts=us:=by injection h
           have:=HX.out
           rw [hts,HY.out] at this
           exact HQ.out (Option.some.inj this).symm
     · obtain rfl:m=ts.length:=by omega
       have hts:ts=us:=List.ext_getElem? fun j=>by
         by_cases hj:j < ts.length
         · exact hall.out j hj
         · rw [List.getElem?_eq_none (by omega),List.getElem?_eq_none (by omega)]
       have HTS:=Lib.hid hts
       clear hts hlt
       go_wp2
       go_ret
       exact sameEnd_yes (by rw [HTS.out]) HB.out
end Go.Proofs.YtnfdknhhkdphhaaGreatDoor
namespace Go.Proofs.YtnfdknhhkdphhaaGreatDoor
open Go.RowKit
theorem treesize_seq (t:Tr) (ih:∀ u,u ∈ t.subs→u.InForm→∀ (w:World) (B:Nat→Prop) (v:Value),NodeV w B v u→Calls Tryz.prog 72 #[v] w (SizeEnd u.szT w)) (hf:t.InForm) (hk:t.kind ≠ 8)
   (w:World) (B:Nat→Prop) (v:Value) (hv:NodeV w B v t):Calls Tryz.prog 72 #[v] w (SizeEnd t.szT w):=by
 obtain ⟨s,rfl,hs⟩:=hv
 obtain ⟨p,cap,rfl,hlen⟩:=hs.slice
 have HE:=Lib.hid (show t.szT=Tr.sat (1+Tr.szS t.subs) by cases t;rw [Tr.szT];simp only [Tr.kind] at hk;rw [if_neg hk];rfl)
 have HF:=Lib.hid hf
 generalize hts:t.subs=ts at *
 have HTS:=Lib.hid hts;have IH:=Lib.hid ih;have HS:=Lib.hid hs
 have e8:(t.kind == 8)=false:=by simpa using hk
 clear ih hs hf hk hts
 unfold Tr.cells
 go_enter Tryz.func72,Tryz.ntmps72
 go_wp2
 go_loopw [3,14] (fun nv iv wr=>∃ m:Nat,iv=.int .i64 m∧m ≤ ts.length∧nv=.int .i64 (Tr.sat (1+Tr.szS (ts.take m)):Nat)∧Hid (Below w.heap.size w wr)) (fun _ iv _=>ts.length - (intOf iv).toNat)
 case atStart=>exact ⟨0,rfl,Nat.zero_le _,rfl,Lib.hid (by go_grown)⟩
 case round =>
   obtain ⟨m,rfl,hm,rfl,HB⟩:=hrel
   have wm:IntKind.i64.wrap ((m:Int)+1)=(m:Int)+1:=IntWalk.i64_in _ (by omega)
   by_cases hlt:m < ts.length
   · obtain ⟨x,hx⟩:∃ x,ts[m]? = some x:=⟨_,List.getElem?_eq_getElem hlt⟩
     obtain ⟨b1,o1,s1,rfl,-,t1,sub1⟩:=HS.out.get hx
     obtain ⟨d0,d1,d2,d3,d4,d5,d6,d7,d8,d9⟩:=t1.keep (HB.out.block _ t1.lt)
     have hmem:=List.mem_of_getElem? hx
     obtain ⟨p1,c1,rfl,hl1⟩:=sub1.slice
     have HC:=Lib.hid (fun w9 hb=>IH.out x hmem (HF.out.sub (by rw [HTS.out];exact hmem)) w9 B (.agg (x.cells (.slice p1 x.subs.length c1))) ⟨_,rfl,sub1.later hb⟩)
     have hle:=Tr.sat_le (1+Tr.szS (ts.take m));have hlx:=Tr.szT_le x
     have HST:=Lib.hid (Tr.szS_take ts m x hx)
     clear t1 sub1 hmem hx
     generalize hn:Tr.sat (1+Tr.szS (ts.take m))=n at *
     have HN:=Lib.hid hn
     clear hn
     unfold Tr.cells at HC
     go_wp2_with fail
     generalize hw1:World.alloc wr _=w1
     have hb1:Below wr.heap.size wr w1:=by rw [← hw1];exact (Below.refl _ _).alloc (Nat.le_refl _) _
     clear hw1
     refine (HC.out w1 (HB.out.trans (hb1.mono HB.out.size))).mono ?_
     rintro e w2 ⟨rfl,hb2⟩
     have HB2:=Lib.hid (HB.out.trans ((hb1.trans (hb2.mono hb1.size)).mono HB.out.size))
     have wsum:IntKind.i64.wrap ((n:Int)+(x.szT:Int))=(n:Int)+x.szT:=IntWalk.i64_in _ (by omega)
     have HSUM:=Lib.hid (show Tr.sat (n+x.szT)=Tr.sat (1+Tr.szS (ts.take (m+1))) by rw [← HN.out,Tr.sat_sat,HST.out];congr 1;omega)
     generalize x.szT=N at *
     clear d0 d1 d2 d3 d4 d5 d6 d7 d8 d9 hb1 hb2 HC
     go_wp2
     all_goals
       exact ⟨⟨m+1,by go_num,by omega,by rw [← HSUM.out];unfold Tr.sat;congr 1;omega,HB2⟩,by simp [intOf];omega⟩
   · obtain rfl:m=ts.length:=by omega
     have HX:=Lib.hid (show Tr.sat (1+Tr.szS (ts.take ts.length))=t.szT by rw [List.take_length,HE.out])
     go_wp2
     go_ret
     exact ⟨ret_int (by rw [HX.out]),HB.out⟩
theorem treesize_rep (t x:Tr) (ih:∀ (w:World) (B:Nat→Prop) (v:Value),NodeV w B v x→Calls Tryz.prog 72 #[v] w (SizeEnd x.szT w)) (hsub:t.subs=[x]) (hk:t.kind=8) (h0:0 ≤ t.least) (h1:t.least ≤ 255) (h2:t.most = -1 ∨ (t.least ≤ t.most∧t.most ≤ 255))
   (w:World) (B:Nat→Prop) (v:Value) (hv:NodeV w B v t):Calls Tryz.prog 72 #[v] w (SizeEnd t.szT w):=by
 obtain ⟨s,rfl,hs⟩:=hv
 have hsz0:t.szT=Tr.repSz t.least t.most x.szT:=by
   cases t;simp only [Tr.kind,Tr.subs] at hk hsub;subst hk hsub;rw [Tr.szT,if_pos rfl,Tr.szH];rfl
 have HSZ:=Lib.hid hsz0
 have HC:=Lib.hid (fun w9 (hb:Below w.heap.size w w9)=>treerep t x ih hsub h0 h1 h2 w9 B _ ⟨s,rfl,hs.later hb⟩)
 obtain ⟨p,cap,rfl,hlen⟩:=hs.slice
 have z0:=heap_alloc_new w (.cells (t.cells (.slice p t.subs.length cap)) 28)
 have Z0:=Lib.hid z0
 clear hsz0 ih hsub h0 h1 h2 hs z0
 unfold Tr.cells at *
 rw [hk] at *
 clear hk
 go_enter Tryz.func72,Tryz.ntmps72
 go_wp2_with (first
   | (refine wpList_load_row rfl 28 (.tmp 1) rfl w.heap.size rfl 28 _ (0,0) _ Z0.out Tryz.underlying28 rfl (by kernel_rfl) ?_)
   | fail)
 refine (HC.out _ ((Below.refl _ _).alloc (Nat.le_refl _) _)).mono ?_
 rintro e w2 ⟨rfl,hb2⟩
 have HB2:=Lib.hid (((Below.refl w.heap.size w).alloc (Nat.le_refl _) _).trans (hb2.mono (by simp)))
 clear hb2
 go_wp2
 go_ret
 exact ⟨ret_int (by rw [HSZ.out]),HB2.out⟩
theorem treesize_any:∀ t:Tr,t.InForm→∀ (w:World) (B:Nat→Prop) (v:Value),NodeV w B v t→Calls Tryz.prog 72 #[v] w (SizeEnd t.szT w):=by
 intro t
 induction t using Tr.rec_subs with
 | h t ih =>
   intro hf w B v hv
   by_cases hk:t.kind=8
   · have hfl:=hf.fields
     unfold Tr.fieldsOk at hfl
     obtain ⟨-,-,-,-,-,hl,-,h0,h1,h2,-⟩:t.kind=8∧t.w0=0#64∧t.w1=0#64∧t.w2=0#64∧t.w3=0#64∧t.subs.length=1∧t.num=0∧0 ≤ t.least∧t.least ≤ 255∧(t.most = -1 ∨ (t.least ≤ t.most∧t.most ≤ 255))∧(t.bare=true→t.least=0):=by
       rcases hfl with h | h | h | h | h
       · omega
       · omega
       · omega
       · omega
       · exact h
     obtain ⟨x,hx⟩:=List.length_eq_one_iff.1 hl
     have hmem:x ∈ t.subs:=by rw [hx];exact List.mem_cons_self
     exact treesize_rep t x (fun w B v hv=>ih x hmem (hf.sub hmem) w B v hv) hx hk h0 h1 h2 w B v hv
   · exact treesize_seq t ih hf hk w B v hv
theorem counts_yes (k a b c d n lo hi:Int) (br:Bool) (p:Option Addr) (l cap:Nat) (h0:0 ≤ lo) (h1:lo ≤ 255) (h2:hi = -1 ∨ (lo ≤ hi∧hi ≤ 255)) (h3:br=true→lo=0) (w:World) :
   Calls Tryz.prog 141 #[.agg #[.int .i64 k,.int .u64 a,.int .u64 b,.int .u64 c,.int .u64 d,.slice p l cap,.int .i64 n,.int .i64 lo,.int .i64 hi,.bool br]] w fun e w'=>e=.returned (.bool true)∧Below w.heap.size w w':=by
 have e1:decide (lo < 0)=false:=by simpa using h0
 have e2:decide (255 < lo)=false:=by simpa using h1
 have H3:=Lib.hid h3
 rcases h2 with rfl | ⟨h2,h4⟩
 · cases br with
   | true =>
     have h5:=H3.out rfl
     subst h5
     clear e1 e2 h0 h1 h3
     go_enter Tryz.func141,Tryz.ntmps141
     go_wp2
     go_ret
     exact ⟨rfl,by go_grown⟩
   | false =>
     clear h3
     go_enter Tryz.func141,Tryz.ntmps141
     go_wp2
     go_ret
     exact ⟨rfl,by go_grown⟩
 · have e3:(hi == -1)=false:=by rw [beq_eq_false_iff_ne];omega
   have e4:decide (lo ≤ hi)=true:=by simpa using h2
   have e5:decide (hi ≤ 255)=true:=by simpa using h4
   cases br with
   | true =>
     have h5:=H3.out rfl
     subst h5
     clear e1 e2 h0 h1 h3
     go_enter Tryz.func141,Tryz.ntmps141
     go_wp2
     go_ret
     exact ⟨rfl,by go_grown⟩
   | false =>
     clear h3
     go_enter Tryz.func141,Tryz.ntmps141
     go_wp2
     go_ret
     exact ⟨rfl,by go_grown⟩
theorem fields_rep (lo hi:Int) (br:Bool) (p:Option Addr) (cap:Nat) (h1:0 ≤ lo) (h2:lo ≤ 255) (h3:hi = -1 ∨ (lo ≤ hi∧hi ≤ 255)) (h4:br=true→lo=0) (w:World) :
   Calls Tryz.prog 104 #[.agg #[.int .i64 8,.int .u64 0,.int .u64 0,.int .u64 0,.int .u64 0,.slice p 1 cap,.int .i64 0,.int .i64 lo,.int .i64 hi,.bool br]] w fun e w'=>e=.returned (.bool true)∧Below w.heap.size w w':=by
 have he:=eq4
 have HC:=Lib.hid (fun w=>counts_yes 8 0 0 0 0 0 lo hi br p 1 cap h1 h2 h3 h4 w)
 have z0:=heap_alloc_new w (.cells #[.int .i64 8,.int .u64 0,.int .u64 0,.int .u64 0,.int .u64 0,.slice p 1 cap,.int .i64 0,.int .i64 lo,.int .i64 hi,.bool br] 28)
 have Z0:=Lib.hid z0
 clear h1 h2 h3 h4 z0
 by_cases hl:lo=0
 · subst hl
   by_cases hh:hi=0
   · subst hh
     cases br
     all_goals
       go_enter Tryz.func104,Tryz.ntmps104
       go_wp2_with (first
         | (refine wpList_load_row rfl 28 (.tmp 1) rfl w.heap.size rfl 28 _ (0,0) _ Z0.out Tryz.underlying28 rfl (by kernel_rfl) ?_)
         | fail)
       refine (HC.out _).mono ?_
       rintro e w2 ⟨rfl,hb2⟩
       have HB2:=Lib.hid (((Below.refl w.heap.size w).alloc (Nat.le_refl _) _).trans (hb2.mono (by simp)))
       clear hb2
       go_wp2
       go_ret
       exact ⟨rfl,HB2.out⟩
   · have e2:(hi == 0)=false:=by simpa using hh
     clear hh
     go_enter Tryz.func104,Tryz.ntmps104
     go_wp2_with (first
       | (refine wpList_load_row rfl 28 (.tmp 1) rfl w.heap.size rfl 28 _ (0,0) _ Z0.out Tryz.underlying28 rfl (by kernel_rfl) ?_)
       | fail)
     refine (HC.out _).mono ?_
     rintro e w2 ⟨rfl,hb2⟩
     have HB2:=Lib.hid (((Below.refl w.heap.size w).alloc (Nat.le_refl _) _).trans (hb2.mono (by simp)))
     clear hb2
     go_wp2
     go_ret
     exact ⟨rfl,HB2.out⟩
 · have e1:(lo == 0)=false:=by simpa using hl
   clear hl
   go_enter Tryz.func104,Tryz.ntmps104
   go_wp2_with (first
     | (refine wpList_load_row rfl 28 (.tmp 1) rfl w.heap.size rfl 28 _ (0,0) _ Z0.out Tryz.underlying28 rfl (by kernel_rfl) ?_)
     | fail)
   refine (HC.out _).mono ?_
   rintro e w2 ⟨rfl,hb2⟩
   have HB2:=Lib.hid (((Below.refl w.heap.size w).alloc (Nat.le_refl _) _).trans (hb2.mono (by simp)))
   clear hb2
   go_wp2
   go_ret
   exact ⟨rfl,HB2.out⟩
theorem fields_yes (t:Tr) (p:Option Addr) (cap:Nat) (hfl:t.fieldsOk) (hlen:t.subs.length * 96 ≤ 140737488351232) (w:World) :
   Calls Tryz.prog 104 #[.agg (t.cells (.slice p t.subs.length cap))] w fun e w'=>e=.returned (.bool true)∧Below w.heap.size w w':=by
 have he:=eq4
 cases t with | node k a b c d us n lo hi br =>
 unfold Tr.fieldsOk at hfl
 simp only [Tr.cells,Tr.kind,Tr.w0,Tr.w1,Tr.w2,Tr.w3,Tr.num,Tr.least,Tr.most,Tr.bare,Tr.subs] at *
 rcases hfl with ⟨h | h | h,rfl,rfl,rfl,rfl,hl,rfl,rfl,rfl,rfl⟩ | ⟨h,hl,rfl,rfl,rfl,rfl⟩ | ⟨h | h,rfl,rfl,rfl,rfl,hl,rfl,rfl,rfl,rfl⟩ | ⟨h,rfl,rfl,rfl,rfl,hl,hn1,hn2,rfl,rfl,rfl⟩ | ⟨h,rfl,rfl,rfl,rfl,hl,rfl,h1,h2,h3,h4⟩
 · subst h hl
   go_enter Tryz.func104,Tryz.ntmps104
   go_wp2
   go_ret
   exact ⟨rfl,by go_grown⟩
 · subst h hl
   go_enter Tryz.func104,Tryz.ntmps104
   go_wp2
   go_ret
   exact ⟨rfl,by go_grown⟩
 · subst h hl
   go_enter Tryz.func104,Tryz.ntmps104
   go_wp2
   go_ret
   exact ⟨rfl,by go_grown⟩
 · subst h hl
   go_enter Tryz.func104,Tryz.ntmps104
   go_wp2
   go_ret
   exact ⟨rfl,by go_grown⟩
 · subst h
   go_enter Tryz.func104,Tryz.ntmps104
   go_wp2
   go_ret
   exact ⟨ret_bool (by simp;omega),by go_grown⟩
 · subst h
   go_enter Tryz.func104,Tryz.ntmps104
   go_wp2
   go_ret
   exact ⟨ret_bool (by simp;omega),by go_grown⟩
 · subst h
   rw [hl]
   have e1:decide (1 ≤ n)=true:=by simpa using hn1
   have e2:decide (n ≤ 999)=true:=by simpa using hn2
   clear hl
   go_enter Tryz.func104,Tryz.ntmps104
   go_wp2
   go_ret
   exact ⟨rfl,by go_grown⟩
 · subst h
   rw [hl]
   have hu:Oc.U 0#64=0:=by decide
   simp only [hu]
   exact fields_rep lo hi br p cap h1 h2 h3 h4 w
theorem inform_yes:∀ t:Tr,t.InForm→∀ (w:World) (B:Nat→Prop) (v:Value),NodeV w B v t→Calls Tryz.prog 70 #[v] w fun e w'=>e=.returned (.bool true)∧Below w.heap.size w w':=by
 intro t
 induction t using Tr.rec_subs with
 | h t ih =>
   intro hf w B v hv
   obtain ⟨s,rfl,hs⟩:=hv
   obtain ⟨p,cap,rfl,hlen⟩:=hs.slice
   have HFL:=Lib.hid (fun w=>fields_yes t p cap hf.fields hlen w)
   have z0:=heap_alloc_new w (.cells (t.cells (.slice p t.subs.length cap)) 28)
   have Z0:=Lib.hid z0
   have HF:=Lib.hid hf
   generalize hts:t.subs=ts at *
   have HTS:=Lib.hid hts;have IH:=Lib.hid ih;have HS:=Lib.hid hs
   clear ih hs hf hts z0
   unfold Tr.cells at *
   go_enter Tryz.func70,Tryz.ntmps70
   go_wp2_with (first
     | (refine wpList_load_row rfl 28 (.tmp 1) rfl w.heap.size rfl 28 _ (0,0) _ Z0.out Tryz.underlying28 rfl (by kernel_rfl) ?_)
     | fail)
   refine (HFL.out _).mono ?_
   rintro e w1 ⟨rfl,hb1⟩
   have z1:=keep_blk hb1 Z0.out
   have HB1:=Lib.hid (((Below.refl w.heap.size w).alloc (Nat.le_refl _) _).trans (hb1.mono (by simp)))
   have f5:=field5 z1
   clear hb1 Z0 z1
   go_wp2
   clear f5
   go_loopw [11] (fun iv wr=>∃ m:Nat,iv=.int .i64 m∧m ≤ ts.length∧Hid (Below w.heap.size w wr)) (fun iv _=>ts.length - (intOf iv).toNat)
   case atStart=>exact ⟨0,rfl,Nat.zero_le _,HB1⟩
   case round =>
     obtain ⟨m,rfl,hm,HB⟩:=hrel
     have wm:IntKind.i64.wrap ((m:Int)+1)=(m:Int)+1:=IntWalk.i64_in _ (by omega)
     by_cases hlt:m < ts.length
     · obtain ⟨x,hx⟩:∃ x,ts[m]? = some x:=⟨_,List.getElem?_eq_getElem hlt⟩
       obtain ⟨b1,o1,s1,rfl,-,t1,sub1⟩:=HS.out.get hx
       obtain ⟨d0,d1,d2,d3,d4,d5,d6,d7,d8,d9⟩:=t1.keep (HB.out.block _ t1.lt)
       have hmem:=List.mem_of_getElem? hx
       obtain ⟨p1,c1,rfl,hl1⟩:=sub1.slice
       have HC:=Lib.hid (fun w9 hb=>IH.out x hmem (HF.out.sub (by rw [HTS.out];exact hmem)) w9 B (.agg (x.cells (.slice p1 x.subs.length c1))) ⟨_,rfl,sub1.later hb⟩)
       clear t1 sub1 hmem hx
       unfold Tr.cells at HC
       go_wp2_with fail
       generalize hw1:World.alloc wr _=w1
       have hb1:Below wr.heap.size wr w1:=by rw [← hw1];exact (Below.refl _ _).alloc (Nat.le_refl _) _
       clear hw1
       refine (HC.out w1 (HB.out.trans (hb1.mono HB.out.size))).mono ?_
       rintro e w2 ⟨rfl,hb2⟩
       have HB2:=Lib.hid (HB.out.trans ((hb1.trans (hb2.mono hb1.size)).mono HB.out.size))
       clear d0 d1 d2 d3 d4 d5 d6 d7 d8 d9 hb1 hb2 HC
       go_wp2
       exact ⟨⟨m+1,by go_num,by omega,HB2⟩,by simp [intOf];omega⟩
     · obtain rfl:m=ts.length:=by omega
       go_wp2
       go_ret
       exact ⟨rfl,HB.out⟩
end Go.Proofs.YtnfdknhhkdphhaaGreatDoor
namespace Go.Proofs.YtnfdknhhkdphhaaGreatDoor
namespace Tr
mutual
def dpT:Tr→Nat
 | .node k _ _ _ _ s _ lo hi _=>if s.length=0 then 1 else dpS s+(if k=8∧¬ (lo=0∧(hi=1 ∨ hi = -1)) then 2 else 1)
def dpS:List Tr→Nat
 | []=>0
 | t :: l=>max (dpT t) (dpS l)
end
theorem dpS_append:∀ (l m:List Tr),dpS (l ++ m)=max (dpS l) (dpS m)
 | [],m=>by simp [dpS]
 | t :: l,m=>by rw [List.cons_append,dpS,dpS,dpS_append l m];omega
theorem dpS_take (l:List Tr) (m:Nat) (x:Tr) (h:l[m]? = some x):dpS (l.take (m+1))=max (dpS (l.take m)) (dpT x):=by
 rw [List.take_add_one,h,Option.toList_some,dpS_append,dpS,dpS];omega
theorem dpT_le_dpS {l:List Tr} {x:Tr} (h:x ∈ l):dpT x ≤ dpS l:=by
 induction l with
 | nil=>cases h
 | cons a l ih =>
   rw [dpS]
   rcases List.mem_cons.1 h with rfl | h
   · omega
   · have:=ih h;omega
end Tr
end Go.Proofs.YtnfdknhhkdphhaaGreatDoor
namespace Go.Proofs.YtnfdknhhkdphhaaGreatDoor
open Go.RowKit
theorem allTen {w:World} {b:Nat} {x0 x1 x2 x3 x4 x5 x6 x7 x8 x9:Value} {t:TypeId} (h:w.heap[b]? = some (.cells #[x0,x1,x2,x3,x4,x5,x6,x7,x8,x9] t)):w.cell? ⟨b,0,none⟩=some x0∧w.cell? ⟨b,1,none⟩=some x1∧w.cell? ⟨b,2,none⟩=some x2∧w.cell? ⟨b,3,none⟩=some x3∧w.cell? ⟨b,4,none⟩=some x4∧w.cell? ⟨b,5,none⟩=some x5∧w.cell? ⟨b,6,none⟩=some x6∧w.cell? ⟨b,7,none⟩=some x7∧w.cell? ⟨b,8,none⟩=some x8∧w.cell? ⟨b,9,none⟩=some x9:=by
 simp [World.cell?,h]
theorem Tr.dpT_eq (t:Tr):t.dpT=if t.subs.length=0 then 1 else Tr.dpS t.subs+(if t.kind=8∧¬ (t.least=0∧(t.most=1 ∨ t.most = -1)) then 2 else 1):=by
 cases t;rw [Tr.dpT];rfl
theorem treedepth_any:∀ t:Tr,t.dpT ≤ 1000000→∀ (w:World) (B:Nat→Prop) (v:Value),NodeV w B v t→Calls Tryz.prog 71 #[v] w (SizeEnd t.dpT w):=by
 intro t
 induction t using Tr.rec_subs with
 | h t ih =>
   intro hd w B v hv
   obtain ⟨s,rfl,hs⟩:=hv
   obtain ⟨p,cap,rfl,hlen⟩:=hs.slice
   have heq:=Tr.dpT_eq t
   rw [heq] at hd ⊢
   have HST:=Lib.hid (fun w'=>stays_is t (.slice p t.subs.length cap) ⟨_,_,_,rfl⟩ _ rfl w')
   clear heq
   generalize hts:t.subs=ts at *
   have HTS:=Lib.hid hts;have IH:=Lib.hid ih;have HS:=Lib.hid hs
   clear ih hs hts
   unfold Tr.cells at *
   by_cases h0:ts.length=0
   · rw [if_pos h0]
     rw [h0]
     clear hd hlen HST HTS IH HS
     go_enter Tryz.func71,Tryz.ntmps71
     go_wp2
     go_ret
     exact ⟨rfl,by go_grown⟩
   · rw [if_neg h0] at hd ⊢
     generalize hD:Tr.dpS ts+(if t.kind=8∧¬ (t.least=0∧(t.most=1 ∨ t.most = -1)) then 2 else 1)=D at hd ⊢
     have HD:=Lib.hid (show D ≤ 1000000∧Tr.dpS ts+1 ≤ D∧D ≤ Tr.dpS ts+2 from ⟨hd,by rw [← hD];split <;> omega,by rw [← hD];split <;> omega⟩)
     have HDE:=Lib.hid hD
     have e0:((ts.length:Int) == 0)=false:=by simpa using h0
     have e0':(ts.length == 0)=false:=by simpa using h0
     have Z0:=Lib.hid (heap_alloc_new w (.cells #[.int .i64 t.kind,.int .u64 (Oc.U t.w0),.int .u64 (Oc.U t.w1),.int .u64 (Oc.U t.w2),.int .u64 (Oc.U t.w3),.slice p ts.length cap,.int .i64 t.num,.int .i64 t.least,.int .i64 t.most,.bool t.bare] 28))
     have HW:=Lib.hid (show Below w.heap.size w (w.alloc (.cells #[.int .i64 t.kind,.int .u64 (Oc.U t.w0),.int .u64 (Oc.U t.w1),.int .u64 (Oc.U t.w2),.int .u64 (Oc.U t.w3),.slice p ts.length cap,.int .i64 t.num,.int .i64 t.least,.int .i64 t.most,.bool t.bare] 28)) from (Below.refl _ _).alloc (Nat.le_refl _) _)
     have hz:w.heap.size < (w.alloc (.cells #[.int .i64 t.kind,.int .u64 (Oc.U t.w0),.int .u64 (Oc.U t.w1),.int .u64 (Oc.U t.w2),.int .u64 (Oc.U t.w3),.slice p ts.length cap,.int .i64 t.num,.int .i64 t.least,.int .i64 t.most,.bool t.bare] 28)).heap.size:=by simp
     clear hd h0 hD
     go_enter Tryz.func71,Tryz.ntmps71
     go_wp2
     generalize w.alloc (.cells #[.int .i64 t.kind,.int .u64 (Oc.U t.w0),.int .u64 (Oc.U t.w1),.int .u64 (Oc.U t.w2),.int .u64 (Oc.U t.w3),.slice p ts.length cap,.int .i64 t.num,.int .i64 t.least,.int .i64 t.most,.bool t.bare] 28)=W0 at *
     go_loopw [3,13] (fun gv iv wr=>∃ m:Nat,iv=.int .i64 m∧m ≤ ts.length∧gv=.int .i64 (Tr.dpS (ts.take m):Nat)∧Hid (Below W0.heap.size W0 wr)) (fun _ iv _=>ts.length - (intOf iv).toNat)
     case atStart=>exact ⟨0,rfl,Nat.zero_le _,rfl,Lib.hid (Below.refl _ _)⟩
     case round =>
       obtain ⟨m,rfl,hm,rfl,HB⟩:=hrel
       have wm:IntKind.i64.wrap ((m:Int)+1)=(m:Int)+1:=IntWalk.i64_in _ (by omega)
       have HBW:=Lib.hid (HW.out.trans (HB.out.mono HW.out.size))
       by_cases hlt:m < ts.length
       · obtain ⟨x,hx⟩:∃ x,ts[m]? = some x:=⟨_,List.getElem?_eq_getElem hlt⟩
         obtain ⟨b1,o1,s1,rfl,-,t1,sub1⟩:=HS.out.get hx
         obtain ⟨d0,d1,d2,d3,d4,d5,d6,d7,d8,d9⟩:=t1.keep (HBW.out.block _ t1.lt)
         have hmem:=List.mem_of_getElem? hx
         obtain ⟨p1,c1,rfl,hl1⟩:=sub1.slice
         have hdx:x.dpT ≤ 1000000:=by have:=Tr.dpT_le_dpS hmem;have:=HD.out;omega
         have HC:=Lib.hid (fun w9 hb=>IH.out x hmem hdx w9 B (.agg (x.cells (.slice p1 x.subs.length c1))) ⟨_,rfl,sub1.later hb⟩)
         have HSTP:=Lib.hid (Tr.dpS_take ts m x hx)
         clear t1 sub1 hmem hx hdx
         generalize hn:Tr.dpS (ts.take m)=n at *
         clear hn
         unfold Tr.cells at HC
         go_wp2_with fail
         generalize hw1:World.alloc wr _=w1
         have hb1:Below wr.heap.size wr w1:=by rw [← hw1];exact (Below.refl _ _).alloc (Nat.le_refl _) _
         clear hw1
         refine (HC.out w1 (HBW.out.trans (hb1.mono HBW.out.size))).mono ?_
         rintro e w2 ⟨rfl,hb2⟩
         have HB2:=Lib.hid (HB.out.trans ((hb1.trans (hb2.mono hb1.size)).mono HB.out.size))
         clear d0 d1 d2 d3 d4 d5 d6 d7 d8 d9 hb1 hb2 HC
         generalize x.dpT=N at *
         go_wp2
         all_goals
           exact ⟨⟨m+1,by go_num,by omega,by rw [HSTP.out];simp;try omega,HB2⟩,by simp [intOf];omega⟩
       · obtain rfl:m=ts.length:=by omega
         rw [List.take_length] at *
         have Z1:=Lib.hid (keep_blk (HB.out.mono (Nat.le_refl _)) Z0.out)
         have hdp:=HD.out
         have w2':IntKind.i64.wrap ((Tr.dpS ts:Int)+2)=(Tr.dpS ts:Int)+2:=IntWalk.i64_in _ (by omega)
         have w1':IntKind.i64.wrap ((Tr.dpS ts:Int)+1)=(Tr.dpS ts:Int)+1:=IntWalk.i64_in _ (by omega)
         have hde:=HDE.out
         clear hdp
         obtain ⟨d0,d1,d2,d3,d4,d5,d6,d7,d8,d9⟩:=allTen Z1.out
         by_cases h8:t.kind=8
         · rw [h8] at HST Z1 HDE d0 hde
           by_cases hst:t.least=0∧(t.most=1 ∨ t.most = -1)
           · have hst':decide (t.least=0∧(t.most=1 ∨ t.most = -1))=true:=by simpa using hst
             rw [hst'] at HST
             rw [if_neg (by intro h;exact h.2 hst)] at hde
             have HDF:=Lib.hid hde
             clear hst hst' hde
             go_wp2_with fail
             refine (HST.out _).mono ?_
             rintro e w5 ⟨rfl,hb5⟩
             have HB5:=Lib.hid (HBW.out.trans (hb5.mono HBW.out.size))
             clear hb5
             go_wp2
             go_ret
             exact ⟨ret_int (by have:=HDF.out;omega),HB5.out⟩
           · have hst':decide (t.least=0∧(t.most=1 ∨ t.most = -1))=false:=by simpa using hst
             rw [hst'] at HST
             rw [if_pos ⟨rfl,hst⟩] at hde
             have HDF:=Lib.hid hde
             clear hst hst' hde
             go_wp2_with fail
             refine (HST.out _).mono ?_
             rintro e w5 ⟨rfl,hb5⟩
             have HB5:=Lib.hid (HBW.out.trans (hb5.mono HBW.out.size))
             clear hb5
             go_wp2
             go_ret
             exact ⟨ret_int (by have:=HDF.out;omega),HB5.out⟩
         · rw [if_neg (by intro h;exact h8 h.1)] at hde
           have e8:(t.kind == 8)=false:=by simpa using h8
           have HDF:=Lib.hid hde
           clear h8 hde
           go_wp2
           go_ret
           exact ⟨ret_int (by have:=HDF.out;omega),HBW.out⟩
theorem check_any (t:Tr) (hf:t.InForm) (hd:t.dpT ≤ 200) (hz:t.szT ≤ 2000) (w:World) (B:Nat→Prop) (v:Value) (hv:NodeV w B v t):Calls Tryz.prog 34 #[v] w fun e w'=>e=.returned .nilIface∧Below w.heap.size w w':=by
 obtain ⟨s,rfl,hs⟩:=hv
 have H1:=Lib.hid (fun w' hb=>inform_yes t hf w' B (.agg (t.cells s)) ⟨s,rfl,TreesAt.later (w':=w') hs hb⟩)
 have H2:=Lib.hid (fun w' hb=>treedepth_any t (by omega) w' B (.agg (t.cells s)) ⟨s,rfl,TreesAt.later (w':=w') hs hb⟩)
 have H3:=Lib.hid (fun w' hb=>treesize_any t hf w' B (.agg (t.cells s)) ⟨s,rfl,TreesAt.later (w':=w') hs hb⟩)
 obtain ⟨p,cap,rfl,hlen⟩:=hs.slice
 have z0:=heap_alloc_new w (.cells (t.cells (.slice p t.subs.length cap)) 28)
 have Z0:=Lib.hid z0
 have e1:decide ((200:Int) < t.dpT)=false:=by simp;omega
 have e2:decide ((2000:Int) < t.szT)=false:=by simp;omega
 have e1':decide (200 < t.dpT)=false:=by simp;omega
 have e2':decide (2000 < t.szT)=false:=by simp;omega
 clear hs hf z0 hd hz
 unfold Tr.cells at *
 go_enter Tryz.func34,Tryz.ntmps34
 go_wp2_with (first
   | (refine wpList_load_row rfl 28 (.tmp 1) rfl w.heap.size rfl 28 _ (0,0) _ Z0.out Tryz.underlying28 rfl (by kernel_rfl) ?_)
   | fail)
 refine (H1.out _ ((Below.refl _ _).alloc (Nat.le_refl _) _)).mono ?_
 rintro e w1 ⟨rfl,hb1⟩
 have Z1:=Lib.hid (keep_blk hb1 Z0.out)
 have HB1:=Lib.hid (((Below.refl w.heap.size w).alloc (Nat.le_refl _) _).trans (hb1.mono (by simp)))
 clear hb1 Z0
 go_wp2_with (first
   | (refine wpList_load_row rfl 28 (.tmp 1) rfl w.heap.size rfl 28 _ (0,0) _ Z1.out Tryz.underlying28 rfl (by kernel_rfl) ?_)
   | fail)
 refine (H2.out _ HB1.out).mono ?_
 rintro e w2 ⟨rfl,hb2⟩
 have Z2:=Lib.hid (keep_blk hb2 Z1.out)
 have HB2:=Lib.hid (HB1.out.trans (hb2.mono HB1.out.size))
 clear hb2 Z1
 go_wp2_with (first
   | (refine wpList_load_row rfl 28 (.tmp 1) rfl w.heap.size rfl 28 _ (0,0) _ Z2.out Tryz.underlying28 rfl (by kernel_rfl) ?_)
   | fail)
 refine (H3.out _ HB2.out).mono ?_
 rintro e w3 ⟨rfl,hb3⟩
 have HB3:=Lib.hid (HB2.out.trans (hb3.mono HB2.out.size))
 clear hb3
 go_wp2
 go_ret
 exact ⟨rfl,HB3.out⟩
end Go.Proofs.YtnfdknhhkdphhaaGreatDoor
namespace Go.Proofs.YtnfdknhhkdphhaaGreatDoor
namespace Br
def Txt (f:Nat→Nat) (n:Nat):Prop:=(∀ i,i < n→f i < 256)∧∀ i,n ≤ i→f i=256
end Br
end Go.Proofs.YtnfdknhhkdphhaaGreatDoor
namespace Go.Proofs.YtnfdknhhkdphhaaGreatDoor
open Go.RowKit
def pw (n:Nat):Int:=((2 ^ n:Nat):Int)
theorem pw_succ (n:Nat) (h:n < 63):IntKind.u64.wrap (pw n * 2)=pw (n+1):=by
 rw [IntKind.wrap_u64];unfold pw
 have:2 ^ (n+1) ≤ 2 ^ 63:=Nat.pow_le_pow_right (by omega) (by omega)
 rw [Nat.pow_succ] at *
 omega
theorem power_any (n:Nat) (hn:n < 64) (w:World) :
   Calls Tryz.prog 151 #[.int .i64 n] w fun e w'=>e=.returned (.int .u64 (pw n))∧w=w':=by
 go_enter Tryz.func151,Tryz.ntmps151
 go_wp2
 go_loop [3,4] (fun p i=>∃ k:Nat,k ≤ n∧i=.int .i64 k∧p=.int .u64 (pw k)) (fun _ i=>n - (intOf i).toNat)
 case atStart=>exact ⟨0,Nat.zero_le _,rfl,rfl⟩
 case round =>
   obtain ⟨k,hk,rfl,rfl⟩:=hrel
   by_cases hlt:k < n
   · have hs:=pw_succ k (by omega)
     go_wp2
     go_round
     case rel=>exact ⟨k+1,by omega,by go_num,rfl⟩
     case measure=>simp [intOf];omega
   · obtain rfl:k=n:=by omega
     go_wp2
     go_ret
     exact ⟨rfl,rfl⟩
theorem power_mod (k:Nat) (w:World) :
   Calls Tryz.prog 151 #[.int .i64 ((k:Int) % 64)] w fun e w'=>e=.returned (.int .u64 (pw (k % 64)))∧w=w':=by
 rw [show ((k:Int) % 64)=((k % 64:Nat):Int) by omega];exact power_any (k % 64) (by omega) w
theorem pw_pos (n:Nat):1 ≤ pw n:=by have:=Nat.two_pow_pos n;unfold pw;omega
theorem bit_of (x:BitVec 64) (n:Nat):(Oc.U x / pw n % 2 == 1)=x.getLsbD n:=by
 have e:Oc.U x / pw n % 2=((x.toNat / 2 ^ n % 2:Nat):Int):=by
   show (x.toNat:Int) / ((2 ^ n:Nat):Int) % 2=_
   omega
 rw [e,show x.getLsbD n=x.toNat.testBit n from rfl,Nat.testBit_eq_decide_div_mod_eq]
 generalize x.toNat / 2 ^ n % 2=m
 rw [Bool.eq_iff_iff,beq_iff_eq,decide_eq_true_iff];omega
theorem quo_eq (x:BitVec 64) (n:Nat):IntKind.u64.wrap ((Oc.U x).tdiv (pw n))=Oc.U x / pw n:=by
 have h0:=Oc.U_nonneg x;have h1:=Oc.U_lt x;have h2:=pw_pos n
 rw [Int.tdiv_eq_ediv_of_nonneg h0,IntKind.wrap_u64]
 have h3:0 ≤ Oc.U x / pw n:=Int.ediv_nonneg h0 (by omega)
 have h4:Oc.U x / pw n ≤ Oc.U x:=Int.ediv_le_self _ h0
 omega
theorem rem_eq (x:BitVec 64) (n:Nat):(Oc.U x / pw n).tmod 2=Oc.U x / pw n % 2 :=
 Int.tmod_eq_emod_of_nonneg (Int.ediv_nonneg (Oc.U_nonneg x) (by have:=pw_pos n;omega))
theorem pw_ne (n:Nat):¬ pw n=0:=by have:=pw_pos n;omega
def bools (f:Nat→Bool):Array Value:=Array.ofFn (n:=256) fun i=>.bool (f i.val)
theorem bools_get (f:Nat→Bool) (k:Nat) (h:k < 256):(bools f)[k]? = some (.bool (f k)):=by
 unfold bools;rw [Array.getElem?_eq_getElem (by simpa using h)];simp
theorem bools_set {f g:Nat→Bool} {k:Nat} {v:Bool} (h:k < 256) (hk:g k=v) (ho:∀ j,j ≠ k→g j=f j):(bools f).setIfInBounds k (.bool v)=bools g:=by
 apply Array.ext
 · simp [bools]
 · intro i h1 h2
   by_cases e:i=k
   · subst e;simp [bools,hk]
   · have:=ho i e
     rw [Array.getElem_setIfInBounds_ne (by simpa using h1) (Ne.symm e)]
     simp [bools,this]
theorem bools_congr {f g:Nat→Bool} (h:∀ i,i < 256→f i=g i):bools f=bools g:=by
 unfold bools;congr 1;funext i;rw [h i.val i.isLt]
theorem one_cell {w:World} {b k:Nat} {f:Nat→Bool} {t:TypeId} (hk:k < 256) (h:w.heap[b]? = some (.cells (bools f) t)) :
   w.cell? ⟨b,k,none⟩=some (.bool (f k))∧w.frozen? ⟨b,k,none⟩=false:=by
 constructor
 · unfold World.cell?;rw [h];exact bools_get f k hk
 · unfold World.frozen?;rw [h];simp
theorem one_set {w:World} {b k:Nat} {f g:Nat→Bool} {v:Bool} {t:TypeId} (hk:k < 256) (h:w.heap[b]? = some (.cells (bools f) t)) (hv:g k=v) (ho:∀ j,j ≠ k→g j=f j) :
   (w.setCell ⟨b,k,none⟩ (.bool v)).heap[b]? = some (.cells (bools g) t):=by
 simp [World.setCell,Array.getElem?_modify,h,bools_set hk hv ho]
theorem bools_size (f:Nat→Bool):(bools f).size=256:=by simp [bools]
theorem bools_one (f:Nat→Bool):(bools f).all (·.oneCell')=true:=by
 rw [Array.all_eq_true_iff_forall_mem];intro v hv
 simp only [bools,Array.mem_ofFn] at hv
 obtain ⟨i,rfl⟩:=hv;rfl
theorem bits_rel {w wr:World} {a b c d:BitVec 64} {k:Nat} {v:Bool} {x y:Obj} (hlt:k < 256) (hbel:Below w.heap.size w wr) (hsz:w.heap.size+1+1 < wr.heap.size) (h0:wr.heap[w.heap.size]? = some x) (h1:wr.heap[w.heap.size+1]? = some y)
   (h2:wr.heap[w.heap.size+1+1]? = some (.cells (bools fun j=>decide (j < k) && Oc.mem a b c d j) 159)) (hv:v=Oc.mem a b c d k) :
   Below w.heap.size w (wr.setCell ⟨w.heap.size+1+1,k,none⟩ (.bool v)).drew∧w.heap.size+1+1 < (wr.setCell ⟨w.heap.size+1+1,k,none⟩ (.bool v)).drew.heap.size ∧
   (wr.setCell ⟨w.heap.size+1+1,k,none⟩ (.bool v)).drew.heap[w.heap.size]? = some x∧(wr.setCell ⟨w.heap.size+1+1,k,none⟩ (.bool v)).drew.heap[w.heap.size+1]? = some y ∧
   (wr.setCell ⟨w.heap.size+1+1,k,none⟩ (.bool v)).drew.heap[w.heap.size+1+1]? = some (.cells (bools fun j=>decide (j < k+1) && Oc.mem a b c d j) 159):=by
 refine ⟨by go_grown, ?_, ?_, ?_, ?_⟩
 · show w.heap.size+1+1 < (wr.setCell _ _).heap.size;simpa using hsz
 · show (wr.setCell _ _).heap[w.heap.size]? = _;rw [Below.heap_setCell _ _ _ _ (by simp;omega)];exact h0
 · show (wr.setCell _ _).heap[w.heap.size+1]? = _;rw [Below.heap_setCell _ _ _ _ (by simp)];exact h1
 · show (wr.setCell _ _).heap[w.heap.size+1+1]? = _
   refine one_set hlt h2 (by simp [hv]) fun j hj=>?_
   have:decide (j < k+1)=decide (j < k):=by simp;omega
   simp only [this]
theorem bits_any (a b c d:BitVec 64) (w:World) :
   Calls Tryz.prog 122 #[(.agg #[.int .u64 (Oc.U a),.int .u64 (Oc.U b),.int .u64 (Oc.U c),.int .u64 (Oc.U d)])] w fun e w'=>e=.returned (.agg (bools (Oc.mem a b c d)))∧Below w.heap.size w w':=by
 have ha:=Oc.U_nonneg a;have hb:=Oc.U_nonneg b;have hc:=Oc.U_nonneg c;have hd:=Oc.U_nonneg d
 have hz:∀ w,(zeroValue 159).run Tryz.prog w=.ok (.agg (bools fun _=>false)) w:=fun _=>by kernel_rfl
 go_enter Tryz.func122,Tryz.ntmps122
 go_wp2
 go_loopw [4] (fun i wr=>∃ k:Nat,k ≤ 256∧i=.int .i64 k∧Below w.heap.size w wr∧w.heap.size+1+1 < wr.heap.size∧wr.heap[w.heap.size]? = some (.cells #[.int .u64 (Oc.U a),.int .u64 (Oc.U b),.int .u64 (Oc.U c),.int .u64 (Oc.U d)] 25)∧wr.heap[w.heap.size+1]? = some (.cells (bools fun _=>false) 159)∧wr.heap[w.heap.size+1+1]? = some (.cells (bools fun j=>decide (j < k) && Oc.mem a b c d j) 159)) (fun i _=>256 - (intOf i).toNat)
 case atStart =>
   exact ⟨0,Nat.zero_le _,rfl,by go_grown,by simp,(three_new _ _ _ _).1,(three_new _ _ _ _).2.1,(three_new _ _ _ _).2.2.trans (by simp)⟩
 case round =>
   obtain ⟨k,hk,rfl,hbel,hsz,hz0,hz1,hz2⟩:=hrel
   by_cases hlt:k < 256
   · obtain ⟨c0,c1,c2,c3,-⟩:=four hz0
     obtain ⟨v0,l0,l1⟩:∃ v,wr.cell? ⟨w.heap.size+1+1,k,none⟩=some v∧wr.frozen? ⟨w.heap.size+1+1,k,none⟩=false:=⟨_,one_cell hlt hz2⟩
     have HZ0:=Lib.hid hz0
     have HZ1:=Lib.hid hz1
     have HZ2:=Lib.hid hz2
     clear hz0 hz1 hz2
     have hq:k / 64=0 ∨ k / 64=1 ∨ k / 64=2 ∨ k / 64=3:=by omega
     have hp:=pw_ne (k % 64)
     have t2:(k:Int).tmod 64=(k:Int) % 64:=Int.tmod_eq_emod_of_nonneg (by omega)
     have d0:=Int.tdiv_eq_ediv_of_nonneg (a:=(k:Int)) (b:=64) (by omega)
     have e1:=quo_eq (Oc.w4 a b c d (k / 64)) (k % 64)
     have e2:=rem_eq (Oc.w4 a b c d (k / 64)) (k % 64)
     have e3:=bit_of (Oc.w4 a b c d (k / 64)) (k % 64)
     have hm:Oc.mem a b c d k=(Oc.w4 a b c d (k / 64)).getLsbD (k % 64):=rfl
     have HM:=Lib.hid hm
     clear hm
     rcases hq with hq | hq | hq | hq
     · have t1:(k:Int).tdiv 64=0:=by rw [d0];omega
       have t3:IntKind.i64.wrap 0=0:=by decide
       rw [hq] at e1 e2 e3 HM
       change IntKind.u64.wrap ((Oc.U a).tdiv (pw (k % 64)))=_ at e1
       change (Oc.U a / pw (k % 64)).tmod 2=_ at e2
       change (Oc.U a / pw (k % 64) % 2 == 1)=_ at e3
       clear d0
       go_wp2_with fail
       refine wp_region_still_tail 12 (by kernel_rfl) (by kernel_rfl) ?_
       simp only [List.take_succ_cons,List.take_zero,List.drop_succ_cons,List.drop_zero]
       change wpStill _ _ wr.drew (fun a'=>wpList _ _ _ _ a' wr.drew) _ _
       iterate 7 still_step
       still_call (power_mod _ _).mono (by rintro e w' ⟨rfl,rfl⟩;exact ⟨rfl,rfl⟩)
       iterate 4 still_step
       refine wpStill_nil ?_
       go_wp2
       refine ⟨⟨k+1,by omega,by go_num,bits_rel hlt hbel hsz HZ0.out HZ1.out HZ2.out ?_⟩,by simp [intOf];omega⟩
       rw [HM.out]
       first
         | exact (congrArg (fun z=>z == 1) (rem_eq _ _)).trans e3
         | simp only [e3]
     · have t1:(k:Int).tdiv 64=1:=by rw [d0];omega
       have t3:IntKind.i64.wrap 1=1:=by decide
       rw [hq] at e1 e2 e3 HM
       change IntKind.u64.wrap ((Oc.U b).tdiv (pw (k % 64)))=_ at e1
       change (Oc.U b / pw (k % 64)).tmod 2=_ at e2
       change (Oc.U b / pw (k % 64) % 2 == 1)=_ at e3
       clear d0
       go_wp2_with fail
       refine wp_region_still_tail 12 (by kernel_rfl) (by kernel_rfl) ?_
       simp only [List.take_succ_cons,List.take_zero,List.drop_succ_cons,List.drop_zero]
       change wpStill _ _ wr.drew (fun a'=>wpList _ _ _ _ a' wr.drew) _ _
       iterate 7 still_step
       still_call (power_mod _ _).mono (by rintro e w' ⟨rfl,rfl⟩;exact ⟨rfl,rfl⟩)
       iterate 4 still_step
       refine wpStill_nil ?_
       go_wp2
       refine ⟨⟨k+1,by omega,by go_num,bits_rel hlt hbel hsz HZ0.out HZ1.out HZ2.out ?_⟩,by simp [intOf];omega⟩
       rw [HM.out]
       first
         | exact (congrArg (fun z=>z == 1) (rem_eq _ _)).trans e3
         | simp only [e3]
     · have t1:(k:Int).tdiv 64=2:=by rw [d0];omega
       have t3:IntKind.i64.wrap 2=2:=by decide
       rw [hq] at e1 e2 e3 HM
       change IntKind.u64.wrap ((Oc.U c).tdiv (pw (k % 64)))=_ at e1
       change (Oc.U c / pw (k % 64)).tmod 2=_ at e2
       change (Oc.U c / pw (k % 64) % 2 == 1)=_ at e3
       clear d0
       go_wp2_with fail
       refine wp_region_still_tail 12 (by kernel_rfl) (by kernel_rfl) ?_
       simp only [List.take_succ_cons,List.take_zero,List.drop_succ_cons,List.drop_zero]
       change wpStill _ _ wr.drew (fun a'=>wpList _ _ _ _ a' wr.drew) _ _
       iterate 7 still_step
       still_call (power_mod _ _).mono (by rintro e w' ⟨rfl,rfl⟩;exact ⟨rfl,rfl⟩)
       iterate 4 still_step
       refine wpStill_nil ?_
       go_wp2
       refine ⟨⟨k+1,by omega,by go_num,bits_rel hlt hbel hsz HZ0.out HZ1.out HZ2.out ?_⟩,by simp [intOf];omega⟩
       rw [HM.out]
       first
         | exact (congrArg (fun z=>z == 1) (rem_eq _ _)).trans e3
         | simp only [e3]
     · have t1:(k:Int).tdiv 64=3:=by rw [d0];omega
       have t3:IntKind.i64.wrap 3=3:=by decide
       rw [hq] at e1 e2 e3 HM
       change IntKind.u64.wrap ((Oc.U d).tdiv (pw (k % 64)))=_ at e1
       change (Oc.U d / pw (k % 64)).tmod 2=_ at e2
       change (Oc.U d / pw (k % 64) % 2 == 1)=_ at e3
       clear d0
       go_wp2_with fail
       refine wp_region_still_tail 12 (by kernel_rfl) (by kernel_rfl) ?_
       simp only [List.take_succ_cons,List.take_zero,List.drop_succ_cons,List.drop_zero]
       change wpStill _ _ wr.drew (fun a'=>wpList _ _ _ _ a' wr.drew) _ _
       iterate 7 still_step
       still_call (power_mod _ _).mono (by rintro e w' ⟨rfl,rfl⟩;exact ⟨rfl,rfl⟩)
       iterate 4 still_step
       refine wpStill_nil ?_
       go_wp2
       refine ⟨⟨k+1,by omega,by go_num,bits_rel hlt hbel hsz HZ0.out HZ1.out HZ2.out ?_⟩,by simp [intOf];omega⟩
       rw [HM.out]
       first
         | exact (congrArg (fun z=>z == 1) (rem_eq _ _)).trans e3
         | simp only [e3]
   · obtain rfl:k=256:=by omega
     have HZ1:=Lib.hid hz1
     have hz3:wr.heap[w.heap.size+1+1]? = some (.cells (bools (Oc.mem a b c d)) 159):=by
       rw [hz2,bools_congr (g:=Oc.mem a b c d) fun i hi=>by simp [hi]]
     have HZ3:=Lib.hid hz3
     clear hz0 hz1 hz2 hz3 hz
     go_wp2_with (first
       | (refine wpList_load_row rfl _ _ rfl (w.heap.size+1+1) rfl 159 (bools (Oc.mem a b c d)) (0,0) _ HZ3.out Tryz.underlying159 rfl (by rw [bools_size];kernel_rfl) ?_)
       | (refine wpList_store_row rfl _ _ _ rfl (w.heap.size+1) (bools (Oc.mem a b c d)) rfl rfl 159 (bools fun _=>false) HZ1.out (by rw [bools_size];kernel_rfl) (by rw [bools_size,bools_size]) (bools_one _) ?_))
     exact bodyPost_ret (results_cell_row rfl _ _ (w.heap.size+1) 159 (bools (Oc.mem a b c d)) (0,0) _ rfl (heap_setRow HZ1.out) Tryz.underlying159 rfl (by rw [bools_size];kernel_rfl)) rfl ⟨rfl,below_setRow hbel (by omega) _⟩
def part (p:Nat→Bool) (q n:Nat):BitVec 64:=BitVec.ofNat 64 (Oc.wn p q (min 64 (n - 64 * q)))
theorem part_zero (p:Nat→Bool) (q:Nat):part p q 0=0#64:=by unfold part;simp [Oc.wn]
theorem part_whole (p:Nat→Bool) (q:Nat) (h:q < 4):part p q 256=Oc.mk p q:=by
 unfold part Oc.mk;rw [show min 64 (256 - 64 * q)=64 by omega]
theorem part_other (p:Nat→Bool) (q n:Nat) (h:n / 64 ≠ q):part p q (n+1)=part p q n:=by
 unfold part
 rcases Nat.lt_or_gt_of_ne h with h' | h'
 · rw [show n+1 - 64 * q=0 by omega,show n - 64 * q=0 by omega]
 · rw [show min 64 (n+1 - 64 * q)=64 by omega,show min 64 (n - 64 * q)=64 by omega]
theorem part_no (p:Nat→Bool) (q n:Nat) (h:p n=false):part p q (n+1)=part p q n:=by
 by_cases e:n / 64=q
 · unfold part
   rw [show min 64 (n+1 - 64 * q)=(n - 64 * q)+1 by omega,show min 64 (n - 64 * q)=n - 64 * q by omega]
   simp only [Oc.wn]
   rw [show 64 * q+(n - 64 * q)=n by omega,h];simp
 · exact part_other p q n e
theorem part_yes (p:Nat→Bool) (q n:Nat) (h:p n=true) (e:n / 64=q):IntKind.u64.wrap (Oc.U (part p q n)+pw (n % 64))=Oc.U (part p q (n+1)):=by
 unfold part
 rw [show min 64 (n+1 - 64 * q)=n % 64+1 by omega,show min 64 (n - 64 * q)=n % 64 by omega]
 simp only [Oc.wn]
 rw [show 64 * q+n % 64=n by omega,h,if_pos rfl]
 have h1:=Oc.wn_lt p q (n % 64)
 have h2:2 ^ (n % 64+1) ≤ 2 ^ 64:=Nat.pow_le_pow_right (by omega) (by omega)
 rw [Nat.pow_succ] at h2
 unfold Oc.U pw
 rw [IntKind.wrap_u64,BitVec.toNat_ofNat,BitVec.toNat_ofNat]
 omega
theorem set_one {w:World} {b q:Nat} {x0 x1 x2 x3 v:Value} {t:TypeId} (h:w.heap[b]? = some (.cells #[x0,x1,x2,x3] t)) :
   (w.setCell ⟨b,q,none⟩ v).heap[b]? = some (.cells (#[x0,x1,x2,x3].setIfInBounds q v) t):=by
 simp [World.setCell,Array.getElem?_modify,h]
theorem made_rel {w wr:World} {p:Nat→Bool} {k q:Nat} {x y:Obj} (hq:k / 64=q) (hlt:k < 256) (hp:p k=true) (hbel:Below w.heap.size w wr) (hsz:w.heap.size+1+1 < wr.heap.size) (h0:wr.heap[w.heap.size]? = some x) (h1:wr.heap[w.heap.size+1]? = some y)
   (h2:wr.heap[w.heap.size+1+1]? = some (.cells #[.int .u64 (Oc.U (part p 0 k)),.int .u64 (Oc.U (part p 1 k)),.int .u64 (Oc.U (part p 2 k)),.int .u64 (Oc.U (part p 3 k))] 25)) :
   Below w.heap.size w (wr.setCell ⟨w.heap.size+1+1,q,none⟩ (.int .u64 (IntKind.u64.wrap (Oc.U (part p q k)+pw (k % 64))))).drew∧w.heap.size+1+1 < (wr.setCell ⟨w.heap.size+1+1,q,none⟩ (.int .u64 (IntKind.u64.wrap (Oc.U (part p q k)+pw (k % 64))))).drew.heap.size ∧
   (wr.setCell ⟨w.heap.size+1+1,q,none⟩ (.int .u64 (IntKind.u64.wrap (Oc.U (part p q k)+pw (k % 64))))).drew.heap[w.heap.size]? = some x∧(wr.setCell ⟨w.heap.size+1+1,q,none⟩ (.int .u64 (IntKind.u64.wrap (Oc.U (part p q k)+pw (k % 64))))).drew.heap[w.heap.size+1]? = some y ∧
   (wr.setCell ⟨w.heap.size+1+1,q,none⟩ (.int .u64 (IntKind.u64.wrap (Oc.U (part p q k)+pw (k % 64))))).drew.heap[w.heap.size+1+1]? = some (.cells #[.int .u64 (Oc.U (part p 0 (k+1))),.int .u64 (Oc.U (part p 1 (k+1))),.int .u64 (Oc.U (part p 2 (k+1))),.int .u64 (Oc.U (part p 3 (k+1)))] 25):=by
 rw [part_yes p q k hp hq]
 refine ⟨by go_grown, ?_, ?_, ?_, ?_⟩
 · show w.heap.size+1+1 < (wr.setCell _ _).heap.size;simpa using hsz
 · show (wr.setCell _ _).heap[w.heap.size]? = _;rw [Below.heap_setCell _ _ _ _ (by simp;omega)];exact h0
 · show (wr.setCell _ _).heap[w.heap.size+1]? = _;rw [Below.heap_setCell _ _ _ _ (by simp)];exact h1
 · show (wr.setCell _ _).heap[w.heap.size+1+1]? = _
   rw [set_one h2]
   have:q=0 ∨ q=1 ∨ q=2 ∨ q=3:=by omega
   rcases this with rfl | rfl | rfl | rfl
   · rw [part_other p 1 k (by omega),part_other p 2 k (by omega),part_other p 3 k (by omega)];rfl
   · rw [part_other p 0 k (by omega),part_other p 2 k (by omega),part_other p 3 k (by omega)];rfl
   · rw [part_other p 0 k (by omega),part_other p 1 k (by omega),part_other p 3 k (by omega)];rfl
   · rw [part_other p 0 k (by omega),part_other p 1 k (by omega),part_other p 2 k (by omega)];rfl
theorem made_any (p:Nat→Bool) (w:World) :
   Calls Tryz.prog 152 #[.agg (bools p)] w fun e w'=>e=.returned (.agg #[.int .u64 (Oc.U (Oc.mk p 0)),.int .u64 (Oc.U (Oc.mk p 1)),.int .u64 (Oc.U (Oc.mk p 2)),.int .u64 (Oc.U (Oc.mk p 3))])∧Below w.heap.size w w':=by
 go_enter Tryz.func152,Tryz.ntmps152
 go_wp2
 go_loopw [4] (fun i wr=>∃ k:Nat,k ≤ 256∧i=.int .i64 k∧Below w.heap.size w wr∧w.heap.size+1+1 < wr.heap.size∧wr.heap[w.heap.size]? = some (.cells (bools p) 159)∧wr.heap[w.heap.size+1]? = some (.cells #[.int .u64 0,.int .u64 0,.int .u64 0,.int .u64 0] 25)∧wr.heap[w.heap.size+1+1]? = some (.cells #[.int .u64 (Oc.U (part p 0 k)),.int .u64 (Oc.U (part p 1 k)),.int .u64 (Oc.U (part p 2 k)),.int .u64 (Oc.U (part p 3 k))] 25)) (fun i _=>256 - (intOf i).toNat)
 case atStart =>
   exact ⟨0,Nat.zero_le _,rfl,by go_grown,by simp,(three_new _ _ _ _).1,(three_new _ _ _ _).2.1,(three_new _ _ _ _).2.2.trans (by rw [part_zero,part_zero,part_zero,part_zero];rfl)⟩
 case round =>
   obtain ⟨k,hk,rfl,hbel,hsz,hz0,hz1,hz2⟩:=hrel
   by_cases hlt:k < 256
   · obtain ⟨c0,c1,c2,c3,f0,f1,f2,f3⟩:=four hz2
     have l0:=(one_cell hlt hz0).1
     have HZ0:=Lib.hid hz0
     have HZ1:=Lib.hid hz1
     have HZ2:=Lib.hid hz2
     clear hz0 hz1 hz2
     cases hp:p k with
     | false =>
       rw [hp] at l0
       have HP:=Lib.hid hp
       clear hp
       go_wp2
       refine ⟨⟨k+1,by omega,by go_num,hbel,hsz,HZ0.out,HZ1.out, ?_⟩,by simp [intOf];omega⟩
       rw [part_no p 0 k HP.out,part_no p 1 k HP.out,part_no p 2 k HP.out,part_no p 3 k HP.out]
       exact HZ2.out
     | true =>
       rw [hp] at l0
       have HP:=Lib.hid hp
       clear hp
       have t2:(k:Int).tmod 64=(k:Int) % 64:=Int.tmod_eq_emod_of_nonneg (by omega)
       have d0:=Int.tdiv_eq_ediv_of_nonneg (a:=(k:Int)) (b:=64) (by omega)
       have hq:k / 64=0 ∨ k / 64=1 ∨ k / 64=2 ∨ k / 64=3:=by omega
       rcases hq with hq | hq | hq | hq
       · have t1:(k:Int).tdiv 64=0:=by rw [d0];omega
         have t3:IntKind.i64.wrap 0=0:=by decide
         clear d0
         go_wp2_with fail
         refine wp_region_still_tail 11 (by kernel_rfl) (by kernel_rfl) ?_
         simp only [List.take_succ_cons,List.take_zero,List.drop_succ_cons,List.drop_zero]
         change wpStill _ _ wr.drew (fun a'=>wpList _ _ _ _ a' wr.drew) _ _
         iterate 8 still_step
         still_call (power_mod _ _).mono (by rintro e w' ⟨rfl,rfl⟩;exact ⟨rfl,rfl⟩)
         iterate 2 still_step
         refine wpStill_nil ?_
         go_wp2
         exact ⟨⟨k+1,by omega,by go_num,made_rel hq hlt HP.out hbel hsz HZ0.out HZ1.out HZ2.out⟩,by simp [intOf];omega⟩
       · have t1:(k:Int).tdiv 64=1:=by rw [d0];omega
         have t3:IntKind.i64.wrap 1=1:=by decide
         clear d0
         go_wp2_with fail
         refine wp_region_still_tail 11 (by kernel_rfl) (by kernel_rfl) ?_
         simp only [List.take_succ_cons,List.take_zero,List.drop_succ_cons,List.drop_zero]
         change wpStill _ _ wr.drew (fun a'=>wpList _ _ _ _ a' wr.drew) _ _
         iterate 8 still_step
         still_call (power_mod _ _).mono (by rintro e w' ⟨rfl,rfl⟩;exact ⟨rfl,rfl⟩)
         iterate 2 still_step
         refine wpStill_nil ?_
         go_wp2
         exact ⟨⟨k+1,by omega,by go_num,made_rel hq hlt HP.out hbel hsz HZ0.out HZ1.out HZ2.out⟩,by simp [intOf];omega⟩
       · have t1:(k:Int).tdiv 64=2:=by rw [d0];omega
         have t3:IntKind.i64.wrap 2=2:=by decide
         clear d0
         go_wp2_with fail
         refine wp_region_still_tail 11 (by kernel_rfl) (by kernel_rfl) ?_
         simp only [List.take_succ_cons,List.take_zero,List.drop_succ_cons,List.drop_zero]
         change wpStill _ _ wr.drew (fun a'=>wpList _ _ _ _ a' wr.drew) _ _
         iterate 8 still_step
         still_call (power_mod _ _).mono (by rintro e w' ⟨rfl,rfl⟩;exact ⟨rfl,rfl⟩)
         iterate 2 still_step
         refine wpStill_nil ?_
         go_wp2
         exact ⟨⟨k+1,by omega,by go_num,made_rel hq hlt HP.out hbel hsz HZ0.out HZ1.out HZ2.out⟩,by simp [intOf];omega⟩
       · have t1:(k:Int).tdiv 64=3:=by rw [d0];omega
         have t3:IntKind.i64.wrap 3=3:=by decide
         clear d0
         go_wp2_with fail
         refine wp_region_still_tail 11 (by kernel_rfl) (by kernel_rfl) ?_
         simp only [List.take_succ_cons,List.take_zero,List.drop_succ_cons,List.drop_zero]
         change wpStill _ _ wr.drew (fun a'=>wpList _ _ _ _ a' wr.drew) _ _
         iterate 8 still_step
         still_call (power_mod _ _).mono (by rintro e w' ⟨rfl,rfl⟩;exact ⟨rfl,rfl⟩)
         iterate 2 still_step
         refine wpStill_nil ?_
         go_wp2
         exact ⟨⟨k+1,by omega,by go_num,made_rel hq hlt HP.out hbel hsz HZ0.out HZ1.out HZ2.out⟩,by simp [intOf];omega⟩
   · obtain rfl:k=256:=by omega
     rw [part_whole p 0 (by omega),part_whole p 1 (by omega),part_whole p 2 (by omega),part_whole p 3 (by omega)] at hz2
     obtain ⟨c0,c1,c2,c3,-⟩:=four hz2
     obtain ⟨d0,e0,d1,e1,d2,e2,d3,e3,r0,r1,r2,r3⟩:=four_st hz1
     clear hz0 hz1 hz2
     go_wp2
     refine bodyPost_ret (v:=(.agg #[.int .u64 (Oc.U (Oc.mk p 0)),.int .u64 (Oc.U (Oc.mk p 1)),.int .u64 (Oc.U (Oc.mk p 2)),.int .u64 (Oc.U (Oc.mk p 3))])) (by simp [results,Tryz.results152,go_sem,r0,r1,r2,r3]) rfl ⟨rfl, ?_⟩
     go_grown
theorem mk_mem (a b c d:BitVec 64):Oc.mk (Oc.mem a b c d) 0=a∧Oc.mk (Oc.mem a b c d) 1=b∧Oc.mk (Oc.mem a b c d) 2=c∧Oc.mk (Oc.mem a b c d) 3=d :=
 ⟨Oc.mk_eq fun i hi=>by rw [show 64 * 0+i=i by omega];exact Oc.mem0 a b c d i hi,Oc.mk_eq fun i hi=>Oc.mem1 a b c d i hi,Oc.mk_eq fun i hi=>Oc.mem2 a b c d i hi,Oc.mk_eq fun i hi=>Oc.mem3 a b c d i hi⟩
theorem mk_same4 {p q:Nat→Bool} (h:∀ i,i < 256→p i=q i):Oc.mk p 0=Oc.mk q 0∧Oc.mk p 1=Oc.mk q 1∧Oc.mk p 2=Oc.mk q 2∧Oc.mk p 3=Oc.mk q 3 :=
 ⟨Oc.mk_eq fun i hi=>by rw [Oc.mk_bit q 0 i hi,h _ (by omega)],Oc.mk_eq fun i hi=>by rw [Oc.mk_bit q 1 i hi,h _ (by omega)],Oc.mk_eq fun i hi=>by rw [Oc.mk_bit q 2 i hi,h _ (by omega)],Oc.mk_eq fun i hi=>by rw [Oc.mk_bit q 3 i hi,h _ (by omega)]⟩
end Go.Proofs.YtnfdknhhkdphhaaGreatDoor
namespace Go.Proofs.YtnfdknhhkdphhaaGreatDoor
open Go.RowKit
namespace Oc
def nxt (p:Nat→Bool):Nat→Nat→Nat
 | 0,f=>f
 | n+1,f=>if p f then f else nxt p n (f+1)
def nx (p:Nat→Bool) (f:Nat):Nat:=nxt p (256 - f) f
theorem nxt_eq {p:Nat→Bool} : ∀ n f r,f ≤ r→r ≤ f+n→(∀ i,f ≤ i→i < r→p i=false)→(r < f+n→p r=true)→nxt p n f=r
 | 0,f,r,h0,h1,_,_=>by simp only [nxt];omega
 | n+1,f,r,h0,h1,h2,h3=>by
   simp only [nxt]
   by_cases e:f=r
   · subst e;rw [if_pos (h3 (by omega))]
   · rw [if_neg (by rw [h2 f (Nat.le_refl _) (by omega)];simp)]
     exact nxt_eq n (f+1) r (by omega) (by omega) (fun i hi hr=>h2 i (by omega) hr) (fun h=>h3 (by omega))
theorem nx_eq {p:Nat→Bool} {f r:Nat} (h0:f ≤ r) (h1:r ≤ 256) (h2:∀ i,f ≤ i→i < r→p i=false) (h3:r < 256→p r=true):nx p f=r :=
 nxt_eq _ _ _ h0 (by omega) h2 (fun h=>h3 (by omega))
theorem nxt_spec {p:Nat→Bool} : ∀ n f,f ≤ nxt p n f∧nxt p n f ≤ f+n∧(∀ i,f ≤ i→i < nxt p n f→p i=false)∧(nxt p n f < f+n→p (nxt p n f)=true)
 | 0,f=>by simp only [nxt];exact ⟨Nat.le_refl _,Nat.le_refl _,fun i h1 h2=>by omega,fun h=>by omega⟩
 | n+1,f=>by
   simp only [nxt]
   split
   · rename_i h;exact ⟨Nat.le_refl _,by omega,fun i h1 h2=>by omega,fun _=>h⟩
   · rename_i h
     obtain ⟨h0,h1,h2,h3⟩:=nxt_spec (p:=p) n (f+1)
     refine ⟨by omega,by omega,fun i a b=>?_,fun a=>h3 (by omega)⟩
     by_cases e:i=f
     · subst e;simpa using h
     · exact h2 i (by omega) b
theorem nx_spec (p:Nat→Bool) (f:Nat) (hf:f ≤ 256):f ≤ nx p f∧nx p f ≤ 256∧(∀ i,f ≤ i→i < nx p f→p i=false)∧(nx p f < 256→p (nx p f)=true):=by
 obtain ⟨h0,h1,h2,h3⟩:=nxt_spec (p:=p) (256 - f) f
 exact ⟨h0,by unfold nx;omega,h2,fun h=>h3 (by unfold nx at h;omega)⟩
def zeros (x:BitVec 64):Nat:=Lib.ctz 64 x.toNat
theorem ctz_bits (x:BitVec 64) (h:x ≠ 0#64):zeros x < 64∧x.getLsbD (zeros x)=true∧∀ i,i < zeros x→x.getLsbD i=false:=by
 unfold zeros
 have hx0:x.toNat ≠ 0:=fun e=>h (BitVec.eq_of_toNat_eq (by simpa using e))
 obtain ⟨m,hm,hlt⟩:=Lib.ctzFrom_spec 64 x.toNat (by omega) x.isLt
 have hc:Lib.ctz 64 x.toNat=Lib.ctzFrom 64 x.toNat:=by unfold Lib.ctz;rw [if_neg hx0]
 rw [hc]
 generalize Lib.ctzFrom 64 x.toNat=c at *
 refine ⟨hlt, ?_,fun i hi=>?_⟩
 · show x.toNat.testBit c=true
   rw [hm,Nat.testBit_two_pow_mul];simp
 · show x.toNat.testBit i=false
   rw [hm,Nat.testBit_two_pow_mul];simp;omega
end Oc
theorem tz_core (x:BitVec 64) (k idx:Nat) (w:World) (hx0:(Oc.U x == 0)=false)
   (key:IntKind.u64.wrap (bits BinOp.and IntKind.u64 (Oc.U x) (IntKind.u64.wrap (-(Oc.U x))) * 285870213051353865) / 288230376151711744=(idx:Int))
   (hi:idx < 64) (hk:k < 64) (hcell:w.cell? ⟨23,idx,none⟩=some (.int .u8 k)) :
   Calls Tryz.prog 170 #[.int .u64 (Oc.U x)] w fun e w'=>e=.returned (.int .i64 k)∧w=w':=by
 go_enter Tryz.func170,Tryz.ntmps170
 go_wp2_with (simp only [key])
 go_ret
 exact ⟨rfl,rfl⟩
theorem tz_any (x:BitVec 64) (hx:x ≠ 0#64) (w:World) (hT:TabAt 23 Lib.deBruijn64tab w) :
   Calls Tryz.prog 170 #[.int .u64 (Oc.U x)] w fun e w'=>e=.returned (.int .i64 (Oc.zeros x))∧w=w':=by
 have hx0:x.toNat ≠ 0:=fun e=>hx (BitVec.eq_of_toNat_eq (by simpa using e))
 obtain ⟨hlow,hk⟩:=Lib.lowest_bit 64 x.toNat hx0 x.isLt
 obtain ⟨hi,htab⟩:=Lib.deBruijn64_at _ hk
 have hcell:=hT _ hi
 rw [htab] at hcell
 exact tz_core x _ _ w (by unfold Oc.U;simp;omega) (tz64_key x.toNat _ x.isLt hx0 hlow) hi hk hcell
theorem shr_word (x:BitVec 64) (k:Nat):Oc.U x / (2:Int) ^ k=Oc.U (x >>> k):=by
 rw [← Oc.shrU];congr 1
theorem U_zero {x:BitVec 64} : (Oc.U x=0)=(x=0#64):=by
 rw [eq_iff_iff];constructor
 · intro h;exact Oc.U_inj (y:=0#64) (by rw [h];decide)
 · rintro rfl;decide
theorem next_zero {a b c d:BitVec 64} {f k:Nat} (hn:∀ i,f ≤ i→i < k→Oc.mem a b c d i=false) (hz:Oc.w4 a b c d (k / 64) >>> (k % 64)=0#64):∀ i,f ≤ i→i < 64 * (k / 64)+64→Oc.mem a b c d i=false:=by
 intro i h1 h2
 by_cases h:i < k
 · exact hn i h1 h
 · unfold Oc.mem
   rw [show i / 64=k / 64 by omega,show i % 64=k % 64+(i % 64 - k % 64) by omega,← BitVec.getLsbD_ushiftRight,hz]
   simp
theorem next_found {a b c d:BitVec 64} {f k:Nat} (hfk:f ≤ k) (hk:k < 256) (hn:∀ i,f ≤ i→i < k→Oc.mem a b c d i=false) (hz:Oc.w4 a b c d (k / 64) >>> (k % 64) ≠ 0#64) :
   (Oc.nx (Oc.mem a b c d) f)=k+Oc.zeros (Oc.w4 a b c d (k / 64) >>> (k % 64)):=by
 obtain ⟨h0,h1,h2⟩:=Oc.ctz_bits _ hz
 generalize Oc.zeros (Oc.w4 a b c d (k / 64) >>> (k % 64))=z at *
 rw [BitVec.getLsbD_ushiftRight] at h1
 have hlt:k % 64+z < 64:=BitVec.lt_of_getLsbD h1
 refine Oc.nx_eq (by omega) (by omega) (fun i a1 a2=>?_) (fun _=>?_)
 · by_cases h:i < k
   · exact hn i a1 h
   · have h3:=h2 (i - k) (by omega)
     rw [BitVec.getLsbD_ushiftRight] at h3
     unfold Oc.mem
     rw [show i / 64=k / 64 by omega,show i % 64=k % 64+(i - k) by omega];exact h3
 · unfold Oc.mem
   rw [show (k+z) / 64=k / 64 by omega,show (k+z) % 64=k % 64+z by omega];exact h1
theorem next_any (a b c d:BitVec 64) (f:Nat) (hf:f ≤ 256) (w:World) (hT:TabAt 23 Lib.deBruijn64tab w) (hg:23 < w.heap.size) :
   Calls Tryz.prog 143 #[(.agg #[.int .u64 (Oc.U a),.int .u64 (Oc.U b),.int .u64 (Oc.U c),.int .u64 (Oc.U d)]),.int .i64 f] w fun e w'=>e=.returned (.int .i64 (Oc.nx (Oc.mem a b c d) f))∧Below w.heap.size w w':=by
 have ha:=Oc.U_nonneg a;have hb:=Oc.U_nonneg b;have hc:=Oc.U_nonneg c;have hd:=Oc.U_nonneg d
 have hT1:∀ o,TabAt 23 Lib.deBruijn64tab (w.alloc o):=fun o j hj=>(((Below.refl w.heap.size w).alloc (Nat.le_refl _) o).cell (p:=⟨_,j,none⟩) hg).trans (hT j hj)
 have HT:=Lib.hid hT1
 clear hT hT1
 go_enter Tryz.func143,Tryz.ntmps143
 go_wp2
 go_loop [1] (fun i=>∃ k:Nat,f ≤ k∧k ≤ 256∧i=.int .i64 k∧Hid (∀ i,f ≤ i→i < k→Oc.mem a b c d i=false)) (fun i=>256 - (intOf i).toNat)
 case atStart=>exact ⟨f,Nat.le_refl _,hf,rfl,fun i h1 h2=>by omega⟩
 case round =>
   obtain ⟨k,hfk,hk,rfl,HN⟩:=hrel
   by_cases hlt:k < 256
   · have hq:k / 64=0 ∨ k / 64=1 ∨ k / 64=2 ∨ k / 64=3:=by omega
     rcases hq with hq | hq | hq | hq
     · have hx:Oc.w4 a b c d (k / 64)=a:=by rw [hq];rfl
       have HX:=Lib.hid hx
       clear hx
       by_cases hz:a >>> (k % 64)=0#64
       · have HZ:=Lib.hid hz
         have hs:=shr_word a (k % 64)
         rw [hz,show Oc.U 0#64=0 by decide] at hs
         clear hz
         go_wp2_with fail
         exact ⟨⟨64 * (k / 64)+64,by omega,by omega,by congr 1;omega,next_zero HN.out (by rw [HX.out];exact HZ.out)⟩,by simp [intOf];omega⟩
       · have HZ:=Lib.hid hz
         have hs:=shr_word a (k % 64)
         have hne:(Oc.U (a >>> (k % 64)) == 0)=false:=by
           rw [beq_eq_false_iff_ne];intro h;exact hz (Oc.U_inj (y:=0#64) (by rw [h];decide))
         have hlt2:=(Oc.ctz_bits _ hz).1
         have hfin:=next_found hfk hlt HN.out (show Oc.w4 a b c d (k / 64) >>> (k % 64) ≠ 0#64 by rw [HX.out];exact hz)
         rw [HX.out] at hfin
         have HF:=Lib.hid hfin
         have hne2:¬ (Oc.U (a >>> (k % 64))=0):=fun h=>hz (Oc.U_inj (y:=0#64) (by rw [h];decide))
         clear hz hfin
         go_wp2_with fail
         refine (tz_any _ HZ.out _ (HT.out _)).mono ?_
         rintro e w' ⟨rfl,rfl⟩
         go_wp2
         go_ret
         exact ⟨ret_int (by rw [HF.out];omega),by go_grown⟩
     · have hx:Oc.w4 a b c d (k / 64)=b:=by rw [hq];rfl
       have HX:=Lib.hid hx
       clear hx
       by_cases hz:b >>> (k % 64)=0#64
       · have HZ:=Lib.hid hz
         have hs:=shr_word b (k % 64)
         rw [hz,show Oc.U 0#64=0 by decide] at hs
         clear hz
         go_wp2_with fail
         exact ⟨⟨64 * (k / 64)+64,by omega,by omega,by congr 1;omega,next_zero HN.out (by rw [HX.out];exact HZ.out)⟩,by simp [intOf];omega⟩
       · have HZ:=Lib.hid hz
         have hs:=shr_word b (k % 64)
         have hne:(Oc.U (b >>> (k % 64)) == 0)=false:=by
           rw [beq_eq_false_iff_ne];intro h;exact hz (Oc.U_inj (y:=0#64) (by rw [h];decide))
         have hlt2:=(Oc.ctz_bits _ hz).1
         have hfin:=next_found hfk hlt HN.out (show Oc.w4 a b c d (k / 64) >>> (k % 64) ≠ 0#64 by rw [HX.out];exact hz)
         rw [HX.out] at hfin
         have HF:=Lib.hid hfin
         have hne2:¬ (Oc.U (b >>> (k % 64))=0):=fun h=>hz (Oc.U_inj (y:=0#64) (by rw [h];decide))
         clear hz hfin
         go_wp2_with fail
         refine (tz_any _ HZ.out _ (HT.out _)).mono ?_
         rintro e w' ⟨rfl,rfl⟩
         go_wp2
         go_ret
         exact ⟨ret_int (by rw [HF.out];omega),by go_grown⟩
     · have hx:Oc.w4 a b c d (k / 64)=c:=by rw [hq];rfl
       have HX:=Lib.hid hx
       clear hx
       by_cases hz:c >>> (k % 64)=0#64
       · have HZ:=Lib.hid hz
         have hs:=shr_word c (k % 64)
         rw [hz,show Oc.U 0#64=0 by decide] at hs
         clear hz
         go_wp2_with fail
         exact ⟨⟨64 * (k / 64)+64,by omega,by omega,by congr 1;omega,next_zero HN.out (by rw [HX.out];exact HZ.out)⟩,by simp [intOf];omega⟩
       · have HZ:=Lib.hid hz
         have hs:=shr_word c (k % 64)
         have hne:(Oc.U (c >>> (k % 64)) == 0)=false:=by
           rw [beq_eq_false_iff_ne];intro h;exact hz (Oc.U_inj (y:=0#64) (by rw [h];decide))
         have hlt2:=(Oc.ctz_bits _ hz).1
         have hfin:=next_found hfk hlt HN.out (show Oc.w4 a b c d (k / 64) >>> (k % 64) ≠ 0#64 by rw [HX.out];exact hz)
         rw [HX.out] at hfin
         have HF:=Lib.hid hfin
         have hne2:¬ (Oc.U (c >>> (k % 64))=0):=fun h=>hz (Oc.U_inj (y:=0#64) (by rw [h];decide))
         clear hz hfin
         go_wp2_with fail
         refine (tz_any _ HZ.out _ (HT.out _)).mono ?_
         rintro e w' ⟨rfl,rfl⟩
         go_wp2
         go_ret
         exact ⟨ret_int (by rw [HF.out];omega),by go_grown⟩
     · have hx:Oc.w4 a b c d (k / 64)=d:=by rw [hq];rfl
       have HX:=Lib.hid hx
       clear hx
       by_cases hz:d >>> (k % 64)=0#64
       · have HZ:=Lib.hid hz
         have hs:=shr_word d (k % 64)
         rw [hz,show Oc.U 0#64=0 by decide] at hs
         clear hz
         go_wp2_with fail
         exact ⟨⟨64 * (k / 64)+64,by omega,by omega,by congr 1;omega,next_zero HN.out (by rw [HX.out];exact HZ.out)⟩,by simp [intOf];omega⟩
       · have HZ:=Lib.hid hz
         have hs:=shr_word d (k % 64)
         have hne:(Oc.U (d >>> (k % 64)) == 0)=false:=by
           rw [beq_eq_false_iff_ne];intro h;exact hz (Oc.U_inj (y:=0#64) (by rw [h];decide))
         have hlt2:=(Oc.ctz_bits _ hz).1
         have hfin:=next_found hfk hlt HN.out (show Oc.w4 a b c d (k / 64) >>> (k % 64) ≠ 0#64 by rw [HX.out];exact hz)
         rw [HX.out] at hfin
         have HF:=Lib.hid hfin
         have hne2:¬ (Oc.U (d >>> (k % 64))=0):=fun h=>hz (Oc.U_inj (y:=0#64) (by rw [h];decide))
         clear hz hfin
         go_wp2_with fail
         refine (tz_any _ HZ.out _ (HT.out _)).mono ?_
         rintro e w' ⟨rfl,rfl⟩
         go_wp2
         go_ret
         exact ⟨ret_int (by rw [HF.out];omega),by go_grown⟩
   · obtain rfl:k=256:=by omega
     have hfin:Oc.nx (Oc.mem a b c d) f=256:=Oc.nx_eq hf (Nat.le_refl _) HN.out (fun h=>by omega)
     have HF:=Lib.hid hfin
     clear hfin
     go_wp2
     go_ret
     exact ⟨ret_int (by rw [HF.out];rfl),by go_grown⟩
end Go.Proofs.YtnfdknhhkdphhaaGreatDoor
namespace Go.Proofs.YtnfdknhhkdphhaaGreatDoor
open Go.RowKit
theorem first_any (a b c d:BitVec 64) (w:World) (hT:TabAt 23 Lib.deBruijn64tab w) (hg:23 < w.heap.size) :
   Calls Tryz.prog 109 #[(.agg #[.int .u64 (Oc.U a),.int .u64 (Oc.U b),.int .u64 (Oc.U c),.int .u64 (Oc.U d)])] w fun e w'=>e=.returned (if Oc.nx (Oc.mem a b c d) 0 < 256 then .tuple #[.int .u8 (Oc.nx (Oc.mem a b c d) 0),.bool true] else .tuple #[.int .u8 0,.bool false])∧Below w.heap.size w w':=by
 have hsp:=Oc.nx_spec (Oc.mem a b c d) 0 (by omega)
 have hle:=hsp.2.1
 have hT1:∀ o,TabAt 23 Lib.deBruijn64tab (w.alloc o):=fun o j hj=>(((Below.refl w.heap.size w).alloc (Nat.le_refl _) o).cell (p:=⟨_,j,none⟩) hg).trans (hT j hj)
 have HT:=Lib.hid hT1
 clear hT hT1 hsp
 by_cases h:Oc.nx (Oc.mem a b c d) 0 < 256
 · rw [if_pos h]
   have hne:((Oc.nx (Oc.mem a b c d) 0:Int) == 256)=false:=by simp;omega
   go_enter Tryz.func109,Tryz.ntmps109
   go_wp2_with fail
   refine (next_any a b c d 0 (by omega) _ (HT.out _) (by simp;omega)).mono ?_
   rintro e w1 ⟨rfl,hb1⟩
   go_wp2
   go_ret2
   exact ⟨rfl,((Below.refl _ _).alloc (Nat.le_refl _) _).trans (hb1.mono (by simp))⟩
 · rw [if_neg h]
   have hne:Oc.nx (Oc.mem a b c d) 0=256:=by omega
   have HE:=Lib.hid hne
   clear hne
   go_enter Tryz.func109,Tryz.ntmps109
   go_wp2_with fail
   refine (next_any a b c d 0 (by omega) _ (HT.out _) (by simp;omega)).mono ?_
   rintro e w1 ⟨rfl,hb1⟩
   rw [HE.out]
   go_wp2
   go_ret2
   exact ⟨rfl,((Below.refl _ _).alloc (Nat.le_refl _) _).trans (hb1.mono (by simp))⟩
def least (p:Nat→Bool):Int:=if Oc.nx p 0 < 256 then (Oc.nx p 0:Int) else -1
theorem lay_bits {w w1:World} {f:Nat→Bool} (hb1:Below w.heap.size w w1):Below w.heap.size w ((w1.alloc (.cells (bools fun _=>false) 159)).setRow w1.heap.size (bools f))∧((w1.alloc (.cells (bools fun _=>false) 159)).setRow w1.heap.size (bools f)).heap[w1.heap.size]? = some (.cells (bools f) 159) :=
 ⟨below_setRow (hb1.alloc hb1.size _) hb1.size _,heap_setRow (heap_alloc_new _ _)⟩
theorem refcount_any (a b c d:BitVec 64) (w:World) :
   Calls Tryz.prog 117 #[(.agg #[.int .u64 (Oc.U a),.int .u64 (Oc.U b),.int .u64 (Oc.U c),.int .u64 (Oc.U d)])] w fun e w'=>e=.returned (.int .i64 (Oc.cnt (Oc.mem a b c d) 256))∧Below w.heap.size w w':=by
 have hz:∀ w,(zeroValue 159).run Tryz.prog w=.ok (.agg (bools fun _=>false)) w:=fun _=>by kernel_rfl
 go_enter Tryz.func117,Tryz.ntmps117
 go_wp2_with fail
 refine (bits_any _ _ _ _ _).mono ?_
 rintro e w1 ⟨rfl,hb1⟩
 have hbw1:Below w.heap.size w w1:=((Below.refl _ _).alloc (Nat.le_refl _) _).trans (hb1.mono (by simp))
 clear hb1
 obtain ⟨hbw2,hl⟩:=lay_bits (f:=Oc.mem a b c d) hbw1
 have HL:=Lib.hid hl
 clear hl
 go_wp2_with (first
   | (refine wpList_store_row rfl 159 (.tmp 3) (.tmp 7) rfl w1.heap.size (bools (Oc.mem a b c d)) rfl rfl 159 (bools fun _=>false) (heap_alloc_new _ _) (by rw [bools_size];kernel_rfl) (by rw [bools_size,bools_size]) (bools_one _) ?_)
   | fail)
 go_loop [4,5] (fun n i=>∃ k:Nat,k ≤ 256∧i=.int .i64 k∧n=.int .i64 (Oc.cnt (Oc.mem a b c d) k)) (fun _ i=>256 - (intOf i).toNat)
 case atStart=>exact ⟨0,Nat.zero_le _,rfl,rfl⟩
 case round =>
   obtain ⟨k,hk,rfl,rfl⟩:=hrel
   by_cases hlt:k < 256
   · have l0:=(one_cell hlt HL.out).1
     have hc:=Oc.cnt_le (Oc.mem a b c d) k
     have hs:Oc.cnt (Oc.mem a b c d) (k+1)=Oc.cnt (Oc.mem a b c d) k+(Oc.mem a b c d k).toNat:=rfl
     have HS:=Lib.hid hs
     clear hs
     cases hm:Oc.mem a b c d k with
     | false =>
       rw [hm] at l0
       have HM:=Lib.hid hm
       clear hm
       go_wp2
       go_round
       case rel=>exact ⟨k+1,by omega,by go_num,by rw [HS.out,HM.out];rfl⟩
       case measure=>simp [intOf];omega
     | true =>
       rw [hm] at l0
       have HM:=Lib.hid hm
       clear hm
       go_wp2
       go_round
       case rel=>exact ⟨k+1,by omega,by go_num,by rw [HS.out,HM.out];rfl⟩
       case measure=>simp [intOf];omega
   · obtain rfl:k=256:=by omega
     go_wp2
     go_ret
     exact ⟨rfl,hbw2⟩
theorem reffirst_any (a b c d:BitVec 64) (w:World) :
   Calls Tryz.prog 120 #[(.agg #[.int .u64 (Oc.U a),.int .u64 (Oc.U b),.int .u64 (Oc.U c),.int .u64 (Oc.U d)])] w fun e w'=>e=.returned (.int .i64 (least (Oc.mem a b c d)))∧Below w.heap.size w w':=by
 have hz:∀ w,(zeroValue 159).run Tryz.prog w=.ok (.agg (bools fun _=>false)) w:=fun _=>by kernel_rfl
 go_enter Tryz.func120,Tryz.ntmps120
 go_wp2_with fail
 refine (bits_any _ _ _ _ _).mono ?_
 rintro e w1 ⟨rfl,hb1⟩
 have hbw1:Below w.heap.size w w1:=((Below.refl _ _).alloc (Nat.le_refl _) _).trans (hb1.mono (by simp))
 clear hb1
 obtain ⟨hbw2,hl⟩:=lay_bits (f:=Oc.mem a b c d) hbw1
 have HL:=Lib.hid hl
 clear hl
 go_wp2_with (first
   | (refine wpList_store_row rfl 159 (.tmp 3) (.tmp 6) rfl w1.heap.size (bools (Oc.mem a b c d)) rfl rfl 159 (bools fun _=>false) (heap_alloc_new _ _) (by rw [bools_size];kernel_rfl) (by rw [bools_size,bools_size]) (bools_one _) ?_)
   | fail)
 go_loop [4] (fun i=>∃ k:Nat,k ≤ 256∧i=.int .i64 k∧Hid (∀ j,j < k→Oc.mem a b c d j=false)) (fun i=>256 - (intOf i).toNat)
 case atStart=>exact ⟨0,Nat.zero_le _,rfl,fun j hj=>by omega⟩
 case round =>
   obtain ⟨k,hk,rfl,HN⟩:=hrel
   by_cases hlt:k < 256
   · have l0:=(one_cell hlt HL.out).1
     cases hm:Oc.mem a b c d k with
     | false =>
       rw [hm] at l0
       have HM:=Lib.hid hm
       clear hm
       go_wp2
       go_round
       case rel=>exact ⟨k+1,by omega,by go_num,fun j hj=>by by_cases e:j=k;(· subst e;exact HM.out);exact HN.out j (by omega)⟩
       case measure=>simp [intOf];omega
     | true =>
       rw [hm] at l0
       have hf:Oc.nx (Oc.mem a b c d) 0=k:=Oc.nx_eq (by omega) (by omega) (fun i _ hi=>HN.out i hi) (fun _=>hm)
       have HF:=Lib.hid hf
       clear hm hf
       go_wp2
       go_ret
       exact ⟨ret_int (by unfold least;rw [HF.out,if_pos hlt]),hbw2⟩
   · obtain rfl:k=256:=by omega
     have hf:Oc.nx (Oc.mem a b c d) 0=256:=Oc.nx_eq (by omega) (by omega) (fun i _ hi=>HN.out i hi) (fun h=>by omega)
     have HF:=Lib.hid hf
     clear hf
     go_wp2
     go_ret
     exact ⟨ret_int (by unfold least;rw [HF.out,if_neg (by omega)]),hbw2⟩
def byteAt (s:ByteArray) (i:Nat):Nat:=(s.data.getD i 0).toNat
theorem byteAt_lt (s:ByteArray) (i:Nat):byteAt s i < 256:=by unfold byteAt;exact UInt8.toNat_lt _
end Go.Proofs.YtnfdknhhkdphhaaGreatDoor
namespace Go.Proofs.YtnfdknhhkdphhaaGreatDoor
open Go.RowKit
def bt (s:ByteArray) (i:Nat):Nat:=if i < s.size then byteAt s i else 256
theorem bt_in {s:ByteArray} {i:Nat} (h:i < s.size):bt s i=byteAt s i:=if_pos h
theorem bt_out {s:ByteArray} {i:Nat} (h:s.size ≤ i):bt s i=256:=if_neg (by omega)
theorem bt_txt (s:ByteArray):Br.Txt (bt s) s.size:=⟨fun i h=>by rw [bt_in h];exact byteAt_lt s i,fun i h=>bt_out h⟩
theorem bt_at {s:ByteArray} {i:Nat} (h:i < s.size):s[i].toNat=bt s i:=by
 rw [bt_in h];unfold byteAt;simp [ByteArray.getElem_eq_getElem_data,h]
end Go.Proofs.YtnfdknhhkdphhaaGreatDoor
namespace Go.Proofs.YtnfdknhhkdphhaaGreatDoor
theorem toList_loop (s:ByteArray):∀ n i r,s.size - i=n→ByteArray.toList.loop s i r=r.reverse ++ s.data.toList.drop i:=by
 intro n
 induction n with
 | zero =>
   intro i r h
   unfold ByteArray.toList.loop
   rw [if_neg (by omega),List.drop_eq_nil_of_le (by simp;show s.data.size ≤ i;have:s.data.size=s.size:=rfl;omega),List.append_nil]
 | succ n ih =>
   intro i r h
   have hi:i < s.size:=by omega
   unfold ByteArray.toList.loop
   rw [if_pos hi,ih (i+1) _ (by omega)]
   have hl:i < s.data.toList.length:=by simpa using hi
   rw [List.drop_eq_getElem_cons hl]
   have:s.get! i=s.data.toList[i]:=by
     show s.data[i]! = _
     rw [getElem!_pos s.data i hi];simp
   rw [this];simp
theorem toList_eq (s:ByteArray):s.toList=s.data.toList:=by
 show ByteArray.toList.loop s 0 []=_
 rw [toList_loop s s.size 0 [] (by omega)];simp
end Go.Proofs.YtnfdknhhkdphhaaGreatDoor
namespace Go.Proofs.YtnfdknhhkdphhaaGreatDoor
open Go.RowKit
def two {T:Type} (x y:T) (i:Nat):T:=if i=0 then x else y
end Go.Proofs.YtnfdknhhkdphhaaGreatDoor
namespace Go.Proofs.YtnfdknhhkdphhaaGreatDoor
open Go.RowKit
theorem Tryz.infoByte:(Tryz.prog.info? 5).map (fun i=>(i.zero,i.size,i.bytes))=some (some (.int .u8 0),1,1):=by kernel_rfl
theorem wp_bytes2 {o:Oper} {x:Act} {w:World} {K:Act→World→Prop} {Q:Exit→Act→World→Prop} (m n:Int) (ho:o.op=.buildSlice 73 2 #[(0,.const (.int .u8 m)),(1,.const (.int .u8 n))])
   (h:K (x.put o.dst (.slice (some ⟨w.heap.size,0,none⟩) 2 2)) (w.alloc (.cells #[.int .u8 m,.int .u8 n] 5))):o.wp Tryz.prog x w K Q:=by
 obtain ⟨ie,hi,hz0,hz1,-⟩:=info_parts Tryz.infoByte
 refine wp_buildSlice 73 5 2 _ ho _ ie _ Tryz.underlying73 hi hz0 (by rw [hz1];decide) (by rw [hz1];decide) ?_ h
 rw [hz1]
 simp only [List.map_toArray,List.map_cons,List.map_nil,Act.eval]
 kernel_rfl
end Go.Proofs.YtnfdknhhkdphhaaGreatDoor
namespace Go.Proofs.YtnfdknhhkdphhaaGreatDoor
open Go.RowKit
def flip (f:Nat→Bool) (k:Nat):Nat→Bool:=fun j=>if j < k then !f j else f j
theorem flip_zero (f:Nat→Bool):flip f 0=f:=by funext j;simp [flip]
theorem flip_at (f:Nat→Bool) (k:Nat):flip f k k=f k:=by simp [flip]
theorem flip_new (f:Nat→Bool) (k:Nat):flip f (k+1) k = !f k:=by simp [flip]
theorem flip_old (f:Nat→Bool) (k j:Nat) (h:j ≠ k):flip f (k+1) j=flip f k j:=by
 unfold flip;have:(j < k+1)=(j < k):=by rw [eq_iff_iff];omega
 simp only [this]
theorem flip_words (a b c d:BitVec 64):Oc.mk (flip (Oc.mem a b c d) 256) 0 = ~~~a∧Oc.mk (flip (Oc.mem a b c d) 256) 1 = ~~~b∧Oc.mk (flip (Oc.mem a b c d) 256) 2 = ~~~c∧Oc.mk (flip (Oc.mem a b c d) 256) 3 = ~~~d:=by
 have e:=mk_same4 (p:=flip (Oc.mem a b c d) 256) (q:=Oc.mem (~~~a) (~~~b) (~~~c) (~~~d)) fun i hi=>by unfold flip;rw [if_pos hi,Oc.mem_not]
 have m:=mk_mem (~~~a) (~~~b) (~~~c) (~~~d)
 exact ⟨e.1.trans m.1,e.2.1.trans m.2.1,e.2.2.1.trans m.2.2.1,e.2.2.2.trans m.2.2.2⟩
theorem refnot_any (a b c d:BitVec 64) (w:World) :
   Calls Tryz.prog 123 #[(.agg #[.int .u64 (Oc.U a),.int .u64 (Oc.U b),.int .u64 (Oc.U c),.int .u64 (Oc.U d)])] w fun e w'=>e=.returned (.agg #[.int .u64 (Oc.U (~~~a)),.int .u64 (Oc.U (~~~b)),.int .u64 (Oc.U (~~~c)),.int .u64 (Oc.U (~~~d))])∧Below w.heap.size w w':=by
 have hz:∀ w,(zeroValue 159).run Tryz.prog w=.ok (.agg (bools fun _=>false)) w:=fun _=>by kernel_rfl
 go_enter Tryz.func123,Tryz.ntmps123
 go_wp2_with fail
 refine (bits_any _ _ _ _ _).mono ?_
 rintro e w1 ⟨rfl,hb1⟩
 have hr:w1.heap[w.heap.size+1]? = some (.cells #[.int .u64 0,.int .u64 0,.int .u64 0,.int .u64 0] 25):=(hb1.block _ (by simp)).trans (two_new _ _ _).2
 have hsz1:w.heap.size+2 ≤ w1.heap.size:=by have:=hb1.size;simp at this;omega
 have hb0:Below w.heap.size w w1:=(((Below.refl _ _).alloc (Nat.le_refl _) _).alloc (by simp) _).trans (hb1.mono (by simp;omega))
 have HR:=Lib.hid hr
 clear hr hb1
 go_wp2_with (first
   | (refine wpList_store_row rfl 159 (.tmp 3) (.tmp 6) rfl w1.heap.size (bools (Oc.mem a b c d)) rfl rfl 159 (bools fun _=>false) (heap_alloc_new _ _) (by rw [bools_size];kernel_rfl) (by rw [bools_size,bools_size]) (bools_one _) ?_)
   | fail)
 go_loopw [4] (fun i wr=>∃ k:Nat,k ≤ 256∧i=.int .i64 k∧Below w.heap.size w wr∧wr.heap[w.heap.size+1]? = some (.cells #[.int .u64 0,.int .u64 0,.int .u64 0,.int .u64 0] 25) ∧
     wr.heap[w1.heap.size]? = some (.cells (bools (flip (Oc.mem a b c d) k)) 159)) (fun i _=>256 - (intOf i).toNat)
 case atStart=>exact ⟨0,Nat.zero_le _,rfl,below_setRow (hb0.alloc (by omega) _) (by omega) _,(heap_setRow_other _ _ _ (by omega)).trans (heap_alloc_lt HR.out),by rw [flip_zero];exact heap_setRow (heap_alloc_new _ _)⟩
 case round =>
   clear hb0 HR
   obtain ⟨k,hk,rfl,hbel,hz0,hz1⟩:=hrel
   by_cases hlt:k < 256
   · obtain ⟨l0,f0⟩:=one_cell hlt hz1
     rw [flip_at] at l0
     have hnew:=flip_new (Oc.mem a b c d) k
     generalize Oc.mem a b c d k=x at *
     have HN:=Lib.hid hnew
     have HZ0:=Lib.hid hz0
     have HZ1:=Lib.hid hz1
     clear hnew hz0 hz1
     go_wp2
     exact ⟨⟨k+1,by omega,by go_num,hbel.setCell (by show w.heap.size ≤ w1.heap.size;omega) _,by rw [Below.heap_setCell _ _ _ _ (by show w.heap.size+1 ≠ w1.heap.size;omega)];exact HZ0.out,one_set hlt HZ1.out HN.out (fun j hj=>flip_old _ _ _ hj)⟩,by simp [intOf];omega⟩
   · obtain rfl:k=256:=by omega
     have hw:=flip_words a b c d
     have HW:=Lib.hid hw
     have HZ0:=Lib.hid hz0
     have HZ1:=Lib.hid hz1
     clear hw hz0 hz1
     go_wp2_with (first
       | (refine wpList_load_row rfl _ _ rfl w1.heap.size rfl 159 (bools (flip (Oc.mem a b c d) 256)) (0,0) _ HZ1.out Tryz.underlying159 rfl (by rw [bools_size];kernel_rfl) ?_)
       | fail)
     refine (made_any _ _).mono ?_
     rintro e w2 ⟨rfl,hb2⟩
     rw [HW.out.1,HW.out.2.1,HW.out.2.2.1,HW.out.2.2.2]
     obtain ⟨d0,e0,d1,e1,d2,e2,d3,e3,r0,r1,r2,r3⟩:=four_st (keep_blk hb2 HZ0.out)
     have hbw2:=hbel.trans (hb2.mono hbel.size)
     go_wp2
     refine bodyPost_ret (v:=(.agg #[.int .u64 (Oc.U (~~~a)),.int .u64 (Oc.U (~~~b)),.int .u64 (Oc.U (~~~c)),.int .u64 (Oc.U (~~~d))])) (by simp [results,Tryz.results123,go_sem,r0,r1,r2,r3]) rfl ⟨rfl, ?_⟩
     go_grown
end Go.Proofs.YtnfdknhhkdphhaaGreatDoor
namespace Go.Proofs.YtnfdknhhkdphhaaGreatDoor
open Go.RowKit Go.Extern.Stop Go.Stop Go.Extern
inductive Chain (w:World) (a:Addr):Nat→Value→Prop
 | base:Chain w a 0 (.iface 232 (.pointer (some a)))
 | fault {n:Nat} {v:Value} (p:Nat) (h:w.cell? ⟨p,1,none⟩=some v) (k:Chain w a n v):Chain w a (n+1) (.iface 60 (.pointer (some ⟨p,0,none⟩)))
theorem Chain.iface {w:World} {a:Addr} {n:Nat} {v:Value} (h:Chain w a n v):∃ t p,v=.iface t p:=by cases h <;> exact ⟨_,_,rfl⟩
theorem Chain.of_cells {w w':World} {a:Addr} {n:Nat} {v:Value} (h:Chain w a n v) (hc:∀ p x,w.cell? ⟨p,1,none⟩=some x→w'.cell? ⟨p,1,none⟩=some x):Chain w' a n v:=by
 induction h with
 | base=>have _:=hc;exact .base
 | fault p h k ih=>exact .fault p (hc _ _ h) ih
def cmpX : Array Value → Sem Value := Extern.ReflectliteType.method fun t => do Extern.Rtype.noPackHeld "Comparable" t; pure (.bool (← typeInfo t).comparable)
theorem Tryz.isTypeOf {N:Nat} (hN:N=Tryz.prog.globals.size) (v:Value) (w:World):(Extern.ReflectliteType.typeOf #[.iface 232 v]).run Tryz.prog w=.ok (.iface 134 (.agg #[.pointer (some ⟨N,232,none⟩)])) w:=by subst hN;kernel_rfl
theorem Tryz.isComparable {N:Nat} (hN:N=Tryz.prog.globals.size) (w:World):(cmpX #[.agg #[.pointer (some ⟨N,232,none⟩)]]).run Tryz.prog w=.ok (.bool true) w:=by subst hN;kernel_rfl
theorem Tryz.isMethodComparable (n : Nat) (v : Value) (w : World) : (Go.method (n + 1) 134 v "Comparable").run Tryz.prog w = .ok (248, v) w := by kernel_rfl
theorem Tryz.isComp:(Tryz.prog.info? 232).map (·.comparable)=some true:=by kernel_rfl
theorem Tryz.isSize:(Tryz.prog.info? 250).map (·.size)=some 1:=by kernel_rfl
theorem Tryz.noIsE (v:Value) (xT:TypeId) (w:World):(Instr.typeAssert (.iface 232 v) xT 136 true).run Tryz.prog w=.ok (.tuple #[.nilIface,.bool false]) w:=run_typeAssert_lacksB Tryz.underlying136 (by kernel_rfl) (by kernel_rfl) v xT w
theorem Tryz.noUnwrapE (v:Value) (xT:TypeId) (w:World):(Instr.typeAssert (.iface 232 v) xT 139 true).run Tryz.prog w=.ok (.tuple #[.nilIface,.bool false]) w:=run_typeAssert_lacksB Tryz.underlying139 (by kernel_rfl) (by kernel_rfl) v xT w
theorem Tryz.noUnwrapsE (v:Value) (xT:TypeId) (w:World):(Instr.typeAssert (.iface 232 v) xT 141 true).run Tryz.prog w=.ok (.tuple #[.nilIface,.bool false]) w:=run_typeAssert_lacksB Tryz.underlying141 (by kernel_rfl) (by kernel_rfl) v xT w
theorem Tryz.noIsF (v:Value) (xT:TypeId) (w:World):(Instr.typeAssert (.iface 60 v) xT 136 true).run Tryz.prog w=.ok (.tuple #[.nilIface,.bool false]) w:=run_typeAssert_lacksB Tryz.underlying136 (by kernel_rfl) (by kernel_rfl) v xT w
theorem Tryz.hasUnwrapF (v:Value) (xT:TypeId) (w:World):(Instr.typeAssert (.iface 60 v) xT 139 true).run Tryz.prog w=.ok (.tuple #[.iface 60 v,.bool true]) w:=run_typeAssert_hasB Tryz.underlying139 (by kernel_rfl) v xT w
theorem Tryz.methodUnwrapF (n : Nat) (v : Value) (w : World) : (Go.method (n + 1) 60 v "Unwrap").run Tryz.prog w = .ok (241, v) w := by kernel_rfl
theorem unwrap_fault (p:Nat) (x:Value) (w:World) (h:w.cell? ⟨p,1,none⟩=some x) :
   Calls Tryz.prog 241 #[.pointer (some ⟨p,0,none⟩)] w fun e w'=>e=.returned x∧w=w':=by
 go_enter Tryz.func241,Tryz.ntmps241
 go_wp2
 go_ret
 exact ⟨rfl,rfl⟩
theorem is_in (a b:Addr) (n:Nat) (v:Value) (w:World) (hch:Chain w a n v) (ca cb:Array Value) (ta tb:TypeId) (ha:w.heap[a.block]? = some (.cells ca ta (0,0))) (hb:w.heap[b.block]? = some (.cells cb tb (0,0))) :
   Calls Tryz.prog 60 #[v,.iface 232 (.pointer (some b)),.bool true] w fun e w'=>e=.returned (.bool (decide (a=b)))∧w=w':=by
 obtain ⟨i,hi,hcmp⟩:=Option.map_eq_some_iff.1 Tryz.isComp
 obtain ⟨j,hj,hjs⟩:=Option.map_eq_some_iff.1 Tryz.isSize
 have nE:=Tryz.noIsE
 have uE:=Tryz.noUnwrapE
 have vE:=Tryz.noUnwrapsE
 have nF:=Tryz.noIsF
 have uF:=Tryz.hasUnwrapF
 have mF:=Tryz.methodUnwrapF
 have tyF:=fun p=>run_eql_iface_types (P:=Tryz.prog) 60 232 (.pointer (some ⟨p,0,none⟩)) (.pointer (some b)) Tryz.underlying30 (by decide) w
 have heq:(binOp .eql 30 (.iface 232 (.pointer (some a))) (.iface 232 (.pointer (some b)))).run Tryz.prog w=.ok (.bool (decide (a=b))) w:=by
   by_cases hab:a=b
   · subst hab
     rw [run_eql_iface_ptr_same (P:=Tryz.prog) w a Tryz.underlying30 Tryz.underlying232 hi hcmp hj];simp
   · rw [run_eql_iface_ptr_other (P:=Tryz.prog) w Tryz.underlying30 Tryz.underlying232 hi hcmp hj (by rw [hjs];decide) hab ha hb];simp [hab]
 generalize decide (a=b)=r at heq ⊢
 clear hi hcmp hj hjs ha hb
 have HCH:=Lib.hid hch
 clear hch
 go_enter Tryz.func60,Tryz.ntmps60
 go_wp2_with fail
 go_loopg [0] n (fun k x wr=>wr=w∧Hid (Chain w a k x))
 case atStart=>exact ⟨rfl,HCH.out⟩
 case round =>
   obtain ⟨rfl,HC⟩:=hrel
   rcases HC.out with _ | @⟨m,x,p,h,k⟩
   · cases r with
     | true =>
       go_wp2
       go_ret
       exact ⟨rfl,rfl⟩
     | false =>
       go_wp2
       go_ret
       exact ⟨rfl,rfl⟩
   · obtain ⟨t,q,rfl⟩:=k.iface
     have HK:=Lib.hid k
     clear k HC
     go_wp2_with (go_at_call 241;refine (unwrap_fault _ _ _ h).mono ?_;rintro e w' ⟨rfl,rfl⟩)
     go_roundg m
     case measure=>omega
     case rel=>exact ⟨rfl,HK.out⟩
theorem is_any (a b:Addr) (n:Nat) (v:Value) (w:World) (hch:Chain w a n v) (ca cb:Array Value) (ta tb:TypeId) (ha:w.heap[a.block]? = some (.cells ca ta (0,0))) (hb:w.heap[b.block]? = some (.cells cb tb (0,0))) :
   Calls Tryz.prog 27 #[v,.iface 232 (.pointer (some b))] w fun e w'=>e=.returned (.bool (decide (a=b)))∧w=w':=by
 have h8:=@run_callFunc_extern Tryz.prog 59 _ Extern.ReflectliteType.typeOf Tryz.func59 (by kernel_rfl) (by kernel_rfl) (by kernel_rfl) (by kernel_rfl)
 have h32:=@run_callFunc_extern Tryz.prog 248 _ cmpX Tryz.func248 (by kernel_rfl) (by kernel_rfl) (by kernel_rfl) (by kernel_rfl)
 obtain ⟨N,hN⟩:∃ N,N=Tryz.prog.globals.size:=⟨_,rfl⟩
 have tT:=Tryz.isTypeOf hN
 have cT:=Tryz.isComparable hN
 clear hN
 have mR:=Tryz.isMethodComparable
 have hin:=is_in a b n v w hch ca cb ta tb ha hb
 obtain ⟨t,q,rfl⟩:=hch.iface
 have HIN:=Lib.hid hin
 clear hin ha hb hch
 go_enter Tryz.func27,Tryz.ntmps27
 go_wp2_with (go_at_call 60;refine HIN.out.mono ?_;rintro e w' ⟨rfl,rfl⟩)
 go_ret
 exact ⟨rfl,rfl⟩
end Go.Proofs.YtnfdknhhkdphhaaGreatDoor
namespace Go.Proofs.YtnfdknhhkdphhaaGreatDoor
open Go.ChangeShapes Go.WideShapes Go.ChangeAt Go.RowKit
def Sent (W:World) (g:Nat) (t:List UInt8) (a:Addr):Prop :=
 W.cell? ⟨g,0,none⟩=some (.iface 232 (.pointer (some a)))∧g < W.heap.size∧a.block < W.heap.size∧(∃ s,W.cell? a=some (.string s)∧s.data.toList=t∧s.size ≤ maxLen)∧∃ c ty,W.heap[a.block]? = some (.cells c ty (0,0))
theorem Sent.below {W W':World} {g:Nat} {t:List UInt8} {a:Addr} (h:Sent W g t a) (hb:Below W.heap.size W W'):Sent W' g t a:=by
 obtain ⟨h1,h2,h3,⟨s,h4,h5,h6⟩,c,ty,h7⟩:=h
 exact ⟨(hb.cell (p:=⟨g,0,none⟩) h2).trans h1,Nat.lt_of_lt_of_le h2 hb.size,Nat.lt_of_lt_of_le h3 hb.size,⟨s,(hb.cell h3).trans h4,h5,h6⟩,c,ty,(hb.block _ h3).trans h7⟩
theorem Sent.apart {W:World} {g g':Nat} {t t':List UInt8} {a a':Addr} (h:Sent W g t a) (h':Sent W g' t' a') (hne:t ≠ t'):a ≠ a':=by
 rintro rfl
 obtain ⟨-,-,-,⟨s,h4,h5,-⟩,-⟩:=h
 obtain ⟨-,-,-,⟨s',h4',h5',-⟩,-⟩:=h'
 rw [h4] at h4'
 simp only [Option.some.injEq,Value.string.injEq] at h4'
 subst h4'
 exact hne (h5.symm.trans h5')
def sentDatum (t : List UInt8) : DataW Unit := .iface "*errors.errorString" (.ptr (.agg [.lit (.string t)]))
theorem Tryz.starE : "*" ++ "errors.errorString" = "*errors.errorString" := by decide
theorem Tryz.rowE (u : TypeId) (h : Tryz.prog.typeName? 3 u = some "*errors.errorString") : u = 232 :=
 typeName_ptr_named (nm := "errors.errorString") (by rw [Tryz.starE]; kernel_rfl) (by kernel_rfl) (by decide) u (by rw [Tryz.starE]; exact h)
theorem Tryz.cellsE:Tryz.prog.cellsOf 250=1:=by kernel_rfl
theorem Tryz.cellsStr:Tryz.prog.cellsOf 9=1:=by kernel_rfl
theorem block_lt {W:World} {b:Nat} {o:Obj} (h:W.heap[b]? = some o):b < W.heap.size:=(Array.getElem?_eq_some_iff.1 h).1
theorem sent_head_any {P:Program} {n nm:String} {text:List UInt8} {r:List (String × DataW Unit)} {W:World} {g:Nat} {ti tp te ts:TypeId} {ms:Array (String × TypeId)} {f:Field}
   (h:laidMet P ((n,.iface nm (.ptr (.agg [.lit (.string text)]))) :: r) W)
   (hg:P.globalNamed n=some g) (ht:(P.globals[g]?).map (·.type)=some ti) (hi:P.underlying ti=some (.interface ms)) (hrow:∀ u,P.typeName? 3 u=some nm→u=tp)
   (hp:P.underlying tp=some (.pointer te)) (he:P.underlying te=some (.struct #[f])) (hft:f.type=ts) (hfo:f.offset=0) (hs:P.underlying ts=some .string) (hc:P.cellsOf te=1) (hcs:P.cellsOf ts=1) :
   ∃ (a:Addr) (s:ByteArray) (c0 c1:Array Value) (t0 t1:TypeId),W.cell? ⟨g,0,none⟩=some (.iface tp (.pointer (some a)))∧W.cell? a=some (.string s)∧s.data.toList=text∧s.size ≤ maxLen∧W.heap[a.block]? = some (.cells c0 t0 (0,0))∧W.heap[g]? = some (.cells c1 t1 (0,0)):=by
 obtain ⟨ps,⟨g0,t0,cs0,f0,p0,q0,hg0,ht0,hv0,hd0,_,e0⟩,_,hrows⟩:=h
 obtain rfl:=Option.some.inj (hg.symm.trans hg0)
 obtain rfl:=Option.some.inj (ht.symm.trans ht0)
 subst e0
 obtain ⟨l0⟩:=cs0
 have ok0:∀ u v,l0=[.iface u v]→Value.okWide P W .any 0 u v:=fun u v e=>by
   subst e
   exact (hrows g 0 (by simp [MemPlace.row])).2 u v (by simpa using World.var?_cell hg0 hv0 0)
 obtain ⟨a0,s0,rfl,hc0,hs0,hz0,rfl⟩:=errorString_of_trod hi hrow hp he hft hfo hs hc hcs hd0 ok0
 obtain ⟨c0,t1,hb0⟩:=(hrows a0.block a0.off (by simp [MemPlace.row])).1
 obtain ⟨c1,t2,hb1⟩:=(hrows g 0 (by simp [MemPlace.row])).1
 exact ⟨a0,s0,c0,c1,t1,t2,by simpa using World.var?_cell hg0 hv0 0,hc0,hs0,hz0,hb0,hb1⟩
theorem sent_head {n:String} {t:List UInt8} {r:List (String × DataW Unit)} {W:World} {g:Nat} (h:laidMet Tryz.prog ((n,sentDatum t) :: r) W) (hg:Tryz.prog.globalNamed n=some g) (ht:(Tryz.prog.globals[g]?).map (·.type)=some 30) :
   ∃ a,Sent W g t a:=by
 obtain ⟨a,s,c0,c1,t0,t1,h1,h2,h3,h4,h5,h6⟩:=sent_head_any h hg ht Tryz.underlying30 Tryz.rowE Tryz.underlying232 Tryz.underlying250 rfl rfl Tryz.underlying9 Tryz.cellsE Tryz.cellsStr
 exact ⟨a,h1,block_lt h6,block_lt h5,⟨s,h2,h3,h4⟩,c0,t0,h5⟩
theorem sent_of:∀ {l:List (String × DataW Unit)} {W:World},laidMet Tryz.prog l W→∀ {n t g},(n,sentDatum t) ∈ l→Tryz.prog.globalNamed n=some g→(Tryz.prog.globals[g]?).map (·.type)=some 30→∃ a,Sent W g t a
 | [],_,_,_,_,_,hm,_,_=>by cases hm
 | x :: l,W,h,n,t,g,hm,hg,ht=>by
   rcases List.mem_cons.1 hm with e | hm
   · subst e;exact sent_head h hg ht
   · exact sent_of h.tail hm hg ht
end Go.Proofs.YtnfdknhhkdphhaaGreatDoor
namespace Go.Proofs.YtnfdknhhkdphhaaGreatDoor
open Go.ChangeShapes Go.WideShapes Go.ChangeAt Go.RowKit
def errWords:List (List UInt8):=[[98,114,97,99,107,101,116],[112,97,114,101,110,116,104,101,115,105,115],[98,114,97,99,101],[99,111,117,110,116],[114,97,110,103,101],[99,108,97,115,115],[99,111,108,108,97,116,105,110,103],[101,115,99,97,112,101],[114,101,112,101,97,116],[116,111,111,32,98,105,103],[110,101,115,116,105,110,103],[108,111,110,103],[116,114,101,101],[100,101,101,112],[97,114,103,117,109,101,110,116],[110,111,32,109,97,116,99,104],[105,109,97,103,101],[109,97,110,121],[111,112,116,105,111,110],[99,111,109,109,97,110,100],[99,108,111,115,101,100]]
def errPre:List UInt8:=[116,114,97,119,108,58,32]
def errVars:List Nat:=[0,1,2,3,4,5,6,7,8,9,10,11,12,13,14,15,16,17,18,19,20]
def Errs (W:World) (A:Nat→Addr):Prop:=∀ k,k < 21→Sent W (errVars.getD k 0) (errPre ++ errWords.getD k []) (A k)
theorem Errs.below {W W':World} {A:Nat→Addr} (h:Errs W A) (hb:Below W.heap.size W W'):Errs W' A:=fun k hk=>(h k hk).below hb
theorem errWords_apart:∀ i,i < 21→∀ j,j < 21→i ≠ j→errPre ++ errWords.getD i [] ≠ errPre ++ errWords.getD j []:=by decide +kernel
theorem Errs.apart {W:World} {A:Nat→Addr} (h:Errs W A) {i j:Nat} (hi:i < 21) (hj:j < 21) (hne:i ≠ j):A i ≠ A j:=(h i hi).apart (h j hj) (errWords_apart i hi j hj hne)
def errList : List (String × DataW Unit) := [("trawl/api.ErrBracket", Rows.laid_trawl_api_ErrBracket), ("trawl/api.ErrParen", Rows.laid_trawl_api_ErrParen), ("trawl/api.ErrBrace", Rows.laid_trawl_api_ErrBrace), ("trawl/api.ErrCount", Rows.laid_trawl_api_ErrCount), ("trawl/api.ErrRange", Rows.laid_trawl_api_ErrRange), ("trawl/api.ErrClass", Rows.laid_trawl_api_ErrClass), ("trawl/api.ErrCollate", Rows.laid_trawl_api_ErrCollate), ("trawl/api.ErrEscape", Rows.laid_trawl_api_ErrEscape), ("trawl/api.ErrRepeat", Rows.laid_trawl_api_ErrRepeat), ("trawl/api.ErrTooBig", Rows.laid_trawl_api_ErrTooBig), ("trawl/api.ErrNest", Rows.laid_trawl_api_ErrNest), ("trawl/api.ErrLong", Rows.laid_trawl_api_ErrLong), ("trawl/api.ErrTree", Rows.laid_trawl_api_ErrTree), ("trawl/api.ErrDeep", Rows.laid_trawl_api_ErrDeep), ("trawl/api.ErrArgument", Rows.laid_trawl_api_ErrArgument), ("trawl/api.ErrNoMatch", Rows.laid_trawl_api_ErrNoMatch), ("trawl/api.ErrImage", Rows.laid_trawl_api_ErrImage), ("trawl/api.ErrMany", Rows.laid_trawl_api_ErrMany), ("trawl/api.ErrOption", Rows.laid_trawl_api_ErrOption), ("trawl/api.ErrCommand", Rows.laid_trawl_api_ErrCommand), ("trawl/api.ErrClosed", Rows.laid_trawl_api_ErrClosed)]
theorem errs_one {W:World} {l:List (String × DataW Unit)} (h:laidMet Tryz.prog l W) (hl:∀ x,x ∈ errList→x ∈ l):∀ k,k < 21→∃ a,Sent W (errVars.getD k 0) (errPre ++ errWords.getD k []) a
 | 0, _ => sent_of h (hl _ (show ("trawl/api.ErrBracket", sentDatum (errPre ++ errWords.getD 0 [])) ∈ errList from List.mem_cons_self)) (by kernel_rfl) (by kernel_rfl)
 | 1, _ => sent_of h (hl _ (show ("trawl/api.ErrParen", sentDatum (errPre ++ errWords.getD 1 [])) ∈ errList from (List.mem_cons_of_mem _ List.mem_cons_self))) (by kernel_rfl) (by kernel_rfl)
 | 2, _ => sent_of h (hl _ (show ("trawl/api.ErrBrace", sentDatum (errPre ++ errWords.getD 2 [])) ∈ errList from (List.mem_cons_of_mem _ (List.mem_cons_of_mem _ List.mem_cons_self)))) (by kernel_rfl) (by kernel_rfl)
 | 3, _ => sent_of h (hl _ (show ("trawl/api.ErrCount", sentDatum (errPre ++ errWords.getD 3 [])) ∈ errList from (List.mem_cons_of_mem _ (List.mem_cons_of_mem _ (List.mem_cons_of_mem _ List.mem_cons_self))))) (by kernel_rfl) (by kernel_rfl)
 | 4, _ => sent_of h (hl _ (show ("trawl/api.ErrRange", sentDatum (errPre ++ errWords.getD 4 [])) ∈ errList from (List.mem_cons_of_mem _ (List.mem_cons_of_mem _ (List.mem_cons_of_mem _ (List.mem_cons_of_mem _ List.mem_cons_self)))))) (by kernel_rfl) (by kernel_rfl)
 | 5, _ => sent_of h (hl _ (show ("trawl/api.ErrClass", sentDatum (errPre ++ errWords.getD 5 [])) ∈ errList from (List.mem_cons_of_mem _ (List.mem_cons_of_mem _ (List.mem_cons_of_mem _ (List.mem_cons_of_mem _ (List.mem_cons_of_mem _ List.mem_cons_self))))))) (by kernel_rfl) (by kernel_rfl)
 | 6, _ => sent_of h (hl _ (show ("trawl/api.ErrCollate", sentDatum (errPre ++ errWords.getD 6 [])) ∈ errList from (List.mem_cons_of_mem _ (List.mem_cons_of_mem _ (List.mem_cons_of_mem _ (List.mem_cons_of_mem _ (List.mem_cons_of_mem _ (List.mem_cons_of_mem _ List.mem_cons_self)))))))) (by kernel_rfl) (by kernel_rfl)
 | 7, _ => sent_of h (hl _ (show ("trawl/api.ErrEscape", sentDatum (errPre ++ errWords.getD 7 [])) ∈ errList from (List.mem_cons_of_mem _ (List.mem_cons_of_mem _ (List.mem_cons_of_mem _ (List.mem_cons_of_mem _ (List.mem_cons_of_mem _ (List.mem_cons_of_mem _ (List.mem_cons_of_mem _ List.mem_cons_self))))))))) (by kernel_rfl) (by kernel_rfl)
 | 8, _ => sent_of h (hl _ (show ("trawl/api.ErrRepeat", sentDatum (errPre ++ errWords.getD 8 [])) ∈ errList from (List.mem_cons_of_mem _ (List.mem_cons_of_mem _ (List.mem_cons_of_mem _ (List.mem_cons_of_mem _ (List.mem_cons_of_mem _ (List.mem_cons_of_mem _ (List.mem_cons_of_mem _ (List.mem_cons_of_mem _ List.mem_cons_self)))))))))) (by kernel_rfl) (by kernel_rfl)
 | 9, _ => sent_of h (hl _ (show ("trawl/api.ErrTooBig", sentDatum (errPre ++ errWords.getD 9 [])) ∈ errList from (List.mem_cons_of_mem _ (List.mem_cons_of_mem _ (List.mem_cons_of_mem _ (List.mem_cons_of_mem _ (List.mem_cons_of_mem _ (List.mem_cons_of_mem _ (List.mem_cons_of_mem _ (List.mem_cons_of_mem _ (List.mem_cons_of_mem _ List.mem_cons_self))))))))))) (by kernel_rfl) (by kernel_rfl)
 | 10, _ => sent_of h (hl _ (show ("trawl/api.ErrNest", sentDatum (errPre ++ errWords.getD 10 [])) ∈ errList from (List.mem_cons_of_mem _ (List.mem_cons_of_mem _ (List.mem_cons_of_mem _ (List.mem_cons_of_mem _ (List.mem_cons_of_mem _ (List.mem_cons_of_mem _ (List.mem_cons_of_mem _ (List.mem_cons_of_mem _ (List.mem_cons_of_mem _ (List.mem_cons_of_mem _ List.mem_cons_self)))))))))))) (by kernel_rfl) (by kernel_rfl)
 | 11, _ => sent_of h (hl _ (show ("trawl/api.ErrLong", sentDatum (errPre ++ errWords.getD 11 [])) ∈ errList from (List.mem_cons_of_mem _ (List.mem_cons_of_mem _ (List.mem_cons_of_mem _ (List.mem_cons_of_mem _ (List.mem_cons_of_mem _ (List.mem_cons_of_mem _ (List.mem_cons_of_mem _ (List.mem_cons_of_mem _ (List.mem_cons_of_mem _ (List.mem_cons_of_mem _ (List.mem_cons_of_mem _ List.mem_cons_self))))))))))))) (by kernel_rfl) (by kernel_rfl)
 | 12, _ => sent_of h (hl _ (show ("trawl/api.ErrTree", sentDatum (errPre ++ errWords.getD 12 [])) ∈ errList from (List.mem_cons_of_mem _ (List.mem_cons_of_mem _ (List.mem_cons_of_mem _ (List.mem_cons_of_mem _ (List.mem_cons_of_mem _ (List.mem_cons_of_mem _ (List.mem_cons_of_mem _ (List.mem_cons_of_mem _ (List.mem_cons_of_mem _ (List.mem_cons_of_mem _ (List.mem_cons_of_mem _ (List.mem_cons_of_mem _ List.mem_cons_self)))))))))))))) (by kernel_rfl) (by kernel_rfl)
 | 13, _ => sent_of h (hl _ (show ("trawl/api.ErrDeep", sentDatum (errPre ++ errWords.getD 13 [])) ∈ errList from (List.mem_cons_of_mem _ (List.mem_cons_of_mem _ (List.mem_cons_of_mem _ (List.mem_cons_of_mem _ (List.mem_cons_of_mem _ (List.mem_cons_of_mem _ (List.mem_cons_of_mem _ (List.mem_cons_of_mem _ (List.mem_cons_of_mem _ (List.mem_cons_of_mem _ (List.mem_cons_of_mem _ (List.mem_cons_of_mem _ (List.mem_cons_of_mem _ List.mem_cons_self))))))))))))))) (by kernel_rfl) (by kernel_rfl)
 | 14, _ => sent_of h (hl _ (show ("trawl/api.ErrArgument", sentDatum (errPre ++ errWords.getD 14 [])) ∈ errList from (List.mem_cons_of_mem _ (List.mem_cons_of_mem _ (List.mem_cons_of_mem _ (List.mem_cons_of_mem _ (List.mem_cons_of_mem _ (List.mem_cons_of_mem _ (List.mem_cons_of_mem _ (List.mem_cons_of_mem _ (List.mem_cons_of_mem _ (List.mem_cons_of_mem _ (List.mem_cons_of_mem _ (List.mem_cons_of_mem _ (List.mem_cons_of_mem _ (List.mem_cons_of_mem _ List.mem_cons_self)))))))))))))))) (by kernel_rfl) (by kernel_rfl)
 | 15, _ => sent_of h (hl _ (show ("trawl/api.ErrNoMatch", sentDatum (errPre ++ errWords.getD 15 [])) ∈ errList from (List.mem_cons_of_mem _ (List.mem_cons_of_mem _ (List.mem_cons_of_mem _ (List.mem_cons_of_mem _ (List.mem_cons_of_mem _ (List.mem_cons_of_mem _ (List.mem_cons_of_mem _ (List.mem_cons_of_mem _ (List.mem_cons_of_mem _ (List.mem_cons_of_mem _ (List.mem_cons_of_mem _ (List.mem_cons_of_mem _ (List.mem_cons_of_mem _ (List.mem_cons_of_mem _ (List.mem_cons_of_mem _ List.mem_cons_self))))))))))))))))) (by kernel_rfl) (by kernel_rfl)
 | 16, _ => sent_of h (hl _ (show ("trawl/api.ErrImage", sentDatum (errPre ++ errWords.getD 16 [])) ∈ errList from (List.mem_cons_of_mem _ (List.mem_cons_of_mem _ (List.mem_cons_of_mem _ (List.mem_cons_of_mem _ (List.mem_cons_of_mem _ (List.mem_cons_of_mem _ (List.mem_cons_of_mem _ (List.mem_cons_of_mem _ (List.mem_cons_of_mem _ (List.mem_cons_of_mem _ (List.mem_cons_of_mem _ (List.mem_cons_of_mem _ (List.mem_cons_of_mem _ (List.mem_cons_of_mem _ (List.mem_cons_of_mem _ (List.mem_cons_of_mem _ List.mem_cons_self)))))))))))))))))) (by kernel_rfl) (by kernel_rfl)
 | 17, _ => sent_of h (hl _ (show ("trawl/api.ErrMany", sentDatum (errPre ++ errWords.getD 17 [])) ∈ errList from (List.mem_cons_of_mem _ (List.mem_cons_of_mem _ (List.mem_cons_of_mem _ (List.mem_cons_of_mem _ (List.mem_cons_of_mem _ (List.mem_cons_of_mem _ (List.mem_cons_of_mem _ (List.mem_cons_of_mem _ (List.mem_cons_of_mem _ (List.mem_cons_of_mem _ (List.mem_cons_of_mem _ (List.mem_cons_of_mem _ (List.mem_cons_of_mem _ (List.mem_cons_of_mem _ (List.mem_cons_of_mem _ (List.mem_cons_of_mem _ (List.mem_cons_of_mem _ List.mem_cons_self))))))))))))))))))) (by kernel_rfl) (by kernel_rfl)
 | 18, _ => sent_of h (hl _ (show ("trawl/api.ErrOption", sentDatum (errPre ++ errWords.getD 18 [])) ∈ errList from (List.mem_cons_of_mem _ (List.mem_cons_of_mem _ (List.mem_cons_of_mem _ (List.mem_cons_of_mem _ (List.mem_cons_of_mem _ (List.mem_cons_of_mem _ (List.mem_cons_of_mem _ (List.mem_cons_of_mem _ (List.mem_cons_of_mem _ (List.mem_cons_of_mem _ (List.mem_cons_of_mem _ (List.mem_cons_of_mem _ (List.mem_cons_of_mem _ (List.mem_cons_of_mem _ (List.mem_cons_of_mem _ (List.mem_cons_of_mem _ (List.mem_cons_of_mem _ (List.mem_cons_of_mem _ List.mem_cons_self)))))))))))))))))))) (by kernel_rfl) (by kernel_rfl)
 | 19, _ => sent_of h (hl _ (show ("trawl/api.ErrCommand", sentDatum (errPre ++ errWords.getD 19 [])) ∈ errList from (List.mem_cons_of_mem _ (List.mem_cons_of_mem _ (List.mem_cons_of_mem _ (List.mem_cons_of_mem _ (List.mem_cons_of_mem _ (List.mem_cons_of_mem _ (List.mem_cons_of_mem _ (List.mem_cons_of_mem _ (List.mem_cons_of_mem _ (List.mem_cons_of_mem _ (List.mem_cons_of_mem _ (List.mem_cons_of_mem _ (List.mem_cons_of_mem _ (List.mem_cons_of_mem _ (List.mem_cons_of_mem _ (List.mem_cons_of_mem _ (List.mem_cons_of_mem _ (List.mem_cons_of_mem _ (List.mem_cons_of_mem _ List.mem_cons_self))))))))))))))))))))) (by kernel_rfl) (by kernel_rfl)
 | 20, _ => sent_of h (hl _ (show ("trawl/api.ErrClosed", sentDatum (errPre ++ errWords.getD 20 [])) ∈ errList from (List.mem_cons_of_mem _ (List.mem_cons_of_mem _ (List.mem_cons_of_mem _ (List.mem_cons_of_mem _ (List.mem_cons_of_mem _ (List.mem_cons_of_mem _ (List.mem_cons_of_mem _ (List.mem_cons_of_mem _ (List.mem_cons_of_mem _ (List.mem_cons_of_mem _ (List.mem_cons_of_mem _ (List.mem_cons_of_mem _ (List.mem_cons_of_mem _ (List.mem_cons_of_mem _ (List.mem_cons_of_mem _ (List.mem_cons_of_mem _ (List.mem_cons_of_mem _ (List.mem_cons_of_mem _ (List.mem_cons_of_mem _ (List.mem_cons_of_mem _ List.mem_cons_self)))))))))))))))))))))) (by kernel_rfl) (by kernel_rfl)
 | k+21,hk=>absurd hk (by omega)
theorem errs_of {W:World} {l:List (String × DataW Unit)} (h:laidMet Tryz.prog l W) (hl:∀ x,x ∈ errList→x ∈ l):∃ A,Errs W A:=by
 have k:=errs_one h hl
 exact ⟨fun i=>if h:i < 21 then Classical.choose (k i h) else ⟨0,0,none⟩,fun i hi=>by
   show Sent W _ _ (dite _ _ _)
   rw [dif_pos hi];exact Classical.choose_spec (k i hi)⟩
end Go.Proofs.YtnfdknhhkdphhaaGreatDoor
namespace Go.Proofs.YtnfdknhhkdphhaaGreatDoor
open Go.RowKit
def errCells (A:Nat→Addr):Array Value:=#[.iface 232 (.pointer (some (A 0))),.iface 232 (.pointer (some (A 1))),.iface 232 (.pointer (some (A 2))),.iface 232 (.pointer (some (A 3))),.iface 232 (.pointer (some (A 4))),.iface 232 (.pointer (some (A 5))),.iface 232 (.pointer (some (A 6))),.iface 232 (.pointer (some (A 7))),.iface 232 (.pointer (some (A 8))),.iface 232 (.pointer (some (A 9))),.iface 232 (.pointer (some (A 10))),.iface 232 (.pointer (some (A 11))),.iface 232 (.pointer (some (A 12))),.iface 232 (.pointer (some (A 13))),.iface 232 (.pointer (some (A 14))),.iface 232 (.pointer (some (A 15))),.iface 232 (.pointer (some (A 16))),.iface 232 (.pointer (some (A 17))),.iface 232 (.pointer (some (A 18))),.iface 232 (.pointer (some (A 19))),.iface 232 (.pointer (some (A 20)))]
theorem errCells_get (A:Nat→Addr):∀ k,k < 21→(errCells A)[k]? = some (.iface 232 (.pointer (some (A k))))
 | 0,_=>rfl
 | 1,_=>rfl
 | 2,_=>rfl
 | 3,_=>rfl
 | 4,_=>rfl
 | 5,_=>rfl
 | 6,_=>rfl
 | 7,_=>rfl
 | 8,_=>rfl
 | 9,_=>rfl
 | 10,_=>rfl
 | 11,_=>rfl
 | 12,_=>rfl
 | 13,_=>rfl
 | 14,_=>rfl
 | 15,_=>rfl
 | 16,_=>rfl
 | 17,_=>rfl
 | 18,_=>rfl
 | 19,_=>rfl
 | 20,_=>rfl
 | k+21,hk=>absurd hk (by omega)
end Go.Proofs.YtnfdknhhkdphhaaGreatDoor
namespace Go.Proofs.YtnfdknhhkdphhaaGreatDoor
open Go.RowKit Go.Extern.Stop Go.Stop Go.Extern
theorem num_nil (w:World):Calls Tryz.prog 9 #[.nilIface] w fun e w'=>e=.returned (.int .i64 0)∧w=w':=by
 go_enter Tryz.func9,Tryz.ntmps9
 go_wp2
 go_ret
 exact ⟨rfl,rfl⟩
def found (k i:Nat):Int:=if k < i then (k:Int)+1 else -1
theorem found_no {k i:Nat} (h:i ≤ k):found k i = -1:=by unfold found;rw [if_neg (by omega)]
theorem found_yes {k i:Nat} (h:k < i):found k i=(k:Int)+1:=by unfold found;rw [if_pos h]
theorem num_any (A:Nat→Addr) (k n:Nat) (v:Value) (w:World) (hA:Errs w A) (hk:k < 21) (hch:Chain w (A k) n v) :
   Calls Tryz.prog 9 #[v] w fun e w'=>e=.returned (.int .i64 ((k:Int)+1))∧Below w.heap.size w w':=by
 have HA:=Lib.hid hA
 obtain ⟨t,q,rfl⟩:=hch.iface
 have HC:=Lib.hid hch
 clear hch
 have g0:w.cell? ⟨0,0,none⟩=some (.iface 232 (.pointer (some (A 0)))):=(hA 0 (by omega)).1
 have g1:w.cell? ⟨1,0,none⟩=some (.iface 232 (.pointer (some (A 1)))):=(hA 1 (by omega)).1
 have g2:w.cell? ⟨2,0,none⟩=some (.iface 232 (.pointer (some (A 2)))):=(hA 2 (by omega)).1
 have g3:w.cell? ⟨3,0,none⟩=some (.iface 232 (.pointer (some (A 3)))):=(hA 3 (by omega)).1
 have g4:w.cell? ⟨4,0,none⟩=some (.iface 232 (.pointer (some (A 4)))):=(hA 4 (by omega)).1
 have g5:w.cell? ⟨5,0,none⟩=some (.iface 232 (.pointer (some (A 5)))):=(hA 5 (by omega)).1
 have g6:w.cell? ⟨6,0,none⟩=some (.iface 232 (.pointer (some (A 6)))):=(hA 6 (by omega)).1
 have g7:w.cell? ⟨7,0,none⟩=some (.iface 232 (.pointer (some (A 7)))):=(hA 7 (by omega)).1
 have g8:w.cell? ⟨8,0,none⟩=some (.iface 232 (.pointer (some (A 8)))):=(hA 8 (by omega)).1
 have g9:w.cell? ⟨9,0,none⟩=some (.iface 232 (.pointer (some (A 9)))):=(hA 9 (by omega)).1
 have g10:w.cell? ⟨10,0,none⟩=some (.iface 232 (.pointer (some (A 10)))):=(hA 10 (by omega)).1
 have g11:w.cell? ⟨11,0,none⟩=some (.iface 232 (.pointer (some (A 11)))):=(hA 11 (by omega)).1
 have g12:w.cell? ⟨12,0,none⟩=some (.iface 232 (.pointer (some (A 12)))):=(hA 12 (by omega)).1
 have g13:w.cell? ⟨13,0,none⟩=some (.iface 232 (.pointer (some (A 13)))):=(hA 13 (by omega)).1
 have g14:w.cell? ⟨14,0,none⟩=some (.iface 232 (.pointer (some (A 14)))):=(hA 14 (by omega)).1
 have g15:w.cell? ⟨15,0,none⟩=some (.iface 232 (.pointer (some (A 15)))):=(hA 15 (by omega)).1
 have g16:w.cell? ⟨16,0,none⟩=some (.iface 232 (.pointer (some (A 16)))):=(hA 16 (by omega)).1
 have g17:w.cell? ⟨17,0,none⟩=some (.iface 232 (.pointer (some (A 17)))):=(hA 17 (by omega)).1
 have g18:w.cell? ⟨18,0,none⟩=some (.iface 232 (.pointer (some (A 18)))):=(hA 18 (by omega)).1
 have g19:w.cell? ⟨19,0,none⟩=some (.iface 232 (.pointer (some (A 19)))):=(hA 19 (by omega)).1
 have g20:w.cell? ⟨20,0,none⟩=some (.iface 232 (.pointer (some (A 20)))):=(hA 20 (by omega)).1
 clear hA
 go_enter Tryz.func9,Tryz.ntmps9
 go_wp2_with fail
 generalize hW0:World.alloc w _=W
 have e0:W.heap[w.heap.size]? = some (.cells (errCells A) 30):=by rw [← hW0];exact heap_alloc_new _ _
 have hbW:Below w.heap.size w W:=by rw [← hW0];exact (Below.refl _ _).alloc (Nat.le_refl _) _
 have hszW:W.heap.size=w.heap.size+1:=by rw [← hW0];simp
 have E0:=Lib.hid e0
 clear hW0 e0 g0 g1 g2 g3 g4 g5 g6 g7 g8 g9 g10 g11 g12 g13 g14 g15 g16 g17 g18 g19 g20
 have HW:=Lib.hid (HA.out.below hbW)
 have HCW:=Lib.hid (HC.out.of_cells (w':=W) fun p x hx=>(hbW.cell (p:=⟨p,1,none⟩) (block_lt_of_cell hx)).trans hx)
 clear HA HC
 have HF:Hid (found k 0 = -1):=Lib.hid (found_no (Nat.zero_le _))
 go_loopw [33,4] (fun i f wr=>∃ m:Nat,i=.int .i64 m∧m ≤ 21∧f=.int .i64 (found k m)∧wr=W) (fun i _ _=>21 - (intOf i).toNat)
 case atStart=>exact ⟨0,rfl,Nat.zero_le _,by rw [HF.out],rfl⟩
 case round =>
   obtain ⟨m,rfl,hm,rfl,rfl⟩:=hrel
   by_cases hlt:m < 21
   · have hma:=HW.out m hlt
     have hka:=HW.out k hk
     have l0:wr.cell? ⟨w.heap.size,m,none⟩=some (.iface 232 (.pointer (some (A m)))):=by simp only [World.cell?,E0.out];exact errCells_get A m hlt
     obtain ⟨-,-,-,-,c1,ty1,r1⟩:=hma
     obtain ⟨-,-,-,-,c2,ty2,r2⟩:=hka
     have his:=is_any (A k) (A m) n (.iface t q) wr HCW.out c2 c1 ty2 ty1 r2 r1
     have HIS:=Lib.hid his
     clear his r1 r2
     have hmm:IntKind.i64.wrap ((m:Int)+1)=(m:Int)+1:=IntWalk.i64_in _ (by omega)
     rcases Nat.lt_trichotomy m k with h | h | h
     · have hd:decide (A k=A m)=false:=by simpa using Errs.apart HW.out hk hlt (by omega)
       rw [hd] at HIS
       rw [found_no (Nat.le_of_lt h)]
       have HN:=Lib.hid (found_no (show m+1 ≤ k by omega))
       clear hd
       go_wp2_with (go_at_call 27;refine HIS.out.mono ?_;rintro e w' ⟨rfl,rfl⟩)
       exact ⟨⟨m+1,by go_num,by omega,by rw [HN.out],trivial⟩,by simp [intOf];omega⟩
     · subst h
       have hd:decide (A m=A m)=true:=by simp
       rw [hd] at HIS
       rw [found_no (Nat.le_refl _)]
       have HN:=Lib.hid (found_yes (show m < m+1 by omega))
       clear hd
       go_wp2_with (go_at_call 27;refine HIS.out.mono ?_;rintro e w' ⟨rfl,rfl⟩)
       exact ⟨⟨m+1,by go_num,by omega,by rw [HN.out],trivial⟩,by simp [intOf];omega⟩
     · have hd:decide (A k=A m)=false:=by simpa using Errs.apart HW.out hk hlt (by omega)
       rw [hd] at HIS
       rw [found_yes h]
       have HN:=Lib.hid (found_yes (show k < m+1 by omega))
       clear hd
       go_wp2_with (go_at_call 27;refine HIS.out.mono ?_;rintro e w' ⟨rfl,rfl⟩)
       exact ⟨⟨m+1,by go_num,by omega,by rw [HN.out],trivial⟩,by simp [intOf];omega⟩
   · obtain rfl:m=21:=by omega
     rw [found_yes hk]
     go_wp2
     go_ret
     exact ⟨rfl,hbW⟩
end Go.Proofs.YtnfdknhhkdphhaaGreatDoor
