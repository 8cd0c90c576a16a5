/- Part 1 of what these proofs need. -/
import Derived.WalkKit
import Derived.WalkSpells
import Derived.WalkLawsBesides
import Derived.Handy
import Derived.Lib.Hide
import Derived.Test.YtedjkbmfpjmlpaaDoorRows
import Derived.Deep.MidRow
import Derived.IntWalk
import Derived.Test.YtedjkbmfpjmlpaaDoorChecked
import Derived.BigFrame
import Derived.BigQuiet
import Derived.Laws.AppendOwn
import Derived.Great.BuildSlice
import Derived.Laws.MakeOwn
import Derived.Deep.RegionWith
import Derived.Deep.RegionHeld3
import Derived.StillTailTactics
import Derived.Deep.QuietTactic
import Derived.RegionTactic
import Derived.Shelf.Spec.TrailingZeros
import Derived.Laws.AppendOwnNone
import Derived.Lib.UnsafeStr
import Derived.Laws.BytesArg
import Derived.Laws.IdiomStrings
import Derived.Deep.DeepCutAuto
import Derived.OwnWalk
import Derived.Deep.CutBlock
import Derived.BigRegion
set_option maxRecDepth 100000
set_option maxHeartbeats 16000000
namespace Go.Proofs.YtedjkbmfpjmlpaaDoor
open Go.RowKit
theorem ret_int {k:IntKind} {a b:Int} (h:a=b):Ending.returned (.int k a)=.returned (.int k b):=by rw [h]
theorem ret_bool {a b:Bool} (h:a=b):Ending.returned (.bool a)=.returned (.bool b):=by rw [h]
theorem four {w:World} {b:Nat} {x0 x1 x2 x3:Value} {t:TypeId} (h:w.heap[b]? = some (.cells #[x0,x1,x2,x3] t)) :
   w.cell? ⟨b,0,none⟩=some x0∧w.cell? ⟨b,1,none⟩=some x1∧w.cell? ⟨b,2,none⟩=some x2∧w.cell? ⟨b,3,none⟩=some x3 ∧
   w.frozen? ⟨b,0,none⟩=false∧w.frozen? ⟨b,1,none⟩=false∧w.frozen? ⟨b,2,none⟩=false∧w.frozen? ⟨b,3,none⟩=false:=by
 simp [World.cell?,World.frozen?,h]
theorem heap_alloc_lt {w:World} {b:Nat} {o x:Obj} (h:w.heap[b]? = some x):(w.alloc o).heap[b]? = some x:=by
 rw [Below.heap_alloc _ _ _ (by have:=Array.getElem?_eq_some_iff.1 h;exact this.1)];exact h
theorem two_new (w:World) (x y:Obj):((w.alloc x).alloc y).heap[w.heap.size]? = some x∧((w.alloc x).alloc y).heap[w.heap.size+1]? = some y:=by
 show ((w.heap.push x).push y)[w.heap.size]? = _∧((w.heap.push x).push y)[w.heap.size+1]? = _
 constructor
 · simp [Array.getElem?_push]
 · rw [Array.getElem?_push,if_pos (by simp)]
theorem cell_new (w:World) (cs:Array Value) (t:TypeId) (j:Nat):(w.alloc (.cells cs t)).cell? ⟨w.heap.size,j,none⟩=cs[j]?:=by
 have e:(w.alloc (.cells cs t)).heap[w.heap.size]? = some (.cells cs t):=by show (w.heap.push _)[w.heap.size]? = _;simp
 unfold World.cell?;rw [e];rfl
theorem three_new (w:World) (x y z:Obj):(((w.alloc x).alloc y).alloc z).heap[w.heap.size]? = some x∧(((w.alloc x).alloc y).alloc z).heap[w.heap.size+1]? = some y∧(((w.alloc x).alloc y).alloc z).heap[w.heap.size+1+1]? = some z:=by
 show (((w.heap.push x).push y).push z)[w.heap.size]? = _∧(((w.heap.push x).push y).push z)[w.heap.size+1]? = _∧(((w.heap.push x).push y).push z)[w.heap.size+1+1]? = _
 refine ⟨?_, ?_, ?_⟩
 · simp [Array.getElem?_push];omega
 · rw [Array.getElem?_push,if_neg (by simp),Array.getElem?_push,if_pos (by simp)]
 · rw [Array.getElem?_push,if_pos (by simp)]
theorem below_setRow {B g:Nat} {a w:World} (h:Below B a w) (hg:B ≤ g) (cs:Array Value):Below B a (w.setRow g cs) :=
 h.trans ⟨rfl,rfl,rfl,by simp,fun k hk=>by simp only [World.setRow,Array.getElem?_modify];rw [if_neg (by omega)]⟩
theorem heap_setRow {w:World} {g:Nat} {old cs:Array Value} {t:TypeId} (h:w.heap[g]? = some (.cells old t)):(w.setRow g cs).heap[g]? = some (.cells cs t):=by
 simp [World.setRow,Array.getElem?_modify,h]
theorem keep_blk {w w':World} {g:Nat} {x:Obj} (hb:Below w.heap.size w w') (h:w.heap[g]? = some x):w'.heap[g]? = some x :=
 (hb.block g (Array.getElem?_eq_some_iff.1 h).1).trans h
theorem heap_setRow_other (w:World) (g:Nat) (cs:Array Value) {k:Nat} (h:k ≠ g):(w.setRow g cs).heap[k]? = w.heap[k]?:=by
 simp only [World.setRow,Array.getElem?_modify];rw [if_neg (Ne.symm h)]
end Go.Proofs.YtedjkbmfpjmlpaaDoor
namespace Go.Proofs.YtedjkbmfpjmlpaaDoor
open Go.RowKit
inductive Pa
 | node (lo hi pick:Int) (subs:List Pa)
namespace Pa
def lo:Pa→Int | .node k _ _ _=>k
def hi:Pa→Int | .node _ a _ _=>a
def pick:Pa→Int | .node _ _ b _=>b
def subs:Pa→List Pa | .node _ _ _ s=>s
theorem size_sub {t u:Pa} (h:u ∈ t.subs):SizeOf.sizeOf u < SizeOf.sizeOf t:=by
 cases t with
 | node k a b s =>
   have:=List.sizeOf_lt_of_mem h
   simp only [subs] at this
   simp only [node.sizeOf_spec]
   omega
theorem rec_subs {P:Pa→Prop} (h:∀ t,(∀ u,u ∈ t.subs→P u)→P t) (t:Pa):P t:=by
 induction hn:SizeOf.sizeOf t using Nat.strongRecOn generalizing t with
 | _ n ih=>exact h t fun u hu=>ih _ (by have:=size_sub hu;omega) u rfl
def cells (t:Pa) (s:Value):Array Value:=#[.int .i64 t.lo,.int .i64 t.hi,.int .i64 t.pick,s]
end Pa
structure FourAt (w:World) (b o:Nat) (t:Pa) (s:Value):Prop where
 c0:w.cell? ⟨b,o,none⟩=some (.int .i64 t.lo)
 c1:w.cell? ⟨b,o+1,none⟩=some (.int .i64 t.hi)
 c2:w.cell? ⟨b,o+2,none⟩=some (.int .i64 t.pick)
 c3:w.cell? ⟨b,o+3,none⟩=some s
inductive PasAt (w:World) (B:Nat→Prop):Value→List Pa→Prop
 | mk (p:Option Addr) (cap:Nat) (ts:List Pa) (S:Nat→Value) (hlen:ts.length * 48 ≤ 140737488351232) (hcap:ts.length ≤ cap)
     (hc:∀ i t,ts[i]? = some t→∃ b o,p=some ⟨b,o,none⟩∧B b∧FourAt w b (o+i * 4) t (S i))
     (hs:∀ i t,ts[i]? = some t→PasAt w B (S i) t.subs):PasAt w B (.slice p ts.length cap) ts
def PaV (w:World) (B:Nat→Prop) (v:Value) (t:Pa):Prop:=∃ s,v=.agg (t.cells s)∧PasAt w B s t.subs
theorem FourAt.keep {w w':World} {b o:Nat} {t:Pa} {s:Value} (h:FourAt w b o t s) (hk:w'.heap[b]? = w.heap[b]?):FourAt w' b o t s:=by
 have e:∀ k,w'.cell? ⟨b,k,none⟩=w.cell? ⟨b,k,none⟩:=fun k=>by unfold World.cell?;rw [hk]
 exact ⟨(e _).trans h.c0,(e _).trans h.c1,(e _).trans h.c2,(e _).trans h.c3⟩
theorem FourAt.lt {w:World} {b o:Nat} {t:Pa} {s:Value} (h:FourAt w b o t s):b < w.heap.size:=block_lt_of_cell h.c0
theorem PasAt.keep {w w':World} {B:Nat→Prop} {s:Value} {ts:List Pa} (h:PasAt w B s ts) (hk:∀ b,b < w.heap.size→B b→w'.heap[b]? = w.heap[b]?):PasAt w' B s ts:=by
 induction h with
 | mk p cap ts S hlen hcap hc hs ih =>
   refine .mk p cap ts S hlen hcap (fun i t hi=>?_) (fun i t hi=>ih i t hi)
   obtain ⟨b,o,hp,hB,h10⟩:=hc i t hi
   exact ⟨b,o,hp,hB,h10.keep (hk b h10.lt hB)⟩
theorem PasAt.later {w w':World} {B:Nat→Prop} {s:Value} {ts:List Pa} (h:PasAt w B s ts) (hb:Below w.heap.size w w'):PasAt w' B s ts :=
 h.keep fun b hb' _=>hb.block b hb'
theorem PasAt.mono {w:World} {B B':Nat→Prop} {s:Value} {ts:List Pa} (h:PasAt w B s ts) (hB:∀ b,b < w.heap.size→B b→B' b):PasAt w B' s ts:=by
 induction h with
 | mk p cap ts S hlen hcap hc hs ih =>
   refine .mk p cap ts S hlen hcap (fun i t hi=>?_) (fun i t hi=>ih i t hi)
   obtain ⟨b,o,hp,hb,h10⟩:=hc i t hi
   exact ⟨b,o,hp,hB b h10.lt hb,h10⟩
theorem PasAt.nil {w:World} {B:Nat→Prop} {p:Option Addr} {cap:Nat} : PasAt w B (.slice p 0 cap) [] :=
 .mk p cap [] (fun _=>.nilIface) (by simp) (by simp) (fun i t h=>by simp at h) (fun i t h=>by simp at h)
theorem PasAt.slice {w:World} {B:Nat→Prop} {s:Value} {ts:List Pa} (h:PasAt w B s ts):∃ p cap,s=.slice p ts.length cap∧ts.length * 48 ≤ 140737488351232:=by
 cases h with | mk p cap _ S hlen hcap hc hs=>exact ⟨p,cap,rfl,hlen⟩
theorem PasAt.get {w:World} {B:Nat→Prop} {p:Option Addr} {len cap:Nat} {ts:List Pa} (h:PasAt w B (.slice p len cap) ts) {i:Nat} {t:Pa} (hi:ts[i]? = some t) :
   ∃ b o s,p=some ⟨b,o,none⟩∧B b∧FourAt w b (o+i * 4) t s∧PasAt w B s t.subs:=by
 cases h with
 | mk _ _ _ S hlen hcap hc hs =>
   obtain ⟨b,o,hp,hB,h10⟩:=hc i t hi
   exact ⟨b,o,S i,hp,hB,h10,hs i t hi⟩
end Go.Proofs.YtedjkbmfpjmlpaaDoor
namespace Go.Proofs.YtedjkbmfpjmlpaaDoor
namespace Oc
def U (x:BitVec 64):Int:=x.toNat
theorem U_nonneg (x:BitVec 64):0 ≤ U x:=by unfold U;omega
theorem U_inj {x y:BitVec 64} (h:U x=U y):x=y:=by
 unfold U at h;exact BitVec.eq_of_toNat_eq (by omega)
theorem U_toNat (x:BitVec 64):(U x).toNat=x.toNat:=by unfold U;omega
theorem ofInt_U (x:BitVec 64):BitVec.ofInt 64 (U x)=x:=by
 unfold U;rw [BitVec.ofInt_natCast];exact BitVec.eq_of_toNat_eq (by rw [BitVec.toNat_ofNat];exact Nat.mod_eq_of_lt x.isLt)
theorem wrapU (n:Int):IntKind.u64.wrap n=U (BitVec.ofInt 64 n):=by
 rw [IntKind.wrap_u64];unfold U;rw [BitVec.toNat_ofInt];omega
theorem andU (x y:BitVec 64):bits .and .u64 (U x) (U y)=U (x &&& y):=by
 show IntKind.u64.wrap ((BitVec.ofInt 64 (U x) &&& BitVec.ofInt 64 (U y)).toNat:Int)=_
 rw [ofInt_U,ofInt_U,wrapU];exact congrArg U (ofInt_U (x &&& y))
theorem orU (x y:BitVec 64):bits .or .u64 (U x) (U y)=U (x ||| y):=by
 show IntKind.u64.wrap ((BitVec.ofInt 64 (U x) ||| BitVec.ofInt 64 (U y)).toNat:Int)=_
 rw [ofInt_U,ofInt_U,wrapU];exact congrArg U (ofInt_U (x ||| y))
theorem shrU (x:BitVec 64) (n:Nat):U x / ((2 ^ n:Nat):Int)=U (x >>> n):=by
 unfold U;rw [BitVec.toNat_ushiftRight,Nat.shiftRight_eq_div_pow];simp
theorem hasBit (x:BitVec 64) (k:Nat):(bits .and .u64 (U x / (2:Int) ^ k) 1 == 1)=x.getLsbD k:=by
 have e:U x / (2:Int) ^ k=U (x >>> k):=by
   rw [← shrU];congr 1
 have e1:(1:Int)=U 1#64:=by decide
 rw [e]
 show (bits .and .u64 (U (x >>> k)) (U 1#64) == U 1#64)=_
 rw [andU]
 have hb:(x >>> k &&& 1#64)=if x.getLsbD k then 1#64 else 0#64:=by
   apply BitVec.eq_of_getLsbD_eq;intro i hi
   by_cases h:i=0
   · subst h;cases hx:x.getLsbD k <;> simp [hx]
   · cases hx:x.getLsbD k <;> simp [h]
 rw [hb]
 cases x.getLsbD k <;> decide
theorem shlBit (k:Nat):IntKind.u64.wrap ((2:Int) ^ k)=U (1#64 <<< k):=by
 rw [wrapU];refine congrArg U ?_
 apply BitVec.eq_of_toNat_eq
 rw [BitVec.toNat_shiftLeft,show ((2:Int) ^ k)=((2 ^ k:Nat):Int) by simp,BitVec.ofInt_natCast,BitVec.toNat_ofNat,Nat.shiftLeft_eq]
 simp
def cnt (p:Nat→Bool):Nat→Nat
 | 0=>0
 | n+1=>cnt p n+(p n).toNat
theorem cnt_le (p:Nat→Bool):∀ n,cnt p n ≤ n
 | 0=>Nat.le_refl _
 | n+1=>by have:=cnt_le p n;have:=(p n).toNat_le;simp only [cnt];omega
def w4 (a b c d:BitVec 64) (k:Nat):BitVec 64:=if k=0 then a else if k=1 then b else if k=2 then c else d
def mem (a b c d:BitVec 64) (i:Nat):Bool:=(w4 a b c d (i / 64)).getLsbD (i % 64)
def wn (p:Nat→Bool) (k:Nat):Nat→Nat
 | 0=>0
 | n+1=>wn p k n+(if p (64 * k+n) then 2 ^ n else 0)
theorem wn_lt (p:Nat→Bool) (k:Nat):∀ n,wn p k n < 2 ^ n
 | 0=>by simp [wn]
 | n+1=>by have:=wn_lt p k n;simp only [wn];split <;> omega
theorem wn_bit (p:Nat→Bool) (k:Nat):∀ n i,i < n→(wn p k n).testBit i=p (64 * k+i)
 | 0,i,h=>by omega
 | n+1,i,h=>by
   have hl:=wn_lt p k n
   simp only [wn]
   by_cases e:i=n
   · subst e
     by_cases q:p (64 * k+i)=true
     · rw [if_pos q,q,Nat.add_comm,Nat.testBit_two_pow_add_eq,Nat.testBit_lt_two_pow hl];rfl
     · rw [if_neg q,Nat.add_zero,Nat.testBit_lt_two_pow hl];simpa using q
   · rw [← wn_bit p k n i (by omega)]
     split
     · rw [Nat.add_comm,Nat.testBit_two_pow_add_gt (by omega)]
     · rw [Nat.add_zero]
def mk (p:Nat→Bool) (k:Nat):BitVec 64:=BitVec.ofNat 64 (wn p k 64)
theorem mk_bit (p:Nat→Bool) (k i:Nat) (h:i < 64):(mk p k).getLsbD i=p (64 * k+i):=by
 unfold mk;rw [BitVec.getLsbD_ofNat,wn_bit p k 64 i h];simp [h]
theorem mk_eq {p:Nat→Bool} {k:Nat} {x:BitVec 64} (h:∀ i,i < 64→p (64 * k+i)=x.getLsbD i):mk p k=x:=by
 apply BitVec.eq_of_getLsbD_eq;intro i hi;rw [mk_bit p k i hi,h i hi]
def orAll (A:Nat→BitVec 64):Nat→BitVec 64
 | 0=>0#64
 | n+1=>orAll A n ||| A n
theorem mk_same {p q:Nat→Bool} {v k:Nat} (hq:∀ j,q j=(p j || j == v)) (hk:v / 64 ≠ k):mk q k=mk p k:=by
 refine mk_eq fun i hi=>?_
 rw [mk_bit p k i hi,hq,show (64 * k+i == v)=false from by simp;omega];simp
theorem mk_turn {p q:Nat→Bool} {v k:Nat} (hq:∀ j,q j=(p j || j == v)) (hk:v / 64=k):mk q k=mk p k ||| (1#64 <<< (v % 64)):=by
 refine mk_eq fun i hi=>?_
 rw [hq,BitVec.getLsbD_or,mk_bit p k i hi]
 congr 1
 rw [BitVec.getLsbD_shiftLeft,BitVec.getLsbD_one,Bool.eq_iff_iff]
 simp [hi];omega
theorem mk_none (k:Nat):mk (fun _=>false) k=0#64:=by
 refine mk_eq fun i _=>?_
 simp
end Oc
end Go.Proofs.YtedjkbmfpjmlpaaDoor
namespace Go.Proofs.YtedjkbmfpjmlpaaDoor
open Go.RowKit
theorem has_any (a b c d:BitVec 64) (n:Nat) (hn:n < 256) (w:World) :
   Calls Tryd.prog 16 #[(.agg #[.int .u64 (Oc.U a),.int .u64 (Oc.U b),.int .u64 (Oc.U c),.int .u64 (Oc.U d)]),.int .u8 n] w fun e w'=>e=.returned (.bool (Oc.mem a b c d n))∧Below w.heap.size w w':=by
 have ha:=Oc.U_nonneg a;have hb:=Oc.U_nonneg b;have hc:=Oc.U_nonneg c;have hd:=Oc.U_nonneg d
 have hq:n / 64=0 ∨ n / 64=1 ∨ n / 64=2 ∨ n / 64=3:=by omega
 rcases hq with hq | hq | hq | hq
 all_goals
   go_enter Tryd.func16,Tryd.ntmps16
   go_wp2
   go_returns
   refine ⟨ret_bool ?_,by go_grown⟩
   rw [Oc.hasBit]
   unfold Oc.mem Oc.w4
   rw [hq]
   rfl
end Go.Proofs.YtedjkbmfpjmlpaaDoor
namespace Go.Proofs.YtedjkbmfpjmlpaaDoor
open Go.RowKit
inductive Tr
 | node (kind:Int) (a b c d:BitVec 64) (subs:List Tr) (num least most:Int) (bare:Bool)
namespace Tr
def kind:Tr→Int | .node k _ _ _ _ _ _ _ _ _=>k
def w0:Tr→BitVec 64 | .node _ a _ _ _ _ _ _ _ _=>a
def w1:Tr→BitVec 64 | .node _ _ b _ _ _ _ _ _ _=>b
def w2:Tr→BitVec 64 | .node _ _ _ c _ _ _ _ _ _=>c
def w3:Tr→BitVec 64 | .node _ _ _ _ d _ _ _ _ _=>d
def subs:Tr→List Tr | .node _ _ _ _ _ s _ _ _ _=>s
def num:Tr→Int | .node _ _ _ _ _ _ n _ _ _=>n
def least:Tr→Int | .node _ _ _ _ _ _ _ m _ _=>m
def most:Tr→Int | .node _ _ _ _ _ _ _ _ m _=>m
def bare:Tr→Bool | .node _ _ _ _ _ _ _ _ _ b=>b
theorem size_sub {t u:Tr} (h:u ∈ t.subs):SizeOf.sizeOf u < SizeOf.sizeOf t:=by
 cases t with
 | node k a b c d s n lo hi br =>
   have:=List.sizeOf_lt_of_mem h
   simp only [subs] at this
   simp only [node.sizeOf_spec]
   omega
theorem rec_subs {P:Tr→Prop} (h:∀ t,(∀ u,u ∈ t.subs→P u)→P t) (t:Tr):P t:=by
 induction hn:SizeOf.sizeOf t using Nat.strongRecOn generalizing t with
 | _ n ih=>exact h t fun u hu=>ih _ (by have:=size_sub hu;omega) u rfl
theorem eta:∀ t:Tr,t=.node t.kind t.w0 t.w1 t.w2 t.w3 t.subs t.num t.least t.most t.bare
 | .node _ _ _ _ _ _ _ _ _ _=>rfl
def cells (t:Tr) (s:Value):Array Value :=
 #[.int .i64 t.kind,.int .u64 (Oc.U t.w0),.int .u64 (Oc.U t.w1),.int .u64 (Oc.U t.w2),.int .u64 (Oc.U t.w3),s,.int .i64 t.num,.int .i64 t.least,.int .i64 t.most,.bool t.bare]
end Tr
structure TenAt (w:World) (b o:Nat) (t:Tr) (s:Value):Prop where
 c0:w.cell? ⟨b,o,none⟩=some (.int .i64 t.kind)
 c1:w.cell? ⟨b,o+1,none⟩=some (.int .u64 (Oc.U t.w0))
 c2:w.cell? ⟨b,o+2,none⟩=some (.int .u64 (Oc.U t.w1))
 c3:w.cell? ⟨b,o+3,none⟩=some (.int .u64 (Oc.U t.w2))
 c4:w.cell? ⟨b,o+4,none⟩=some (.int .u64 (Oc.U t.w3))
 c5:w.cell? ⟨b,o+5,none⟩=some s
 c6:w.cell? ⟨b,o+6,none⟩=some (.int .i64 t.num)
 c7:w.cell? ⟨b,o+7,none⟩=some (.int .i64 t.least)
 c8:w.cell? ⟨b,o+8,none⟩=some (.int .i64 t.most)
 c9:w.cell? ⟨b,o+9,none⟩=some (.bool t.bare)
inductive TreesAt (w:World) (B:Nat→Prop):Value→List Tr→Prop
 | mk (p:Option Addr) (cap:Nat) (ts:List Tr) (S:Nat→Value) (hlen:ts.length * 96 ≤ 140737488351232)
     (hc:∀ i t,ts[i]? = some t→∃ b o,p=some ⟨b,o,none⟩∧B b∧TenAt w b (o+i * 10) t (S i))
     (hs:∀ i t,ts[i]? = some t→TreesAt w B (S i) t.subs):TreesAt w B (.slice p ts.length cap) ts
def NodeV (w:World) (B:Nat→Prop) (v:Value) (t:Tr):Prop:=∃ s,v=.agg (t.cells s)∧TreesAt w B s t.subs
theorem TenAt.keep {w w':World} {b o:Nat} {t:Tr} {s:Value} (h:TenAt w b o t s) (hk:w'.heap[b]? = w.heap[b]?):TenAt w' b o t s:=by
 have e:∀ k,w'.cell? ⟨b,k,none⟩=w.cell? ⟨b,k,none⟩:=fun k=>by unfold World.cell?;rw [hk]
 exact ⟨(e _).trans h.c0,(e _).trans h.c1,(e _).trans h.c2,(e _).trans h.c3,(e _).trans h.c4,(e _).trans h.c5,(e _).trans h.c6,(e _).trans h.c7,(e _).trans h.c8,(e _).trans h.c9⟩
theorem TenAt.lt {w:World} {b o:Nat} {t:Tr} {s:Value} (h:TenAt w b o t s):b < w.heap.size:=block_lt_of_cell h.c0
theorem TreesAt.keep {w w':World} {B:Nat→Prop} {s:Value} {ts:List Tr} (h:TreesAt w B s ts) (hk:∀ b,b < w.heap.size→B b→w'.heap[b]? = w.heap[b]?):TreesAt w' B s ts:=by
 induction h with
 | mk p cap ts S hlen hc hs ih =>
   refine .mk p cap ts S hlen (fun i t hi=>?_) (fun i t hi=>ih i t hi)
   obtain ⟨b,o,hp,hB,h10⟩:=hc i t hi
   exact ⟨b,o,hp,hB,h10.keep (hk b h10.lt hB)⟩
theorem TreesAt.later {w w':World} {B:Nat→Prop} {s:Value} {ts:List Tr} (h:TreesAt w B s ts) (hb:Below w.heap.size w w'):TreesAt w' B s ts :=
 h.keep fun b hb' _=>hb.block b hb'
theorem TreesAt.mono {w:World} {B B':Nat→Prop} {s:Value} {ts:List Tr} (h:TreesAt w B s ts) (hB:∀ b,b < w.heap.size→B b→B' b):TreesAt w B' s ts:=by
 induction h with
 | mk p cap ts S hlen hc hs ih =>
   refine .mk p cap ts S hlen (fun i t hi=>?_) (fun i t hi=>ih i t hi)
   obtain ⟨b,o,hp,hb,h10⟩:=hc i t hi
   exact ⟨b,o,hp,hB b h10.lt hb,h10⟩
theorem TreesAt.nil {w:World} {B:Nat→Prop} {p:Option Addr} {cap:Nat} : TreesAt w B (.slice p 0 cap) [] :=
 .mk p cap [] (fun _=>.nilIface) (by simp) (fun i t h=>by simp at h) (fun i t h=>by simp at h)
theorem TreesAt.slice {w:World} {B:Nat→Prop} {s:Value} {ts:List Tr} (h:TreesAt w B s ts):∃ p cap,s=.slice p ts.length cap∧ts.length * 96 ≤ 140737488351232:=by
 cases h with | mk p cap _ S hlen hc hs=>exact ⟨p,cap,rfl,hlen⟩
theorem TreesAt.get {w:World} {B:Nat→Prop} {p:Option Addr} {len cap:Nat} {ts:List Tr} (h:TreesAt w B (.slice p len cap) ts) {i:Nat} {t:Tr} (hi:ts[i]? = some t) :
   ∃ b o s,p=some ⟨b,o,none⟩∧B b∧TenAt w b (o+i * 10) t s∧TreesAt w B s t.subs:=by
 cases h with
 | mk _ _ _ S hlen hc hs =>
   obtain ⟨b,o,hp,hB,h10⟩:=hc i t hi
   exact ⟨b,o,S i,hp,hB,h10,hs i t hi⟩
end Go.Proofs.YtedjkbmfpjmlpaaDoor
namespace Go.Proofs.YtedjkbmfpjmlpaaDoor
open Go.RowKit
structure Touch (F:List Nat) (w w':World):Prop where
 os:w'.os=w.os
 tape:w'.tape=w.tape
 output:w'.output=w.output
 size:w.heap.size ≤ w'.heap.size
 block:∀ k,k < w.heap.size→k ∉ F→w'.heap[k]? = w.heap[k]?
theorem Touch.of_below {w w':World} (F:List Nat) (h:Below w.heap.size w w'):Touch F w w':=⟨h.os,h.tape,h.output,h.size,fun k hk _=>h.block k hk⟩
theorem Touch.trans {F:List Nat} {a b c:World} (h:Touch F a b) (k:Touch F b c):Touch F a c :=
 ⟨k.os.trans h.os,k.tape.trans h.tape,k.output.trans h.output,Nat.le_trans h.size k.size,fun i hi hn=>(k.block i (Nat.lt_of_lt_of_le hi h.size) hn).trans (h.block i hi hn)⟩
theorem Touch.below {F:List Nat} {a b:World} {B:Nat} (h:Touch F a b) (hB:∀ k,k ∈ F→B ≤ k) (hs:B ≤ a.heap.size):Below B a b :=
 ⟨h.os,h.tape,h.output,h.size,fun k hk=>h.block k (by omega) fun hm=>by have:=hB k hm;omega⟩
theorem heap_setCells_other {b k:Nat} (hk:k ≠ b):∀ (vs:List Value) (o:Nat) (w:World),(w.setCells b o vs).heap[k]? = w.heap[k]?
 | [],_,_=>rfl
 | v :: r,o,w=>by rw [World.setCells,heap_setCells_other hk r (o+1) _,Below.heap_setCell _ _ _ _ hk]
theorem size_setCells (b:Nat):∀ (vs:List Value) (o:Nat) (w:World),(w.setCells b o vs).heap.size=w.heap.size
 | [],_,_=>rfl
 | v :: r,o,w=>by rw [World.setCells,size_setCells b r (o+1) _];simp [World.setCell]
theorem streams_setCells (b:Nat):∀ (vs:List Value) (o:Nat) (w:World),(w.setCells b o vs).os=w.os∧(w.setCells b o vs).tape=w.tape∧(w.setCells b o vs).output=w.output
 | [],_,_=>⟨rfl,rfl,rfl⟩
 | v :: r,o,w=>by rw [World.setCells];exact streams_setCells b r (o+1) _
theorem Touch.setCells {F:List Nat} {a w:World} {b:Nat} (h:Touch F a w) (hb:b ∈ F) (o:Nat) (vs:List Value):Touch F a (w.setCells b o vs):=by
 obtain ⟨h1,h2,h3⟩:=streams_setCells b vs o w
 exact ⟨h1.trans h.os,h2.trans h.tape,h3.trans h.output,by rw [size_setCells];exact h.size,fun k hk hn=>by
   rw [heap_setCells_other (k:=k) (b:=b) (fun e=>by subst e;exact hn hb)];exact h.block k hk hn⟩
inductive Owned (w:World):Value→List Tr→List Nat→Prop
 | nil (p:Option Addr) (cap:Nat):Owned w (.slice p 0 cap) [] []
 | row (g o cap:Nat) (ts:List Tr) (S:Nat→Value) (L:Nat→List Nat) (hlen:ts.length * 96 ≤ 140737488351232) (hf:∃ cs ty,w.heap[g]? = some (.cells cs ty (0,0)))
     (hc:∀ i t,ts[i]? = some t→TenAt w g (o+i * 10) t (S i)) (hs:∀ i t,ts[i]? = some t→Owned w (S i) t.subs (L i))
     (hg:∀ i,i < ts.length→g ∉ L i) (hd:∀ i j b,i < ts.length→j < ts.length→i ≠ j→b ∈ L i→b ∉ L j) :
     Owned w (.slice (some ⟨g,o,none⟩) ts.length cap) ts (g :: (List.range ts.length).flatMap L)
theorem mem_range_flatMap {L:Nat→List Nat} {n b:Nat} : b ∈ (List.range n).flatMap L ↔ ∃ i,i < n∧b ∈ L i:=by
 simp [List.mem_flatMap,List.mem_range]
theorem lt_of_some {ts:List Tr} {i:Nat} {t:Tr} (h:ts[i]? = some t):i < ts.length:=by
 by_cases hi:i < ts.length
 · exact hi
 · rw [List.getElem?_eq_none (by omega)] at h;cases h
theorem Owned.trees {w:World} {s:Value} {ts:List Tr} {F:List Nat} (h:Owned w s ts F):TreesAt w (fun b=>b ∈ F) s ts:=by
 induction h with
 | nil p cap=>exact TreesAt.nil
 | row g o cap ts S L hlen hf hc hs hg hd ih =>
   refine .mk _ cap ts S hlen (fun i t hi=>⟨g,o,rfl,List.mem_cons_self,hc i t hi⟩) (fun i t hi=>?_)
   exact (ih i t hi).mono fun b _ hb=>List.mem_cons_of_mem _ (mem_range_flatMap.2 ⟨i,lt_of_some hi,hb⟩)
theorem Owned.lt {w:World} {s:Value} {ts:List Tr} {F:List Nat} (h:Owned w s ts F):∀ b,b ∈ F→b < w.heap.size:=by
 induction h with
 | nil p cap=>intro b hb;cases hb
 | row g o cap ts S L hlen hf hc hs hg hd ih =>
   intro b hb
   rcases List.mem_cons.1 hb with rfl | hb
   · obtain ⟨cs,ty,h⟩:=hf;exact (Array.getElem?_eq_some_iff.1 h).1
   · obtain ⟨i,hi,hb⟩:=mem_range_flatMap.1 hb
     exact ih i ts[i] (List.getElem?_eq_getElem hi) b hb
theorem Owned.keep {w w':World} {s:Value} {ts:List Tr} {F:List Nat} (h:Owned w s ts F) (hk:∀ b,b ∈ F→w'.heap[b]? = w.heap[b]?):Owned w' s ts F:=by
 induction h with
 | nil p cap=>exact .nil p cap
 | row g o cap ts S L hlen hf hc hs hg hd ih =>
   refine .row g o cap ts S L hlen ?_ (fun i t hi=>(hc i t hi).keep (hk g List.mem_cons_self)) (fun i t hi=>ih i t hi fun b hb=>hk b (List.mem_cons_of_mem _ (mem_range_flatMap.2 ⟨i,lt_of_some hi,hb⟩))) hg hd
   obtain ⟨cs,ty,h⟩:=hf
   exact ⟨cs,ty,(hk g List.mem_cons_self).trans h⟩
theorem Owned.later {w w':World} {s:Value} {ts:List Tr} {F:List Nat} (h:Owned w s ts F) (hb:Below w.heap.size w w'):Owned w' s ts F:=h.keep fun b hbF=>hb.block b (h.lt b hbF)
end Go.Proofs.YtedjkbmfpjmlpaaDoor
namespace Go.Proofs.YtedjkbmfpjmlpaaDoor
open Go.RowKit
namespace Ps
def tabA (n:Nat) (F:Nat→Nat→Nat):Array Value:=Array.ofFn (n:=n * n) fun i=>.int .i32 ((F (i.val / n) (i.val % n):Nat):Int)
theorem tabA_size (n:Nat) (F:Nat→Nat→Nat):(tabA n F).size=n * n:=by simp [tabA]
theorem at_lt {n a b:Nat} (ha:a < n) (hb:b < n):a * n+b < n * n:=by
 have:(a+1) * n ≤ n * n:=Nat.mul_le_mul_right _ ha
 rw [Nat.succ_mul] at this;omega
theorem at_div {n a b:Nat} (hb:b < n):(a * n+b) / n=a∧(a * n+b) % n=b:=by
 have hn:0 < n:=by omega
 constructor
 · rw [Nat.mul_comm,Nat.mul_add_div hn,Nat.div_eq_of_lt hb,Nat.add_zero]
 · rw [Nat.mul_comm,Nat.mul_add_mod,Nat.mod_eq_of_lt hb]
theorem tabA_get {n:Nat} (F:Nat→Nat→Nat) {a b:Nat} (ha:a < n) (hb:b < n):(tabA n F)[a * n+b]? = some (.int .i32 ((F a b:Nat):Int)):=by
 unfold tabA
 rw [Array.getElem?_eq_getElem (by simp;exact at_lt ha hb)]
 simp only [Array.getElem_ofFn,(at_div hb).1,(at_div hb).2]
theorem tabA_set {n:Nat} {F G:Nat→Nat→Nat} {a b v:Nat} (_ha:a < n) (hb:b < n) (hv:G a b=v) (ho:∀ c d,d < n→¬ (c=a∧d=b)→G c d=F c d):(tabA n F).setIfInBounds (a * n+b) (.int .i32 ((v:Nat):Int))=tabA n G:=by
 apply Array.ext_getElem?
 intro i
 by_cases hi:i < n * n
 · have hn:0 < n:=by omega
   obtain ⟨c,d,hc,hd,rfl⟩:∃ c d,c < n∧d < n∧i=c * n+d:=⟨i / n,i % n,Nat.div_lt_of_lt_mul hi,Nat.mod_lt _ hn,by rw [Nat.mul_comm];exact (Nat.div_add_mod i n).symm⟩
   rw [tabA_get G hc hd]
   by_cases e:c=a∧d=b
   · obtain ⟨rfl,rfl⟩:=e
     rw [Array.getElem?_setIfInBounds_self_of_lt (by rw [tabA_size];exact at_lt hc hd),hv]
   · have hne:a * n+b ≠ c * n+d:=fun h=>e ⟨by rw [← (at_div (a:=c) hd).1,← h,(at_div hb).1],by rw [← (at_div (a:=c) hd).2,← h,(at_div hb).2]⟩
     rw [Array.getElem?_setIfInBounds_ne hne,tabA_get F hc hd,ho c d hd e]
 · rw [Array.getElem?_eq_none (by simp [tabA_size];omega),Array.getElem?_eq_none (by rw [tabA_size];omega)]
def tabV (g lo m:Nat):Value:=.agg #[.int .i64 (lo:Int),.int .i64 ((lo:Int)+(m:Int)),.slice (some ⟨g,0,none⟩) ((m+1) * (m+1)) ((m+1) * (m+1))]
end Ps
def TabAtP (w:World) (g m:Nat) (F:Nat→Nat→Nat):Prop:=w.heap[g]? = some (.cells (Ps.tabA (m+1) F) 21)
theorem TabAtP.later {w w':World} {g m:Nat} {F:Nat→Nat→Nat} (h:TabAtP w g m F) (hb:Below w.heap.size w w'):TabAtP w' g m F:=keep_blk hb h
theorem TabAtP.lt {w:World} {g m:Nat} {F:Nat→Nat→Nat} (h:TabAtP w g m F):g < w.heap.size:=(Array.getElem?_eq_some_iff.1 h).1
theorem TabAtP.cell {w:World} {g m:Nat} {F:Nat→Nat→Nat} (h:TabAtP w g m F) {a b:Nat} (ha:a ≤ m) (hb:b ≤ m):w.cell? ⟨g,a * (m+1)+b,none⟩=some (.int .i32 ((F a b:Nat):Int))∧w.frozen? ⟨g,a * (m+1)+b,none⟩=false:=by
 unfold TabAtP at h
 constructor
 · unfold World.cell?;rw [h];exact Ps.tabA_get F (by omega) (by omega)
 · unfold World.frozen?;rw [h];simp
theorem TabAtP.put {w:World} {g m:Nat} {F G:Nat→Nat→Nat} (h:TabAtP w g m F) {a b v:Nat} (ha:a ≤ m) (hb:b ≤ m) (hv:G a b=v) (ho:∀ c d,d ≤ m→¬ (c=a∧d=b)→G c d=F c d):TabAtP (w.setCell ⟨g,a * (m+1)+b,none⟩ (.int .i32 ((v:Nat):Int))) g m G:=by
 unfold TabAtP at *
 simp [World.setCell,Array.getElem?_modify,h,Ps.tabA_set (n:=m+1) (by omega) (by omega) hv (fun c d hd hn=>ho c d (by omega) hn)]
theorem pscell_any (g lo m a b:Nat) (hlo:lo+m ≤ 1000) (ha:a ≤ m) (hb:b ≤ m) (w:World) :
   Calls Tryd.prog 119 #[Ps.tabV g lo m,.int .i64 ((lo:Int)+(a:Int)),.int .i64 ((lo:Int)+(b:Int))] w fun e w'=>e=.returned (.pointer (some ⟨g,a * (m+1)+b,none⟩))∧Below w.heap.size w w':=by
 have hlt:a * (m+1)+b < (m+1) * (m+1):=Ps.at_lt (by omega) (by omega)
 have h1:IntKind.i64.wrap ((lo:Int)+(a:Int) - (lo:Int))=(a:Int):=by rw [show (lo:Int)+(a:Int) - (lo:Int)=a by omega];exact IntWalk.i64_in _ (by omega)
 have hx:(m+1) * (m+1) ≤ 1001 * 1001:=Nat.mul_le_mul (by omega) (by omega)
 have hE:wrap64 (wrap64 (wrap64 ((a:Int) * ((lo:Int)+(m:Int) - (lo:Int)+1))+((lo:Int)+(b:Int))) - (lo:Int))=((a * (m+1)+b:Nat):Int):=by
   rw [show (lo:Int)+(m:Int) - (lo:Int)+1=((m+1:Nat):Int) by omega,← Int.natCast_mul]
   have hy:a * (m+1) ≤ 1001 * 1001:=Nat.mul_le_mul (by omega) (by omega)
   generalize a * (m+1)=y at *
   rw [IntWalk.wrap64_in (y:Int) (by omega),IntWalk.wrap64_in ((y:Int)+((lo:Int)+(b:Int))) (by omega),IntWalk.wrap64_in _ (by omega)]
   omega
 generalize a * (m+1)+b=A at *
 unfold Ps.tabV
 generalize (m+1) * (m+1)=N at *
 have hlt2:(A:Int) < (N:Int):=by omega
 go_enter Tryd.func119,Tryd.ntmps119
 go_wp2
 go_ret
 exact ⟨rfl,by go_grown⟩
theorem psat_any (g lo m a b:Nat) (hlo:lo+m ≤ 1000) (ha:a ≤ m) (hb:b ≤ m) (F:Nat→Nat→Nat) (hF:F a b ≤ 1000000) (w:World) (hT:TabAtP w g m F) :
   Calls Tryd.prog 80 #[Ps.tabV g lo m,.int .i64 ((lo:Int)+(a:Int)),.int .i64 ((lo:Int)+(b:Int))] w fun e w'=>e=.returned (.int .i64 ((F a b:Nat):Int))∧Below w.heap.size w w':=by
 have HC:=Lib.hid (fun w9=>pscell_any g lo m a b hlo ha hb w9)
 have hc:IntKind.i64.wrap ((F a b:Nat):Int)=((F a b:Nat):Int):=IntWalk.i64_in _ (by omega)
 have HT:=Lib.hid hT
 unfold Ps.tabV at *
 have HX:=Lib.hid (heap_alloc_new w (.cells #[.int .i64 (lo:Int),.int .i64 ((lo:Int)+(m:Int)),.slice (some ⟨g,0,none⟩) ((m+1) * (m+1)) ((m+1) * (m+1))] 127))
 have HB0:=Lib.hid (show Below w.heap.size w (w.alloc (.cells #[.int .i64 (lo:Int),.int .i64 ((lo:Int)+(m:Int)),.slice (some ⟨g,0,none⟩) ((m+1) * (m+1)) ((m+1) * (m+1))] 127)) from (Below.refl _ _).alloc (Nat.le_refl _) _)
 have HCC:=Lib.hid (fun wx (h:Below w.heap.size w wx)=>(HT.out.later h).cell ha hb)
 clear hT
 generalize F a b=z at *
 go_enter Tryd.func80,Tryd.ntmps80
 go_wp2_with (first
   | (refine wpList_load_row rfl 127 (.tmp 3) rfl w.heap.size rfl 127 _ (0,0) _ HX.out Tryd.underlying127 rfl (by kernel_rfl) ?_)
   | fail)
 refine (HC.out _).mono ?_
 rintro e w1 ⟨rfl,hb1⟩
 obtain ⟨c0,-⟩:=HCC.out w1 (HB0.out.trans (hb1.mono HB0.out.size))
 have HB1:=Lib.hid (HB0.out.trans (hb1.mono HB0.out.size))
 clear hb1
 go_wp2
 go_ret
 exact ⟨rfl,HB1.out⟩
def Ps.putF (F:Nat→Nat→Nat) (a b v:Nat):Nat→Nat→Nat:=fun c d=>if c=a∧d=b then v else F c d
theorem psadd_any (g lo m a b n:Nat) (hlo:lo+m ≤ 1000) (ha:a ≤ m) (hb:b ≤ m) (F:Nat→Nat→Nat) (hF:F a b ≤ 1000000) (hn:n ≤ 1000000000000) (w:World) (hT:TabAtP w g m F) :
   Calls Tryd.prog 164 #[Ps.tabV g lo m,.int .i64 ((lo:Int)+(a:Int)),.int .i64 ((lo:Int)+(b:Int)),.int .i64 (n:Int)] w fun e w'=>e=.returned (.tuple #[])∧TabAtP w' g m (Ps.putF F a b (min (F a b+n) 1000000))∧Touch [g] w w':=by
 have HC:=Lib.hid (fun w9=>pscell_any g lo m a b hlo ha hb w9)
 have HT:=Lib.hid hT
 unfold Ps.tabV at *
 have HX:=Lib.hid (heap_alloc_new w (.cells #[.int .i64 (lo:Int),.int .i64 ((lo:Int)+(m:Int)),.slice (some ⟨g,0,none⟩) ((m+1) * (m+1)) ((m+1) * (m+1))] 127))
 have HB0:=Lib.hid (show Below w.heap.size w (w.alloc (.cells #[.int .i64 (lo:Int),.int .i64 ((lo:Int)+(m:Int)),.slice (some ⟨g,0,none⟩) ((m+1) * (m+1)) ((m+1) * (m+1))] 127)) from (Below.refl _ _).alloc (Nat.le_refl _) _)
 have HCC:=Lib.hid (fun wx (h:Below w.heap.size w wx)=>(HT.out.later h).cell ha hb)
 have HPUT:=Lib.hid (fun wx (h:Below w.heap.size w wx)=>(HT.out.later h).put (G:=Ps.putF F a b (min (F a b+n) 1000000)) ha hb (if_pos ⟨rfl,rfl⟩) (fun c d _ h=>if_neg h))
 clear hT
 have hc:IntKind.i64.wrap ((F a b:Nat):Int)=((F a b:Nat):Int):=IntWalk.i64_in _ (by omega)
 have hs:IntKind.i64.wrap (((F a b:Nat):Int)+(n:Int))=((F a b:Nat):Int)+(n:Int):=IntWalk.i64_in _ (by omega)
 generalize hz:F a b=z at *
 obtain ⟨R,hR⟩:∃ R,min (z+n) 1000000=R:=⟨_,rfl⟩
 rw [hR] at HPUT ⊢
 have HR:=Lib.hid hR
 clear hR hz
 go_enter Tryd.func164,Tryd.ntmps164
 go_wp2_with (first
   | (refine wpList_load_row rfl 127 (.tmp 4) rfl w.heap.size rfl 127 _ (0,0) _ HX.out Tryd.underlying127 rfl (by kernel_rfl) ?_)
   | fail)
 refine (HC.out _).mono ?_
 rintro e w1 ⟨rfl,hb1⟩
 obtain ⟨c0,f0⟩:=HCC.out w1 (HB0.out.trans (hb1.mono HB0.out.size))
 have HB1:=Lib.hid (HB0.out.trans (hb1.mono HB0.out.size))
 clear hb1
 have hi32:z+n ≤ 1000000→IntKind.i32.wrap ((z:Int)+(n:Int))=(z:Int)+(n:Int):=fun h=>by
   unfold IntKind.wrap;simp [IntKind.signed,IntKind.bits];omega
 have HT1:=Lib.hid (fun v=>(Touch.of_below [g] HB1.out).setCells (b:=g) (by simp) (a * (m+1)+b) [v])
 by_cases hle:z+n ≤ 1000000
 · have h32:=hi32 hle
   obtain rfl:R=z+n:=by have:=HR.out;omega
   have hlei:(z:Int)+(n:Int) ≤ 1000000:=by omega
   have hnl:¬ ((1000000:Int) < (z:Int)+(n:Int)):=by omega
   clear hle hi32
   go_wp2
   go_end0
   exact ⟨rfl,HPUT.out w1 HB1.out,HT1.out _⟩
 · obtain rfl:R=1000000:=by have:=HR.out;omega
   have hlei:¬ ((z:Int)+(n:Int) ≤ 1000000):=by omega
   clear hle hi32
   go_wp2
   go_end0
   exact ⟨rfl,HPUT.out w1 HB1.out,HT1.out _⟩
end Go.Proofs.YtedjkbmfpjmlpaaDoor
namespace Go.Proofs.YtedjkbmfpjmlpaaDoor
open Go.RowKit
def cb (s:ByteArray) (i:Nat):Nat:=if h:i < s.size then s[i].toNat else 256
theorem cb_in {s:ByteArray} {i:Nat} (h:i < s.size):s[i].toNat=cb s i:=by unfold cb;rw [dif_pos h]
theorem cb_lt {s:ByteArray} {i:Nat} (h:i < s.size):cb s i < 256:=by rw [← cb_in h];exact UInt8.toNat_lt _
structure Sc where
 t:ByteArray
 nl:Bool
 hd:Bool
 tl:Bool
namespace Sc
def inn (x:Sc) (i:Int):Bool:=decide (0 ≤ i) && decide (i < x.t.size)
def byt (x:Sc) (i:Int):Int:=if x.inn i then (cb x.t i.toNat:Int) else 0
def nlAt (x:Sc) (i:Int):Bool:=x.inn i && (x.nl && cb x.t i.toNat == 10)
def beg (x:Sc) (i:Int):Bool:=(x.hd && i == 0) || x.nlAt (i - 1)
def fin (x:Sc) (i:Int):Bool:=(x.tl && i == x.t.size) || x.nlAt i
theorem inn_nat (x:Sc) (k:Nat):x.inn (k:Int)=decide (k < x.t.size):=by
 unfold inn;simp
theorem inn_neg (x:Sc) {i:Int} (h:i < 0):x.inn i=false:=by
 unfold inn;rw [decide_eq_false (by omega)];rfl
theorem inn_big (x:Sc) {i:Int} (h:(x.t.size:Int) ≤ i):x.inn i=false:=by
 unfold inn;rw [show decide (i < (x.t.size:Int))=false from decide_eq_false (by omega),Bool.and_false]
theorem nlAt_out (x:Sc) {i:Int} (h:x.inn i=false):x.nlAt i=false:=by unfold nlAt;rw [h];rfl
theorem nlAt_neg (x:Sc) {i:Int} (h:i < 0):x.nlAt i=false:=x.nlAt_out (x.inn_neg h)
theorem nlAt_big (x:Sc) {i:Int} (h:(x.t.size:Int) ≤ i):x.nlAt i=false:=x.nlAt_out (x.inn_big h)
def new (s:ByteArray) (c e:Int):Sc:=⟨s,bits .and .i64 c 4 != 0,bits .and .i64 e 1 == 0,bits .and .i64 e 2 == 0⟩
end Sc
def ScAt (w:World) (b:Nat) (x:Sc):Prop:=w.heap[b]? = some (.cells #[.string x.t,.bool x.nl,.bool x.hd,.bool x.tl] 96)
theorem ScAt.below {w w':World} {b:Nat} {x:Sc} (h:ScAt w b x) (hb:Below w.heap.size w w'):ScAt w' b x:=keep_blk hb h
theorem scbyte_any (x:Sc) (b:Nat) (i:Int) (w:World) (h:ScAt w b x) :
   Calls Tryd.prog 126 #[.pointer (some ⟨b,0,none⟩),.int .i64 i] w fun e w'=>e=.returned (.tuple #[.int .u8 (x.byt i),.bool (x.inn i)])∧w'=w:=by
 obtain ⟨c0,-,-,-,-⟩:=four h
 by_cases h0:i < 0
 · have hd:decide (i < 0)=true:=by simpa using h0
   rw [show x.byt i=0 by unfold Sc.byt;rw [x.inn_neg h0];rfl,x.inn_neg h0]
   go_enter Tryd.func126,Tryd.ntmps126
   go_wp2
   go_ret2
   exact ⟨rfl,rfl⟩
 · obtain ⟨k,rfl⟩:∃ k:Nat,i=k:=⟨i.toNat,by omega⟩
   have hd:decide ((k:Int) < 0)=false:=by simp
   by_cases h1:k < x.t.size
   · have hd1:decide ((x.t.size:Int) ≤ k)=false:=by simp;omega
     have hd2:decide (x.t.size ≤ k)=false:=by simp;omega
     have he:=cb_in h1
     rw [show x.byt (k:Int)=(cb x.t k:Int) by unfold Sc.byt;rw [x.inn_nat,decide_eq_true h1];rfl,x.inn_nat,decide_eq_true h1]
     go_enter Tryd.func126,Tryd.ntmps126
     go_wp2
     go_ret2
     exact ⟨rfl,rfl⟩
   · have hd1:decide ((x.t.size:Int) ≤ k)=true:=by simp;omega
     have hd2:decide (x.t.size ≤ k)=true:=by simp;omega
     rw [show x.byt (k:Int)=0 by unfold Sc.byt;rw [x.inn_nat,decide_eq_false h1];rfl,x.inn_nat,decide_eq_false h1]
     go_enter Tryd.func126,Tryd.ntmps126
     go_wp2
     go_ret2
     exact ⟨rfl,rfl⟩
theorem scnl_any (x:Sc) (b:Nat) (i:Int) (w:World) (h:ScAt w b x) :
   Calls Tryd.prog 127 #[.pointer (some ⟨b,0,none⟩),.int .i64 i] w fun e w'=>e=.returned (.bool (x.nlAt i))∧w'=w:=by
 have HB:=Lib.hid (scbyte_any x b i w h)
 obtain ⟨-,c1,-,-,-⟩:=four h
 clear h
 have hn:x.nlAt i=(x.inn i && (x.nl && x.byt i == 10)):=by
   unfold Sc.nlAt Sc.byt
   cases x.inn i with
   | false=>rfl
   | true=>simp only [Bool.true_and,if_true];congr 1;rw [Bool.eq_iff_iff];simp only [beq_iff_eq];omega
 rw [hn]
 clear hn
 generalize x.byt i=y at *
 generalize x.inn i=t at *
 generalize x.nl=n at *
 cases t <;> cases n <;> cases hy:(y == 10)
 all_goals
   go_enter Tryd.func127,Tryd.ntmps127
   go_wp2_with fail
   refine HB.out.mono ?_
   rintro e w' ⟨rfl,rfl⟩
   go_wp2
   go_ret
   exact ⟨rfl,rfl⟩
theorem Sc.nlAt_wrap (x:Sc) (i:Int) (hi : -9223372036854775808 ≤ i∧i ≤ 9223372036854775807) (ht:x.t.size ≤ 4611686018427387904):x.nlAt (wrap64 (i - 1))=x.nlAt (i - 1):=by
 by_cases hm:i = -9223372036854775808
 · have hw:wrap64 (i - 1)=9223372036854775807:=by unfold wrap64;omega
   rw [x.nlAt_neg (by omega:i - 1 < 0),x.nlAt_big (by omega)]
 · rw [show wrap64 (i - 1)=i - 1 by unfold wrap64;omega]
theorem scbeg_any (x:Sc) (b:Nat) (i:Int) (w:World) (h:ScAt w b x) (hi : -9223372036854775808 ≤ i∧i ≤ 9223372036854775807) (ht:x.t.size ≤ 4611686018427387904) :
   Calls Tryd.prog 101 #[.pointer (some ⟨b,0,none⟩),.int .i64 i] w fun e w'=>e=.returned (.bool (x.beg i))∧w'=w:=by
 have hn:=x.nlAt_wrap i hi ht
 have HN:=Lib.hid (scnl_any x b (wrap64 (i - 1)) w h)
 obtain ⟨-,-,c2,-,-⟩:=four h
 clear h hi ht
 unfold Sc.beg
 rw [← hn]
 clear hn
 generalize x.nlAt (wrap64 (i - 1))=y at *
 generalize x.hd=d at *
 cases d <;> cases hy:(i == 0)
 all_goals
   go_enter Tryd.func101,Tryd.ntmps101
   go_wp2_with fail
   first
     | (go_ret;exact ⟨rfl,rfl⟩)
     | (refine HN.out.mono ?_;rintro e w' ⟨rfl,rfl⟩;go_wp2;go_ret;exact ⟨rfl,rfl⟩)
theorem scfin_any (x:Sc) (b:Nat) (i:Int) (w:World) (h:ScAt w b x) :
   Calls Tryd.prog 102 #[.pointer (some ⟨b,0,none⟩),.int .i64 i] w fun e w'=>e=.returned (.bool (x.fin i))∧w'=w:=by
 have HN:=Lib.hid (scnl_any x b i w h)
 obtain ⟨c0,-,-,c3,-⟩:=four h
 clear h
 unfold Sc.fin
 generalize x.nlAt i=y at *
 generalize x.tl=d at *
 cases d <;> cases hy:(i == (x.t.size:Int))
 all_goals
   go_enter Tryd.func102,Tryd.ntmps102
   go_wp2_with fail
   first
     | (go_ret;exact ⟨rfl,rfl⟩)
     | (refine HN.out.mono ?_;rintro e w' ⟨rfl,rfl⟩;go_wp2;go_ret;exact ⟨rfl,rfl⟩)
theorem sclen_any (x:Sc) (b:Nat) (w:World) (h:ScAt w b x) :
   Calls Tryd.prog 96 #[.pointer (some ⟨b,0,none⟩)] w fun e w'=>e=.returned (.int .i64 x.t.size)∧w'=w:=by
 obtain ⟨c0,-,-,-,-⟩:=four h
 go_enter Tryd.func96,Tryd.ntmps96
 go_wp2
 go_ret
 exact ⟨rfl,rfl⟩
theorem scnew_any (s:ByteArray) (c e0:Int) (w:World) :
   Calls Tryd.prog 26 #[.string s,.int .i64 c,.int .i64 e0] w fun e w'=>e=.returned (.pointer (some ⟨w.heap.size,0,none⟩))∧ScAt w' w.heap.size (Sc.new s c e0)∧Below w.heap.size w w'∧w'.heap.size=w.heap.size+1:=by
 go_enter Tryd.func26,Tryd.ntmps26
 go_wp2
 go_ret
 refine ⟨rfl,heap_alloc_new _ _,(Below.refl _ _).alloc (Nat.le_refl _) _,by simp⟩
end Go.Proofs.YtedjkbmfpjmlpaaDoor
namespace Go.Proofs.YtedjkbmfpjmlpaaDoor
open Go.RowKit
namespace Tr
def fieldsOk (t:Tr):Prop :=
 ((t.kind=1 ∨ t.kind=3 ∨ t.kind=4)∧t.w0=0#64∧t.w1=0#64∧t.w2=0#64∧t.w3=0#64∧t.subs=[]∧t.num=0∧t.least=0∧t.most=0∧t.bare=false) ∨
 (t.kind=2∧t.subs=[]∧t.num=0∧t.least=0∧t.most=0∧t.bare=false) ∨
 ((t.kind=5 ∨ t.kind=6)∧t.w0=0#64∧t.w1=0#64∧t.w2=0#64∧t.w3=0#64∧2 ≤ t.subs.length∧t.num=0∧t.least=0∧t.most=0∧t.bare=false) ∨
 (t.kind=7∧t.w0=0#64∧t.w1=0#64∧t.w2=0#64∧t.w3=0#64∧t.subs.length=1∧1 ≤ t.num∧t.num ≤ 999∧t.least=0∧t.most=0∧t.bare=false) ∨
 (t.kind=8∧t.w0=0#64∧t.w1=0#64∧t.w2=0#64∧t.w3=0#64∧t.subs.length=1∧t.num=0∧0 ≤ t.least∧t.least ≤ 255∧(t.most = -1 ∨ (t.least ≤ t.most∧t.most ≤ 255))∧(t.bare=true→t.least=0))
inductive InForm:Tr→Prop
 | mk (t:Tr) (h:fieldsOk t) (hs:∀ u,u ∈ t.subs→InForm u):InForm t
theorem InForm.fields {t:Tr} (h:InForm t):fieldsOk t:=by cases h;assumption
theorem InForm.sub {t u:Tr} (h:InForm t) (hu:u ∈ t.subs):InForm u:=by cases h with | mk _ _ hs=>exact hs u hu
def sat (n:Nat):Nat:=min 2001 n
theorem sat_sat (a b:Nat):sat (sat a+b)=sat (a+b):=by unfold sat;omega
theorem sat_le (a:Nat):sat a ≤ 2001:=by unfold sat;omega
def repSz (lo hi:Int) (n:Nat):Nat :=
 if hi=0 then 1
 else if lo=1∧hi=1 then n
 else if lo=0∧(hi=1 ∨ hi = -1) then sat (1+n)
 else if hi = -1 then sat (1+lo.toNat * n+(1+n))
 else sat (1+lo.toNat * n+(hi - lo).toNat * (1+n))
mutual
def szT:Tr→Nat
 | .node k _ _ _ _ s _ lo hi _=>if k=8 then repSz lo hi (szH s) else sat (1+szS s)
def szS:List Tr→Nat
 | []=>0
 | t :: l=>szT t+szS l
def szH:List Tr→Nat
 | []=>0
 | t :: _=>szT t
end
theorem repSz_le {lo hi:Int} {n:Nat} (h:n ≤ 2001):repSz lo hi n ≤ 2001:=by
 unfold repSz
 split
 · omega
 split
 · exact h
 split
 · exact sat_le _
 split <;> exact sat_le _
theorem szT_le:∀ t:Tr,szT t ≤ 2001:=by
 intro t
 induction t using Tr.rec_subs with
 | h t ih =>
   cases t with
   | node k a b c d s n lo hi br =>
     rw [szT]
     split
     · refine repSz_le ?_
       cases s with
       | nil=>simp [szH]
       | cons x l=>rw [szH];exact ih x (by simp [subs])
     · exact sat_le _
theorem szS_append:∀ (l m:List Tr),szS (l ++ m)=szS l+szS m
 | [],m=>by simp [szS]
 | t :: l,m=>by rw [List.cons_append,szS,szS,szS_append l m];omega
theorem szS_take (l:List Tr) (m:Nat) (x:Tr) (h:l[m]? = some x):szS (l.take (m+1))=szS (l.take m)+szT x:=by
 rw [List.take_add_one,h,Option.toList_some,szS_append,szS,szS];rfl
end Tr
theorem trcount_any (a b:Nat) (ha:a ≤ 2001) (hb:b ≤ 2002) (x y:Int) (hx:x=a) (hy:y=b) (w:World):Calls Tryd.prog 124 #[.int .i64 x,.int .i64 y] w fun e w'=>e=.returned (.int .i64 (Tr.sat (a+b):Nat))∧w=w':=by
 subst hx hy
 have hw:IntKind.i64.wrap ((a:Int)+b)=(a:Int)+b:=IntWalk.i64_in _ (by omega)
 go_enter Tryd.func124,Tryd.ntmps124
 go_wp2
 all_goals
   go_ret
   exact ⟨ret_int (by unfold Tr.sat;omega),rfl⟩
theorem box5 {w:World} {b:Nat} {t:Tr} {s:Value} {ty:TypeId} (h:w.heap[b]? = some (.cells (t.cells s) ty)) :
   w.cell? ⟨b,0,none⟩=some (.int .i64 t.kind)∧w.cell? ⟨b,4+1,none⟩=some s∧w.cell? ⟨b,5,none⟩=some s∧w.cell? ⟨b,7,none⟩=some (.int .i64 t.least)∧w.cell? ⟨b,8,none⟩=some (.int .i64 t.most):=by
 simp [World.cell?,h,Tr.cells]
def SizeEnd (n:Nat) (w:World) (e:Ending) (w':World):Prop:=e=.returned (.int .i64 n)∧Below w.heap.size w w'
theorem refsize_seq (t:Tr) (ih:∀ u,u ∈ t.subs→u.InForm→∀ (w:World) (B:Nat→Prop) (v:Value),NodeV w B v u→Calls Tryd.prog 87 #[v] w (SizeEnd u.szT w)) (hf:t.InForm) (hk:t.kind ≠ 8)
   (w:World) (B:Nat→Prop) (v:Value) (hv:NodeV w B v t):Calls Tryd.prog 87 #[v] w (SizeEnd t.szT w):=by
 obtain ⟨s,rfl,hs⟩:=hv
 obtain ⟨p,cap,rfl,hlen⟩:=hs.slice
 have HE:=Lib.hid (show t.szT=Tr.sat (1+Tr.szS t.subs) by cases t;rw [Tr.szT];simp only [Tr.kind] at hk;rw [if_neg hk];rfl)
 have HF:=Lib.hid hf
 generalize hts:t.subs=ts at *
 have HTS:=Lib.hid hts;have IH:=Lib.hid ih;have HS:=Lib.hid hs
 have e8:(t.kind != 8)=true:=by simpa using hk
 clear ih hs hf hk hts
 unfold Tr.cells
 go_enter Tryd.func87,Tryd.ntmps87
 go_wp2
 go_loopw [3,4] (fun nv iv wr=>∃ m:Nat,iv=.int .i64 m∧m ≤ ts.length∧nv=.int .i64 (Tr.sat (1+Tr.szS (ts.take m)):Nat)∧Hid (Below w.heap.size w wr)∧w.heap.size < wr.heap.size∧Hid (wr.heap[w.heap.size]? = some (.cells (t.cells (.slice p ts.length cap)) 37))) (fun _ iv _=>ts.length - (intOf iv).toNat)
 case atStart=>exact ⟨0,rfl,Nat.zero_le _,rfl,Lib.hid (by go_grown),by simp,Lib.hid (heap_alloc_new _ _)⟩
 case round =>
   obtain ⟨m,rfl,hm,rfl,HB,hsz,Z0⟩:=hrel
   have wm:IntKind.i64.wrap ((m:Int)+1)=(m:Int)+1:=IntWalk.i64_in _ (by omega)
   obtain ⟨-,-,f5,-,-⟩:=box5 Z0.out
   by_cases hlt:m < ts.length
   · obtain ⟨x,hx⟩:∃ x,ts[m]? = some x:=⟨_,List.getElem?_eq_getElem hlt⟩
     obtain ⟨b1,o1,s1,rfl,-,t1,sub1⟩:=HS.out.get hx
     obtain ⟨d0,d1,d2,d3,d4,d5,d6,d7,d8,d9⟩:=t1.keep (HB.out.block _ t1.lt)
     have hmem:=List.mem_of_getElem? hx
     have HC:=Lib.hid (IH.out x hmem (HF.out.sub (by rw [HTS.out];exact hmem)) wr B (.agg (x.cells s1)) ⟨_,rfl,sub1.later HB.out⟩)
     have hle:=Tr.sat_le (1+Tr.szS (ts.take m));have hlx:=Tr.szT_le x
     have HST:=Lib.hid (Tr.szS_take ts m x hx)
     clear t1 sub1 hmem hx
     generalize hn:Tr.sat (1+Tr.szS (ts.take m))=n at *
     have HN:=Lib.hid hn
     clear hn
     unfold Tr.cells at HC
     go_wp2_with fail
     refine HC.out.mono ?_
     rintro e w2 ⟨rfl,hb2⟩
     have HB2:=Lib.hid (HB.out.trans (hb2.mono HB.out.size));have Z2:=Lib.hid (keep_blk hb2 Z0.out)
     have hsz2:w.heap.size < w2.heap.size:=Nat.lt_of_lt_of_le hsz hb2.size
     clear d0 d1 d2 d3 d4 d5 d6 d7 d8 d9 f5 hb2 HC
     go_wp2_with fail
     refine (trcount_any n x.szT hle (by omega) _ _ rfl rfl _).mono ?_
     rintro e w3 ⟨rfl,rfl⟩
     have hsum:Tr.sat (n+x.szT)=Tr.sat (1+Tr.szS (ts.take (m+1))):=by rw [← HN.out,Tr.sat_sat,HST.out];congr 1;omega
     rw [hsum]
     clear hsum
     go_wp2
     exact ⟨⟨m+1,by go_num,by omega,rfl,HB2,hsz2,Z2⟩,by simp [intOf];omega⟩
   · obtain rfl:m=ts.length:=by omega
     have HX:=Lib.hid (show Tr.sat (1+Tr.szS (ts.take ts.length))=t.szT by rw [List.take_length,HE.out])
     go_wp2
     go_ret
     exact ⟨ret_int (by rw [HX.out]),HB.out⟩
theorem refsize_rep (t x:Tr) (ih:∀ (w:World) (B:Nat→Prop) (v:Value),NodeV w B v x→Calls Tryd.prog 87 #[v] w (SizeEnd x.szT w)) (hsub:t.subs=[x]) (hk:t.kind=8) (h0:0 ≤ t.least) (h1:t.least ≤ 255) (h2:t.most = -1 ∨ (t.least ≤ t.most∧t.most ≤ 255))
   (w:World) (B:Nat→Prop) (v:Value) (hv:NodeV w B v t):Calls Tryd.prog 87 #[v] w (SizeEnd t.szT w):=by
 obtain ⟨s,rfl,hs⟩:=hv
 have hsz0:t.szT=Tr.repSz t.least t.most x.szT:=by
   cases t;simp only [Tr.kind,Tr.subs] at hk hsub;subst hk hsub;rw [Tr.szT,if_pos rfl,Tr.szH];rfl
 rw [hsub] at hs
 obtain ⟨p,cap,rfl,hlen⟩:=hs.slice
 have hs:TreesAt w B (.slice p 1 cap) [x]:=hs
 obtain ⟨b1,o1,s1,rfl,-,t1,sub1⟩:=hs.get (i:=0) (t:=x) rfl
 have HE:=Lib.hid hsz0
 have HC:=Lib.hid ih
 have t1':TenAt w b1 o1 x s1:=by simpa using t1
 have T1:=Lib.hid t1';have SUB:=Lib.hid sub1
 have e8:(t.kind != 8)=false:=by simpa using hk
 have hN:=Tr.szT_le x
 clear ih hs hk hsub hsz0 t1 t1' sub1 hlen
 obtain ⟨lo,hlo⟩:∃ lo:Nat,t.least=lo:=⟨t.least.toNat,by omega⟩
 rw [hlo] at h0 h1 h2
 by_cases hm0:t.most=0
 · have HX:=Lib.hid (show t.szT=1 by rw [HE.out];unfold Tr.repSz;rw [if_pos hm0])
   unfold Tr.cells
   rw [hm0]
   clear hlo hm0
   go_enter Tryd.func87,Tryd.ntmps87
   go_wp2
   go_ret
   exact ⟨ret_int (by rw [HX.out];rfl),by go_grown⟩
 · have em0:(t.most == 0)=false:=by simpa using hm0
   have HM:=Lib.hid hm0;have HLO:=Lib.hid hlo
   unfold Tr.cells
   clear hm0 hlo
   go_enter Tryd.func87,Tryd.ntmps87
   have d:=fun (o:Obj)=>T1.out.keep (w':=w.alloc o) (Below.heap_alloc w o b1 T1.out.lt)
   have e0:=fun o=>(d o).c0;have e1:=fun o=>(d o).c1;have e2:=fun o=>(d o).c2;have e3:=fun o=>(d o).c3;have e4:=fun o=>(d o).c4
   have e5:=fun o=>(d o).c5;have e6:=fun o=>(d o).c6;have e7:=fun o=>(d o).c7;have e8':=fun o=>(d o).c8;have e9:=fun o=>(d o).c9
   clear d
   go_wp2_with fail
   generalize hw1:World.alloc w _=w1
   have hb1:Below w.heap.size w w1:=by rw [← hw1];exact (Below.refl _ _).alloc (Nat.le_refl _) _
   have Z1:Hid (w1.heap[w.heap.size]? = some (.cells (t.cells (.slice (some ⟨b1,o1,none⟩) 1 cap)) 37)):=Lib.hid (by rw [← hw1];exact heap_alloc_new _ _)
   have hs1:w.heap.size < w1.heap.size:=by rw [← hw1];simp
   have hcall:=HC.out w1 B (.agg (x.cells s1)) ⟨_,rfl,SUB.out.later hb1⟩
   unfold Tr.cells at hcall
   have HB1:=Lib.hid hb1
   clear hw1 e0 e1 e2 e3 e4 e5 e6 e7 e8' e9 hb1
   refine hcall.mono ?_
   rintro e w2 ⟨rfl,hb2⟩
   have HB2:=Lib.hid (HB1.out.trans (hb2.mono HB1.out.size));have Z2:=Lib.hid (keep_blk hb2 Z1.out)
   have hs2:w.heap.size < w2.heap.size:=Nat.lt_of_lt_of_le hs1 hb2.size
   clear hb2 hcall HB1 Z1
   generalize hNe:x.szT=N at *
   clear hNe
   have hlo255:lo ≤ 255:=by omega
   go_wp2
   go_loopw [6,7,8] (fun pv nv iv wr=>∃ m:Nat,iv=.int .i64 m∧pv=.int .i64 m∧m ≤ lo∧nv=.int .i64 (Tr.sat (m * N):Nat)∧wr=w2) (fun _ _ iv _=>lo - (intOf iv).toNat)
   case atStart=>exact ⟨0,rfl,rfl,Nat.zero_le _,by simp [Tr.sat],rfl⟩
   case round =>
     obtain ⟨m,rfl,rfl,hm,rfl,rfl⟩:=hrel
     have wm:IntKind.i64.wrap ((m:Int)+1)=(m:Int)+1:=IntWalk.i64_in _ (by omega)
     obtain ⟨-,-,-,f7,f8⟩:=box5 Z2.out
     rw [HLO.out] at f7
     by_cases hlt:m < lo
     · have hsat:=Tr.sat_le (m * N)
       have HS:=Lib.hid (show Tr.sat (Tr.sat (m * N)+N)=Tr.sat ((m+1) * N) by rw [Tr.sat_sat,Nat.succ_mul])
       generalize Tr.sat (m * N)=n at *
       go_wp2_with fail
       refine (trcount_any n N hsat (by omega) _ _ rfl rfl _).mono ?_
       rintro e w3 ⟨rfl,rfl⟩
       rw [HS.out]
       go_wp2
       exact ⟨⟨m+1,by go_num,by go_num,by omega,rfl,trivial⟩,by simp [intOf];omega⟩
     · obtain rfl:m=lo:=by omega
       have hsat0:=Tr.sat_le (m * N)
       generalize hA:m * N=A at *
       have HA:=Lib.hid hA
       clear hA
       generalize hhi:t.most=hi at *
       have HHI:=Lib.hid hhi
       clear hhi
       obtain ⟨J,hJ⟩:∃ J:Nat,J=(hi - m).toNat:=⟨_,rfl⟩
       have HJ:=Lib.hid hJ
       have hJ2:J ≤ 255:=by omega
       clear hJ
       go_wp2
       go_loopw [6,7,9] (fun pv nv iv wz=>∃ j:Nat,iv=.int .i64 ((m+j:Nat):Int)∧pv=.int .i64 ((m+j:Nat):Int)∧j ≤ J∧nv=.int .i64 (Tr.sat (A+j * (N+1)):Nat)∧wz=wr) (fun _ _ iv _=>(m+J) - (intOf iv).toNat)
       case atStart=>exact ⟨0,rfl,rfl,Nat.zero_le _,by simp,rfl⟩
       case round =>
         obtain ⟨j,rfl,rfl,hj,rfl,rfl⟩:=hrel
         have wj:IntKind.i64.wrap (((m+j:Nat):Int)+1)=((m+j:Nat):Int)+1:=IntWalk.i64_in _ (by omega)
         have wj2:IntKind.i64.wrap ((m:Int)+j+1)=(m:Int)+j+1:=IntWalk.i64_in _ (by omega)
         obtain ⟨-,-,-,f7,f8⟩:=box5 Z2.out
         rw [HHI.out] at f8
         by_cases hjJ:j < J
         · have hd:decide (((m+j:Nat):Int) < hi)=true:=by have:=HJ.out;simp;omega
           have hd2:decide ((m:Int)+j < hi)=true:=by have:=HJ.out;simp;omega
           have hsat:=Tr.sat_le (A+j * (N+1))
           have HS:=Lib.hid (show Tr.sat (Tr.sat (Tr.sat (A+j * (N+1))+N)+1)=Tr.sat (A+(j+1) * (N+1)) by rw [Tr.sat_sat,show Tr.sat (A+j * (N+1))+N+1=Tr.sat (A+j * (N+1))+(N+1) by omega,Tr.sat_sat,Nat.succ_mul,Nat.add_assoc])
           generalize Tr.sat (A+j * (N+1))=n at *
           go_wp2_with fail
           refine (trcount_any n N hsat (by omega) _ _ rfl rfl _).mono ?_
           rintro e w3 ⟨rfl,rfl⟩
           have hs2':=Tr.sat_le (n+N)
           generalize Tr.sat (n+N)=n2 at *
           go_wp2_with fail
           refine (trcount_any n2 1 hs2' (by omega) _ _ rfl rfl _).mono ?_
           rintro e w3 ⟨rfl,rfl⟩
           rw [HS.out]
           go_wp2
           exact ⟨⟨j+1,by go_num,by go_num,by omega,rfl,trivial⟩,by simp [intOf];omega⟩
         · obtain rfl:j=J:=by omega
           have hd:decide (((m+j:Nat):Int) < hi)=false:=by have:=HJ.out;simp;omega
           have hd2:decide ((m:Int)+j < hi)=false:=by have:=HJ.out;simp;omega
           have hsat:=Tr.sat_le (A+j * (N+1))
           by_cases hend:hi = -1
           · have hj0:j=0:=by have:=HJ.out;omega
             subst hj0
             have eend:(hi == -1)=true:=by simpa using hend
             have HS:=Lib.hid (show Tr.sat (Tr.sat (Tr.sat (A+0 * (N+1))+N)+1)=Tr.sat (A+N+1) by rw [Tr.sat_sat,show Tr.sat (A+0 * (N+1))+N+1=Tr.sat (A+0 * (N+1))+(N+1) by omega,Tr.sat_sat];congr 1;omega)
             generalize Tr.sat (A+0 * (N+1))=n at *
             go_wp2_with fail
             refine (trcount_any n N hsat (by omega) _ _ rfl rfl _).mono ?_
             rintro e w3 ⟨rfl,rfl⟩
             have hs2':=Tr.sat_le (n+N)
             generalize Tr.sat (n+N)=n2 at *
             go_wp2_with fail
             refine (trcount_any n2 1 hs2' (by omega) _ _ rfl rfl _).mono ?_
             rintro e w3 ⟨rfl,rfl⟩
             rw [HS.out]
             by_cases hm1:m=0
             · subst hm1
               have HX:=Lib.hid (show Tr.sat (A+N+1)=t.szT by
                 rw [HE.out,HLO.out];unfold Tr.repSz;rw [if_neg (by omega),if_neg (by omega),if_pos ⟨rfl,.inr hend⟩]
                 have:=HA.out;congr 1;omega)
               go_wp2
               go_ret
               exact ⟨ret_int (by rw [HX.out]),HB2.out⟩
             · have HX:=Lib.hid (show Tr.sat (Tr.sat (A+N+1)+1)=t.szT by
                 rw [HE.out,HLO.out];unfold Tr.repSz;rw [if_neg (by omega),if_neg (by omega),if_neg (by omega),if_pos hend,Tr.sat_sat]
                 have:=HA.out;congr 1;simp;omega)
               have hgt:decide ((1:Int) < (m:Int)+1)=true:=by simp;omega
               have hgt2:decide ((0:Int) < (m:Int))=true:=by simp;omega
               have hs3:=Tr.sat_le (A+N+1)
               generalize Tr.sat (A+N+1)=n3 at *
               go_wp2_with fail
               refine (trcount_any n3 1 hs3 (by omega) _ _ rfl rfl _).mono ?_
               rintro e w3 ⟨rfl,rfl⟩
               rw [HX.out]
               go_wp2
               go_ret
               exact ⟨rfl,HB2.out⟩
           · have eend:(hi == -1)=false:=by simpa using hend
             have hhim:(m:Int) ≤ hi:=by omega
             have hJm:((m+j:Nat):Int)=hi:=by have:=HJ.out;omega
             have hpos:1 ≤ m+j:=by have:=HM.out;omega
             by_cases h1':m+j=1
             · have HX:=Lib.hid (show Tr.sat (A+j * (N+1))=t.szT by
                 rw [HE.out,HLO.out];unfold Tr.repSz;rw [if_neg (by omega)]
                 have hA:=HA.out
                 by_cases hm1:m=1
                 · rw [if_pos ⟨by omega,by omega⟩]
                   have:j=0:=by omega
                   subst this hm1
                   unfold Tr.sat;omega
                 · have:m=0:=by omega
                   have:j=1:=by omega
                   subst this;subst m
                   rw [if_neg (by omega),if_pos ⟨rfl,.inl (by omega)⟩];congr 1;omega)
               have hgt:decide ((1:Int) < ((m+j:Nat):Int))=false:=by simp;omega
               have hgt2:decide ((1:Int) < (m:Int)+j)=false:=by simp;omega
               rw [HX.out]
               go_wp2
               go_ret
               exact ⟨rfl,HB2.out⟩
             · have HX:=Lib.hid (show Tr.sat (Tr.sat (A+j * (N+1))+1)=t.szT by
                 rw [HE.out,HLO.out];unfold Tr.repSz;rw [if_neg (by omega),if_neg (by omega),if_neg (by omega),if_neg (by omega),Tr.sat_sat]
                 have hA:=HA.out
                 have hjj:(hi - (m:Int)).toNat=j:=by omega
                 rw [hjj]
                 congr 1
                 rw [show ((m:Int)).toNat=m by simp,hA,Nat.add_comm 1 N]
                 omega)
               have hgt:decide ((1:Int) < ((m+j:Nat):Int))=true:=by simp;omega
               have hgt2:decide ((1:Int) < (m:Int)+j)=true:=by simp;omega
               generalize Tr.sat (A+j * (N+1))=n3 at *
               go_wp2_with fail
               refine (trcount_any n3 1 hsat (by omega) _ _ rfl rfl _).mono ?_
               rintro e w3 ⟨rfl,rfl⟩
               rw [HX.out]
               go_wp2
               go_ret
               exact ⟨rfl,HB2.out⟩
theorem refsize_any:∀ t:Tr,t.InForm→∀ (w:World) (B:Nat→Prop) (v:Value),NodeV w B v t→Calls Tryd.prog 87 #[v] w (SizeEnd t.szT w):=by
 intro t
 induction t using Tr.rec_subs with
 | h t ih =>
   intro hf w B v hv
   by_cases hk:t.kind=8
   · have hfl:=hf.fields
     unfold Tr.fieldsOk at hfl
     obtain ⟨-,-,-,-,-,hl,-,h0,h1,h2,-⟩:t.kind=8∧t.w0=0#64∧t.w1=0#64∧t.w2=0#64∧t.w3=0#64∧t.subs.length=1∧t.num=0∧0 ≤ t.least∧t.least ≤ 255∧(t.most = -1 ∨ (t.least ≤ t.most∧t.most ≤ 255))∧(t.bare=true→t.least=0):=by
       rcases hfl with h | h | h | h | h
       · omega
       · omega
       · omega
       · omega
       · exact h
     obtain ⟨x,hx⟩:=List.length_eq_one_iff.1 hl
     have hmem:x ∈ t.subs:=by rw [hx];exact List.mem_cons_self
     exact refsize_rep t x (fun w B v hv=>ih x hmem (hf.sub hmem) w B v hv) hx hk h0 h1 h2 w B v hv
   · exact refsize_seq t ih hf hk w B v hv
end Go.Proofs.YtedjkbmfpjmlpaaDoor
namespace Go.Proofs.YtedjkbmfpjmlpaaDoor
open Go.RowKit
namespace Tk
def pow (R:Nat→Nat→Prop):Nat→Nat→Nat→Prop
 | 0=>fun i j=>i=j
 | n+1=>fun i j=>∃ m,R i m∧pow R n m j
def rounds (R:Nat→Nat→Prop) (lo hi:Int) (i j:Nat):Prop:=∃ n:Nat,lo ≤ (n:Int)∧(hi = -1 ∨ (n:Int) ≤ hi)∧pow R n i j
end Tk
namespace Tr
mutual
def tk (x:Sc):Tr→Nat→Nat→Prop
 | .node k a b c d s _ lo hi _=>fun i j =>
   if k=2 then (i < x.t.size∧Oc.mem a b c d (cb x.t i)=true)∧j=i+1
   else if k=3 then x.beg i=true∧i=j
   else if k=4 then x.fin i=true∧i=j
   else if k=5 then tkSeq x s i j
   else if k=6 then tkAlt x s i j
   else if k=7 then tkHead x s i j
   else if k=8 then Tk.rounds (tkHead x s) lo hi i j
   else i=j
def tkSeq (x:Sc):List Tr→Nat→Nat→Prop
 | []=>fun i j=>i=j
 | t :: l=>fun i j=>∃ m,tk x t i m∧tkSeq x l m j
def tkAlt (x:Sc):List Tr→Nat→Nat→Prop
 | []=>fun _ _=>False
 | t :: l=>fun i j=>tk x t i j ∨ tkAlt x l i j
def tkHead (x:Sc):List Tr→Nat→Nat→Prop
 | []=>fun _ _=>False
 | t :: _=>fun i j=>tk x t i j
end
theorem tk_eq (x:Sc) (t:Tr) (i j:Nat):tk x t i j =
   if t.kind=2 then (i < x.t.size∧Oc.mem t.w0 t.w1 t.w2 t.w3 (cb x.t i)=true)∧j=i+1
   else if t.kind=3 then x.beg i=true∧i=j
   else if t.kind=4 then x.fin i=true∧i=j
   else if t.kind=5 then tkSeq x t.subs i j
   else if t.kind=6 then tkAlt x t.subs i j
   else if t.kind=7 then tkHead x t.subs i j
   else if t.kind=8 then Tk.rounds (tkHead x t.subs) t.least t.most i j
   else i=j:=by
 cases t;rw [tk];rfl
theorem tk_bytes {x:Sc} {t:Tr} (h:t.kind=2) (i j:Nat):tk x t i j ↔ (i < x.t.size∧Oc.mem t.w0 t.w1 t.w2 t.w3 (cb x.t i)=true)∧j=i+1:=by rw [tk_eq,if_pos h]
theorem tk_beg {x:Sc} {t:Tr} (h:t.kind=3) (i j:Nat):tk x t i j ↔ x.beg i=true∧i=j:=by rw [tk_eq,h];simp
theorem tk_fin {x:Sc} {t:Tr} (h:t.kind=4) (i j:Nat):tk x t i j ↔ x.fin i=true∧i=j:=by rw [tk_eq,h];simp
theorem tk_seq {x:Sc} {t:Tr} (h:t.kind=5) (i j:Nat):tk x t i j ↔ tkSeq x t.subs i j:=by rw [tk_eq,h];simp
theorem tk_alt {x:Sc} {t:Tr} (h:t.kind=6) (i j:Nat):tk x t i j ↔ tkAlt x t.subs i j:=by rw [tk_eq,h];simp
theorem tk_grp {x:Sc} {t u:Tr} (h:t.kind=7) (hs:t.subs=[u]) (i j:Nat):tk x t i j ↔ tk x u i j:=by rw [tk_eq,h,hs];simp [tkHead]
theorem tkHead_one (x:Sc) (u:Tr):tkHead x [u]=tk x u:=by funext i j;rw [tkHead]
theorem tk_rep {x:Sc} {t u:Tr} (h:t.kind=8) (hs:t.subs=[u]) (i j:Nat):tk x t i j ↔ Tk.rounds (tk x u) t.least t.most i j:=by
 rw [tk_eq,h,hs,tkHead_one];simp
theorem tk_empty {x:Sc} {t:Tr} (h:t.kind=1) (i j:Nat):tk x t i j ↔ i=j:=by rw [tk_eq,h];simp
theorem tkAlt_iff (x:Sc):∀ (l:List Tr) (i j:Nat),tkAlt x l i j ↔ ∃ t,t ∈ l∧tk x t i j
 | [],i,j=>by simp [tkAlt]
 | t :: l,i,j=>by simp [tkAlt,tkAlt_iff x l i j]
end Tr
namespace Tk
def On (n:Nat) (R:Nat→Nat→Prop):Prop:=∀ i j,i ≤ n→R i j→i ≤ j∧j ≤ n
theorem pow_on {n:Nat} {R:Nat→Nat→Prop} (h:On n R):∀ k,On n (pow R k)
 | 0,i,j,hi,e=>by simp only [pow] at e;omega
 | k+1,i,j,hi,e=>by
   obtain ⟨m,h1,h2⟩:=e
   have a:=h i m hi h1
   have b:=pow_on h k m j a.2 h2
   omega
theorem rounds_on {n:Nat} {R:Nat→Nat→Prop} (h:On n R) (lo hi:Int):On n (rounds R lo hi):=by
 rintro i j hi ⟨k,-,-,hp⟩;exact pow_on h k i j hi hp
theorem pow_add (R:Nat→Nat→Prop):∀ (a b:Nat) (i j:Nat),pow R (a+b) i j ↔ ∃ m,pow R a i m∧pow R b m j
 | 0,b,i,j=>by simp [pow]
 | a+1,b,i,j=>by
   rw [show a+1+b=(a+b)+1 by omega]
   simp only [pow]
   constructor
   · rintro ⟨m,h1,h2⟩
     obtain ⟨m2,h3,h4⟩:=(pow_add R a b m j).1 h2
     exact ⟨m2,⟨m,h1,h3⟩,h4⟩
   · rintro ⟨m2,⟨m,h1,h3⟩,h4⟩
     exact ⟨m,h1,(pow_add R a b m j).2 ⟨m2,h3,h4⟩⟩
def long (R:Nat→Nat→Prop) (i j:Nat):Prop:=R i j∧i ≠ j
theorem pow_long {R:Nat→Nat→Prop} : ∀ n i j,pow (long R) n i j→pow R n i j
 | 0,_,_,h=>h
 | n+1,_,j,⟨m,h1,h2⟩=>⟨m,h1.1,pow_long n m j h2⟩
theorem pow_short {R:Nat→Nat→Prop} : ∀ n i j,pow R n i j→∃ m,m ≤ n∧pow (long R) m i j
 | 0,i,j,h=>⟨0,Nat.le_refl _,h⟩
 | n+1,i,j,⟨k,h1,h2⟩=>by
   obtain ⟨m,hm,hp⟩:=pow_short n k j h2
   by_cases e:i=k
   · subst e;exact ⟨m,by omega,hp⟩
   · exact ⟨m+1,by omega,k,⟨h1,e⟩,hp⟩
theorem long_on {n:Nat} {R:Nat→Nat→Prop} (h:On n R):On n (long R):=fun i j hi hr=>h i j hi hr.1
theorem rounds_split {R:Nat→Nat→Prop} (lo:Nat) (hi:Int) (_hh:hi = -1 ∨ (lo:Int) ≤ hi) (i j:Nat) :
   rounds R lo hi i j ↔ ∃ m,pow R lo i m∧∃ k:Nat,(hi = -1 ∨ (lo:Int)+k ≤ hi)∧pow (long R) k m j:=by
 constructor
 · rintro ⟨n,h1,h2,h3⟩
   obtain ⟨d,rfl⟩:∃ d,n=lo+d:=⟨n - lo,by omega⟩
   obtain ⟨m,h4,h5⟩:=(pow_add R lo d i j).1 h3
   obtain ⟨k,hk,h6⟩:=pow_short d m j h5
   exact ⟨m,h4,k,by omega,h6⟩
 · rintro ⟨m,h4,k,hk,h6⟩
   exact ⟨lo+k,by omega,by omega,(pow_add R lo k i j).2 ⟨m,h4,pow_long k m j h6⟩⟩
end Tk
namespace Tr
theorem tkSeq_on {x:Sc} : ∀ {l:List Tr},(∀ t,t ∈ l→Tk.On x.t.size (tk x t))→Tk.On x.t.size (tkSeq x l)
 | [],_,i,j,hi,e=>by simp only [tkSeq] at e;omega
 | t :: l,h,i,j,hi,e=>by
   simp only [tkSeq] at e
   obtain ⟨m,h1,h2⟩:=e
   have a:=h t (by simp) i m hi h1
   have b:=tkSeq_on (fun u hu=>h u (by simp [hu])) m j a.2 h2
   omega
theorem tkHead_on {x:Sc} : ∀ {l:List Tr},(∀ t,t ∈ l→Tk.On x.t.size (tk x t))→Tk.On x.t.size (tkHead x l)
 | [],_,i,j,_,e=>by simp [tkHead] at e
 | t :: l,h,i,j,hi,e=>by
   simp only [tkHead] at e
   exact h t (by simp) i j hi e
theorem tk_on (x:Sc) (t:Tr):Tk.On x.t.size (tk x t):=by
 induction t using Tr.rec_subs with
 | h t ih =>
   intro i j hi h
   rw [tk_eq] at h
   split at h
   · omega
   split at h
   · omega
   split at h
   · omega
   split at h
   · exact tkSeq_on ih i j hi h
   split at h
   · obtain ⟨u,hu,h2⟩:=(tkAlt_iff x _ i j).1 h
     exact ih u hu i j hi h2
   split at h
   · exact tkHead_on ih i j hi h
   split at h
   · exact Tk.rounds_on (tkHead_on ih) _ _ i j hi h
   · omega
end Tr
end Go.Proofs.YtedjkbmfpjmlpaaDoor
namespace Go.Proofs.YtedjkbmfpjmlpaaDoor
open Go.RowKit
theorem append_block {P:Program} {w w':World} (base:Nat) (t ty e:TypeId) (i:TypeInfo) (z:Value) (size bytes:Nat) (ht:P.underlying t=some (.slice e)) (hi:P.info? e=some i) (hz:i.zero=some z)
   (hsize:i.size=size) (hby:i.bytes=bytes) (v v':Value) (n:Nat) (xs:List Value) (hown:w.ownsRow base e size v n xs)
   (a:Addr) (m c:Nat) (news:List Value) (hl:news.length=m * size) (hnews:∀ j u,news[j]? = some u→w.cell? (a.add j)=some u) (h1:∀ u ∈ news,u.oneCell'=true) (hm:0 < m)
   (h63:n+m ≤ maxLen) (hbytes:(n+m) * bytes ≤ 140737488355328) (hr:(Builtin.append_ #[t,t] ty #[v,.slice (some a) m c]).run P w=.ok v' w') :
   v'.ownBlock=v.ownBlock ∨ v'.ownBlock=some w.heap.size:=by
 subst hsize hby
 unfold maxLen at h63
 have hxl:=hown.1
 have hcells:=fun g hg=>World.ownsRow.cells hown (g:=g) hg
 rcases hown.2 with ⟨rfl,rfl⟩ | ⟨g,cap,cur,rfl,-,hg,hnc,hcm,hcs,-⟩
 · rw [run_append_nil (P:=P) w t ty e i z ht hi hz a m c news hl hnews hm (by omega) (by rw [Nat.zero_add] at hbytes;omega)] at hr
   injection hr with h2 h3
   right;rw [← h2];rfl
 · by_cases hroom:n+m ≤ cap
   · rw [run_append_room (P:=P) w t ty e i ht hi g n cap cur hg a m c news hl hnews h1 hroom (by rw [hl,hcs,← Nat.add_mul];exact Nat.mul_le_mul_right _ hroom)] at hr
     injection hr with h2 h3
     left;rw [← h2];rfl
   · rw [run_append_grow (P:=P) w t ty e i z ht hi hz ⟨g,0,none⟩ n cap xs hxl (hcells g rfl) a m c news hl hnews (by omega) (by omega) (growslice_fits (by omega) hbytes)] at hr
     injection hr with h2 h3
     right;rw [← h2];rfl
theorem wpList_append_fresh {P:Program} (w:World) {ops:Array Oper} {rest:List Oper} {o:Oper} {a:Act} {Q:Exit→Act→World→Prop} (hgd:o.guard=none) (s x:Operand) (t:TypeId)
   (ho:o.op=.call { callee:=.builtin .append,args:=#[s,x],argTypes:=#[t,t] })
   (base:Nat) (e:TypeId) (i:TypeInfo) (z:Value) (size bytes:Nat) (ht:P.underlying t=some (.slice e)) (hi:P.info? e=some i) (hz:i.zero=some z)
   (hsize:i.size=size) (hby:i.bytes=bytes) (hzs:z.cells.size=size) (hsz:0 < size)
   (v:Value) (n:Nat) (xs:List Value) (hs:a.eval s=v) (hown:w.ownsRow base e size v n xs)
   (ad:Addr) (m c:Nat) (news:List Value) (hx:a.eval x=.slice (some ad) m c) (hl:news.length=m * size) (hnews:∀ j u,news[j]? = some u→w.cell? (ad.add j)=some u) (h1:∀ u ∈ news,u.oneCell'=true) (hm:0 < m)
   (h63:n+m ≤ maxLen) (hbytes:(n+m) * bytes ≤ 140737488355328) (hbase:base ≤ w.heap.size)
   (h:∀ v' w',w'.ownsRow base e size v' (n+m) (xs ++ news)→w.grownBy w' v.ownBlock→(v'.ownBlock=v.ownBlock ∨ v'.ownBlock=some w.heap.size)→wpList P ops Q rest (a.put o.dst v') w'):wpList P ops Q (o :: rest) a w:=by
 refine wpList_plain hgd fun K hK=>?_
 obtain ⟨v',w',hr,h2,h3,-⟩:=run_append_own (P:=P) w base t o.type e i z size bytes ht hi hz hsize hby hzs hsz v n xs hown ad m c news hl hnews h1 h63 hbytes hbase
 have h4:=append_block base t o.type e i z size bytes ht hi hz hsize hby v v' n xs hown ad m c news hl hnews h1 hm h63 hbytes hr
 unfold Oper.wp execOp
 simp only [ho,resolve,invoke,builtin,Sem.run_bind,Sem.run_pure,Result.andThen_ok,List.map_toArray,List.map_cons,List.map_nil,hs,hx,hr]
 exact hK _ _ (h v' w' h2 h3 h4)
end Go.Proofs.YtedjkbmfpjmlpaaDoor
namespace Go.Proofs.YtedjkbmfpjmlpaaDoor
open Go.RowKit
theorem Tryd.infoNode:(Tryd.prog.info? 37).map (fun i=>(i.zero,i.size,i.bytes))=some (some (.agg #[.int .i64 0,.int .u64 0,.int .u64 0,.int .u64 0,.int .u64 0,.slice none 0 0,.int .i64 0,.int .i64 0,.int .i64 0,.bool false]),10,96):=by kernel_rfl
theorem wpList_node1 {ops:Array Oper} {rest:List Oper} {o:Oper} {a:Act} {w:World} {Q:Exit→Act→World→Prop} (hgd:o.guard=none) (x:Operand) (t:Tr) (p:Option Addr) (len cap:Nat) (ho:o.op=.buildSlice 35 1 #[(0,x)]) (hx:a.eval x=.agg (t.cells (.slice p len cap)))
   (h:wpList Tryd.prog ops Q rest (a.put o.dst (.slice (some ⟨w.heap.size,0,none⟩) 1 1)) (w.alloc (.cells (t.cells (.slice p len cap)) 37))):wpList Tryd.prog ops Q (o :: rest) a w:=by
 refine wpList_plain hgd fun K hK=>?_
 obtain ⟨ie,hi,hz0,hz1,-⟩:=info_parts Tryd.infoNode
 refine wp_buildSlice 35 37 1 _ ho _ ie _ Tryd.underlying35 hi hz0 (by rw [hz1];decide) (by rw [hz1];decide) ?_ (hK _ _ h)
 rw [hz1]
 simp only [List.map_toArray,List.map_cons,List.map_nil,hx]
 kernel_rfl
theorem set5 {w:World} {b:Nat} {x0 x1 x2 x3 x4 x5 x6 x7 x8 x9 y:Value} {t:TypeId} (h:w.heap[b]? = some (.cells #[x0,x1,x2,x3,x4,x5,x6,x7,x8,x9] t)):(w.setCell ⟨b,5,none⟩ y).heap[b]? = some (.cells #[x0,x1,x2,x3,x4,y,x6,x7,x8,x9] t):=by
 simp [World.setCell,Array.getElem?_modify,h]
theorem at5 {w:World} {b:Nat} {x0 x1 x2 x3 x4 x5 x6 x7 x8 x9:Value} {t:TypeId} (h:w.heap[b]? = some (.cells #[x0,x1,x2,x3,x4,x5,x6,x7,x8,x9] t)):w.cell? ⟨b,5,none⟩=some x5∧w.frozen? ⟨b,5,none⟩=false:=by
 simp [World.cell?,World.frozen?,h]
end Go.Proofs.YtedjkbmfpjmlpaaDoor
namespace Go.Proofs.YtedjkbmfpjmlpaaDoor
open Go.RowKit
theorem frozen_of {w:World} {g o:Nat} (h:∃ cs ty,w.heap[g]? = some (.cells cs ty (0,0))):w.frozen? ⟨g,o,none⟩=false:=by
 obtain ⟨cs,ty,h⟩:=h;simp [World.frozen?,h]
theorem TenAt.setCells {w:World} {g o o':Nat} {t:Tr} {s:Value} {vs:List Value} (h:TenAt w g o t s) (hv:vs.length=10) (ho:o'+10 ≤ o ∨ o+10 ≤ o'):TenAt (w.setCells g o' vs) g o t s:=by
 have e:∀ k,o ≤ k→k < o+10→(w.setCells g o' vs).cell? ⟨g,k,none⟩=w.cell? ⟨g,k,none⟩:=fun k h1 h2=>World.cell?_setCells_out g vs o' w _ (fun _ _=>by simp;omega)
 exact ⟨(e _ (by omega) (by omega)).trans h.c0,(e _ (by omega) (by omega)).trans h.c1,(e _ (by omega) (by omega)).trans h.c2,(e _ (by omega) (by omega)).trans h.c3,(e _ (by omega) (by omega)).trans h.c4,(e _ (by omega) (by omega)).trans h.c5,(e _ (by omega) (by omega)).trans h.c6,(e _ (by omega) (by omega)).trans h.c7,(e _ (by omega) (by omega)).trans h.c8,(e _ (by omega) (by omega)).trans h.c9⟩
end Go.Proofs.YtedjkbmfpjmlpaaDoor
namespace Go.Proofs.YtedjkbmfpjmlpaaDoor
open Go.RowKit
theorem stays_is (t:Tr) (s:Value) (hs:∃ p l c,s=.slice p l c) (b:Bool) (hb:b=decide (t.least=0∧(t.most=1 ∨ t.most = -1))) (w:World):Calls Tryd.prog 85 #[.agg (t.cells s)] w fun e w'=>e=.returned (.bool b)∧Below w.heap.size w w':=by
 obtain ⟨p,l,c,rfl⟩:=hs
 unfold Tr.cells
 by_cases h0:t.least=0
 · by_cases h1:t.most=1
   · have hb1:b=true:=by rw [hb];simp [h0,h1]
     subst hb1
     rw [h0,h1]
     clear hb
     go_enter Tryd.func85,Tryd.ntmps85
     go_wp2
     go_ret
     exact ⟨rfl,by go_grown⟩
   · by_cases h2:t.most = -1
     · have hb1:b=true:=by rw [hb];simp [h0,h2]
       subst hb1
       rw [h0,h2]
       clear hb
       go_enter Tryd.func85,Tryd.ntmps85
       go_wp2
       go_ret
       exact ⟨rfl,by go_grown⟩
     · have hb1:b=false:=by rw [hb];simp [h1,h2]
       subst hb1
       rw [h0]
       have e1:(t.most == 1)=false:=by simpa using h1
       have e2:(t.most == -1)=false:=by simpa using h2
       clear hb h1 h2
       go_enter Tryd.func85,Tryd.ntmps85
       go_wp2
       go_ret
       exact ⟨rfl,by go_grown⟩
 · have hb1:b=false:=by rw [hb];simp [h0]
   subst hb1
   have e1:(t.least == 0)=false:=by simpa using h0
   clear hb h0
   go_enter Tryd.func85,Tryd.ntmps85
   go_wp2
   go_ret
   exact ⟨rfl,by go_grown⟩
theorem treerep (t x:Tr) (ih:∀ (w:World) (B:Nat→Prop) (v:Value),NodeV w B v x→Calls Tryd.prog 58 #[v] w (SizeEnd x.szT w)) (hsub:t.subs=[x]) (h0:0 ≤ t.least) (h1:t.least ≤ 255) (h2:t.most = -1 ∨ (t.least ≤ t.most∧t.most ≤ 255))
   (w:World) (B:Nat→Prop) (v:Value) (hv:NodeV w B v t):Calls Tryd.prog 95 #[v] w (SizeEnd (Tr.repSz t.least t.most x.szT) w):=by
 obtain ⟨s,rfl,hs⟩:=hv
 rw [hsub] at hs
 obtain ⟨p,cap,rfl,hlen⟩:=hs.slice
 have hs:TreesAt w B (.slice p 1 cap) [x]:=hs
 obtain ⟨b1,o1,s1,rfl,-,t1,sub1⟩:=hs.get (i:=0) (t:=x) rfl
 have t1':TenAt w b1 o1 x s1:=by simpa using t1
 have HC:=Lib.hid ih
 have T1:=Lib.hid t1';have SUB:=Lib.hid sub1
 have hN:=Tr.szT_le x
 have HST:=Lib.hid (fun b hb=>stays_is t (.slice (some ⟨b1,o1,none⟩) 1 cap) ⟨_,_,_,rfl⟩ b hb)
 clear ih hs hsub t1 t1' sub1 hlen
 obtain ⟨m,hm⟩:∃ m:Nat,t.least=m:=⟨t.least.toNat,by omega⟩
 have HM:=Lib.hid hm
 rw [hm] at h0 h1 h2
 have hm255:m ≤ 255:=by omega
 have hmul:m * x.szT ≤ 510255:=Nat.le_trans (Nat.mul_le_mul hm255 hN) (by omega)
 have wmul:IntKind.i64.wrap ((m:Int) * (x.szT:Int))=((m * x.szT:Nat):Int):=by rw [← Int.natCast_mul];exact IntWalk.i64_in _ (by omega)
 generalize hhi:t.most=hi at *
 have HHI:=Lib.hid hhi
 unfold Tr.cells
 rw [hm,hhi]
 clear hm hhi
 go_enter Tryd.func95,Tryd.ntmps95
 have d:=fun (o:Obj)=>T1.out.keep (w':=w.alloc o) (Below.heap_alloc w o b1 T1.out.lt)
 have e0:=fun o=>(d o).c0;have e1:=fun o=>(d o).c1;have e2:=fun o=>(d o).c2;have e3:=fun o=>(d o).c3;have e4:=fun o=>(d o).c4
 have e5:=fun o=>(d o).c5;have e6:=fun o=>(d o).c6;have e7:=fun o=>(d o).c7;have e8:=fun o=>(d o).c8;have e9:=fun o=>(d o).c9
 clear d
 go_wp2_with fail
 generalize hw1:World.alloc w _=w1
 have hb1:Below w.heap.size w w1:=by rw [← hw1];exact (Below.refl _ _).alloc (Nat.le_refl _) _
 have Z1:Hid (w1.heap[w.heap.size]? = some (.cells (t.cells (.slice (some ⟨b1,o1,none⟩) 1 cap)) 37)):=Lib.hid (by rw [← hw1,heap_alloc_new];unfold Tr.cells;rw [HM.out,HHI.out])
 have hs1:w.heap.size < w1.heap.size:=by rw [← hw1];simp
 have hcall:=HC.out w1 B (.agg (x.cells s1)) ⟨_,rfl,SUB.out.later hb1⟩
 unfold Tr.cells at hcall
 have HB1:=Lib.hid hb1
 clear hw1 e0 e1 e2 e3 e4 e5 e6 e7 e8 e9 hb1
 refine hcall.mono ?_
 rintro e w2 ⟨rfl,hb2⟩
 have HB2:=Lib.hid (HB1.out.trans (hb2.mono HB1.out.size));have Z2:=Lib.hid (keep_blk hb2 Z1.out)
 have hs2:w.heap.size < w2.heap.size:=Nat.lt_of_lt_of_le hs1 hb2.size
 clear hb2 hcall HB1 Z1
 generalize hNe:x.szT=N at *
 clear hNe
 obtain ⟨-,-,f5,f7,f8⟩:=box5 Z2.out
 rw [HM.out] at f7
 rw [HHI.out] at f8
 generalize hA:m * N=A at *
 have HA:=Lib.hid hA
 clear hA
 by_cases h11:m=1∧hi=1
 · obtain ⟨rfl,rfl⟩:=h11
   go_wp2
   go_ret
   exact ⟨ret_int (by unfold Tr.repSz;simp),HB2.out⟩
 · have H11:=Lib.hid h11
   clear h11 f5 f7 f8
   obtain ⟨-,-,f5,f7,f8⟩:=box5 Z2.out
   rw [HM.out] at f7
   rw [HHI.out] at f8
   by_cases hst:m=0∧(hi=1 ∨ hi = -1)
   · have HX:=Lib.hid (show Tr.repSz m hi N=Tr.sat (1+N) by unfold Tr.repSz;rw [if_neg (by omega),if_neg (by omega),if_pos ⟨by omega,hst.2⟩])
     obtain ⟨rfl,hst2⟩:=hst
     have HS2:=Lib.hid hst2
     have w1n:IntKind.i64.wrap (1+(N:Int))=1+(N:Int):=IntWalk.i64_in _ (by omega)
     clear hst2
     go_wp2_with (first
       | (refine wpList_load_row rfl 37 (.tmp 1) rfl w.heap.size rfl 37 _ (0,0) _ Z2.out Tryd.underlying37 rfl (by kernel_rfl) ?_)
       | fail)
     refine (HST.out true (by rw [HM.out];have:=HS2.out;simp [this]) _).mono ?_
     rintro e w3 ⟨rfl,hb3⟩
     obtain ⟨-,-,f5,f7,f8⟩:=box5 (keep_blk hb3 Z2.out)
     rw [HM.out] at f7
     rw [HHI.out] at f8
     have HB3:=Lib.hid (HB2.out.trans (hb3.mono HB2.out.size))
     clear hb3
     go_wp2
     all_goals
       go_ret
       exact ⟨ret_int (by have h:=HX.out;(first | rw [h] | (push_cast at h;rw [h]));unfold Tr.sat;have ha:=HA.out;(try simp only [Nat.zero_mul] at ha);omega),HB3.out⟩
   · by_cases hend:hi = -1
     · have hmpos:1 ≤ m:=by omega
       subst hend
       have HX:=Lib.hid (show Tr.repSz m (-1) N=Tr.sat (1+A+(1+N)) by unfold Tr.repSz;rw [if_neg (by omega),if_neg (by omega),if_neg (by omega),if_pos rfl];have:=HA.out;simp [this])
       have HS2:=Lib.hid hst
       have w1n:IntKind.i64.wrap (1+(N:Int))=1+(N:Int):=IntWalk.i64_in _ (by omega)
       have w1a:IntKind.i64.wrap (1+(A:Int))=1+(A:Int):=IntWalk.i64_in _ (by omega)
       have w1s:IntKind.i64.wrap (1+(A:Int)+(1+(N:Int)))=1+(A:Int)+(1+(N:Int)):=IntWalk.i64_in _ (by omega)
       clear hst
       by_cases hm1:m=1
       · subst hm1
         go_wp2_with (first
           | (refine wpList_load_row rfl 37 (.tmp 1) rfl w.heap.size rfl 37 _ (0,0) _ Z2.out Tryd.underlying37 rfl (by kernel_rfl) ?_)
           | fail)
         refine (HST.out false (by rw [HM.out];have:=HS2.out;first | (simp;done) | (simp;omega)) _).mono ?_
         rintro e w3 ⟨rfl,hb3⟩
         obtain ⟨-,-,f5,f7,f8⟩:=box5 (keep_blk hb3 Z2.out)
         rw [HM.out] at f7
         rw [HHI.out] at f8
         have HB3:=Lib.hid (HB2.out.trans (hb3.mono HB2.out.size))
         clear hb3
         go_wp2
         all_goals
           go_ret
           exact ⟨ret_int (by have h:=HX.out;(first | rw [h] | (push_cast at h;rw [h]));unfold Tr.sat;have ha:=HA.out;(try simp only [Nat.one_mul] at ha);omega),HB3.out⟩
       · have g1:((m:Int) == 1)=false:=by simp;omega
         clear hm1
         go_wp2_with (first
           | (refine wpList_load_row rfl 37 (.tmp 1) rfl w.heap.size rfl 37 _ (0,0) _ Z2.out Tryd.underlying37 rfl (by kernel_rfl) ?_)
           | fail)
         refine (HST.out false (by rw [HM.out];have:=HS2.out;first | (simp;done) | (simp;omega)) _).mono ?_
         rintro e w3 ⟨rfl,hb3⟩
         obtain ⟨-,-,f5,f7,f8⟩:=box5 (keep_blk hb3 Z2.out)
         rw [HM.out] at f7
         rw [HHI.out] at f8
         have HB3:=Lib.hid (HB2.out.trans (hb3.mono HB2.out.size))
         clear hb3
         go_wp2
         all_goals
           go_ret
           exact ⟨ret_int (by have h:=HX.out;(first | rw [h] | (push_cast at h;rw [h]));unfold Tr.sat;have ha:=HA.out;(try simp only [Nat.one_mul,Nat.zero_mul] at ha);omega),HB3.out⟩
     · obtain ⟨d,hd⟩:∃ d:Nat,hi=(m:Int)+d:=⟨(hi - m).toNat,by omega⟩
       have hdm:d * (1+N) ≤ 510510:=Nat.le_trans (Nat.mul_le_mul (show d ≤ 255 by omega) (show 1+N ≤ 2002 by omega)) (by omega)
       obtain ⟨B2,hB⟩:∃ B2,d * (1+N)=B2:=⟨_,rfl⟩
       have HX:=Lib.hid (show Tr.repSz m hi N=Tr.sat (1+A+B2) by
         rw [← hB]
         unfold Tr.repSz
         by_cases hz:hi=0
         · rw [if_pos hz]
           have hm0:m=0:=by omega
           have hd0:d=0:=by omega
           have:=HA.out
           subst hm0 hd0
           simp at this
           subst this
           simp [Tr.sat]
         · rw [if_neg hz,if_neg (by have:=H11.out;omega),if_neg (by omega),if_neg hend]
           have:=HA.out
           have hdd:(hi - (m:Int)).toNat=d:=by omega
           rw [hdd];simp [this])
       have HS2:=Lib.hid hst
       have eend:(hi == -1)=false:=by simpa using hend
       have w1n:IntKind.i64.wrap (1+(N:Int))=1+(N:Int):=IntWalk.i64_in _ (by omega)
       have w1a:IntKind.i64.wrap (1+(A:Int))=1+(A:Int):=IntWalk.i64_in _ (by omega)
       have wsub:IntKind.i64.wrap (hi - (m:Int))=(d:Int):=by rw [hd,show (m:Int)+d - m=d by omega];exact IntWalk.i64_in _ (by omega)
       have wmul2:IntKind.i64.wrap ((d:Int) * (1+(N:Int)))=((d * (1+N):Nat):Int):=by
         rw [show (d:Int) * (1+(N:Int))=((d * (1+N):Nat):Int) by push_cast;rfl];exact IntWalk.i64_in _ (by omega)
       have HD:=Lib.hid hd
       rw [hB] at hdm wmul2
       have w1s:IntKind.i64.wrap (1+(A:Int)+(B2:Int))=1+(A:Int)+(B2:Int):=IntWalk.i64_in _ (by omega)
       clear hst hd hB
       by_cases hm1:m=1
       · subst hm1
         have g2:(hi == 1)=false:=by have:=H11.out;simp;omega
         have wsub':IntKind.i64.wrap (hi - 1)=(d:Int):=by simpa using wsub
         have w1s':IntKind.i64.wrap (1+(N:Int)+(B2:Int))=1+(N:Int)+(B2:Int):=IntWalk.i64_in _ (by omega)
         clear wsub w1s w1a wmul
         go_wp2_with (first
           | (refine wpList_load_row rfl 37 (.tmp 1) rfl w.heap.size rfl 37 _ (0,0) _ Z2.out Tryd.underlying37 rfl (by kernel_rfl) ?_)
           | fail)
         refine (HST.out false (by rw [HM.out];have:=HS2.out;first | (simp;done) | (simp;omega)) _).mono ?_
         rintro e w3 ⟨rfl,hb3⟩
         obtain ⟨-,-,f5,f7,f8⟩:=box5 (keep_blk hb3 Z2.out)
         rw [HM.out] at f7
         rw [HHI.out] at f8
         have HB3:=Lib.hid (HB2.out.trans (hb3.mono HB2.out.size))
         clear hb3
         go_wp2
         all_goals
           go_ret
           exact ⟨ret_int (by have h:=HX.out;(first | rw [h] | (push_cast at h;rw [h]));unfold Tr.sat;have ha:=HA.out;(try simp only [Nat.one_mul] at ha);omega),HB3.out⟩
       · have g1:((m:Int) == 1)=false:=by simp;omega
         clear hm1
         go_wp2_with (first
           | (refine wpList_load_row rfl 37 (.tmp 1) rfl w.heap.size rfl 37 _ (0,0) _ Z2.out Tryd.underlying37 rfl (by kernel_rfl) ?_)
           | fail)
         refine (HST.out false (by rw [HM.out];have:=HS2.out;first | (simp;done) | (simp;omega)) _).mono ?_
         rintro e w3 ⟨rfl,hb3⟩
         obtain ⟨-,-,f5,f7,f8⟩:=box5 (keep_blk hb3 Z2.out)
         rw [HM.out] at f7
         rw [HHI.out] at f8
         have HB3:=Lib.hid (HB2.out.trans (hb3.mono HB2.out.size))
         clear hb3
         go_wp2
         all_goals
           go_ret
           exact ⟨ret_int (by have h:=HX.out;(first | rw [h] | (push_cast at h;rw [h]));unfold Tr.sat;have ha:=HA.out;(try simp only [Nat.one_mul,Nat.zero_mul] at ha);omega),HB3.out⟩
end Go.Proofs.YtedjkbmfpjmlpaaDoor
namespace Go.Proofs.YtedjkbmfpjmlpaaDoor
open Go.RowKit
def OwnEnd (t:Tr) (w:World) (e:Ending) (w':World):Prop:=∃ s F,e=.returned (.agg (t.cells s))∧Owned w' s t.subs F∧(∀ b,b ∈ F→w.heap.size ≤ b)∧Below w.heap.size w w'
def OwnsEnd (ts:List Tr) (w:World) (e:Ending) (w':World):Prop:=∃ v F,e=.returned v∧Owned w' v ts F∧(∀ b,b ∈ F→w.heap.size ≤ b)∧Below w.heap.size w w'
theorem Owned.slice {w:World} {s:Value} {ts:List Tr} {F:List Nat} (h:Owned w s ts F):∃ p cap,s=.slice p ts.length cap∧ts.length * 96 ≤ 140737488351232:=h.trees.slice
theorem nodeC_all (x:Tr) (p:Option Addr) (l c:Nat):(x.cells (.slice p l c)).all (·.oneCell')=true:=by simp [Tr.cells,Value.oneCell']
def pick {α:Type} (f:Nat→α) (m:Nat) (x:α) (i:Nat):α:=if i=m then x else f i
theorem pick_eq {α:Type} (f:Nat→α) (m:Nat) (x:α):pick f m x m=x:=if_pos rfl
theorem pick_ne {α:Type} (f:Nat→α) (m:Nat) (x:α) {i:Nat} (h:i ≠ m):pick f m x i=f i:=if_neg h
def CopiedTo (w:World) (g:Nat) (ts:List Tr) (m:Nat):Prop :=
 ∃ (S:Nat→Value) (L:Nat→List Nat),(∀ i t,i < m→ts[i]? = some t→TenAt w g (i * 10) t (S i)∧Owned w (S i) t.subs (L i))∧(∀ i,i < m→∀ b,b ∈ L i→g < b) ∧
   (∀ i j b,i < m→j < m→i ≠ j→b ∈ L i→b ∉ L j)∧(∀ i,i < m→∀ b,b ∈ L i→b < w.heap.size)
theorem CopiedTo.zero (w:World) (g:Nat) (ts:List Tr):CopiedTo w g ts 0:=⟨fun _=>undef,fun _=>[],fun i t h=>by omega,fun i h=>by omega,fun i j b h=>by omega,fun i h=>by omega⟩
theorem TenAt.of_range {w:World} {g o:Nat} {t:Tr} {s:Value} (h:w.rangeAt g o (t.cells s).toList):TenAt w g o t s:=by
 have get:=fun j u (hu:(t.cells s).toList[j]? = some u)=>h j u hu
 exact ⟨get 0 _ rfl,get 1 _ rfl,get 2 _ rfl,get 3 _ rfl,get 4 _ rfl,get 5 _ rfl,get 6 _ rfl,get 7 _ rfl,get 8 _ rfl,get 9 _ rfl⟩
theorem there_row {w:World} {g o n:Nat} {cs:Array Value} {ty:TypeId} (h:w.heap[g]? = some (.cells cs ty (0,0))) (hn:o+n ≤ cs.size):w.there g o n:=by
 intro j hj
 refine ⟨?_,frozen_of ⟨cs,ty,h⟩⟩
 have hlt:o+j < cs.size:=by omega
 simp [World.cell?,h,hlt]
theorem CopiedTo.step {wr w2:World} {g m:Nat} {ts:List Tr} {x:Tr} {s:Value} {F:List Nat} (h:CopiedTo wr g ts m) (hx:ts[m]? = some x) (hb:Below wr.heap.size wr w2) (hg:g < wr.heap.size)
   (ho:Owned w2 s x.subs F) (hF:∀ b,b ∈ F→wr.heap.size ≤ b) (ht:w2.there g (m * 10) 10):CopiedTo (w2.setCells g (m * 10) (x.cells s).toList) g ts (m+1):=by
 obtain ⟨S,L,h1,h2,h3,h4⟩:=h
 have hg2:w2.heap[g]? = wr.heap[g]?:=hb.block g hg
 have hsz:=hb.size
 have hoth:∀ b,b ≠ g→(w2.setCells g (m * 10) (x.cells s).toList).heap[b]? = w2.heap[b]?:=fun b hbg=>heap_setCells_other hbg _ _ _
 refine ⟨pick S m s,pick L m F,fun i t hi hti=>?_,fun i hi b hbL=>?_,fun i j b hi hj hij h5 h6=>?_,fun i hi b hbL=>?_⟩
 · by_cases e:i=m
   · subst e
     rw [pick_eq,pick_eq]
     rw [hx] at hti
     obtain rfl:=Option.some.inj hti
     refine ⟨TenAt.of_range (World.rangeAt_setCells_same _ _ _ _ (by simpa [Tr.cells] using ht)),ho.keep fun b hb'=>hoth b (fun e=>by subst e;have:=hF _ hb';omega)⟩
   · rw [pick_ne _ _ _ e,pick_ne _ _ _ e]
     obtain ⟨q1,q2⟩:=h1 i t (by omega) hti
     refine ⟨(q1.keep hg2).setCells rfl (by omega),(q2.later hb).keep fun b hb'=>hoth b (fun e=>by subst e;exact absurd (h2 i (by omega) _ hb') (by omega))⟩
 · by_cases e:i=m
   · subst e;rw [pick_eq] at hbL;have:=hF b hbL;omega
   · rw [pick_ne _ _ _ e] at hbL;exact h2 i (by omega) b hbL
 · by_cases e:i=m
   · subst e
     rw [pick_eq] at h5;rw [pick_ne _ _ _ (Ne.symm hij)] at h6
     have:=hF b h5;have:=h4 j (by omega) b h6;omega
   · rw [pick_ne _ _ _ e] at h5
     by_cases e2:j=m
     · subst e2;rw [pick_eq] at h6
       have:=hF b h6;have:=h4 i (by omega) b h5;omega
     · rw [pick_ne _ _ _ e2] at h6;exact h3 i j b (by omega) (by omega) hij h5 h6
 · rw [size_setCells]
   by_cases e:i=m
   · subst e;rw [pick_eq] at hbL;exact ho.lt b hbL
   · rw [pick_ne _ _ _ e] at hbL;have:=h4 i (by omega) b hbL;omega
theorem CopiedTo.owned {w:World} {g:Nat} {ts:List Tr} (h:CopiedTo w g ts ts.length) (hlen:ts.length * 96 ≤ 140737488351232) (hf:∃ cs ty,w.heap[g]? = some (.cells cs ty (0,0))) (cap:Nat) :
   ∃ F,Owned w (.slice (some ⟨g,0,none⟩) ts.length cap) ts F∧∀ b,b ∈ F→g ≤ b:=by
 obtain ⟨S,L,h1,h2,h3,h4⟩:=h
 refine ⟨_,.row g 0 cap ts S L hlen hf (fun i t hi=>by rw [Nat.zero_add];exact (h1 i t (lt_of_some hi) hi).1) (fun i t hi=>(h1 i t (lt_of_some hi) hi).2) (fun i hi hm=>absurd (h2 i hi g hm) (by omega)) h3,fun b hb=>?_⟩
 rcases List.mem_cons.1 hb with rfl | hb
 · omega
 · obtain ⟨i,hi,hb⟩:=mem_range_flatMap.1 hb
   have:=h2 i hi b hb;omega
theorem row_setCells {b n:Nat} {ty:TypeId} : ∀ {vs:List Value} {o:Nat} {w:World} {C:Array Value},w.heap[b]? = some (.cells C ty)→C.size=n→∃ C':Array Value,(w.setCells b o vs).heap[b]? = some (.cells C' ty)∧C'.size=n
 | [],_,_,C,h,hn=>⟨C,h,hn⟩
 | v :: r,o,w,C,h,hn=>by
   rw [World.setCells]
   exact row_setCells (vs:=r) (o:=o+1) (C:=C.setIfInBounds o v) (by simp [World.setCell,Array.getElem?_modify,h]) (by simpa using hn)
theorem setCells_below {B b:Nat} {a w:World} (h:Below B a w) (hb:B ≤ b) (o:Nat) (vs:List Value):Below B a (w.setCells b o vs):=by
 obtain ⟨h1,h2,h3⟩:=streams_setCells b vs o w
 exact h.trans ⟨h1,h2,h3,by rw [size_setCells];omega,fun k hk=>heap_setCells_other (by omega) _ _ _⟩
theorem make_nodes (n:Nat) (hn:n * 96 ≤ 140737488351232):∃ CS:Array Value,CS.size=n * 10∧∀ w:World,(Instr.makeSlice 35 (.int .i64 n) (.int .i64 n)).run Tryd.prog w=.ok (.slice (some ⟨w.heap.size,0,none⟩) n n) (w.alloc (.cells CS 37)):=by
 obtain ⟨ie,hi,hz0,hz1,hz2⟩:=info_parts Tryd.infoNode
 refine ⟨madeCells (Value.agg #[.int .i64 0,.int .u64 0,.int .u64 0,.int .u64 0,.int .u64 0,.slice none 0 0,.int .i64 0,.int .i64 0,.int .i64 0,.bool false]).cells (n * 10),size_madeCells _ _,fun w=>?_⟩
 have h:=run_make (P:=Tryd.prog) w 35 37 ie _ Tryd.underlying35 hi hz0 .i64 .i64 n n (by omega) (Int.le_refl _) (by rw [hz2];omega) (by omega)
 simp only [Int.toNat_natCast,hz1] at h
 exact h
theorem copies_of (ts:List Tr) (ih:∀ u,u ∈ ts→∀ (w:World) (B:Nat→Prop) (v:Value),NodeV w B v u→Calls Tryd.prog 81 #[v] w (OwnEnd u w)) (w:World) (B:Nat→Prop) (v:Value) (hs:TreesAt w B v ts) :
   Calls Tryd.prog 59 #[v] w (OwnsEnd ts w):=by
 obtain ⟨p,cap,rfl,hlen⟩:=hs.slice
 by_cases h0:ts.length=0
 · obtain rfl:=List.length_eq_zero_iff.1 h0
   simp only [List.length_nil] at *
   clear hs
   go_enter Tryd.func59,Tryd.ntmps59
   go_wp2
   go_ret
   exact ⟨_,[],rfl,.nil _ _,fun b hb=>(by cases hb),Below.refl _ _⟩
 · have e0:((ts.length:Int) == 0)=false:=by simp;exact fun h=>h0 (by rw [h];rfl)
   obtain ⟨CS,hCS,hmk⟩:=make_nodes ts.length hlen
   have IH:=Lib.hid ih;have HS:=Lib.hid hs;have HCS:=Lib.hid hCS;have H0:=Lib.hid h0
   clear ih hs hCS h0
   go_enter Tryd.func59,Tryd.ntmps59
   go_wp2
   go_loopw [14] (fun iv wr=>∃ m:Nat,iv=.int .i64 m∧m ≤ ts.length∧Hid (Below w.heap.size w wr)∧w.heap.size < wr.heap.size∧Hid (∃ C:Array Value,wr.heap[w.heap.size]? = some (.cells C 37)∧C.size=ts.length * 10)∧Hid (CopiedTo wr w.heap.size ts m)) (fun iv _=>ts.length - (intOf iv).toNat)
   case atStart=>exact ⟨0,rfl,Nat.zero_le _,Lib.hid (by go_grown),by simp,Lib.hid ⟨CS,heap_alloc_new _ _,HCS.out⟩,Lib.hid (CopiedTo.zero _ _ _)⟩
   case round =>
     obtain ⟨m,rfl,hm,HB,hsz,HC,HD⟩:=hrel
     have wm:IntKind.i64.wrap ((m:Int)+1)=(m:Int)+1:=IntWalk.i64_in _ (by omega)
     by_cases hlt:m < ts.length
     · obtain ⟨x,hx⟩:∃ x,ts[m]? = some x:=⟨_,List.getElem?_eq_getElem hlt⟩
       obtain ⟨b1,o1,s1,rfl,-,t1,sub1⟩:=HS.out.get hx
       obtain ⟨d0,d1,d2,d3,d4,d5,d6,d7,d8,d9⟩:=t1.keep (HB.out.block _ t1.lt)
       obtain ⟨p1,c1,rfl,hl1⟩:=sub1.slice
       have HCALL:=Lib.hid (fun w9 hb=>IH.out x (List.mem_of_getElem? hx) w9 B (.agg (x.cells (.slice p1 x.subs.length c1))) ⟨_,rfl,sub1.later hb⟩)
       have HX:=Lib.hid hx
       clear t1 sub1 hx
       go_wp2_with fail
       generalize hw1:World.alloc wr _=w1
       have hb1:Below wr.heap.size wr w1:=by rw [← hw1];exact (Below.refl _ _).alloc (Nat.le_refl _) _
       clear hw1
       refine (HCALL.out w1 (HB.out.trans (hb1.mono HB.out.size))).mono ?_
       rintro e w2 ⟨s2,F2,rfl,ho2,hF2,hb2⟩
       obtain ⟨p2,c2,rfl,hl2⟩:=ho2.slice
       have hb12:Below wr.heap.size wr w2:=hb1.trans (hb2.mono hb1.size)
       obtain ⟨C,hC1,hC2⟩:=HC.out
       have hC3:=keep_blk hb12 hC1
       have hth:w2.there w.heap.size (m * 10) 10:=there_row hC3 (by omega)
       have HTH:=Lib.hid hth
       have HST:=Lib.hid (HD.out.step HX.out hb12 hsz ho2 (fun b hb=>Nat.le_trans hb1.size (hF2 b hb)) hth)
       have HB2:=Lib.hid (HB.out.trans (hb12.mono HB.out.size))
       have HC4:Hid (∃ C:Array Value,(w2.setCells w.heap.size (m * 10) (x.cells (.slice p2 x.subs.length c2)).toList).heap[w.heap.size]? = some (.cells C 37)∧C.size=ts.length * 10):=Lib.hid (row_setCells hC3 hC2)
       have hs2:w.heap.size < w2.heap.size:=Nat.lt_of_lt_of_le hsz hb12.size
       clear hb1 hb2 hb12 ho2 hF2 hC1 hC2 hC3 hth d0 d1 d2 d3 d4 d5 d6 d7 d8 d9
       go_wp2_with (first
         | (refine wpList_store_mid rfl 37 (.tmp 23) (.tmp 22) rfl w.heap.size (m * 10) (x.cells (.slice p2 x.subs.length c2)) rfl rfl HTH.out (by kernel_rfl) (nodeC_all _ _ _ _) ?_;generalize hw3:World.setCells w2 _ _ _=w3;have HW3:=Lib.hid hw3;clear hw3)
         | fail)
       rw [← HW3.out]
       refine ⟨⟨m+1,by go_num,by omega,Lib.hid (setCells_below HB2.out (Nat.le_refl _) _ _),by rw [size_setCells];exact hs2,HC4,HST⟩,by simp [intOf];omega⟩
     · obtain rfl:m=ts.length:=by omega
       go_wp2
       go_ret
       obtain ⟨C,hC1,-⟩:=HC.out
       obtain ⟨F,hF,hF2⟩:=HD.out.owned hlen ⟨C,_,hC1⟩ ts.length
       exact ⟨_,F,rfl,hF,hF2,HB.out⟩
theorem copy_any:∀ t:Tr,∀ (w:World) (B:Nat→Prop) (v:Value),NodeV w B v t→Calls Tryd.prog 81 #[v] w (OwnEnd t w):=by
 intro t
 induction t using Tr.rec_subs with
 | h t ih =>
   intro w B v hv
   obtain ⟨s,rfl,hs⟩:=hv
   obtain ⟨p,cap,rfl,hlen⟩:=hs.slice
   have HC:=Lib.hid (fun w9 (hb:Below w.heap.size w w9)=>copies_of t.subs ih w9 B _ (hs.later hb))
   cases t with | node k a b c d ts n lo hi br =>
   simp only [Tr.cells,Tr.kind,Tr.w0,Tr.w1,Tr.w2,Tr.w3,Tr.num,Tr.least,Tr.most,Tr.bare,Tr.subs] at *
   clear ih hs
   go_enter Tryd.func81,Tryd.ntmps81
   go_wp2_with fail
   obtain ⟨z0,z1⟩:=two_new w (.cells #[.int .i64 k,.int .u64 (Oc.U a),.int .u64 (Oc.U b),.int .u64 (Oc.U c),.int .u64 (Oc.U d),.slice p ts.length cap,.int .i64 n,.int .i64 lo,.int .i64 hi,.bool br] 37) (.cells #[.int .i64 0,.int .u64 0,.int .u64 0,.int .u64 0,.int .u64 0,.slice none 0 0,.int .i64 0,.int .i64 0,.int .i64 0,.bool false] 37)
   have hb1:Below w.heap.size w ((w.alloc (.cells #[.int .i64 k,.int .u64 (Oc.U a),.int .u64 (Oc.U b),.int .u64 (Oc.U c),.int .u64 (Oc.U d),.slice p ts.length cap,.int .i64 n,.int .i64 lo,.int .i64 hi,.bool br] 37)).alloc (.cells #[.int .i64 0,.int .u64 0,.int .u64 0,.int .u64 0,.int .u64 0,.slice none 0 0,.int .i64 0,.int .i64 0,.int .i64 0,.bool false] 37)):=by go_grown
   have hs1:((w.alloc (.cells #[.int .i64 k,.int .u64 (Oc.U a),.int .u64 (Oc.U b),.int .u64 (Oc.U c),.int .u64 (Oc.U d),.slice p ts.length cap,.int .i64 n,.int .i64 lo,.int .i64 hi,.bool br] 37)).alloc (.cells #[.int .i64 0,.int .u64 0,.int .u64 0,.int .u64 0,.int .u64 0,.slice none 0 0,.int .i64 0,.int .i64 0,.int .i64 0,.bool false] 37)).heap.size=w.heap.size+2:=by simp
   generalize World.alloc (World.alloc _ _) _=w1 at *
   have Z0:=Lib.hid z0;have Z1:=Lib.hid z1;have HB1:=Lib.hid hb1
   clear z0 z1 hb1
   refine (HC.out w1 HB1.out).mono ?_
   rintro e w2 ⟨s2,F,rfl,ho,hF,hb2⟩
   obtain ⟨p2,c2,rfl,hl2⟩:=ho.slice
   have HO:=Lib.hid ho;have HF:=Lib.hid hF
   have Y0:=Lib.hid (keep_blk hb2 Z0.out);have Y1:=Lib.hid (keep_blk hb2 Z1.out)
   have HB2:=Lib.hid (HB1.out.trans (hb2.mono HB1.out.size))
   obtain ⟨f5,g5⟩:=at5 Y0.out
   have Y0s:=Lib.hid (set5 (y:=.slice p2 ts.length c2) Y0.out)
   have Y1s:Hid ((w2.setCell ⟨w.heap.size,5,none⟩ (.slice p2 ts.length c2)).heap[w.heap.size+1]? = some (.cells #[.int .i64 0,.int .u64 0,.int .u64 0,.int .u64 0,.int .u64 0,.slice none 0 0,.int .i64 0,.int .i64 0,.int .i64 0,.bool false] 37)):=Lib.hid (by rw [Below.heap_setCell _ _ _ _ (by simp)];exact Y1.out)
   clear ho hF hb2
   go_wp2_with (first
     | (refine wpList_load_row rfl 37 (.tmp 1) rfl w.heap.size rfl 37 _ (0,0) _ Y0s.out Tryd.underlying37 rfl (by kernel_rfl) ?_)
     | (refine wpList_store_row rfl 37 (.tmp 2) (.tmp 7) rfl (w.heap.size+1) #[.int .i64 k,.int .u64 (Oc.U a),.int .u64 (Oc.U b),.int .u64 (Oc.U c),.int .u64 (Oc.U d),.slice p2 ts.length c2,.int .i64 n,.int .i64 lo,.int .i64 hi,.bool br] rfl rfl 37 _ Y1s.out (by kernel_rfl) rfl (by simp [Value.oneCell']) ?_)
     | fail)
   refine bodyPost_ret (results_cell_row rfl _ _ (w.heap.size+1) 37 #[.int .i64 k,.int .u64 (Oc.U a),.int .u64 (Oc.U b),.int .u64 (Oc.U c),.int .u64 (Oc.U d),.slice p2 ts.length c2,.int .i64 n,.int .i64 lo,.int .i64 hi,.bool br] (0,0) _ rfl (heap_setRow Y1s.out) Tryd.underlying37 rfl (by kernel_rfl)) rfl ⟨_,F,rfl, ?_, ?_, ?_⟩
   · exact HO.out.keep fun b hb=>by
       have:=HF.out b hb
       rw [heap_setRow_other _ _ _ (by omega),Below.heap_setCell _ _ _ _ (by simp;omega)]
   · intro b hb;have:=HF.out b hb;omega
   · exact below_setRow (HB2.out.setCell (Nat.le_refl _) _) (Nat.le_succ _) _
theorem copies_any (ts:List Tr) (w:World) (B:Nat→Prop) (v:Value) (hs:TreesAt w B v ts):Calls Tryd.prog 59 #[v] w (OwnsEnd ts w) :=
 copies_of ts (fun u _ w B v h=>copy_any u w B v h) w B v hs
end Go.Proofs.YtedjkbmfpjmlpaaDoor
namespace Go.Proofs.YtedjkbmfpjmlpaaDoor
open Go.RowKit
theorem part0 (a b c d:Value) (w:World):(Go.part 22 #[a,b,c,d] 0).run Tryd.prog w=.ok a w:=by kernel_rfl
theorem part1 (a b c d:Value) (w:World):(Go.part 22 #[a,b,c,d] 1).run Tryd.prog w=.ok b w:=by kernel_rfl
theorem part2 (a b c d:Value) (w:World):(Go.part 22 #[a,b,c,d] 2).run Tryd.prog w=.ok c w:=by kernel_rfl
theorem part3 (a b c d:Value) (w:World):(Go.part 22 #[a,b,c,d] 3).run Tryd.prog w=.ok d w:=by kernel_rfl
theorem eqi (a b:Int) (w:World):(Op.equalIn 9999 22 (.int .u64 a) (.int .u64 b)).run Tryd.prog w=.ok (a == b) w:=run_equalIn_int w 9998 22 .u64 .u64 a b Tryd.underlying22
theorem eq4 (a b c d a' b' c' d':Int) (w:World):(Op.equalIn 10000 24 (.agg #[.int .u64 a,.int .u64 b,.int .u64 c,.int .u64 d]) (.agg #[.int .u64 a',.int .u64 b',.int .u64 c',.int .u64 d'])).run Tryd.prog w=.ok (a == a' && (b == b' && (c == c' && d == d'))) w:=by
 have h0:=run_underlying (P:=Tryd.prog) (w:=w) Tryd.underlying24
 unfold Op.equalIn
 simp only [Sem.run_bind,h0,Result.andThen_ok]
 simp
 rw [show List.range' 0 4=[0,1,2,3] from rfl]
 simp only [List.forIn_cons,List.forIn_nil,Sem.run_bind,part0,eqi,Result.andThen_ok]
 by_cases h1:a=a'
 · by_cases h2:b=b'
   · by_cases h3:c=c'
     · by_cases h4:d=d' <;> simp [h1,h2,h3,h4,part1,part2,part3,eqi]
     · simp [h1,h2,h3,part1,part2,eqi]
   · simp [h1,h2,part1,eqi]
 · simp [h1]
end Go.Proofs.YtedjkbmfpjmlpaaDoor
namespace Go.Proofs.YtedjkbmfpjmlpaaDoor
open Go.RowKit
namespace Ri
def up {T:Type} (f:Nat→T) (i:Nat) (x:T):Nat→T:=fun j=>if j=i then x else f j
theorem up_same {T:Type} (f:Nat→T) (i:Nat) (x:T):up f i x i=x:=by simp [up]
theorem up_other {T:Type} (f:Nat→T) (i:Nat) (x:T) (j:Nat) (h:j ≠ i):up f i x j=f j:=by simp [up,h]
def backward (ops:Array Oper):Bool:=(List.range ops.size).all fun i=>((ops[i]?).map fun o=>o.after.all fun e=>!Region.binds .any e || decide (e.on < i)).getD true
variable {P:Program} {ops:Array Oper} {Q:Exit→Act→World→Prop}
theorem all_listed (hb:backward ops=true) {listed:Array Bool} (hr:Region.ready .any ops listed=[]) (hs:listed.size=ops.size):∀ i,i < ops.size→listed.getD i false=true:=by
 intro i
 induction i using Nat.strongRecOn with
 | _ i ih =>
   intro hi
   cases hl:listed.getD i false with
   | true=>rfl
   | false =>
     exfalso
     have hmem:i ∈ Region.ready .any ops listed:=by
       unfold Region.ready
       refine List.mem_filter.2 ⟨List.mem_range.2 hi, ?_⟩
       have h1:listed.getD i true=false:=by
         have:i < listed.size:=by omega
         simp only [Array.getD,this,dif_pos] at hl ⊢
         exact hl
       have ho:ops[i]? = some ops[i]:=Array.getElem?_eq_getElem hi
       rw [h1,ho]
       simp only [Bool.not_false,Bool.true_and,Option.map_some,Option.getD_some]
       rw [Array.all_eq_true_iff_forall_mem]
       intro e he
       cases hbi:Region.binds .any e with
       | false=>rfl
       | true =>
         have hlt:e.on < i:=by
           have h2:=List.all_eq_true.1 hb i (List.mem_range.2 hi)
           rw [ho] at h2
           simp only [Option.map_some,Option.getD_some] at h2
           have h3:=(Array.all_eq_true_iff_forall_mem.1 h2) e he
           rw [hbi] at h3
           simpa using h3
         simp [ih e.on hlt (by omega)]
     rw [hr] at hmem
     cases hmem
theorem wpAny_inv (hb:backward ops=true) (I:(Nat→Bool)→(Nat→Value)→World→Prop) (A:(Nat→Bool)→(Nat→Value)→Act)
   (step:∀ i,i < ops.size→∀ L v w,I L v w→L i=false→(∀ o,ops[i]? = some o→∀ e ∈ o.after,Region.binds .any e=true→L e.on=true) →
     wpOp P ops Q i (fun a' w'=>∃ u,a'=A (up L i true) (up v i u)∧I (up L i true) (up v i u) w') (A L v) w)
   (fin:∀ L v w,(∀ i,i < ops.size→L i=true)→I L v w→Q .normal (A L v) w) :
   ∀ (fuel:Nat) (U:List Nat) (listed:Array Bool) (v:Nat→Value) (w:World),listed.size=ops.size→U.length ≤ fuel→(∀ i,i < ops.size→listed.getD i false=false→i ∈ U) →
     I (fun i=>listed.getD i false) v w→wpAny P .any ops Q fuel listed (A (fun i=>listed.getD i false) v) w:=by
 intro fuel
 induction fuel with
 | zero =>
   intro U listed v w hs hU hin hI
   have hnil:U=[]:=List.eq_nil_of_length_eq_zero (by omega)
   subst hnil
   have hall:∀ i,i < ops.size→listed.getD i false=true:=fun i hi=>by
     cases h:listed.getD i false with
     | true=>rfl
     | false=>exact absurd (hin i hi h) (by simp)
   refine ⟨?_,fin _ v w hall hI⟩
   unfold Region.ready
   rw [List.filter_eq_nil_iff]
   intro i hi
   have hi':=List.mem_range.1 hi
   have h1:listed.getD i true=true:=by
     have h0:=hall i hi'
     have:i < listed.size:=by omega
     simp only [Array.getD,this,dif_pos] at h0 ⊢
     exact h0
   simp [h1]
 | succ fuel ih =>
   intro U listed v w hs hU hin hI
   refine ⟨fun hr=>fin _ v w (all_listed hb hr hs) hI,fun i hi=>?_⟩
   unfold Region.ready at hi
   obtain ⟨hir,hcond⟩:=List.mem_filter.1 hi
   have hin':=List.mem_range.1 hir
   have ho:ops[i]? = some ops[i]:=Array.getElem?_eq_getElem hin'
   rw [ho] at hcond
   simp only [Bool.and_eq_true,Option.map_some,Option.getD_some] at hcond
   obtain ⟨hl,hafter⟩:=hcond
   have hlf:listed.getD i false=false:=by
     have:i < listed.size:=by omega
     simp only [Array.getD,this,dif_pos] at hl ⊢
     simpa using hl
   have hst:=step i hin' (fun j=>listed.getD j false) v w hI hlf (fun o hoo e he hbi=>by
     rw [ho] at hoo;cases hoo
     have h3:=(Array.all_eq_true_iff_forall_mem.1 hafter) e he
     rw [hbi] at h3
     simpa using h3)
   refine wpOp_mono (fun a' w' h=>?_) hst
   obtain ⟨u,rfl,hI'⟩:=h
   have hup:(fun j=>(listed.setIfInBounds i true).getD j false)=up (fun j=>listed.getD j false) i true:=by
     funext j
     unfold up
     by_cases e:j=i
     · subst e
       have:j < (listed.setIfInBounds j true).size:=by simp;omega
       simp [Array.getD];omega
     · rw [if_neg e]
       simp only [Array.getD,Array.size_setIfInBounds]
       split
       · rename_i h;exact Array.getElem_setIfInBounds_ne h (Ne.symm e)
       · rfl
   have hmemU:i ∈ U:=hin i hin' hlf
   have:=ih (U.erase i) (listed.setIfInBounds i true) (up v i u) w' (by simpa using hs) (by rw [List.length_erase_of_mem hmemU];have:=List.length_pos_of_mem hmemU;omega)
     (fun j hj hjl=>by
       have hj2:(up (fun j=>listed.getD j false) i true) j=false:=by rw [← hup];exact hjl
       by_cases e:j=i
       · subst e;rw [up_same] at hj2;cases hj2
       · rw [up_other _ _ _ _ e] at hj2
         exact (List.mem_erase_of_ne e).2 (hin j hj hj2))
     (by rw [hup];exact hI')
   rw [hup] at this
   exact this
theorem wp_region_inv {id:Nat} {a:Act} {w:World} (hm:P.follows .mixedOrders=true) (hb:backward ops=true) (I:(Nat→Bool)→(Nat→Value)→World→Prop) (A:(Nat→Bool)→(Nat→Value)→Act)
   (ha:a=A (fun _=>false) (fun _=>undef)) (hi:I (fun _=>false) (fun _=>undef) w.drew)
   (step:∀ i,i < ops.size→∀ L v w,I L v w→L i=false→(∀ o,ops[i]? = some o→∀ e ∈ o.after,Region.binds .any e=true→L e.on=true) →
     wpOp P ops Q i (fun a' w'=>∃ u,a'=A (up L i true) (up v i u)∧I (up L i true) (up v i u) w') (A L v) w)
   (fin:∀ L v w,(∀ i,i < ops.size→L i=true)→I L v w→Q .normal (A L v) w) :
   (Code.region id ops true).wp P Q a w:=by
 refine wp_region_any hm ?_
 have hz:(fun i=>(Array.replicate ops.size false).getD i false)=fun _=>false:=by
   funext i;simp only [Array.getD,Array.size_replicate];split <;> simp
 have:=wpAny_inv (P:=P) hb I A step fin ops.size (List.range ops.size) (Array.replicate ops.size false) (fun _=>undef) w.drew (by simp) (by simp) (fun i hi _=>List.mem_range.2 hi) (by rw [hz];exact hi)
 rw [hz,← ha] at this
 exact this
def frame (ops:Array Oper) (a:Act) (L:Nat→Bool) (v:Nat→Value):Act :=
 { a with tmps:=ops.toList.zipIdx.foldl (fun t p=>match p.1.dst with | some d=>if L p.2 then t.setIfInBounds d (v p.2) else t | none=>t) a.tmps }
def apart (ops:Array Oper):Bool:=(ops.toList.filterMap (·.dst)).eraseDups.length == (ops.toList.filterMap (·.dst)).length && ops.toList.zipIdx.all fun p=>ops.toList.zipIdx.all fun q=>p.2 == q.2 || p.1.dst == none || p.1.dst != q.1.dst
theorem fold_size (L:Nat→Bool) (v:Nat→Value):∀ (l:List (Oper × Nat)) (t:Array Value),
   (l.foldl (fun t p=>match p.1.dst with | some d=>if L p.2 then t.setIfInBounds d (v p.2) else t | none=>t) t).size=t.size:=by
 intro l
 induction l with
 | nil=>intro t;rfl
 | cons p l ih =>
   intro t
   rw [List.foldl_cons,ih]
   split
   · split <;> simp
   · rfl
theorem fold_other (L:Nat→Bool) (v:Nat→Value) (s:Nat):∀ (l:List (Oper × Nat)) (t:Array Value),(∀ p ∈ l,p.1.dst ≠ some s) →
   (l.foldl (fun t p=>match p.1.dst with | some d=>if L p.2 then t.setIfInBounds d (v p.2) else t | none=>t) t)[s]? = t[s]?:=by
 intro l
 induction l with
 | nil=>intro t _;rfl
 | cons p l ih =>
   intro t h
   rw [List.foldl_cons,ih _ (fun q hq=>h q (List.mem_cons_of_mem _ hq))]
   have hp:=h p (List.mem_cons_self ..)
   split
   · rename_i d hd
     split
     · rw [Array.getElem?_setIfInBounds_ne];intro e;subst e;exact hp hd
     · rfl
   · rfl
theorem fold_own (L:Nat→Bool) (v:Nat→Value) (s:Nat) (i:Nat):∀ (l:List (Oper × Nat)) (t:Array Value),s < t.size→(∃ p ∈ l,p.1.dst=some s∧p.2=i)→(∀ p ∈ l,p.1.dst=some s→p.2=i) →
   (l.foldl (fun t p=>match p.1.dst with | some d=>if L p.2 then t.setIfInBounds d (v p.2) else t | none=>t) t)[s]? = if L i then some (v i) else t[s]?:=by
 intro l
 induction l with
 | nil=>rintro t _ ⟨p,hp,_⟩ _;cases hp
 | cons p l ih =>
   intro t hs hex hun
   rw [List.foldl_cons]
   by_cases hp:p.1.dst=some s
   · have hi:=hun p (List.mem_cons_self ..) hp
     rw [hp,hi]
     simp only []
     by_cases hl:∃ q ∈ l,q.1.dst=some s∧q.2=i
     · rw [ih _ (by split <;> simpa using hs) hl (fun q hq=>hun q (List.mem_cons_of_mem _ hq))]
       cases L i <;> simp
     · rw [fold_other L v s l _ (fun q hq e=>hl ⟨q,hq,e,hun q (List.mem_cons_of_mem _ hq) e⟩)]
       cases L i <;> simp [hs]
   · obtain ⟨q,hq,hqd,hqi⟩:=hex
     rcases List.mem_cons.1 hq with rfl | hq
     · exact absurd hqd hp
     · have hne:∀ d,p.1.dst=some d→d ≠ s:=fun d hd e=>hp (by rw [hd,e])
       rw [ih _ (by split <;> (try split) <;> simpa using hs) ⟨q,hq,hqd,hqi⟩ (fun q hq=>hun q (List.mem_cons_of_mem _ hq))]
       congr 1
       split
       · rename_i d hd
         split
         · rw [Array.getElem?_setIfInBounds_ne (hne d hd)]
         · rfl
       · rfl
theorem mem_zip {ops:Array Oper} {p:Oper × Nat} (h:p ∈ ops.toList.zipIdx):ops[p.2]? = some p.1:=by
 obtain ⟨_,_,h3⟩:=List.mem_zipIdx (x:=p.1) (i:=p.2) (k:=0) h
 rw [Array.getElem?_eq_some_iff]
 exact ⟨by rename_i h2;simpa using h2,by rw [h3];simp⟩
theorem zip_mem {ops:Array Oper} {i:Nat} {o:Oper} (h:ops[i]? = some o):(o,i) ∈ ops.toList.zipIdx:=by
 rw [List.mem_zipIdx_iff_getElem?]
 simpa using h
theorem apart_un (hap:apart ops=true) {i j:Nat} {o o':Oper} {d:Nat} (hi:ops[i]? = some o) (hj:ops[j]? = some o') (h1:o.dst=some d) (h2:o'.dst=some d):i=j:=by
 unfold apart at hap
 rw [Bool.and_eq_true] at hap
 have h3:=List.all_eq_true.1 (List.all_eq_true.1 hap.2 _ (zip_mem hi)) _ (zip_mem hj)
 simpa [h1,h2] using h3
theorem frame_size (a:Act) (L:Nat→Bool) (v:Nat→Value):(frame ops a L v).tmps.size=a.tmps.size:=fold_size L v _ _
theorem frame_own (hap:apart ops=true) (a:Act) (L:Nat→Bool) (v:Nat→Value) {i d:Nat} {o:Oper} (ho:ops[i]? = some o) (hd:o.dst=some d) (hs:d < a.tmps.size) :
   (frame ops a L v).tmps[d]? = if L i then some (v i) else a.tmps[d]? :=
 fold_own L v d i _ _ hs ⟨_,zip_mem ho,hd,rfl⟩ (fun _ hp e=>(apart_un hap ho (mem_zip hp) hd e).symm)
theorem frame_other (a:Act) (L:Nat→Bool) (v:Nat→Value) {d:Nat} (h:∀ (i:Nat) (o:Oper),ops[i]? = some o→o.dst ≠ some d):(frame ops a L v).tmps[d]? = a.tmps[d]? :=
 fold_other L v d _ _ (fun p hp=>h p.2 p.1 (mem_zip hp))
theorem frame_put (hap:apart ops=true) (a:Act) (L:Nat→Bool) (v:Nat→Value) {i:Nat} {o:Oper} (ho:ops[i]? = some o) (u:Value) :
   (frame ops a L v).put o.dst u=frame ops a (up L i true) (up v i u):=by
 have key:∀ s:Nat,((frame ops a L v).put o.dst u).tmps[s]? = (frame ops a (up L i true) (up v i u)).tmps[s]?:=by
   intro s
   by_cases hs:s < a.tmps.size
   · by_cases hex:∃ (j:Nat) (o':Oper),ops[j]? = some o'∧o'.dst=some s
     · obtain ⟨j,o',hj,hd⟩:=hex
       rw [frame_own hap a _ _ hj hd hs]
       by_cases e:j=i
       · subst e
         rw [ho] at hj;cases hj
         rw [hd,up_same,up_same]
         simp only [Act.put,if_true]
         rw [Array.getElem?_setIfInBounds_self,if_pos (by rw [frame_size];exact hs)]
       · rw [up_other _ _ _ _ e,up_other _ _ _ _ e,← frame_own hap a L v hj hd hs]
         cases hod:o.dst with
         | none=>rfl
         | some d =>
           simp only [Act.put]
           rw [Array.getElem?_setIfInBounds_ne]
           intro e';subst e';exact e (apart_un hap hj ho hd hod)
     · have hno:∀ (j:Nat) (o':Oper),ops[j]? = some o'→o'.dst ≠ some s:=fun j o' h1 h2=>hex ⟨j,o',h1,h2⟩
       rw [frame_other a _ _ hno,← frame_other a L v hno]
       cases hod:o.dst with
       | none=>rfl
       | some d =>
         simp only [Act.put]
         rw [Array.getElem?_setIfInBounds_ne]
         intro e';subst e';exact hno i o ho hod
   · have h1:(frame ops a (up L i true) (up v i u)).tmps[s]? = none:=Array.getElem?_eq_none (by rw [frame_size];omega)
     have h2:((frame ops a L v).put o.dst u).tmps[s]? = none:=by
       refine Array.getElem?_eq_none ?_
       cases o.dst <;> simp [Act.put,frame_size] <;> omega
     rw [h1,h2]
 have ht:((frame ops a L v).put o.dst u).tmps=(frame ops a (up L i true) (up v i u)).tmps:=Array.ext_getElem? key
 have hd:((frame ops a L v).put o.dst u).defers=(frame ops a (up L i true) (up v i u)).defers:=by cases o.dst <;> rfl
 generalize (frame ops a L v).put o.dst u=x at *
 generalize frame ops a (up L i true) (up v i u)=y at *
 cases x;cases y;simp_all
theorem fold_none (v:Nat→Value):∀ (l:List (Oper × Nat)) (t:Array Value),
   l.foldl (fun t p=>match p.1.dst with | some d=>if (fun _:Nat=>false) p.2 then t.setIfInBounds d (v p.2) else t | none=>t) t=t:=by
 intro l
 induction l with
 | nil=>intro t;rfl
 | cons p l ih=>intro t;rw [List.foldl_cons];cases p.1.dst <;> exact ih t
theorem wp_region_frame {id:Nat} {a:Act} {w:World} (hm:P.follows .mixedOrders=true) (hb:backward ops=true) (hap:apart ops=true) (hsz0:(ops.toList.all fun o=>o.dst.all fun d=>decide (d < a.tmps.size))=true)
   (I:(Nat→Bool)→(Nat→Value)→World→Prop)
   (hi:I (fun _=>false) (fun _=>undef) w.drew)
   (step:∀ i,i < ops.size→∀ L v w (a':Act),I L v w→L i=false→(∀ o,ops[i]? = some o→∀ e ∈ o.after,Region.binds .any e=true→L e.on=true) →
     (∀ j d:Nat,(ops[j]?).bind (·.dst)=some d→L j=true→a'.tmps.getD d undef=v j)→(∀ d,ops.toList.all (fun o=>o.dst != some d)=true→a'.tmps.getD d undef=a.tmps.getD d undef) →
     wpOp P ops Q i (fun b w'=>∃ (o:Oper) (u:Value),ops[i]? = some o∧b=a'.put o.dst u∧I (up L i true) (up v i u) w') a' w)
   (fin:∀ v w,I (fun i=>decide (i < ops.size)) v w→Q .normal (frame ops a (fun _=>true) v) w) :
   (Code.region id ops true).wp P Q a w:=by
 have hsz:∀ (i:Nat) (o:Oper) (d:Nat),ops[i]? = some o→o.dst=some d→d < a.tmps.size:=fun i o d h1 h2=>by
   have:=List.all_eq_true.1 hsz0 o (Array.mem_toList_iff.2 (Array.mem_of_getElem? h1))
   rw [h2] at this
   simpa using this
 refine wp_region_inv hm hb (fun L v w=>I L v w∧∀ i,ops.size ≤ i→L i=false) (frame ops a) ?_ ⟨hi,fun _ _=>rfl⟩ ?_ ?_
 · have:=fold_none (fun _=>undef) ops.toList.zipIdx a.tmps
   unfold frame;rw [show (List.foldl _ a.tmps _)=a.tmps from this]
 · intro i hin L v w ⟨hI,hL⟩ hLi hd
   refine wpOp_mono ?_ (step i hin L v w (frame ops a L v) hI hLi hd ?_ ?_)
   · rintro b w' ⟨o,u,ho,rfl,hI'⟩
     exact ⟨u,frame_put hap a L v ho u,hI',fun j hj=>by rw [up_other _ _ _ _ (by omega)];exact hL j hj⟩
   · intro j d hjd hlj
     obtain ⟨o,ho,hod⟩:=Option.bind_eq_some_iff.1 hjd
     have hs:=hsz j o d ho hod
     have:=frame_own hap a L v ho hod hs
     rw [hlj,if_pos rfl] at this
     rw [Array.getD_eq_getD_getElem?,this];rfl
   · intro d hall
     have hno:∀ (j:Nat) (o:Oper),ops[j]? = some o→o.dst ≠ some d:=fun j o ho=>by
       have:=List.all_eq_true.1 hall o (Array.mem_toList_iff.2 (Array.mem_of_getElem? ho))
       simpa using this
     rw [Array.getD_eq_getD_getElem?,Array.getD_eq_getD_getElem?,frame_other a L v hno]
 · intro L v w hall ⟨hI,hL⟩
   have e:L=fun i=>decide (i < ops.size):=by
     funext i
     by_cases h:i < ops.size
     · rw [hall i h];simp [h]
     · rw [hL i (by omega)];simp [h]
   have e2:frame ops a L v=frame ops a (fun _=>true) v:=by
     have:∀ s:Nat,(frame ops a L v).tmps[s]? = (frame ops a (fun _=>true) v).tmps[s]?:=by
       intro s
       by_cases hex:∃ (j:Nat) (o':Oper),ops[j]? = some o'∧o'.dst=some s
       · obtain ⟨j,o',hj,hd⟩:=hex
         have hs:=hsz j o' s hj hd
         rw [frame_own hap a _ _ hj hd hs,frame_own hap a _ _ hj hd hs,hall j (Array.getElem?_eq_some_iff.1 hj).1]
       · have hno:∀ (j:Nat) (o':Oper),ops[j]? = some o'→o'.dst ≠ some s:=fun j o' h1 h2=>hex ⟨j,o',h1,h2⟩
         rw [frame_other a _ _ hno,frame_other a _ _ hno]
     have ht:=Array.ext_getElem? this
     have hd:(frame ops a L v).defers=(frame ops a (fun _=>true) v).defers:=rfl
     generalize frame ops a L v=x at *
     generalize frame ops a (fun _=>true) v=y at *
     cases x;cases y;simp_all
   rw [e2]
   exact fin v w (e ▸ hI)
theorem step_plain {i:Nat} {o:Oper} {K:Act→World→Prop} {a:Act} {w:World} (ho:ops[i]? = some o) (hg:o.guard=none)
   (h:∀ K':Act→World→Prop,(∀ a w,K a w→K' a w)→Oper.wp P o a w K' Q):wpOp P ops Q i K a w :=
 wpOp_step ho fun K' hK=>by rw [if_pos (by simp [Region.wanted,hg])];exact h K' hK
theorem some_of_getD {t:Array Value} {i:Nat} {b:Bool} (h:t.getD i undef=.bool b):t[i]? = some (.bool b):=by
 rw [Array.getD_eq_getD_getElem?] at h
 cases hx:t[i]? with
 | none=>rw [hx] at h;cases h
 | some v=>rw [hx] at h;exact congrArg some h
theorem step_wanted {i j d:Nat} {b:Bool} {o:Oper} {K:Act→World→Prop} {a:Act} {w:World} (ho:ops[i]? = some o) (hg:o.guard=some (j,b)) (hd:(ops[j]?).bind (·.dst)=some d) (hv:a.tmps.getD d undef=.bool b)
   (h:∀ K':Act→World→Prop,(∀ a w,K a w→K' a w)→Oper.wp P o a w K' Q):wpOp P ops Q i K a w :=
 wpOp_step ho fun K' hK=>by
   rw [if_pos (by simp [Region.wanted,hg,yielded,hd,some_of_getD hv])];exact h K' hK
theorem step_unwanted {i j d:Nat} {b:Bool} {o:Oper} {K:Act→World→Prop} {a:Act} {w:World} (ho:ops[i]? = some o) (hg:o.guard=some (j,!b)) (hd:(ops[j]?).bind (·.dst)=some d) (hv:a.tmps.getD d undef=.bool b)
   (h:K (a.put o.dst undef) w):wpOp P ops Q i K a w :=
 wpOp_step ho fun K' hK=>by
   rw [if_neg (by cases b <;> simp [Region.wanted,hg,yielded,hd,some_of_getD hv])];exact hK _ _ h
end Ri
end Go.Proofs.YtedjkbmfpjmlpaaDoor
namespace Go.Proofs.YtedjkbmfpjmlpaaDoor
open Go.RowKit
theorem treesize_seq (t:Tr) (ih:∀ u,u ∈ t.subs→u.InForm→∀ (w:World) (B:Nat→Prop) (v:Value),NodeV w B v u→Calls Tryd.prog 58 #[v] w (SizeEnd u.szT w)) (hf:t.InForm) (hk:t.kind ≠ 8)
   (w:World) (B:Nat→Prop) (v:Value) (hv:NodeV w B v t):Calls Tryd.prog 58 #[v] w (SizeEnd t.szT w):=by
 obtain ⟨s,rfl,hs⟩:=hv
 obtain ⟨p,cap,rfl,hlen⟩:=hs.slice
 have HE:=Lib.hid (show t.szT=Tr.sat (1+Tr.szS t.subs) by cases t;rw [Tr.szT];simp only [Tr.kind] at hk;rw [if_neg hk];rfl)
 have HF:=Lib.hid hf
 generalize hts:t.subs=ts at *
 have HTS:=Lib.hid hts;have IH:=Lib.hid ih;have HS:=Lib.hid hs
 have e8:(t.kind == 8)=false:=by simpa using hk
 clear ih hs hf hk hts
 unfold Tr.cells
 go_enter Tryd.func58,Tryd.ntmps58
 go_wp2
 go_loopw [3,14] (fun nv iv wr=>∃ m:Nat,iv=.int .i64 m∧m ≤ ts.length∧nv=.int .i64 (Tr.sat (1+Tr.szS (ts.take m)):Nat)∧Hid (Below w.heap.size w wr)) (fun _ iv _=>ts.length - (intOf iv).toNat)
 case atStart=>exact ⟨0,rfl,Nat.zero_le _,rfl,Lib.hid (by go_grown)⟩
 case round =>
   obtain ⟨m,rfl,hm,rfl,HB⟩:=hrel
   have wm:IntKind.i64.wrap ((m:Int)+1)=(m:Int)+1:=IntWalk.i64_in _ (by omega)
   by_cases hlt:m < ts.length
   · obtain ⟨x,hx⟩:∃ x,ts[m]? = some x:=⟨_,List.getElem?_eq_getElem hlt⟩
     obtain ⟨b1,o1,s1,rfl,-,t1,sub1⟩:=HS.out.get hx
     obtain ⟨d0,d1,d2,d3,d4,d5,d6,d7,d8,d9⟩:=t1.keep (HB.out.block _ t1.lt)
     have hmem:=List.mem_of_getElem? hx
     obtain ⟨p1,c1,rfl,hl1⟩:=sub1.slice
     have HC:=Lib.hid (fun w9 hb=>IH.out x hmem (HF.out.sub (by rw [HTS.out];exact hmem)) w9 B (.agg (x.cells (.slice p1 x.subs.length c1))) ⟨_,rfl,sub1.later hb⟩)
     have hle:=Tr.sat_le (1+Tr.szS (ts.take m));have hlx:=Tr.szT_le x
     have HST:=Lib.hid (Tr.szS_take ts m x hx)
     clear t1 sub1 hmem hx
     generalize hn:Tr.sat (1+Tr.szS (ts.take m))=n at *
     have HN:=Lib.hid hn
     clear hn
     unfold Tr.cells at HC
     go_wp2_with fail
     generalize hw1:World.alloc wr _=w1
     have hb1:Below wr.heap.size wr w1:=by rw [← hw1];exact (Below.refl _ _).alloc (Nat.le_refl _) _
     clear hw1
     refine (HC.out w1 (HB.out.trans (hb1.mono HB.out.size))).mono ?_
     rintro e w2 ⟨rfl,hb2⟩
     have HB2:=Lib.hid (HB.out.trans ((hb1.trans (hb2.mono hb1.size)).mono HB.out.size))
     have wsum:IntKind.i64.wrap ((n:Int)+(x.szT:Int))=(n:Int)+x.szT:=IntWalk.i64_in _ (by omega)
     have HSUM:=Lib.hid (show Tr.sat (n+x.szT)=Tr.sat (1+Tr.szS (ts.take (m+1))) by rw [← HN.out,Tr.sat_sat,HST.out];congr 1;omega)
     generalize x.szT=N at *
     clear d0 d1 d2 d3 d4 d5 d6 d7 d8 d9 hb1 hb2 HC
     go_wp2
     all_goals
       exact ⟨⟨m+1,by go_num,by omega,by rw [← HSUM.out];unfold Tr.sat;congr 1;omega,HB2⟩,by simp [intOf];omega⟩
   · obtain rfl:m=ts.length:=by omega
     have HX:=Lib.hid (show Tr.sat (1+Tr.szS (ts.take ts.length))=t.szT by rw [List.take_length,HE.out])
     go_wp2
     go_ret
     exact ⟨ret_int (by rw [HX.out]),HB.out⟩
theorem treesize_rep (t x:Tr) (ih:∀ (w:World) (B:Nat→Prop) (v:Value),NodeV w B v x→Calls Tryd.prog 58 #[v] w (SizeEnd x.szT w)) (hsub:t.subs=[x]) (hk:t.kind=8) (h0:0 ≤ t.least) (h1:t.least ≤ 255) (h2:t.most = -1 ∨ (t.least ≤ t.most∧t.most ≤ 255))
   (w:World) (B:Nat→Prop) (v:Value) (hv:NodeV w B v t):Calls Tryd.prog 58 #[v] w (SizeEnd t.szT w):=by
 obtain ⟨s,rfl,hs⟩:=hv
 have hsz0:t.szT=Tr.repSz t.least t.most x.szT:=by
   cases t;simp only [Tr.kind,Tr.subs] at hk hsub;subst hk hsub;rw [Tr.szT,if_pos rfl,Tr.szH];rfl
 have HSZ:=Lib.hid hsz0
 have HC:=Lib.hid (fun w9 (hb:Below w.heap.size w w9)=>treerep t x ih hsub h0 h1 h2 w9 B _ ⟨s,rfl,hs.later hb⟩)
 obtain ⟨p,cap,rfl,hlen⟩:=hs.slice
 have z0:=heap_alloc_new w (.cells (t.cells (.slice p t.subs.length cap)) 37)
 have Z0:=Lib.hid z0
 clear hsz0 ih hsub h0 h1 h2 hs z0
 unfold Tr.cells at *
 rw [hk] at *
 clear hk
 go_enter Tryd.func58,Tryd.ntmps58
 go_wp2_with (first
   | (refine wpList_load_row rfl 37 (.tmp 1) rfl w.heap.size rfl 37 _ (0,0) _ Z0.out Tryd.underlying37 rfl (by kernel_rfl) ?_)
   | fail)
 refine (HC.out _ ((Below.refl _ _).alloc (Nat.le_refl _) _)).mono ?_
 rintro e w2 ⟨rfl,hb2⟩
 have HB2:=Lib.hid (((Below.refl w.heap.size w).alloc (Nat.le_refl _) _).trans (hb2.mono (by simp)))
 clear hb2
 go_wp2
 go_ret
 exact ⟨ret_int (by rw [HSZ.out]),HB2.out⟩
theorem treesize_any:∀ t:Tr,t.InForm→∀ (w:World) (B:Nat→Prop) (v:Value),NodeV w B v t→Calls Tryd.prog 58 #[v] w (SizeEnd t.szT w):=by
 intro t
 induction t using Tr.rec_subs with
 | h t ih =>
   intro hf w B v hv
   by_cases hk:t.kind=8
   · have hfl:=hf.fields
     unfold Tr.fieldsOk at hfl
     obtain ⟨-,-,-,-,-,hl,-,h0,h1,h2,-⟩:t.kind=8∧t.w0=0#64∧t.w1=0#64∧t.w2=0#64∧t.w3=0#64∧t.subs.length=1∧t.num=0∧0 ≤ t.least∧t.least ≤ 255∧(t.most = -1 ∨ (t.least ≤ t.most∧t.most ≤ 255))∧(t.bare=true→t.least=0):=by
       rcases hfl with h | h | h | h | h
       · omega
       · omega
       · omega
       · omega
       · exact h
     obtain ⟨x,hx⟩:=List.length_eq_one_iff.1 hl
     have hmem:x ∈ t.subs:=by rw [hx];exact List.mem_cons_self
     exact treesize_rep t x (fun w B v hv=>ih x hmem (hf.sub hmem) w B v hv) hx hk h0 h1 h2 w B v hv
   · exact treesize_seq t ih hf hk w B v hv
end Go.Proofs.YtedjkbmfpjmlpaaDoor
namespace Go.Proofs.YtedjkbmfpjmlpaaDoor
namespace Tr
mutual
def dpT:Tr→Nat
 | .node k _ _ _ _ s _ lo hi _=>if s.length=0 then 1 else dpS s+(if k=8∧¬ (lo=0∧(hi=1 ∨ hi = -1)) then 2 else 1)
def dpS:List Tr→Nat
 | []=>0
 | t :: l=>max (dpT t) (dpS l)
end
theorem dpS_append:∀ (l m:List Tr),dpS (l ++ m)=max (dpS l) (dpS m)
 | [],m=>by simp [dpS]
 | t :: l,m=>by rw [List.cons_append,dpS,dpS,dpS_append l m];omega
theorem dpS_take (l:List Tr) (m:Nat) (x:Tr) (h:l[m]? = some x):dpS (l.take (m+1))=max (dpS (l.take m)) (dpT x):=by
 rw [List.take_add_one,h,Option.toList_some,dpS_append,dpS,dpS];omega
theorem dpT_le_dpS {l:List Tr} {x:Tr} (h:x ∈ l):dpT x ≤ dpS l:=by
 induction l with
 | nil=>cases h
 | cons a l ih =>
   rw [dpS]
   rcases List.mem_cons.1 h with rfl | h
   · omega
   · have:=ih h;omega
end Tr
end Go.Proofs.YtedjkbmfpjmlpaaDoor
namespace Go.Proofs.YtedjkbmfpjmlpaaDoor
open Go.RowKit
theorem allTen {w:World} {b:Nat} {x0 x1 x2 x3 x4 x5 x6 x7 x8 x9:Value} {t:TypeId} (h:w.heap[b]? = some (.cells #[x0,x1,x2,x3,x4,x5,x6,x7,x8,x9] t)):w.cell? ⟨b,0,none⟩=some x0∧w.cell? ⟨b,1,none⟩=some x1∧w.cell? ⟨b,2,none⟩=some x2∧w.cell? ⟨b,3,none⟩=some x3∧w.cell? ⟨b,4,none⟩=some x4∧w.cell? ⟨b,5,none⟩=some x5∧w.cell? ⟨b,6,none⟩=some x6∧w.cell? ⟨b,7,none⟩=some x7∧w.cell? ⟨b,8,none⟩=some x8∧w.cell? ⟨b,9,none⟩=some x9:=by
 simp [World.cell?,h]
theorem Tr.dpT_eq (t:Tr):t.dpT=if t.subs.length=0 then 1 else Tr.dpS t.subs+(if t.kind=8∧¬ (t.least=0∧(t.most=1 ∨ t.most = -1)) then 2 else 1):=by
 cases t;rw [Tr.dpT];rfl
theorem treedepth_any:∀ t:Tr,t.dpT ≤ 1000000→∀ (w:World) (B:Nat→Prop) (v:Value),NodeV w B v t→Calls Tryd.prog 46 #[v] w (SizeEnd t.dpT w):=by
 intro t
 induction t using Tr.rec_subs with
 | h t ih =>
   intro hd w B v hv
   obtain ⟨s,rfl,hs⟩:=hv
   obtain ⟨p,cap,rfl,hlen⟩:=hs.slice
   have heq:=Tr.dpT_eq t
   rw [heq] at hd ⊢
   have HST:=Lib.hid (fun w'=>stays_is t (.slice p t.subs.length cap) ⟨_,_,_,rfl⟩ _ rfl w')
   clear heq
   generalize hts:t.subs=ts at *
   have HTS:=Lib.hid hts;have IH:=Lib.hid ih;have HS:=Lib.hid hs
   clear ih hs hts
   unfold Tr.cells at *
   by_cases h0:ts.length=0
   · rw [if_pos h0]
     rw [h0]
     clear hd hlen HST HTS IH HS
     go_enter Tryd.func46,Tryd.ntmps46
     go_wp2
     go_ret
     exact ⟨rfl,by go_grown⟩
   · rw [if_neg h0] at hd ⊢
     generalize hD:Tr.dpS ts+(if t.kind=8∧¬ (t.least=0∧(t.most=1 ∨ t.most = -1)) then 2 else 1)=D at hd ⊢
     have HD:=Lib.hid (show D ≤ 1000000∧Tr.dpS ts+1 ≤ D∧D ≤ Tr.dpS ts+2 from ⟨hd,by rw [← hD];split <;> omega,by rw [← hD];split <;> omega⟩)
     have HDE:=Lib.hid hD
     have e0:((ts.length:Int) == 0)=false:=by simpa using h0
     have e0':(ts.length == 0)=false:=by simpa using h0
     have Z0:=Lib.hid (heap_alloc_new w (.cells #[.int .i64 t.kind,.int .u64 (Oc.U t.w0),.int .u64 (Oc.U t.w1),.int .u64 (Oc.U t.w2),.int .u64 (Oc.U t.w3),.slice p ts.length cap,.int .i64 t.num,.int .i64 t.least,.int .i64 t.most,.bool t.bare] 37))
     have HW:=Lib.hid (show Below w.heap.size w (w.alloc (.cells #[.int .i64 t.kind,.int .u64 (Oc.U t.w0),.int .u64 (Oc.U t.w1),.int .u64 (Oc.U t.w2),.int .u64 (Oc.U t.w3),.slice p ts.length cap,.int .i64 t.num,.int .i64 t.least,.int .i64 t.most,.bool t.bare] 37)) from (Below.refl _ _).alloc (Nat.le_refl _) _)
     have hz:w.heap.size < (w.alloc (.cells #[.int .i64 t.kind,.int .u64 (Oc.U t.w0),.int .u64 (Oc.U t.w1),.int .u64 (Oc.U t.w2),.int .u64 (Oc.U t.w3),.slice p ts.length cap,.int .i64 t.num,.int .i64 t.least,.int .i64 t.most,.bool t.bare] 37)).heap.size:=by simp
     clear hd h0 hD
     go_enter Tryd.func46,Tryd.ntmps46
     go_wp2
     generalize w.alloc (.cells #[.int .i64 t.kind,.int .u64 (Oc.U t.w0),.int .u64 (Oc.U t.w1),.int .u64 (Oc.U t.w2),.int .u64 (Oc.U t.w3),.slice p ts.length cap,.int .i64 t.num,.int .i64 t.least,.int .i64 t.most,.bool t.bare] 37)=W0 at *
     go_loopw [3,13] (fun gv iv wr=>∃ m:Nat,iv=.int .i64 m∧m ≤ ts.length∧gv=.int .i64 (Tr.dpS (ts.take m):Nat)∧Hid (Below W0.heap.size W0 wr)) (fun _ iv _=>ts.length - (intOf iv).toNat)
     case atStart=>exact ⟨0,rfl,Nat.zero_le _,rfl,Lib.hid (Below.refl _ _)⟩
     case round =>
       obtain ⟨m,rfl,hm,rfl,HB⟩:=hrel
       have wm:IntKind.i64.wrap ((m:Int)+1)=(m:Int)+1:=IntWalk.i64_in _ (by omega)
       have HBW:=Lib.hid (HW.out.trans (HB.out.mono HW.out.size))
       by_cases hlt:m < ts.length
       · obtain ⟨x,hx⟩:∃ x,ts[m]? = some x:=⟨_,List.getElem?_eq_getElem hlt⟩
         obtain ⟨b1,o1,s1,rfl,-,t1,sub1⟩:=HS.out.get hx
         obtain ⟨d0,d1,d2,d3,d4,d5,d6,d7,d8,d9⟩:=t1.keep (HBW.out.block _ t1.lt)
         have hmem:=List.mem_of_getElem? hx
         obtain ⟨p1,c1,rfl,hl1⟩:=sub1.slice
         have hdx:x.dpT ≤ 1000000:=by have:=Tr.dpT_le_dpS hmem;have:=HD.out;omega
         have HC:=Lib.hid (fun w9 hb=>IH.out x hmem hdx w9 B (.agg (x.cells (.slice p1 x.subs.length c1))) ⟨_,rfl,sub1.later hb⟩)
         have HSTP:=Lib.hid (Tr.dpS_take ts m x hx)
         clear t1 sub1 hmem hx hdx
         generalize hn:Tr.dpS (ts.take m)=n at *
         clear hn
         unfold Tr.cells at HC
         go_wp2_with fail
         generalize hw1:World.alloc wr _=w1
         have hb1:Below wr.heap.size wr w1:=by rw [← hw1];exact (Below.refl _ _).alloc (Nat.le_refl _) _
         clear hw1
         refine (HC.out w1 (HBW.out.trans (hb1.mono HBW.out.size))).mono ?_
         rintro e w2 ⟨rfl,hb2⟩
         have HB2:=Lib.hid (HB.out.trans ((hb1.trans (hb2.mono hb1.size)).mono HB.out.size))
         clear d0 d1 d2 d3 d4 d5 d6 d7 d8 d9 hb1 hb2 HC
         generalize x.dpT=N at *
         go_wp2
         all_goals
           exact ⟨⟨m+1,by go_num,by omega,by rw [HSTP.out];simp;try omega,HB2⟩,by simp [intOf];omega⟩
       · obtain rfl:m=ts.length:=by omega
         rw [List.take_length] at *
         have Z1:=Lib.hid (keep_blk (HB.out.mono (Nat.le_refl _)) Z0.out)
         have hdp:=HD.out
         have w2':IntKind.i64.wrap ((Tr.dpS ts:Int)+2)=(Tr.dpS ts:Int)+2:=IntWalk.i64_in _ (by omega)
         have w1':IntKind.i64.wrap ((Tr.dpS ts:Int)+1)=(Tr.dpS ts:Int)+1:=IntWalk.i64_in _ (by omega)
         have hde:=HDE.out
         clear hdp
         obtain ⟨d0,d1,d2,d3,d4,d5,d6,d7,d8,d9⟩:=allTen Z1.out
         by_cases h8:t.kind=8
         · rw [h8] at HST Z1 HDE d0 hde
           by_cases hst:t.least=0∧(t.most=1 ∨ t.most = -1)
           · have hst':decide (t.least=0∧(t.most=1 ∨ t.most = -1))=true:=by simpa using hst
             rw [hst'] at HST
             rw [if_neg (by intro h;exact h.2 hst)] at hde
             have HDF:=Lib.hid hde
             clear hst hst' hde
             go_wp2_with fail
             refine (HST.out _).mono ?_
             rintro e w5 ⟨rfl,hb5⟩
             have HB5:=Lib.hid (HBW.out.trans (hb5.mono HBW.out.size))
             clear hb5
             go_wp2
             go_ret
             exact ⟨ret_int (by have:=HDF.out;omega),HB5.out⟩
           · have hst':decide (t.least=0∧(t.most=1 ∨ t.most = -1))=false:=by simpa using hst
             rw [hst'] at HST
             rw [if_pos ⟨rfl,hst⟩] at hde
             have HDF:=Lib.hid hde
             clear hst hst' hde
             go_wp2_with fail
             refine (HST.out _).mono ?_
             rintro e w5 ⟨rfl,hb5⟩
             have HB5:=Lib.hid (HBW.out.trans (hb5.mono HBW.out.size))
             clear hb5
             go_wp2
             go_ret
             exact ⟨ret_int (by have:=HDF.out;omega),HB5.out⟩
         · rw [if_neg (by intro h;exact h8 h.1)] at hde
           have e8:(t.kind == 8)=false:=by simpa using h8
           have HDF:=Lib.hid hde
           clear h8 hde
           go_wp2
           go_ret
           exact ⟨ret_int (by have:=HDF.out;omega),HBW.out⟩
end Go.Proofs.YtedjkbmfpjmlpaaDoor
namespace Go.Proofs.YtedjkbmfpjmlpaaDoor
open Go.RowKit
namespace Tr
mutual
def ndT:Tr→Nat
 | .node _ _ _ _ _ s _ _ _ _=>1+ndS s
def ndS:List Tr→Nat
 | []=>0
 | t :: l=>ndT t+ndS l
end
theorem ndT_eq (t:Tr):t.ndT=1+ndS t.subs:=by cases t;rw [ndT];rfl
mutual
def leftT:Tr→Int→Int
 | .node _ _ _ _ _ s _ _ _ _,m=>leftS s (m - 1)
def leftS:List Tr→Int→Int
 | [],m=>m
 | t :: l,m=>if 0 ≤ m then leftS l (leftT t m) else m
end
theorem leftT_eq (t:Tr) (m:Int):t.leftT m=leftS t.subs (m - 1):=by cases t;rw [leftT];rfl
theorem leftS_neg (l:List Tr) {m:Int} (h:m < 0):leftS l m=m:=by
 cases l with
 | nil=>rfl
 | cons t l=>rw [leftS,if_neg (by omega)]
theorem leftS_spec:∀ (l:List Tr),(∀ t,t ∈ l→∀ m,0 ≤ m→t.leftT m ≤ m∧-1 ≤ t.leftT m∧(0 ≤ t.leftT m→t.leftT m=m - t.ndT)∧((t.ndT:Int) ≤ m→0 ≤ t.leftT m))→∀ m,-1 ≤ m→leftS l m ≤ m∧-1 ≤ leftS l m∧(0 ≤ leftS l m→leftS l m=m - ndS l)∧(0 ≤ m→(ndS l:Int) ≤ m→0 ≤ leftS l m)
 | [],_,m,hm=>by rw [leftS,ndS];exact ⟨Int.le_refl _,hm,fun _=>by omega,fun h _=>h⟩
 | t :: l,ih,m,hm=>by
   rw [leftS,ndS]
   split
   · rename_i h0
     obtain ⟨h1,h2,h3,h4⟩:=ih t List.mem_cons_self m h0
     obtain ⟨k1,k2,k3,k4⟩:=leftS_spec l (fun u hu=>ih u (List.mem_cons_of_mem _ hu)) (t.leftT m) h2
     refine ⟨by omega,k2,fun h=>?_,fun _ h=>?_⟩
     · have:=h3 (by omega)
       have:=k3 h
       omega
     · have a:=h4 (by omega)
       have b:=h3 a
       exact k4 a (by omega)
   · rename_i h0
     exact ⟨Int.le_refl _,hm,fun h=>absurd h h0,fun h=>absurd h h0⟩
theorem leftT_spec:∀ (t:Tr) (m:Int),0 ≤ m→t.leftT m ≤ m∧-1 ≤ t.leftT m∧(0 ≤ t.leftT m→t.leftT m=m - t.ndT)∧((t.ndT:Int) ≤ m→0 ≤ t.leftT m):=by
 intro t
 induction t using Tr.rec_subs with
 | h t ih =>
   intro m hm
   rw [leftT_eq,ndT_eq]
   obtain ⟨k1,k2,k3,k4⟩:=leftS_spec t.subs (fun u hu=>ih u hu) (m - 1) (by omega)
   exact ⟨by omega,k2,fun h=>by have:=k3 h;omega,fun h=>k4 (by omega) (by omega)⟩
end Tr
theorem numleft_any:∀ t:Tr,∀ m0:Nat,m0 ≤ 1000000→∀ (w:World) (B:Nat→Prop) (v:Value),NodeV w B v t→Calls Tryd.prog 66 #[v,.int .i64 m0] w fun e w'=>e=.returned (.int .i64 (t.leftT m0))∧Below w.heap.size w w':=by
 intro t
 induction t using Tr.rec_subs with
 | h t ih =>
   intro m0 hm0 w B v hv
   obtain ⟨s,rfl,hs⟩:=hv
   obtain ⟨p,cap,rfl,hlen⟩:=hs.slice
   have hsp:=Tr.leftS_spec t.subs (fun u _=>Tr.leftT_spec u)
   rw [Tr.leftT_eq]
   generalize hts:t.subs=ts at *
   have IH:=Lib.hid ih;have HS:=Lib.hid hs;have HSP:=Lib.hid hsp
   clear ih hs hts hsp
   unfold Tr.cells at *
   obtain ⟨R,hR⟩:∃ R,Tr.leftS ts ((m0:Int) - 1)=R:=⟨_,rfl⟩
   rw [hR]
   have HR:=Lib.hid hR
   clear hR
   have w0:IntKind.i64.wrap ((m0:Int) - 1)=(m0:Int) - 1:=IntWalk.i64_in _ (by omega)
   have Z0:=Lib.hid (heap_alloc_new w (.cells #[.int .i64 t.kind,.int .u64 (Oc.U t.w0),.int .u64 (Oc.U t.w1),.int .u64 (Oc.U t.w2),.int .u64 (Oc.U t.w3),.slice p ts.length cap,.int .i64 t.num,.int .i64 t.least,.int .i64 t.most,.bool t.bare] 37))
   have HW:=Lib.hid (show Below w.heap.size w (w.alloc (.cells #[.int .i64 t.kind,.int .u64 (Oc.U t.w0),.int .u64 (Oc.U t.w1),.int .u64 (Oc.U t.w2),.int .u64 (Oc.U t.w3),.slice p ts.length cap,.int .i64 t.num,.int .i64 t.least,.int .i64 t.most,.bool t.bare] 37)) from (Below.refl _ _).alloc (Nat.le_refl _) _)
   go_enter Tryd.func66,Tryd.ntmps66
   go_wp2
   generalize w.alloc (.cells #[.int .i64 t.kind,.int .u64 (Oc.U t.w0),.int .u64 (Oc.U t.w1),.int .u64 (Oc.U t.w2),.int .u64 (Oc.U t.w3),.slice p ts.length cap,.int .i64 t.num,.int .i64 t.least,.int .i64 t.most,.bool t.bare] 37)=W0 at *
   go_loopw [1,5] (fun mv iv wr=>∃ (i:Nat) (m:Int),iv=.int .i64 i∧mv=.int .i64 m∧i ≤ ts.length∧-1 ≤ m∧m ≤ 1000000∧Hid (Tr.leftS (ts.drop i) m=R)∧Hid (Below W0.heap.size W0 wr)) (fun _ iv _=>ts.length - (intOf iv).toNat)
   case atStart=>exact ⟨0,(m0:Int) - 1,rfl,rfl,Nat.zero_le _,by omega,by omega,by rw [List.drop_zero];exact HR,Lib.hid (Below.refl _ _)⟩
   case round =>
     obtain ⟨i,m,rfl,rfl,hi,hm1,hm2,HL,HB⟩:=hrel
     have wi:IntKind.i64.wrap ((i:Int)+1)=(i:Int)+1:=IntWalk.i64_in _ (by omega)
     have HBW:=Lib.hid (HW.out.trans (HB.out.mono HW.out.size))
     have Z1:=Lib.hid (keep_blk (HB.out.mono (Nat.le_refl _)) Z0.out)
     obtain ⟨d0,d1,d2,d3,d4,d5,d6,d7,d8,d9⟩:=allTen Z1.out
     by_cases hlt:i < ts.length
     · by_cases hmz:0 ≤ m
       · obtain ⟨mn,rfl⟩:∃ mn:Nat,m=mn:=⟨m.toNat,by omega⟩
         have gm:decide ((0:Int) ≤ (mn:Int))=true:=by simp
         obtain ⟨x,hx⟩:∃ x,ts[i]? = some x:=⟨_,List.getElem?_eq_getElem hlt⟩
         obtain ⟨b1,o1,s1,rfl,-,t1,sub1⟩:=HS.out.get hx
         obtain ⟨e0,e1,e2,e3,e4,e5,e6,e7,e8,e9⟩:=t1.keep (HBW.out.block _ t1.lt)
         have hmem:=List.mem_of_getElem? hx
         obtain ⟨p1,c1,rfl,hl1⟩:=sub1.slice
         have HC:=Lib.hid (IH.out x hmem mn (by omega) wr B (.agg (x.cells (.slice p1 x.subs.length c1))) ⟨_,rfl,sub1.later HBW.out⟩)
         have hdr:ts.drop i=x :: ts.drop (i+1):=by
           rw [List.drop_eq_getElem_cons hlt,(List.getElem?_eq_some_iff.1 hx).2]
         have hl:=HL.out
         rw [hdr,Tr.leftS,if_pos (by omega)] at hl
         have HL2:=Lib.hid hl
         obtain ⟨k1,k2,-,-⟩:=Tr.leftT_spec x mn (by omega)
         clear t1 sub1 hmem hx hdr hl HL
         unfold Tr.cells at HC
         go_wp2_with fail
         refine HC.out.mono ?_
         rintro e w2 ⟨rfl,hb2⟩
         have HB2:=Lib.hid (HB.out.trans (hb2.mono HB.out.size))
         generalize x.leftT mn=mm at *
         clear e0 e1 e2 e3 e4 e5 e6 e7 e8 e9 hb2 HC d0 d1 d2 d3 d4 d5 d6 d7 d8 d9
         go_wp2
         exact ⟨⟨i+1,mm,by go_num,rfl,by omega,k2,by omega,HL2,HB2⟩,by simp [intOf];omega⟩
       · have gm:decide ((0:Int) ≤ m)=false:=by simp;omega
         have hl:=HL.out
         rw [Tr.leftS_neg _ (by omega)] at hl
         have HL2:=Lib.hid hl
         clear hl HL hmz
         go_wp2
         go_ret
         exact ⟨ret_int HL2.out,HBW.out⟩
     · obtain rfl:i=ts.length:=by omega
       have hl:=HL.out
       rw [List.drop_length,Tr.leftS] at hl
       have HL2:=Lib.hid hl
       clear hl HL
       go_wp2
       go_ret
       exact ⟨ret_int HL2.out,HBW.out⟩
theorem few_any (t:Tr) (m:Nat) (hm:m ≤ 1000000) (w:World) (B:Nat→Prop) (v:Value) (hv:NodeV w B v t) :
   Calls Tryd.prog 30 #[v,.int .i64 m] w fun e w'=>e=.returned (.bool (decide (t.ndT ≤ m)))∧Below w.heap.size w w':=by
 obtain ⟨s,rfl,hs⟩:=hv
 have H1:=Lib.hid (fun w' (hb:Below w.heap.size w w')=>numleft_any t m hm w' B (.agg (t.cells s)) ⟨s,rfl,TreesAt.later (w':=w') hs hb⟩)
 obtain ⟨p,cap,rfl,hlen⟩:=hs.slice
 have hsp:=Tr.leftT_spec t m (by omega)
 have hdec:decide ((0:Int) ≤ t.leftT m)=decide (t.ndT ≤ m):=by
   by_cases h:t.ndT ≤ m
   · rw [decide_eq_true h,decide_eq_true (hsp.2.2.2 (by omega))]
   · rw [decide_eq_false h,decide_eq_false (fun h2=>h (by have:=hsp.2.2.1 h2;omega))]
 have HD:=Lib.hid hdec
 have Z0:=Lib.hid (heap_alloc_new w (.cells (t.cells (.slice p t.subs.length cap)) 37))
 have HW:=Lib.hid (show Below w.heap.size w (w.alloc (.cells (t.cells (.slice p t.subs.length cap)) 37)) from (Below.refl _ _).alloc (Nat.le_refl _) _)
 clear hs hsp hdec
 unfold Tr.cells at *
 go_enter Tryd.func30,Tryd.ntmps30
 go_wp2_with (first
   | (refine wpList_load_row rfl 37 (.tmp 2) rfl w.heap.size rfl 37 _ (0,0) _ Z0.out Tryd.underlying37 rfl (by kernel_rfl) ?_)
   | fail)
 refine (H1.out _ HW.out).mono ?_
 rintro e w1 ⟨rfl,hb1⟩
 have HB1:=Lib.hid (HW.out.trans (hb1.mono HW.out.size))
 clear hb1
 generalize t.leftT m=mm at *
 go_wp2
 go_ret
 exact ⟨ret_bool HD.out,HB1.out⟩
end Go.Proofs.YtedjkbmfpjmlpaaDoor
namespace Go.Proofs.YtedjkbmfpjmlpaaDoor
open Go.RowKit
namespace Oc
def nxt (p:Nat→Bool):Nat→Nat→Nat
 | 0,f=>f
 | n+1,f=>if p f then f else nxt p n (f+1)
def nx (p:Nat→Bool) (f:Nat):Nat:=nxt p (256 - f) f
def zeros (x:BitVec 64):Nat:=Lib.ctz 64 x.toNat
theorem ctz_bits (x:BitVec 64) (h:x ≠ 0#64):zeros x < 64∧x.getLsbD (zeros x)=true∧∀ i,i < zeros x→x.getLsbD i=false:=by
 unfold zeros
 have hx0:x.toNat ≠ 0:=fun e=>h (BitVec.eq_of_toNat_eq (by simpa using e))
 obtain ⟨m,hm,hlt⟩:=Lib.ctzFrom_spec 64 x.toNat (by omega) x.isLt
 have hc:Lib.ctz 64 x.toNat=Lib.ctzFrom 64 x.toNat:=by unfold Lib.ctz;rw [if_neg hx0]
 rw [hc]
 generalize Lib.ctzFrom 64 x.toNat=c at *
 refine ⟨hlt, ?_,fun i hi=>?_⟩
 · show x.toNat.testBit c=true
   rw [hm,Nat.testBit_two_pow_mul];simp
 · show x.toNat.testBit i=false
   rw [hm,Nat.testBit_two_pow_mul];simp;omega
end Oc
theorem tz_core (x:BitVec 64) (k idx:Nat) (w:World) (hx0:(Oc.U x == 0)=false)
   (key:IntKind.u64.wrap (bits BinOp.and IntKind.u64 (Oc.U x) (IntKind.u64.wrap (-(Oc.U x))) * 285870213051353865) / 288230376151711744=(idx:Int))
   (hi:idx < 64) (hk:k < 64) (hcell:w.cell? ⟨21,idx,none⟩=some (.int .u8 k)) :
   Calls Tryd.prog 92 #[.int .u64 (Oc.U x)] w fun e w'=>e=.returned (.int .i64 k)∧w=w':=by
 go_enter Tryd.func92,Tryd.ntmps92
 go_wp2_with (simp only [key])
 go_ret
 exact ⟨rfl,rfl⟩
theorem tz_any (x:BitVec 64) (hx:x ≠ 0#64) (w:World) (hT:TabAt 21 Lib.deBruijn64tab w) :
   Calls Tryd.prog 92 #[.int .u64 (Oc.U x)] w fun e w'=>e=.returned (.int .i64 (Oc.zeros x))∧w=w':=by
 have hx0:x.toNat ≠ 0:=fun e=>hx (BitVec.eq_of_toNat_eq (by simpa using e))
 obtain ⟨hlow,hk⟩:=Lib.lowest_bit 64 x.toNat hx0 x.isLt
 obtain ⟨hi,htab⟩:=Lib.deBruijn64_at _ hk
 have hcell:=hT _ hi
 rw [htab] at hcell
 exact tz_core x _ _ w (by unfold Oc.U;simp;omega) (tz64_key x.toNat _ x.isLt hx0 hlow) hi hk hcell
theorem U_zero {x:BitVec 64} : (Oc.U x=0)=(x=0#64):=by
 rw [eq_iff_iff];constructor
 · intro h;exact Oc.U_inj (y:=0#64) (by rw [h];decide)
 · rintro rfl;decide
end Go.Proofs.YtedjkbmfpjmlpaaDoor
namespace Go.Proofs.YtedjkbmfpjmlpaaDoor
open Go.RowKit
namespace Re
theorem bit0 (q k:Nat):(2 * q+1).testBit (k+1)=(2 * q).testBit (k+1):=by
 rw [Nat.testBit_succ,Nat.testBit_succ];congr 1;omega
theorem drop_bit (x:BitVec 64) (h:x ≠ 0#64) (j:Nat):(x &&& (x - 1#64)).getLsbD j=(x.getLsbD j && decide (j ≠ Oc.zeros x)):=by
 obtain ⟨hz,h1,h0⟩:=Oc.ctz_bits x h
 generalize Oc.zeros x=z at *
 have hx0:x.toNat ≠ 0:=fun e=>h (BitVec.eq_of_toNat_eq (by simpa using e))
 have hs:(x - 1#64).toNat=x.toNat - 1:=by
   rw [BitVec.toNat_sub];have:=x.isLt;simp only [BitVec.toNat_ofNat];omega
 rw [BitVec.getLsbD_and]
 show (x.getLsbD j && (x - 1#64).toNat.testBit j)=_
 rw [hs]
 by_cases hj:j < z
 · rw [h0 j hj];simp
 -- x=2 ^ z * (2 q+1)
 have hlow:x.toNat % 2 ^ z=0:=by
   apply Nat.eq_of_testBit_eq;intro i
   rw [Nat.testBit_mod_two_pow,Nat.zero_testBit]
   by_cases hi:i < z
   · have:x.toNat.testBit i=false:=h0 i hi
     rw [this];simp
   · simp [hi]
 have hodd:(x.toNat / 2 ^ z) % 2=1:=by
   have:(x.toNat / 2 ^ z).testBit 0=true:=by rw [Nat.testBit_div_two_pow,Nat.zero_add];exact h1
   rw [Nat.testBit_zero] at this;simpa using this
 have hdm:=Nat.div_add_mod x.toNat (2 ^ z)
 rw [hlow,Nat.add_zero] at hdm
 generalize hm:x.toNat / 2 ^ z=m at *
 have hp:0 < 2 ^ z:=Nat.two_pow_pos z
 have hpred:(x.toNat - 1) / 2 ^ z=m - 1:=by
   have:x.toNat - 1=(2 ^ z - 1)+2 ^ z * (m - 1):=by
     rw [← hdm]
     obtain ⟨k,rfl⟩:∃ k,m=k+1:=⟨m - 1,by omega⟩
     rw [Nat.mul_add,Nat.mul_one,Nat.add_sub_cancel];omega
   rw [this,Nat.add_mul_div_left _ _ hp,Nat.div_eq_of_lt (by omega)];omega
 obtain ⟨d,rfl⟩:∃ d,j=z+d:=⟨j - z,by omega⟩
 have e1:(x.toNat - 1).testBit (z+d)=(m - 1).testBit d:=by
   rw [Nat.add_comm z d,← Nat.testBit_div_two_pow,hpred]
 have e2:x.getLsbD (z+d)=m.testBit d:=by
   show x.toNat.testBit (z+d)=_
   rw [Nat.add_comm z d,← Nat.testBit_div_two_pow,hm]
 rw [e1,e2]
 obtain ⟨q,rfl⟩:∃ q,m=2 * q+1:=⟨m / 2,by omega⟩
 cases d with
 | zero=>simp [Nat.testBit_zero]
 | succ d =>
   rw [Nat.add_sub_cancel,← bit0 q d]
   simp
theorem drop_lt (x:BitVec 64) (h:x ≠ 0#64):(x &&& (x - 1#64)).toNat < x.toNat:=by
 have hx0:x.toNat ≠ 0:=fun e=>h (BitVec.eq_of_toNat_eq (by simpa using e))
 have hs:(x - 1#64).toNat=x.toNat - 1:=by
   rw [BitVec.toNat_sub];have:=x.isLt;simp only [BitVec.toNat_ofNat];omega
 rw [BitVec.toNat_and,hs]
 have:=Nat.and_le_right (n:=x.toNat) (m:=x.toNat - 1)
 omega
theorem zero_iff (x:BitVec 64):x=0#64 ↔ ∀ j,x.getLsbD j=false:=by
 constructor
 · rintro rfl j;simp
 · intro h;apply BitVec.eq_of_getLsbD_eq;intro i _;rw [h i];simp
theorem one_bit (k j:Nat) (hk:k < 64):(1#64 <<< k).getLsbD j=decide (j=k):=by
 rw [BitVec.getLsbD_shiftLeft,BitVec.getLsbD_one,Bool.eq_iff_iff]
 simp only [Bool.and_eq_true,Bool.not_eq_true',decide_eq_true_eq,decide_eq_false_iff_not]
 omega
def Means (n:Nat) (P:Nat→BitVec 64) (R:Nat→Nat→Prop):Prop:=∀ i,i < 64→∀ j,(P i).getLsbD j=true ↔ i ≤ n∧R i j
theorem Means.congr {n:Nat} {P:Nat→BitVec 64} {R S:Nat→Nat→Prop} (h:Means n P R) (hs:∀ i j,i ≤ n→(R i j ↔ S i j)):Means n P S:=fun i hi j=>by
 rw [h i hi j]
 constructor
 · rintro ⟨a,b⟩;exact ⟨a,(hs i j a).1 b⟩
 · rintro ⟨a,b⟩;exact ⟨a,(hs i j a).2 b⟩
end Re
end Go.Proofs.YtedjkbmfpjmlpaaDoor
namespace Go.Proofs.YtedjkbmfpjmlpaaDoor
open Go.RowKit
namespace Re
def Leads (n:Nat) (R:Nat→Nat→Prop) (F G:Nat→Bool):Prop:=∀ j,j ≤ n→(G j=true ↔ ∃ i,i ≤ n∧F i=true∧R i j)
theorem Leads.congr {n:Nat} {R S:Nat→Nat→Prop} {F G:Nat→Bool} (h:Leads n R F G) (hs:∀ i j,i ≤ n→(R i j ↔ S i j)):Leads n S F G:=fun j hj=>by
 rw [h j hj]
 constructor
 · rintro ⟨i,a,b,c⟩;exact ⟨i,a,b,(hs i j a).1 c⟩
 · rintro ⟨i,a,b,c⟩;exact ⟨i,a,b,(hs i j a).2 c⟩
theorem Leads.none {n:Nat} {R:Nat→Nat→Prop} {F G:Nat→Bool} (hF:∀ i,i ≤ n→F i=false) (hG:∀ i,i ≤ n→G i=false):Leads n R F G:=fun j hj=>by
 rw [hG j hj]
 constructor
 · intro h;exact absurd h (by decide)
 · rintro ⟨i,a,b,-⟩;rw [hF i a] at b;exact absurd b (by decide)
end Re
end Go.Proofs.YtedjkbmfpjmlpaaDoor
namespace Go.Proofs.YtedjkbmfpjmlpaaDoor
open Go.RowKit
def bx (l:List UInt8):ByteArray:=⟨l.toArray⟩
end Go.Proofs.YtedjkbmfpjmlpaaDoor
namespace Go.Proofs.YtedjkbmfpjmlpaaDoor
open Go.RowKit
theorem Tryd.infoI32:(Tryd.prog.info? 21).map (fun i=>(i.zero,i.size,i.bytes))=some (some (.int .i32 0),1,4):=by kernel_rfl
theorem make_tab (n:Nat) (hn:n ≤ 1001) (N:Nat) (hN:n * n=N) (w:World):(Instr.makeSlice 125 (.int .i64 (N:Int)) (.int .i64 (N:Int))).run Tryd.prog w=.ok (.slice (some ⟨w.heap.size,0,none⟩) N N) (w.alloc (.cells (Ps.tabA n fun _ _=>0) 21)):=by
 obtain ⟨ie,hi,hz0,hz1,hz2⟩:=info_parts Tryd.infoI32
 have hx:n * n ≤ 1001 * 1001:=Nat.mul_le_mul hn hn
 rw [hN] at hx
 have h:=run_make (P:=Tryd.prog) w 125 21 ie _ Tryd.underlying125 hi hz0 .i64 .i64 (N:Int) (N:Int) (by omega) (Int.le_refl _) (by rw [hz2];omega) (by omega)
 simp only [Int.toNat_natCast,hz1] at h
 have e:madeCells (Value.int .i32 0).cells (N * 1)=Ps.tabA n fun _ _=>0:=by
   apply Array.ext
   · rw [size_madeCells,Ps.tabA_size,Nat.mul_one,hN]
   · intro i h1 h2
     simp [madeCells,Ps.tabA,Value.cells,Nat.mod_one]
 rw [e] at h
 exact h
theorem three_newP (w:World) (a b c:Obj):(((w.alloc a).alloc b).alloc c).heap[w.heap.size]? = some a∧(((w.alloc a).alloc b).alloc c).heap[w.heap.size+1]? = some b∧(((w.alloc a).alloc b).alloc c).heap[w.heap.size+1+1]? = some c:=by
 refine ⟨heap_alloc_lt (heap_alloc_lt (heap_alloc_new _ _)),heap_alloc_lt ?_, ?_⟩
 · have:=heap_alloc_new (w.alloc a) b;simpa using this
 · have:=heap_alloc_new ((w.alloc a).alloc b) c;simpa using this
theorem pstable_any (xp:Value) (lo m:Nat) (hlo:lo+m ≤ 1000) (w:World) :
   Calls Tryd.prog 163 #[.agg #[xp,.int .i64 (lo:Int),.int .i64 ((lo:Int)+(m:Int))]] w fun e w'=>∃ g,e=.returned (Ps.tabV g lo m)∧w.heap.size ≤ g∧TabAtP w' g m (fun _ _=>0)∧Below w.heap.size w w':=by
 obtain ⟨N,hN⟩:∃ N,(m+1) * (m+1)=N:=⟨_,rfl⟩
 have hx:(m+1) * (m+1) ≤ 1001 * 1001:=Nat.mul_le_mul (by omega) (by omega)
 have hms:=fun w=>make_tab (m+1) (by omega) N hN w
 have h1:IntKind.i64.wrap ((lo:Int)+(m:Int) - (lo:Int)+1)=(m:Int)+1:=by rw [show (lo:Int)+(m:Int) - (lo:Int)+1=(m:Int)+1 by omega];exact IntWalk.i64_in _ (by omega)
 have h1':IntKind.i64.wrap ((lo:Int)+(m:Int) - (lo:Int))=(m:Int):=by rw [show (lo:Int)+(m:Int) - (lo:Int)=(m:Int) by omega];exact IntWalk.i64_in _ (by omega)
 have h1'':(lo:Int)+(m:Int) - (lo:Int)=(m:Int):=by omega
 have h2:IntKind.i64.wrap (((m:Int)+1) * ((m:Int)+1))=(N:Int):=by
   rw [show ((m:Int)+1) * ((m:Int)+1)=(((m+1) * (m+1):Nat):Int) by simp,hN];exact IntWalk.i64_in _ (by omega)
 have h2':wrap64 (((m:Int)+1) * ((m:Int)+1))=(N:Int):=by
   rw [show ((m:Int)+1) * ((m:Int)+1)=(((m+1) * (m+1):Nat):Int) by simp,hN];exact IntWalk.wrap64_in _ (by omega)
 unfold Ps.tabV
 rw [hN]
 clear hx hN
 go_enter Tryd.func163,Tryd.ntmps163
 go_wp2_with fail
 go_region
 have H3:=Lib.hid (three_newP w (.cells #[xp,.int .i64 (lo:Int),.int .i64 ((lo:Int)+(m:Int))] 166) (.cells #[.int .i64 (lo:Int),.int .i64 ((lo:Int)+(m:Int)),.slice (some ⟨w.heap.size+1+1,0,none⟩) N N] 127) (.cells (Ps.tabA (m+1) fun _ _=>0) 21))
 have HB:=Lib.hid (show Below w.heap.size w (((w.alloc (.cells #[xp,.int .i64 (lo:Int),.int .i64 ((lo:Int)+(m:Int))] 166)).alloc (.cells #[.int .i64 (lo:Int),.int .i64 ((lo:Int)+(m:Int)),.slice (some ⟨w.heap.size+1+1,0,none⟩) N N] 127)).alloc (.cells (Ps.tabA (m+1) fun _ _=>0) 21)).drew from ((((Below.refl _ _).alloc (Nat.le_refl _) _).alloc (by simp) _).alloc (by simp;omega) _).drew)
 have HY:=Lib.hid (show (((w.alloc (.cells #[xp,.int .i64 (lo:Int),.int .i64 ((lo:Int)+(m:Int))] 166)).alloc (.cells #[.int .i64 (lo:Int),.int .i64 ((lo:Int)+(m:Int)),.slice (some ⟨w.heap.size+1+1,0,none⟩) N N] 127)).alloc (.cells (Ps.tabA (m+1) fun _ _=>0) 21)).drew.heap[w.heap.size+1]? = some (.cells #[.int .i64 (lo:Int),.int .i64 ((lo:Int)+(m:Int)),.slice (some ⟨w.heap.size+1+1,0,none⟩) N N] 127)∧(((w.alloc (.cells #[xp,.int .i64 (lo:Int),.int .i64 ((lo:Int)+(m:Int))] 166)).alloc (.cells #[.int .i64 (lo:Int),.int .i64 ((lo:Int)+(m:Int)),.slice (some ⟨w.heap.size+1+1,0,none⟩) N N] 127)).alloc (.cells (Ps.tabA (m+1) fun _ _=>0) 21)).drew.heap[w.heap.size+1+1]? = some (.cells (Ps.tabA (m+1) fun _ _=>0) 21) from ⟨H3.out.2.1,H3.out.2.2⟩)
 clear H3
 generalize World.drew _=W0 at *
 go_wp2
 refine bodyPost_ret (results_cell_row rfl _ _ (w.heap.size+1) 127 #[.int .i64 (lo:Int),.int .i64 ((lo:Int)+(m:Int)),.slice (some ⟨w.heap.size+1+1,0,none⟩) N N] (0,0) _ rfl HY.out.1 Tryd.underlying127 rfl (by kernel_rfl)) rfl ⟨w.heap.size+1+1,rfl,by omega,HY.out.2,HB.out⟩
end Go.Proofs.YtedjkbmfpjmlpaaDoor
namespace Go.Proofs.YtedjkbmfpjmlpaaDoor
open Go.RowKit
theorem three_cellsT {w:World} {b:Nat} {x0 x1 x2:Value} {t:TypeId} (h:w.heap[b]? = some (.cells #[x0,x1,x2] t)):w.cell? ⟨b,0,none⟩=some x0∧w.cell? ⟨b,1,none⟩=some x1∧w.cell? ⟨b,2,none⟩=some x2:=by
 refine ⟨?_, ?_, ?_⟩ <;> (unfold World.cell?;rw [h];rfl)
theorem two_newT (w:World) (a b:Obj):((w.alloc a).alloc b).heap[w.heap.size]? = some a∧((w.alloc a).alloc b).heap[w.heap.size+1]? = some b:=by
 refine ⟨heap_alloc_lt (heap_alloc_new _ _), ?_⟩
 have:=heap_alloc_new (w.alloc a) b;simpa using this
namespace Ps
def Low (F:Nat→Nat→Nat):Prop:=∀ a b,F a b ≤ 1000000
def eF (F F2:Nat→Nat→Nat) (k:Nat):Nat→Nat→Nat:=fun c d=>if c=d∧c < k then min (F c d+F2 c d) 1000000 else F c d
theorem eF_zero (F F2:Nat→Nat→Nat):eF F F2 0=F:=by funext c d;simp [eF]
theorem eF_succ (F F2:Nat→Nat→Nat) (k:Nat):putF (eF F F2 k) k k (min (eF F F2 k k k+F2 k k) 1000000)=eF F F2 (k+1):=by
 funext c d
 unfold putF eF
 by_cases h:c=k∧d=k
 · obtain ⟨rfl,rfl⟩:=h
   rw [if_pos ⟨rfl,rfl⟩,if_neg (by omega),if_pos (by omega)]
 · rw [if_neg h]
   by_cases h2:c=d∧c < k
   · rw [if_pos h2,if_pos ⟨h2.1,by omega⟩]
   · rw [if_neg h2,if_neg (by omega)]
theorem eF_low {F F2:Nat→Nat→Nat} (h:Low F) (k:Nat):Low (eF F F2 k):=fun c d=>by
 unfold eF;split
 · omega
 · exact h c d
def aF (F F2:Nat→Nat→Nat) (k j:Nat):Nat→Nat→Nat:=fun c d=>if c ≤ d∧(c < k ∨ (c=k∧d < j)) then min (F c d+F2 c d) 1000000 else F c d
theorem aF_succ (F F2:Nat→Nat→Nat) {k j:Nat} (h:k ≤ j):putF (aF F F2 k j) k j (min (aF F F2 k j k j+F2 k j) 1000000)=aF F F2 k (j+1):=by
 funext c d
 unfold putF aF
 by_cases h1:c=k∧d=j
 · obtain ⟨rfl,rfl⟩:=h1
   rw [if_pos ⟨rfl,rfl⟩,if_neg (by omega),if_pos (by omega)]
 · rw [if_neg h1]
   by_cases h2:c ≤ d∧(c < k ∨ (c=k∧d < j))
   · rw [if_pos h2,if_pos (by omega)]
   · rw [if_neg h2,if_neg (by omega)]
theorem aF_zero (F F2:Nat→Nat→Nat):aF F F2 0 0=F:=by funext c d;unfold aF;rw [if_neg (by omega)]
theorem aF_diag (F F2:Nat→Nat→Nat) (k:Nat):aF F F2 k k=aF F F2 k 0:=by
 funext c d;unfold aF
 by_cases h:c ≤ d∧(c < k ∨ (c=k∧d < k))
 · rw [if_pos h,if_pos (by omega)]
 · rw [if_neg h,if_neg (by omega)]
theorem aF_row (F F2:Nat→Nat→Nat) (k:Nat) {m c d:Nat} (hd:d ≤ m):aF F F2 (k+1) 0 c d=aF F F2 k (m+1) c d:=by
 unfold aF
 by_cases h:c ≤ d∧(c < k ∨ (c=k∧d < m+1))
 · rw [if_pos h,if_pos (by omega)]
 · rw [if_neg h,if_neg (by omega)]
theorem aF_low {F F2:Nat→Nat→Nat} (h:Low F) (k j:Nat):Low (aF F F2 k j):=fun c d=>by
 unfold aF;split
 · omega
 · exact h c d
def jF (F F2 F3:Nat→Nat→Nat) (a k j:Nat):Nat→Nat→Nat:=fun c d=>if c=a∧k ≤ d∧d < j then min (F c d+F2 a k * F3 k d) 1000000 else F c d
theorem jF_zero (F F2 F3:Nat→Nat→Nat) (a k:Nat):jF F F2 F3 a k k=F:=by funext c d;unfold jF;rw [if_neg (by omega)]
theorem jF_succ (F F2 F3:Nat→Nat→Nat) {a k j:Nat} (h:k ≤ j):putF (jF F F2 F3 a k j) a j (min (jF F F2 F3 a k j a j+F2 a k * F3 k j) 1000000)=jF F F2 F3 a k (j+1):=by
 funext c d
 unfold putF jF
 by_cases h1:c=a∧d=j
 · obtain ⟨rfl,rfl⟩:=h1
   rw [if_pos ⟨rfl,rfl⟩,if_neg (by omega),if_pos (by omega)]
 · rw [if_neg h1]
   by_cases h2:c=a∧k ≤ d∧d < j
   · rw [if_pos h2,if_pos (by omega)]
   · rw [if_neg h2,if_neg (by omega)]
theorem jF_low {F F2 F3:Nat→Nat→Nat} (h:Low F) (a k j:Nat):Low (jF F F2 F3 a k j):=fun c d=>by
 unfold jF;split
 · omega
 · exact h c d
def jN (m:Nat) (F F2 F3:Nat→Nat→Nat) (a s:Nat):Nat→Nat→Nat→Nat
 | 0=>F
 | n+1=>jF (jN m F F2 F3 a s n) F2 F3 a (s+n) (m+1)
theorem jN_low (m:Nat) {F F2 F3:Nat→Nat→Nat} (h:Low F) (a s:Nat):∀ n,Low (jN m F F2 F3 a s n)
 | 0=>h
 | n+1=>jF_low (jN_low m h a s n) a (s+n) (m+1)
theorem jF_none {F F2 F3:Nat→Nat→Nat} (h:Low F) {a k:Nat} (h0:F2 a k=0) (j:Nat):jF F F2 F3 a k j=F:=by
 funext c d
 unfold jF
 rw [h0,Nat.zero_mul,Nat.add_zero]
 have:=h c d
 split
 · omega
 · rfl
end Ps
theorem TabAtP.same {w:World} {g m:Nat} {F G:Nat→Nat→Nat} (h:TabAtP w g m F) (he:∀ c d,c ≤ m→d ≤ m→G c d=F c d):TabAtP w g m G:=by
 unfold TabAtP at *
 rw [h]
 have:Ps.tabA (m+1) F=Ps.tabA (m+1) G:=by
   unfold Ps.tabA
   congr 1
   funext i
   have hn:0 < m+1:=by omega
   have h1:i.val / (m+1) < m+1:=Nat.div_lt_of_lt_mul i.isLt
   have h2:i.val % (m+1) < m+1:=Nat.mod_lt _ hn
   rw [he _ _ (by omega) (by omega)]
 rw [this]
theorem TabAtP.touch {w w':World} {g g2 m:Nat} {F:Nat→Nat→Nat} (h:TabAtP w g2 m F) (ht:Touch [g] w w') (hne:g2 ≠ g):TabAtP w' g2 m F:=by
 have hl:=h.lt
 unfold TabAtP at *
 exact (ht.block g2 hl (by simpa using hne)).trans h
theorem blk_touch {w w':World} {g b:Nat} {o:Obj} (h:w.heap[b]? = some o) (ht:Touch [g] w w') (hne:b ≠ g):w'.heap[b]? = some o :=
 (ht.block b (Array.getElem?_eq_some_iff.1 h).1 (by simpa using hne)).trans h
theorem psaddEmpty_any (g g2 lo m:Nat) (hlo:lo+m ≤ 1000) (F F2:Nat→Nat→Nat) (hF:Ps.Low F) (hF2:Ps.Low F2) (hne:g2 ≠ g) (w:World) (hT:TabAtP w g m F) (hT2:TabAtP w g2 m F2) :
   Calls Tryd.prog 169 #[Ps.tabV g lo m,Ps.tabV g2 lo m] w fun e w'=>e=.returned (.tuple #[])∧TabAtP w' g m (Ps.eF F F2 (m+1))∧Touch [g] w w':=by
 have HT:=Lib.hid hT;have HT2:=Lib.hid hT2;have HF:=Lib.hid hF;have HF2:=Lib.hid hF2
 have HNE:=Lib.hid (show g2 ≠ g∧g < w.heap.size∧g2 < w.heap.size from ⟨hne,hT.lt,hT2.lt⟩)
 clear hT hT2 hF hF2 hne
 unfold Ps.tabV
 have W2x:=Lib.hid (two_newT w (.cells #[.int .i64 (lo:Int),.int .i64 ((lo:Int)+(m:Int)),.slice (some ⟨g,0,none⟩) ((m+1) * (m+1)) ((m+1) * (m+1))] 127) (.cells #[.int .i64 (lo:Int),.int .i64 ((lo:Int)+(m:Int)),.slice (some ⟨g2,0,none⟩) ((m+1) * (m+1)) ((m+1) * (m+1))] 127))
 have HB:=Lib.hid (show Below w.heap.size w ((w.alloc (.cells #[.int .i64 (lo:Int),.int .i64 ((lo:Int)+(m:Int)),.slice (some ⟨g,0,none⟩) ((m+1) * (m+1)) ((m+1) * (m+1))] 127)).alloc (.cells #[.int .i64 (lo:Int),.int .i64 ((lo:Int)+(m:Int)),.slice (some ⟨g2,0,none⟩) ((m+1) * (m+1)) ((m+1) * (m+1))] 127)) from by go_grown)
 go_enter Tryd.func169,Tryd.ntmps169
 go_wp2
 generalize World.alloc (World.alloc w _) _=W0 at *
 have Y0:=Lib.hid W2x.out.1;have Y1:=Lib.hid W2x.out.2
 have T0:=Lib.hid (HT.out.later HB.out);have T20:=Lib.hid (HT2.out.later HB.out)
 clear W2x HT HT2
 go_loopw [4] (fun iv wr=>∃ k:Nat,iv=.int .i64 ((lo:Int)+(k:Int))∧k ≤ m+1∧Hid (TabAtP wr g m (Ps.eF F F2 k))∧Hid (TabAtP wr g2 m F2)∧Hid (wr.heap[w.heap.size]? = some (.cells #[.int .i64 (lo:Int),.int .i64 ((lo:Int)+(m:Int)),.slice (some ⟨g,0,none⟩) ((m+1) * (m+1)) ((m+1) * (m+1))] 127))∧Hid (wr.heap[w.heap.size+1]? = some (.cells #[.int .i64 (lo:Int),.int .i64 ((lo:Int)+(m:Int)),.slice (some ⟨g2,0,none⟩) ((m+1) * (m+1)) ((m+1) * (m+1))] 127))∧Hid (Touch [g] w wr)) (fun iv _=>lo+m+1 - (intOf iv).toNat)
 case atStart=>exact ⟨0,by simp,Nat.zero_le _,by rw [Ps.eF_zero];exact T0,T20,Y0,Y1,Lib.hid (Touch.of_below _ HB.out)⟩
 case round =>
   obtain ⟨k,rfl,hk,T1,T2,Z0,Z1,HTO⟩:=hrel
   clear Y0 Y1 T0 T20 HB
   have wk:IntKind.i64.wrap ((lo:Int)+(k:Int)+1)=(lo:Int)+((k+1:Nat):Int):=by rw [IntWalk.i64_in _ (by omega)];omega
   obtain ⟨u0,u1,u2⟩:=three_cellsT Z0.out
   by_cases hlt:k ≤ m
   · have hle:(lo:Int)+(k:Int) ≤ (lo:Int)+(m:Int):=by omega
     have hle2:(k:Int) ≤ (m:Int):=by omega
     have HAT:=Lib.hid (fun w9 (hb:Below wr.heap.size wr w9)=>psat_any g2 lo m k k hlo hlt hlt F2 (HF2.out k k) w9 (T2.out.later hb))
     have HAD:=Lib.hid (fun w9 (hb:Below wr.heap.size wr w9)=>by
       have h:=psadd_any g lo m k k (F2 k k) hlo hlt hlt (Ps.eF F F2 k) (Ps.eF_low HF.out k k k) (by have:=HF2.out k k;omega) w9 (T1.out.later hb)
       rw [Ps.eF_succ] at h;exact h)
     unfold Ps.tabV at HAT HAD
     go_upto_region 4 with (fail)
     clear u0 u1 u2
     go_wp2_with fail
     refine Ri.wp_region_frame (by kernel_rfl) (by kernel_rfl) (by kernel_rfl) (by kernel_rfl)
       (fun L v w'=>(L 7=false→Below wr.heap.size wr w')∧(L 7=true→TabAtP w' g m (Ps.eF F F2 (k+1))∧Touch [g] wr w')∧(L 7=true→L 0=true)∧(L 7=true→L 1=true)∧(L 7=true→L 2=true)∧(L 7=true→L 3=true)∧(L 7=true→L 4=true)∧(L 7=true→L 5=true)∧(L 7=true→L 6=true)∧(L 6=true→L 3=true)∧(L 6=true→L 4=true)∧(L 6=true→L 5=true)∧(L 0=true→v 0=.agg #[.int .i64 (lo:Int),.int .i64 ((lo:Int)+(m:Int)),.slice (some ⟨g,0,none⟩) ((m+1) * (m+1)) ((m+1) * (m+1))])∧(L 1=true→v 1=.int .i64 ((lo:Int)+(k:Int)))∧(L 2=true→v 2=.int .i64 ((lo:Int)+(k:Int)))∧(L 3=true→v 3=.agg #[.int .i64 (lo:Int),.int .i64 ((lo:Int)+(m:Int)),.slice (some ⟨g2,0,none⟩) ((m+1) * (m+1)) ((m+1) * (m+1))])∧(L 4=true→v 4=.int .i64 ((lo:Int)+(k:Int)))∧(L 5=true→v 5=.int .i64 ((lo:Int)+(k:Int)))∧(L 6=true→v 6=.int .i64 ((F2 k k:Nat):Int)))
       ?_ ?_ ?_
     · exact ⟨fun _=>(Below.refl _ _).drew,by simp,by simp,by simp,by simp,by simp,by simp,by simp,by simp,by simp,by simp,by simp,by simp,by simp,by simp,by simp,by simp,by simp,by simp⟩
     · intro i hi9 L v w9 xa hI hL hd hv ho
       have hi':i=0 ∨ i=1 ∨ i=2 ∨ i=3 ∨ i=4 ∨ i=5 ∨ i=6 ∨ i=7:=by simp at hi9;omega
       obtain ⟨hbf,hfin,dd0,dd1,dd2,dd3,dd4,dd5,dd6,c6_3,c6_4,c6_5,q0,q1,q2,q3,q4,q5,q6⟩:=hI
       rcases hi' with rfl | rfl | rfl | rfl | rfl | rfl | rfl | rfl
       · have e2:xa.tmps.getD 2 undef=.pointer (some ⟨w.heap.size,0,none⟩):=ho 2 (by kernel_rfl)
         have hl9:L 7=false:=by cases h:L 7 with | false=>rfl | true=>rw [dd0 h] at hL;cases hL
         have hb:=hbf hl9
         refine Ri.step_plain rfl rfl (fun K' hK=>?_)
         obtain ⟨u0,u1,u2⟩:=three_cellsT (keep_blk hb Z0.out)
         go_simp
         exact hK _ _ ⟨_,_,rfl,rfl,(fun _=>hb),(fun h=>Bool.noConfusion (hl9.symm.trans h)),(fun _=>rfl),dd1,dd2,dd3,dd4,dd5,dd6,c6_3,c6_4,c6_5,(fun _=>rfl),q1,q2,q3,q4,q5,q6⟩
       · have e4:xa.tmps.getD 4 undef=.int .i64 ((lo:Int)+(k:Int)):=ho 4 (by kernel_rfl)
         have hl9:L 7=false:=by cases h:L 7 with | false=>rfl | true=>rw [dd1 h] at hL;cases hL
         have hb:=hbf hl9
         refine Ri.step_plain rfl rfl (fun K' hK=>?_)
         go_simp
         exact hK _ _ ⟨_,_,rfl,rfl,(fun _=>hb),(fun h=>Bool.noConfusion (hl9.symm.trans h)),dd0,(fun _=>rfl),dd2,dd3,dd4,dd5,dd6,c6_3,c6_4,c6_5,q0,(fun _=>rfl),q2,q3,q4,q5,q6⟩
       · have e4:xa.tmps.getD 4 undef=.int .i64 ((lo:Int)+(k:Int)):=ho 4 (by kernel_rfl)
         have hl9:L 7=false:=by cases h:L 7 with | false=>rfl | true=>rw [dd2 h] at hL;cases hL
         have hb:=hbf hl9
         refine Ri.step_plain rfl rfl (fun K' hK=>?_)
         go_simp
         exact hK _ _ ⟨_,_,rfl,rfl,(fun _=>hb),(fun h=>Bool.noConfusion (hl9.symm.trans h)),dd0,dd1,(fun _=>rfl),dd3,dd4,dd5,dd6,c6_3,c6_4,c6_5,q0,q1,(fun _=>rfl),q3,q4,q5,q6⟩
       · have e3:xa.tmps.getD 3 undef=.pointer (some ⟨w.heap.size+1,0,none⟩):=ho 3 (by kernel_rfl)
         have hl9:L 7=false:=by cases h:L 7 with | false=>rfl | true=>rw [dd3 h] at hL;cases hL
         have hb:=hbf hl9
         refine Ri.step_plain rfl rfl (fun K' hK=>?_)
         obtain ⟨u0,u1,u2⟩:=three_cellsT (keep_blk hb Z1.out)
         go_simp
         exact hK _ _ ⟨_,_,rfl,rfl,(fun _=>hb),(fun h=>Bool.noConfusion (hl9.symm.trans h)),dd0,dd1,dd2,(fun _=>rfl),dd4,dd5,dd6,(fun _=>rfl),c6_4,c6_5,q0,q1,q2,(fun _=>rfl),q4,q5,q6⟩
       · have e4:xa.tmps.getD 4 undef=.int .i64 ((lo:Int)+(k:Int)):=ho 4 (by kernel_rfl)
         have hl9:L 7=false:=by cases h:L 7 with | false=>rfl | true=>rw [dd4 h] at hL;cases hL
         have hb:=hbf hl9
         refine Ri.step_plain rfl rfl (fun K' hK=>?_)
         go_simp
         exact hK _ _ ⟨_,_,rfl,rfl,(fun _=>hb),(fun h=>Bool.noConfusion (hl9.symm.trans h)),dd0,dd1,dd2,dd3,(fun _=>rfl),dd5,dd6,c6_3,(fun _=>rfl),c6_5,q0,q1,q2,q3,(fun _=>rfl),q5,q6⟩
       · have e4:xa.tmps.getD 4 undef=.int .i64 ((lo:Int)+(k:Int)):=ho 4 (by kernel_rfl)
         have hl9:L 7=false:=by cases h:L 7 with | false=>rfl | true=>rw [dd5 h] at hL;cases hL
         have hb:=hbf hl9
         refine Ri.step_plain rfl rfl (fun K' hK=>?_)
         go_simp
         exact hK _ _ ⟨_,_,rfl,rfl,(fun _=>hb),(fun h=>Bool.noConfusion (hl9.symm.trans h)),dd0,dd1,dd2,dd3,dd4,(fun _=>rfl),dd6,c6_3,c6_4,(fun _=>rfl),q0,q1,q2,q3,q4,(fun _=>rfl),q6⟩
       · have l0:L 3=true∧L 4=true∧L 5=true:=by have:=hd _ rfl;simp [Region.binds] at this;simp [this]
         have f3:=(hv 3 16 rfl l0.1).trans (q3 l0.1)
         have f4:=(hv 4 17 rfl l0.2.1).trans (q4 l0.2.1)
         have f5:=(hv 5 18 rfl l0.2.2).trans (q5 l0.2.2)
         have hl9:L 7=false:=by cases h:L 7 with | false=>rfl | true=>rw [dd6 h] at hL;cases hL
         have hb:=hbf hl9
         refine Ri.step_plain rfl rfl (fun K' hK=>?_)
         go_simp
         refine (HAT.out _ hb).mono ?_
         rintro e w8 ⟨rfl,hb8⟩
         exact hK _ _ ⟨_,_,rfl,rfl,(fun _=>hb.trans (hb8.mono hb.size)),(fun h=>Bool.noConfusion (hl9.symm.trans h)),dd0,dd1,dd2,dd3,dd4,dd5,(fun _=>rfl),(fun _=>l0.1),(fun _=>l0.2.1),(fun _=>l0.2.2),q0,q1,q2,q3,q4,q5,(fun _=>rfl)⟩
       · have l0:L 0=true∧L 1=true∧L 2=true∧L 6=true:=by have:=hd _ rfl;simp [Region.binds] at this;simp [this]
         have f0:=(hv 0 13 rfl l0.1).trans (q0 l0.1)
         have f1:=(hv 1 14 rfl l0.2.1).trans (q1 l0.2.1)
         have f2:=(hv 2 15 rfl l0.2.2.1).trans (q2 l0.2.2.1)
         have f6:=(hv 6 19 rfl l0.2.2.2).trans (q6 l0.2.2.2)
         have h0:L 0=true:=by first | (have:=hd _ rfl;simp [Region.binds] at this;simp [this];done)
         have h1:L 1=true:=by first | (have:=hd _ rfl;simp [Region.binds] at this;simp [this];done)
         have h2:L 2=true:=by first | (have:=hd _ rfl;simp [Region.binds] at this;simp [this];done)
         have h6:L 6=true:=by first | (have:=hd _ rfl;simp [Region.binds] at this;simp [this];done)
         have h3:L 3=true:=by first | (have:=hd _ rfl;simp [Region.binds] at this;simp [this];done) | exact c6_3 h6
         have h4:L 4=true:=by first | (have:=hd _ rfl;simp [Region.binds] at this;simp [this];done) | exact c6_4 h6
         have h5:L 5=true:=by first | (have:=hd _ rfl;simp [Region.binds] at this;simp [this];done) | exact c6_5 h6
         have hb:=hbf hL
         refine Ri.step_plain rfl rfl (fun K' hK=>?_)
         go_simp
         refine (HAD.out _ hb).mono ?_
         rintro e w8 ⟨rfl,ht8,hto8⟩
         exact hK _ _ ⟨_,_,rfl,rfl,(fun h=>by cases h),(fun _=>⟨ht8,(Touch.of_below _ hb).trans hto8⟩),(fun _=>h0),(fun _=>h1),(fun _=>h2),(fun _=>h3),(fun _=>h4),(fun _=>h5),(fun _=>h6),c6_3,c6_4,c6_5,q0,q1,q2,q3,q4,q5,q6⟩
     · rintro v w9 ⟨-,hfin,-,-,-,-,-,-,-,-,-,-,-,-,-,-,-,-,-⟩
       have HF9:=Lib.hid (hfin rfl)
       simp only [Ri.frame,List.zipIdx,List.foldl_cons,List.foldl_nil,if_true,List.setIfInBounds_toArray,List.set_cons_zero,List.set_cons_succ,Nat.reduceAdd]
       clear hfin
       generalize v 0=y0;generalize v 1=y1;generalize v 2=y2;generalize v 3=y3;generalize v 4=y4;generalize v 5=y5;generalize v 6=y6;generalize v 7=y7
       obtain ⟨t9,o9⟩:=HF9.out
       have T1n:=Lib.hid t9;have T2n:=Lib.hid (T2.out.touch o9 HNE.out.1)
       have Z0n:=Lib.hid (blk_touch Z0.out o9 (by have:=HNE.out;omega));have Z1n:=Lib.hid (blk_touch Z1.out o9 (by have:=HNE.out;omega))
       have HTn:=Lib.hid (HTO.out.trans o9)
       clear t9 o9 HF9
       go_wp2
       exact ⟨⟨k+1,by simp,by omega,T1n,T2n,Z0n,Z1n,HTn⟩,by simp [intOf];omega⟩
   · obtain rfl:k=m+1:=by omega
     have hle:¬ ((lo:Int)+((m+1:Nat):Int) ≤ (lo:Int)+(m:Int)):=by omega
     have hle2:¬ ((m:Int)+1 ≤ (m:Int)):=by omega
     go_wp2
     go_end0
     exact ⟨rfl,T1.out,HTO.out⟩
theorem psaddAll_any (g g2 lo m:Nat) (hlo:lo+m ≤ 1000) (F F2:Nat→Nat→Nat) (hF:Ps.Low F) (hF2:Ps.Low F2) (hne:g2 ≠ g) (w:World) (hT:TabAtP w g m F) (hT2:TabAtP w g2 m F2) :
   Calls Tryd.prog 167 #[Ps.tabV g lo m,Ps.tabV g2 lo m] w fun e w'=>e=.returned (.tuple #[])∧TabAtP w' g m (Ps.aF F F2 (m+1) 0)∧Touch [g] w w':=by
 have HT:=Lib.hid hT;have HT2:=Lib.hid hT2;have HF:=Lib.hid hF;have HF2:=Lib.hid hF2
 have HNE:=Lib.hid (show g2 ≠ g∧g < w.heap.size∧g2 < w.heap.size from ⟨hne,hT.lt,hT2.lt⟩)
 clear hT hT2 hF hF2 hne
 unfold Ps.tabV
 have W2x:=Lib.hid (two_newT w (.cells #[.int .i64 (lo:Int),.int .i64 ((lo:Int)+(m:Int)),.slice (some ⟨g,0,none⟩) ((m+1) * (m+1)) ((m+1) * (m+1))] 127) (.cells #[.int .i64 (lo:Int),.int .i64 ((lo:Int)+(m:Int)),.slice (some ⟨g2,0,none⟩) ((m+1) * (m+1)) ((m+1) * (m+1))] 127))
 have HB:=Lib.hid (show Below w.heap.size w ((w.alloc (.cells #[.int .i64 (lo:Int),.int .i64 ((lo:Int)+(m:Int)),.slice (some ⟨g,0,none⟩) ((m+1) * (m+1)) ((m+1) * (m+1))] 127)).alloc (.cells #[.int .i64 (lo:Int),.int .i64 ((lo:Int)+(m:Int)),.slice (some ⟨g2,0,none⟩) ((m+1) * (m+1)) ((m+1) * (m+1))] 127)) from by go_grown)
 go_enter Tryd.func167,Tryd.ntmps167
 go_wp2
 generalize World.alloc (World.alloc w _) _=W0 at *
 have Y0:=Lib.hid W2x.out.1;have Y1:=Lib.hid W2x.out.2
 have T0:=Lib.hid (HT.out.later HB.out);have T20:=Lib.hid (HT2.out.later HB.out)
 clear W2x HT HT2
 go_loopw [4,5] (fun iv _ wr=>∃ k:Nat,iv=.int .i64 ((lo:Int)+(k:Int))∧k ≤ m+1∧Hid (TabAtP wr g m (Ps.aF F F2 k 0))∧Hid (TabAtP wr g2 m F2)∧Hid (wr.heap[w.heap.size]? = some (.cells #[.int .i64 (lo:Int),.int .i64 ((lo:Int)+(m:Int)),.slice (some ⟨g,0,none⟩) ((m+1) * (m+1)) ((m+1) * (m+1))] 127))∧Hid (wr.heap[w.heap.size+1]? = some (.cells #[.int .i64 (lo:Int),.int .i64 ((lo:Int)+(m:Int)),.slice (some ⟨g2,0,none⟩) ((m+1) * (m+1)) ((m+1) * (m+1))] 127))∧Hid (Touch [g] w wr)) (fun iv _ _=>lo+m+1 - (intOf iv).toNat)
 case atStart=>exact ⟨0,by simp,Nat.zero_le _,by rw [Ps.aF_zero];exact T0,T20,Y0,Y1,Lib.hid (Touch.of_below _ HB.out)⟩
 case round =>
   obtain ⟨k,rfl,hk,T1,T2,Z0,Z1,HTO⟩:=hrel
   clear Y0 Y1 T0 T20 HB
   have wk:IntKind.i64.wrap ((lo:Int)+(k:Int)+1)=(lo:Int)+((k+1:Nat):Int):=by rw [IntWalk.i64_in _ (by omega)];omega
   obtain ⟨u0,u1,u2⟩:=three_cellsT Z0.out
   by_cases hlt:k ≤ m
   · have hle:(lo:Int)+(k:Int) ≤ (lo:Int)+(m:Int):=by omega
     have hle2:(k:Int) ≤ (m:Int):=by omega
     have T1k:=Lib.hid (show TabAtP wr g m (Ps.aF F F2 k k) from by rw [Ps.aF_diag];exact T1.out)
     go_wp2
     go_loopw [5] (fun jv wq=>∃ j:Nat,jv=.int .i64 ((lo:Int)+(j:Int))∧k ≤ j∧j ≤ m+1∧Hid (TabAtP wq g m (Ps.aF F F2 k j))∧Hid (TabAtP wq g2 m F2)∧Hid (wq.heap[w.heap.size]? = some (.cells #[.int .i64 (lo:Int),.int .i64 ((lo:Int)+(m:Int)),.slice (some ⟨g,0,none⟩) ((m+1) * (m+1)) ((m+1) * (m+1))] 127))∧Hid (wq.heap[w.heap.size+1]? = some (.cells #[.int .i64 (lo:Int),.int .i64 ((lo:Int)+(m:Int)),.slice (some ⟨g2,0,none⟩) ((m+1) * (m+1)) ((m+1) * (m+1))] 127))∧Hid (Touch [g] w wq)) (fun jv _=>lo+m+1 - (intOf jv).toNat)
     case atStart=>exact ⟨k,rfl,Nat.le_refl _,hk,T1k,T2,Z0,Z1,HTO⟩
     case round =>
       clear T1 T2 Z0 Z1 HTO T1k u0 u1 u2
       obtain ⟨j,rfl,hkj,hj,T1,T2,Z0,Z1,HTO⟩:=hrel
       have wj:IntKind.i64.wrap ((lo:Int)+(j:Int)+1)=(lo:Int)+((j+1:Nat):Int):=by rw [IntWalk.i64_in _ (by omega)];omega
       obtain ⟨u0,u1,u2⟩:=three_cellsT Z0.out
       by_cases hjl:j ≤ m
       · have hje:(lo:Int)+(j:Int) ≤ (lo:Int)+(m:Int):=by omega
         have hje2:(j:Int) ≤ (m:Int):=by omega
         have HAT:=Lib.hid (fun w9 (hb:Below wr.heap.size wr w9)=>psat_any g2 lo m k j hlo hlt hjl F2 (HF2.out k j) w9 (T2.out.later hb))
         have HAD:=Lib.hid (fun w9 (hb:Below wr.heap.size wr w9)=>by
           have h:=psadd_any g lo m k j (F2 k j) hlo hlt hjl (Ps.aF F F2 k j) (Ps.aF_low HF.out k j k j) (by have:=HF2.out k j;omega) w9 (T1.out.later hb)
           rw [Ps.aF_succ F F2 hkj] at h;exact h)
         unfold Ps.tabV at HAT HAD
         go_upto_region 7 with (fail)
         clear u0 u1 u2
         go_wp2_with fail
         refine Ri.wp_region_frame (by kernel_rfl) (by kernel_rfl) (by kernel_rfl) (by kernel_rfl)
           (fun L v w'=>(L 7=false→Below wr.heap.size wr w')∧(L 7=true→TabAtP w' g m (Ps.aF F F2 k (j+1))∧Touch [g] wr w')∧(L 7=true→L 0=true)∧(L 7=true→L 1=true)∧(L 7=true→L 2=true)∧(L 7=true→L 3=true)∧(L 7=true→L 4=true)∧(L 7=true→L 5=true)∧(L 7=true→L 6=true)∧(L 6=true→L 3=true)∧(L 6=true→L 4=true)∧(L 6=true→L 5=true)∧(L 0=true→v 0=.agg #[.int .i64 (lo:Int),.int .i64 ((lo:Int)+(m:Int)),.slice (some ⟨g,0,none⟩) ((m+1) * (m+1)) ((m+1) * (m+1))])∧(L 1=true→v 1=.int .i64 ((lo:Int)+(k:Int)))∧(L 2=true→v 2=.int .i64 ((lo:Int)+(j:Int)))∧(L 3=true→v 3=.agg #[.int .i64 (lo:Int),.int .i64 ((lo:Int)+(m:Int)),.slice (some ⟨g2,0,none⟩) ((m+1) * (m+1)) ((m+1) * (m+1))])∧(L 4=true→v 4=.int .i64 ((lo:Int)+(k:Int)))∧(L 5=true→v 5=.int .i64 ((lo:Int)+(j:Int)))∧(L 6=true→v 6=.int .i64 ((F2 k j:Nat):Int)))
           ?_ ?_ ?_
         · exact ⟨fun _=>(Below.refl _ _).drew,by simp,by simp,by simp,by simp,by simp,by simp,by simp,by simp,by simp,by simp,by simp,by simp,by simp,by simp,by simp,by simp,by simp,by simp⟩
         · intro i hi9 L v w9 xa hI hL hd hv ho
           have hi':i=0 ∨ i=1 ∨ i=2 ∨ i=3 ∨ i=4 ∨ i=5 ∨ i=6 ∨ i=7:=by simp at hi9;omega
           obtain ⟨hbf,hfin,dd0,dd1,dd2,dd3,dd4,dd5,dd6,c6_3,c6_4,c6_5,q0,q1,q2,q3,q4,q5,q6⟩:=hI
           rcases hi' with rfl | rfl | rfl | rfl | rfl | rfl | rfl | rfl
           · have e2:xa.tmps.getD 2 undef=.pointer (some ⟨w.heap.size,0,none⟩):=ho 2 (by kernel_rfl)
             have hl9:L 7=false:=by cases h:L 7 with | false=>rfl | true=>rw [dd0 h] at hL;cases hL
             have hb:=hbf hl9
             refine Ri.step_plain rfl rfl (fun K' hK=>?_)
             obtain ⟨u0,u1,u2⟩:=three_cellsT (keep_blk hb Z0.out)
             go_simp
             exact hK _ _ ⟨_,_,rfl,rfl,(fun _=>hb),(fun h=>Bool.noConfusion (hl9.symm.trans h)),(fun _=>rfl),dd1,dd2,dd3,dd4,dd5,dd6,c6_3,c6_4,c6_5,(fun _=>rfl),q1,q2,q3,q4,q5,q6⟩
           · have e4:xa.tmps.getD 4 undef=.int .i64 ((lo:Int)+(k:Int)):=ho 4 (by kernel_rfl)
             have hl9:L 7=false:=by cases h:L 7 with | false=>rfl | true=>rw [dd1 h] at hL;cases hL
             have hb:=hbf hl9
             refine Ri.step_plain rfl rfl (fun K' hK=>?_)
             go_simp
             exact hK _ _ ⟨_,_,rfl,rfl,(fun _=>hb),(fun h=>Bool.noConfusion (hl9.symm.trans h)),dd0,(fun _=>rfl),dd2,dd3,dd4,dd5,dd6,c6_3,c6_4,c6_5,q0,(fun _=>rfl),q2,q3,q4,q5,q6⟩
           · have e5:xa.tmps.getD 5 undef=.int .i64 ((lo:Int)+(j:Int)):=ho 5 (by kernel_rfl)
             have hl9:L 7=false:=by cases h:L 7 with | false=>rfl | true=>rw [dd2 h] at hL;cases hL
             have hb:=hbf hl9
             refine Ri.step_plain rfl rfl (fun K' hK=>?_)
             go_simp
             exact hK _ _ ⟨_,_,rfl,rfl,(fun _=>hb),(fun h=>Bool.noConfusion (hl9.symm.trans h)),dd0,dd1,(fun _=>rfl),dd3,dd4,dd5,dd6,c6_3,c6_4,c6_5,q0,q1,(fun _=>rfl),q3,q4,q5,q6⟩
           · have e3:xa.tmps.getD 3 undef=.pointer (some ⟨w.heap.size+1,0,none⟩):=ho 3 (by kernel_rfl)
             have hl9:L 7=false:=by cases h:L 7 with | false=>rfl | true=>rw [dd3 h] at hL;cases hL
             have hb:=hbf hl9
             refine Ri.step_plain rfl rfl (fun K' hK=>?_)
             obtain ⟨u0,u1,u2⟩:=three_cellsT (keep_blk hb Z1.out)
             go_simp
             exact hK _ _ ⟨_,_,rfl,rfl,(fun _=>hb),(fun h=>Bool.noConfusion (hl9.symm.trans h)),dd0,dd1,dd2,(fun _=>rfl),dd4,dd5,dd6,(fun _=>rfl),c6_4,c6_5,q0,q1,q2,(fun _=>rfl),q4,q5,q6⟩
           · have e4:xa.tmps.getD 4 undef=.int .i64 ((lo:Int)+(k:Int)):=ho 4 (by kernel_rfl)
             have hl9:L 7=false:=by cases h:L 7 with | false=>rfl | true=>rw [dd4 h] at hL;cases hL
             have hb:=hbf hl9
             refine Ri.step_plain rfl rfl (fun K' hK=>?_)
             go_simp
             exact hK _ _ ⟨_,_,rfl,rfl,(fun _=>hb),(fun h=>Bool.noConfusion (hl9.symm.trans h)),dd0,dd1,dd2,dd3,(fun _=>rfl),dd5,dd6,c6_3,(fun _=>rfl),c6_5,q0,q1,q2,q3,(fun _=>rfl),q5,q6⟩
           · have e5:xa.tmps.getD 5 undef=.int .i64 ((lo:Int)+(j:Int)):=ho 5 (by kernel_rfl)
             have hl9:L 7=false:=by cases h:L 7 with | false=>rfl | true=>rw [dd5 h] at hL;cases hL
             have hb:=hbf hl9
             refine Ri.step_plain rfl rfl (fun K' hK=>?_)
             go_simp
             exact hK _ _ ⟨_,_,rfl,rfl,(fun _=>hb),(fun h=>Bool.noConfusion (hl9.symm.trans h)),dd0,dd1,dd2,dd3,dd4,(fun _=>rfl),dd6,c6_3,c6_4,(fun _=>rfl),q0,q1,q2,q3,q4,(fun _=>rfl),q6⟩
           · have l0:L 3=true∧L 4=true∧L 5=true:=by have:=hd _ rfl;simp [Region.binds] at this;simp [this]
             have f3:=(hv 3 24 rfl l0.1).trans (q3 l0.1)
             have f4:=(hv 4 25 rfl l0.2.1).trans (q4 l0.2.1)
             have f5:=(hv 5 26 rfl l0.2.2).trans (q5 l0.2.2)
             have hl9:L 7=false:=by cases h:L 7 with | false=>rfl | true=>rw [dd6 h] at hL;cases hL
             have hb:=hbf hl9
             refine Ri.step_plain rfl rfl (fun K' hK=>?_)
             go_simp
             refine (HAT.out _ hb).mono ?_
             rintro e w8 ⟨rfl,hb8⟩
             exact hK _ _ ⟨_,_,rfl,rfl,(fun _=>hb.trans (hb8.mono hb.size)),(fun h=>Bool.noConfusion (hl9.symm.trans h)),dd0,dd1,dd2,dd3,dd4,dd5,(fun _=>rfl),(fun _=>l0.1),(fun _=>l0.2.1),(fun _=>l0.2.2),q0,q1,q2,q3,q4,q5,(fun _=>rfl)⟩
           · have l0:L 0=true∧L 1=true∧L 2=true∧L 6=true:=by have:=hd _ rfl;simp [Region.binds] at this;simp [this]
             have f0:=(hv 0 21 rfl l0.1).trans (q0 l0.1)
             have f1:=(hv 1 22 rfl l0.2.1).trans (q1 l0.2.1)
             have f2:=(hv 2 23 rfl l0.2.2.1).trans (q2 l0.2.2.1)
             have f6:=(hv 6 27 rfl l0.2.2.2).trans (q6 l0.2.2.2)
             have h0:L 0=true:=by first | (have:=hd _ rfl;simp [Region.binds] at this;simp [this];done)
             have h1:L 1=true:=by first | (have:=hd _ rfl;simp [Region.binds] at this;simp [this];done)
             have h2:L 2=true:=by first | (have:=hd _ rfl;simp [Region.binds] at this;simp [this];done)
             have h6:L 6=true:=by first | (have:=hd _ rfl;simp [Region.binds] at this;simp [this];done)
             have h3:L 3=true:=by first | (have:=hd _ rfl;simp [Region.binds] at this;simp [this];done) | exact c6_3 h6
             have h4:L 4=true:=by first | (have:=hd _ rfl;simp [Region.binds] at this;simp [this];done) | exact c6_4 h6
             have h5:L 5=true:=by first | (have:=hd _ rfl;simp [Region.binds] at this;simp [this];done) | exact c6_5 h6
             have hb:=hbf hL
             refine Ri.step_plain rfl rfl (fun K' hK=>?_)
             go_simp
             refine (HAD.out _ hb).mono ?_
             rintro e w8 ⟨rfl,ht8,hto8⟩
             exact hK _ _ ⟨_,_,rfl,rfl,(fun h=>by cases h),(fun _=>⟨ht8,(Touch.of_below _ hb).trans hto8⟩),(fun _=>h0),(fun _=>h1),(fun _=>h2),(fun _=>h3),(fun _=>h4),(fun _=>h5),(fun _=>h6),c6_3,c6_4,c6_5,q0,q1,q2,q3,q4,q5,q6⟩
         · rintro v w9 ⟨-,hfin,-,-,-,-,-,-,-,-,-,-,-,-,-,-,-,-,-⟩
           have HF9:=Lib.hid (hfin rfl)
           simp only [Ri.frame,List.zipIdx,List.foldl_cons,List.foldl_nil,if_true,List.setIfInBounds_toArray,List.set_cons_zero,List.set_cons_succ,Nat.reduceAdd]
           clear hfin
           generalize v 0=y0;generalize v 1=y1;generalize v 2=y2;generalize v 3=y3;generalize v 4=y4;generalize v 5=y5;generalize v 6=y6;generalize v 7=y7
           obtain ⟨t9,o9⟩:=HF9.out
           have T1n:=Lib.hid t9;have T2n:=Lib.hid (T2.out.touch o9 HNE.out.1)
           have Z0n:=Lib.hid (blk_touch Z0.out o9 (by have:=HNE.out;omega));have Z1n:=Lib.hid (blk_touch Z1.out o9 (by have:=HNE.out;omega))
           have HTn:=Lib.hid (HTO.out.trans o9)
           clear t9 o9 HF9
           go_wp2
           exact ⟨⟨j+1,by simp,by omega,by omega,T1n,T2n,Z0n,Z1n,HTn⟩,by simp [intOf];omega⟩
       · obtain rfl:j=m+1:=by omega
         have hje:¬ ((lo:Int)+((m+1:Nat):Int) ≤ (lo:Int)+(m:Int)):=by omega
         have hje2:¬ ((m:Int)+1 ≤ (m:Int)):=by omega
         have T1n:=Lib.hid (show TabAtP wr g m (Ps.aF F F2 (k+1) 0) from T1.out.same fun c d hc hd=>Ps.aF_row F F2 k hd)
         clear T1
         go_wp2
         exact ⟨⟨k+1,by simp,by omega,T1n,T2,Z0,Z1,HTO⟩,by simp [intOf];omega⟩
   · obtain rfl:k=m+1:=by omega
     have hle:¬ ((lo:Int)+((m+1:Nat):Int) ≤ (lo:Int)+(m:Int)):=by omega
     have hle2:¬ ((m:Int)+1 ≤ (m:Int)):=by omega
     go_wp2
     go_end0
     exact ⟨rfl,T1.out,HTO.out⟩
theorem psaddJoined_any (g g2 g3 lo m a least:Nat) (hlo:lo+m ≤ 1000) (ha:a ≤ m) (hls:least ≤ 1) (F F2 F3:Nat→Nat→Nat) (hF:Ps.Low F) (hF2:Ps.Low F2) (hF3:Ps.Low F3) (hne:g2 ≠ g) (w:World) (hT:TabAtP w g m F) (hT2:TabAtP w g2 m F2)
   (hT3:∀ wx,Touch [g] w wx→∀ k,a+least ≤ k→k ≤ m→TabAtP wx g m (Ps.jN m F F2 F3 a (a+least) (k - (a+least)))→∀ j,k ≤ j→j ≤ m→∀ wy,Touch [g] wx wy→TabAtP wy g m (Ps.jF (Ps.jN m F F2 F3 a (a+least) (k - (a+least))) F2 F3 a k j)→∃ F4,TabAtP wy g3 m F4∧F4 k j=F3 k j) :
   Calls Tryd.prog 180 #[Ps.tabV g lo m,.int .i64 ((lo:Int)+(a:Int)),.int .i64 (least:Int),Ps.tabV g2 lo m,Ps.tabV g3 lo m] w fun e w'=>e=.returned (.tuple #[])∧TabAtP w' g m (Ps.jN m F F2 F3 a (a+least) (m+1 - (a+least)))∧Touch [g] w w':=by
 have HT:=Lib.hid hT;have HT2:=Lib.hid hT2;have HF:=Lib.hid hF;have HF2:=Lib.hid hF2;have HF3:=Lib.hid hF3;have HT3:=Lib.hid hT3
 have HNE:=Lib.hid (show g2 ≠ g∧g < w.heap.size∧g2 < w.heap.size from ⟨hne,hT.lt,hT2.lt⟩)
 clear hT hT2 hF hF2 hF3 hne hT3
 unfold Ps.tabV
 have W3x:=Lib.hid (three_newP w (.cells #[.int .i64 (lo:Int),.int .i64 ((lo:Int)+(m:Int)),.slice (some ⟨g,0,none⟩) ((m+1) * (m+1)) ((m+1) * (m+1))] 127) (.cells #[.int .i64 (lo:Int),.int .i64 ((lo:Int)+(m:Int)),.slice (some ⟨g2,0,none⟩) ((m+1) * (m+1)) ((m+1) * (m+1))] 127) (.cells #[.int .i64 (lo:Int),.int .i64 ((lo:Int)+(m:Int)),.slice (some ⟨g3,0,none⟩) ((m+1) * (m+1)) ((m+1) * (m+1))] 127))
 have HB:=Lib.hid (show Below w.heap.size w (((w.alloc (.cells #[.int .i64 (lo:Int),.int .i64 ((lo:Int)+(m:Int)),.slice (some ⟨g,0,none⟩) ((m+1) * (m+1)) ((m+1) * (m+1))] 127)).alloc (.cells #[.int .i64 (lo:Int),.int .i64 ((lo:Int)+(m:Int)),.slice (some ⟨g2,0,none⟩) ((m+1) * (m+1)) ((m+1) * (m+1))] 127)).alloc (.cells #[.int .i64 (lo:Int),.int .i64 ((lo:Int)+(m:Int)),.slice (some ⟨g3,0,none⟩) ((m+1) * (m+1)) ((m+1) * (m+1))] 127)) from by go_grown)
 have ws:IntKind.i64.wrap ((lo:Int)+(a:Int)+(least:Int))=(lo:Int)+((a+least:Nat):Int):=by rw [IntWalk.i64_in _ (by omega)];omega
 go_enter Tryd.func180,Tryd.ntmps180
 go_wp2
 generalize World.alloc (World.alloc (World.alloc w _) _) _=W0 at *
 have Y0:=Lib.hid W3x.out.1;have Y1:=Lib.hid W3x.out.2.1;have Y2:=Lib.hid W3x.out.2.2
 have T0:=Lib.hid (HT.out.later HB.out);have T20:=Lib.hid (HT2.out.later HB.out)
 clear W3x HT HT2 ws
 go_loopw [10,11,12] (fun iv _ _ wr=>∃ k:Nat,iv=.int .i64 ((lo:Int)+(k:Int))∧a+least ≤ k∧k ≤ m+2∧Hid (TabAtP wr g m (Ps.jN m F F2 F3 a (a+least) (min k (m+1) - (a+least))))∧Hid (TabAtP wr g2 m F2)∧Hid (wr.heap[w.heap.size]? = some (.cells #[.int .i64 (lo:Int),.int .i64 ((lo:Int)+(m:Int)),.slice (some ⟨g,0,none⟩) ((m+1) * (m+1)) ((m+1) * (m+1))] 127))∧Hid (wr.heap[w.heap.size+1]? = some (.cells #[.int .i64 (lo:Int),.int .i64 ((lo:Int)+(m:Int)),.slice (some ⟨g2,0,none⟩) ((m+1) * (m+1)) ((m+1) * (m+1))] 127))∧Hid (wr.heap[w.heap.size+1+1]? = some (.cells #[.int .i64 (lo:Int),.int .i64 ((lo:Int)+(m:Int)),.slice (some ⟨g3,0,none⟩) ((m+1) * (m+1)) ((m+1) * (m+1))] 127))∧Hid (Touch [g] w wr)) (fun iv _ _ _=>lo+m+2 - (intOf iv).toNat)
 case atStart=>exact ⟨a+least,by first | (simp;done) | (simp;omega),Nat.le_refl _,by omega,Lib.hid (by rw [show min (a+least) (m+1) - (a+least)=0 by omega];exact T0.out),T20,Y0,Y1,Y2,Lib.hid (Touch.of_below _ HB.out)⟩
 case round =>
   obtain ⟨k,rfl,hak,hk,T1,T2,Z0,Z1,Z2,HTO⟩:=hrel
   obtain ⟨wr0,hwr0⟩:∃ wr0,wr0=wr:=⟨_,rfl⟩
   rw [← hwr0] at T1 T2 Z0 Z1 Z2 HTO ⊢
   clear hwr0 wr
   clear Y0 Y1 Y2 T0 T20 HB
   have wk:IntKind.i64.wrap ((lo:Int)+(k:Int)+1)=(lo:Int)+((k+1:Nat):Int):=by rw [IntWalk.i64_in _ (by omega)];omega
   obtain ⟨u0,u1,u2⟩:=three_cellsT Z0.out
   obtain ⟨y0,y1,y2⟩:=three_cellsT Z1.out
   by_cases hlt:k ≤ m
   case neg =>
     have hle:¬ ((lo:Int)+(k:Int) ≤ (lo:Int)+(m:Int)):=by omega
     have hle2:¬ ((k:Int) ≤ (m:Int)):=by omega
     have hle3:¬ (k ≤ m):=hlt
     have TE:=Lib.hid (show TabAtP wr0 g m (Ps.jN m F F2 F3 a (a+least) (m+1 - (a+least))) from by have:=T1.out;rw [show min k (m+1)=m+1 by omega] at this;exact this)
     clear T1
     go_wp2
     go_end0
     exact ⟨rfl,TE.out,HTO.out⟩
   have hle:(lo:Int)+(k:Int) ≤ (lo:Int)+(m:Int):=by omega
   have hle2:(k:Int) ≤ (m:Int):=by omega
   have T1k:=Lib.hid (show TabAtP wr0 g m (Ps.jN m F F2 F3 a (a+least) (k - (a+least))) from by have:=T1.out;rw [show min k (m+1)=k by omega] at this;exact this)
   have HTK:=Lib.hid (fun j (h1:k ≤ j) (h2:j ≤ m) wy (h3:Touch [g] wr0 wy) h4=>HT3.out wr0 HTO.out k hak hlt T1k.out j h1 h2 wy h3 h4)
   have HAT2:=Lib.hid (fun w9 (hb:Below wr0.heap.size wr0 w9)=>psat_any g2 lo m a k hlo ha hlt F2 (HF2.out a k) w9 (T2.out.later hb))
   have HSU:=Lib.hid (show Ps.jN m F F2 F3 a (a+least) (min (k+1) (m+1) - (a+least))=Ps.jF (Ps.jN m F F2 F3 a (a+least) (k - (a+least))) F2 F3 a k (m+1) from by
     rw [show min (k+1) (m+1) - (a+least)=(k - (a+least))+1 by omega,Ps.jN,show a+least+(k - (a+least))=k by omega])
   have HLW:=Lib.hid (Ps.jN_low m HF.out (F2:=F2) (F3:=F3) a (a+least) (k - (a+least)))
   generalize Ps.jN m F F2 F3 a (a+least) (k - (a+least))=FK at *
   unfold Ps.tabV at HAT2
   clear T1
   go_wp2_with fail
   refine (HAT2.out wr0 (Below.refl _ _)).mono ?_
   rintro e w1 ⟨rfl,hb1⟩
   have T11:=Lib.hid (T1k.out.later hb1);have T21:=Lib.hid (T2.out.later hb1);have Z01:=Lib.hid (keep_blk hb1 Z0.out);have Z11:=Lib.hid (keep_blk hb1 Z1.out);have Z21:=Lib.hid (keep_blk hb1 Z2.out)
   have HTR:=Lib.hid (Touch.of_below [g] hb1);have HTO1:=Lib.hid (HTO.out.trans (Touch.of_below [g] hb1))
   clear hb1 T1k T2 Z0 Z1 Z2 HTO u0 u1 u2 y0 y1 y2 HAT2
   obtain ⟨x,hx⟩:∃ x,F2 a k=x:=⟨_,rfl⟩
   have HX:=Lib.hid hx
   rw [hx]
   have hxl:x ≤ 1000000:=by rw [← hx];exact HF2.out a k
   clear hx
   obtain ⟨u0,u1,u2⟩:=three_cellsT Z01.out
   by_cases hx0:x=0
   · subst hx0
     have TN:=Lib.hid (show TabAtP w1 g m (Ps.jN m F F2 F3 a (a+least) (min (k+1) (m+1) - (a+least))) from by rw [HSU.out,Ps.jF_none HLW.out HX.out];exact T11.out)
     go_wp2
     exact ⟨⟨k+1,by simp,by omega,by omega,TN,T21,Z01,Z11,Z21,HTO1⟩,by simp [intOf];omega⟩
   · have hx1:((x:Int) == 0)=false:=by rw [beq_eq_false_iff_ne];omega
     have hx2:(x == 0)=false:=by simpa using hx0
     clear hx0
     have TK0:=Lib.hid (show TabAtP w1 g m (Ps.jF FK F2 F3 a k k) from by rw [Ps.jF_zero];exact T11.out)
     clear T11
     go_wp2
     go_loopw [12] (fun jv wq=>∃ j:Nat,jv=.int .i64 ((lo:Int)+(j:Int))∧k ≤ j∧j ≤ m+1∧Hid (TabAtP wq g m (Ps.jF FK F2 F3 a k j))∧Hid (TabAtP wq g2 m F2)∧Hid (wq.heap[w.heap.size]? = some (.cells #[.int .i64 (lo:Int),.int .i64 ((lo:Int)+(m:Int)),.slice (some ⟨g,0,none⟩) ((m+1) * (m+1)) ((m+1) * (m+1))] 127))∧Hid (wq.heap[w.heap.size+1]? = some (.cells #[.int .i64 (lo:Int),.int .i64 ((lo:Int)+(m:Int)),.slice (some ⟨g2,0,none⟩) ((m+1) * (m+1)) ((m+1) * (m+1))] 127))∧Hid (wq.heap[w.heap.size+1+1]? = some (.cells #[.int .i64 (lo:Int),.int .i64 ((lo:Int)+(m:Int)),.slice (some ⟨g3,0,none⟩) ((m+1) * (m+1)) ((m+1) * (m+1))] 127))∧Hid (Touch [g] w wq)∧Hid (Touch [g] wr0 wq)) (fun jv _=>lo+m+1 - (intOf jv).toNat)
     case atStart=>exact ⟨k,rfl,Nat.le_refl _,by omega,TK0,T21,Z01,Z11,Z21,HTO1,HTR⟩
     case round =>
       clear T21 Z01 Z11 Z21 HTO1 HTR TK0 u0 u1 u2
       obtain ⟨j,rfl,hkj,hj,T1,T2,Z0,Z1,Z2,HTO,HTR⟩:=hrel
       have wj:IntKind.i64.wrap ((lo:Int)+(j:Int)+1)=(lo:Int)+((j+1:Nat):Int):=by rw [IntWalk.i64_in _ (by omega)];omega
       obtain ⟨u0,u1,u2⟩:=three_cellsT Z0.out
       by_cases hjl:j ≤ m
       · have hje:(lo:Int)+(j:Int) ≤ (lo:Int)+(m:Int):=by omega
         have hje2:(j:Int) ≤ (m:Int):=by omega
         obtain ⟨F4,t34,e34⟩:=HTK.out j hkj hjl wr HTR.out T1.out
         have T34:=Lib.hid t34
         have h3l:F3 k j ≤ 1000000:=HF3.out k j
         have hprod:x * F3 k j ≤ 1000000 * 1000000:=Nat.mul_le_mul hxl h3l
         have HAT:=Lib.hid (fun w9 (hb:Below wr.heap.size wr w9)=>by
           have h:=psat_any g3 lo m k j hlo hlt hjl F4 (by rw [e34];exact h3l) w9 (T34.out.later hb)
           rw [e34] at h;exact h)
         have HAD:=Lib.hid (fun w9 (hb:Below wr.heap.size wr w9)=>by
           have h:=psadd_any g lo m a j (x * F3 k j) hlo ha hjl (Ps.jF FK F2 F3 a k j) (Ps.jF_low HLW.out a k j a j) (by omega) w9 (T1.out.later hb)
           rw [← HX.out,Ps.jF_succ FK F2 F3 hkj] at h;exact h)
         rw [HX.out] at HAD
         have hmul:IntKind.i64.wrap ((x:Int) * ((F3 k j:Nat):Int))=((x * F3 k j:Nat):Int):=by rw [← Int.natCast_mul];exact IntWalk.i64_in _ (by omega)
         unfold Ps.tabV at HAT HAD
         clear t34
         go_upto_region 9 with (fail)
         clear u0 u1 u2
         go_wp2_with fail
         refine Ri.wp_region_frame (by kernel_rfl) (by kernel_rfl) (by kernel_rfl) (by kernel_rfl)
           (fun L v w'=>(L 9=false→Below wr.heap.size wr w')∧(L 9=true→TabAtP w' g m (Ps.jF FK F2 F3 a k (j+1))∧Touch [g] wr w')∧(L 9=true→L 0=true)∧(L 9=true→L 1=true)∧(L 9=true→L 2=true)∧(L 9=true→L 3=true)∧(L 9=true→L 4=true)∧(L 9=true→L 5=true)∧(L 9=true→L 6=true)∧(L 9=true→L 7=true)∧(L 9=true→L 8=true)∧(L 7=true→L 4=true)∧(L 7=true→L 5=true)∧(L 7=true→L 6=true)∧(L 8=true→L 3=true)∧(L 8=true→L 7=true)∧(L 0=true→v 0=.agg #[.int .i64 (lo:Int),.int .i64 ((lo:Int)+(m:Int)),.slice (some ⟨g,0,none⟩) ((m+1) * (m+1)) ((m+1) * (m+1))])∧(L 1=true→v 1=.int .i64 ((lo:Int)+(a:Int)))∧(L 2=true→v 2=.int .i64 ((lo:Int)+(j:Int)))∧(L 3=true→v 3=.int .i64 (x:Int))∧(L 4=true→v 4=.agg #[.int .i64 (lo:Int),.int .i64 ((lo:Int)+(m:Int)),.slice (some ⟨g3,0,none⟩) ((m+1) * (m+1)) ((m+1) * (m+1))])∧(L 5=true→v 5=.int .i64 ((lo:Int)+(k:Int)))∧(L 6=true→v 6=.int .i64 ((lo:Int)+(j:Int)))∧(L 7=true→v 7=.int .i64 ((F3 k j:Nat):Int))∧(L 8=true→v 8=.int .i64 ((x * F3 k j:Nat):Int)))
           ?_ ?_ ?_
         · exact ⟨fun _=>(Below.refl _ _).drew,by simp,by simp,by simp,by simp,by simp,by simp,by simp,by simp,by simp,by simp,by simp,by simp,by simp,by simp,by simp,by simp,by simp,by simp,by simp,by simp,by simp,by simp,by simp,by simp⟩
         · intro i hi9 L v w9 xa hI hL hd hv ho
           have hi':i=0 ∨ i=1 ∨ i=2 ∨ i=3 ∨ i=4 ∨ i=5 ∨ i=6 ∨ i=7 ∨ i=8 ∨ i=9:=by simp at hi9;omega
           obtain ⟨hbf,hfin,dd0,dd1,dd2,dd3,dd4,dd5,dd6,dd7,dd8,c7_4,c7_5,c7_6,c8_3,c8_7,q0,q1,q2,q3,q4,q5,q6,q7,q8⟩:=hI
           rcases hi' with rfl | rfl | rfl | rfl | rfl | rfl | rfl | rfl | rfl | rfl
           · have e5:xa.tmps.getD 5 undef=.pointer (some ⟨w.heap.size,0,none⟩):=ho 5 (by kernel_rfl)
             have hl9:L 9=false:=by cases h:L 9 with | false=>rfl | true=>rw [dd0 h] at hL;cases hL
             have hb:=hbf hl9
             refine Ri.step_plain rfl rfl (fun K' hK=>?_)
             obtain ⟨u0,u1,u2⟩:=three_cellsT (keep_blk hb Z0.out)
             go_simp
             exact hK _ _ ⟨_,_,rfl,rfl,(fun _=>hb),(fun h=>Bool.noConfusion (hl9.symm.trans h)),(fun _=>rfl),dd1,dd2,dd3,dd4,dd5,dd6,dd7,dd8,c7_4,c7_5,c7_6,c8_3,c8_7,(fun _=>rfl),q1,q2,q3,q4,q5,q6,q7,q8⟩
           · have e1:xa.tmps.getD 1 undef=.int .i64 ((lo:Int)+(a:Int)):=ho 1 (by kernel_rfl)
             have hl9:L 9=false:=by cases h:L 9 with | false=>rfl | true=>rw [dd1 h] at hL;cases hL
             have hb:=hbf hl9
             refine Ri.step_plain rfl rfl (fun K' hK=>?_)
             go_simp
             exact hK _ _ ⟨_,_,rfl,rfl,(fun _=>hb),(fun h=>Bool.noConfusion (hl9.symm.trans h)),dd0,(fun _=>rfl),dd2,dd3,dd4,dd5,dd6,dd7,dd8,c7_4,c7_5,c7_6,c8_3,c8_7,q0,(fun _=>rfl),q2,q3,q4,q5,q6,q7,q8⟩
           · have e12:xa.tmps.getD 12 undef=.int .i64 ((lo:Int)+(j:Int)):=ho 12 (by kernel_rfl)
             have hl9:L 9=false:=by cases h:L 9 with | false=>rfl | true=>rw [dd2 h] at hL;cases hL
             have hb:=hbf hl9
             refine Ri.step_plain rfl rfl (fun K' hK=>?_)
             go_simp
             exact hK _ _ ⟨_,_,rfl,rfl,(fun _=>hb),(fun h=>Bool.noConfusion (hl9.symm.trans h)),dd0,dd1,(fun _=>rfl),dd3,dd4,dd5,dd6,dd7,dd8,c7_4,c7_5,c7_6,c8_3,c8_7,q0,q1,(fun _=>rfl),q3,q4,q5,q6,q7,q8⟩
           · have e11:xa.tmps.getD 11 undef=.int .i64 (x:Int):=ho 11 (by kernel_rfl)
             have hl9:L 9=false:=by cases h:L 9 with | false=>rfl | true=>rw [dd3 h] at hL;cases hL
             have hb:=hbf hl9
             refine Ri.step_plain rfl rfl (fun K' hK=>?_)
             go_simp
             exact hK _ _ ⟨_,_,rfl,rfl,(fun _=>hb),(fun h=>Bool.noConfusion (hl9.symm.trans h)),dd0,dd1,dd2,(fun _=>rfl),dd4,dd5,dd6,dd7,dd8,c7_4,c7_5,c7_6,(fun _=>rfl),c8_7,q0,q1,q2,(fun _=>rfl),q4,q5,q6,q7,q8⟩
           · have e9:xa.tmps.getD 9 undef=.pointer (some ⟨w.heap.size+1+1,0,none⟩):=ho 9 (by kernel_rfl)
             have hl9:L 9=false:=by cases h:L 9 with | false=>rfl | true=>rw [dd4 h] at hL;cases hL
             have hb:=hbf hl9
             refine Ri.step_plain rfl rfl (fun K' hK=>?_)
             obtain ⟨u0,u1,u2⟩:=three_cellsT (keep_blk hb Z2.out)
             go_simp
             exact hK _ _ ⟨_,_,rfl,rfl,(fun _=>hb),(fun h=>Bool.noConfusion (hl9.symm.trans h)),dd0,dd1,dd2,dd3,(fun _=>rfl),dd5,dd6,dd7,dd8,(fun _=>rfl),c7_5,c7_6,c8_3,c8_7,q0,q1,q2,q3,(fun _=>rfl),q5,q6,q7,q8⟩
           · have e10:xa.tmps.getD 10 undef=.int .i64 ((lo:Int)+(k:Int)):=ho 10 (by kernel_rfl)
             have hl9:L 9=false:=by cases h:L 9 with | false=>rfl | true=>rw [dd5 h] at hL;cases hL
             have hb:=hbf hl9
             refine Ri.step_plain rfl rfl (fun K' hK=>?_)
             go_simp
             exact hK _ _ ⟨_,_,rfl,rfl,(fun _=>hb),(fun h=>Bool.noConfusion (hl9.symm.trans h)),dd0,dd1,dd2,dd3,dd4,(fun _=>rfl),dd6,dd7,dd8,c7_4,(fun _=>rfl),c7_6,c8_3,c8_7,q0,q1,q2,q3,q4,(fun _=>rfl),q6,q7,q8⟩
           · have e12:xa.tmps.getD 12 undef=.int .i64 ((lo:Int)+(j:Int)):=ho 12 (by kernel_rfl)
             have hl9:L 9=false:=by cases h:L 9 with | false=>rfl | true=>rw [dd6 h] at hL;cases hL
             have hb:=hbf hl9
             refine Ri.step_plain rfl rfl (fun K' hK=>?_)
             go_simp
             exact hK _ _ ⟨_,_,rfl,rfl,(fun _=>hb),(fun h=>Bool.noConfusion (hl9.symm.trans h)),dd0,dd1,dd2,dd3,dd4,dd5,(fun _=>rfl),dd7,dd8,c7_4,c7_5,(fun _=>rfl),c8_3,c8_7,q0,q1,q2,q3,q4,q5,(fun _=>rfl),q7,q8⟩
           · have l0:L 4=true∧L 5=true∧L 6=true:=by have:=hd _ rfl;simp [Region.binds] at this;simp [this]
             have f4:=(hv 4 39 rfl l0.1).trans (q4 l0.1)
             have f5:=(hv 5 40 rfl l0.2.1).trans (q5 l0.2.1)
             have f6:=(hv 6 41 rfl l0.2.2).trans (q6 l0.2.2)
             have hl9:L 9=false:=by cases h:L 9 with | false=>rfl | true=>rw [dd7 h] at hL;cases hL
             have hb:=hbf hl9
             refine Ri.step_plain rfl rfl (fun K' hK=>?_)
             go_simp
             refine (HAT.out _ hb).mono ?_
             rintro e w8 ⟨rfl,hb8⟩
             exact hK _ _ ⟨_,_,rfl,rfl,(fun _=>hb.trans (hb8.mono hb.size)),(fun h=>Bool.noConfusion (hl9.symm.trans h)),dd0,dd1,dd2,dd3,dd4,dd5,dd6,(fun _=>rfl),dd8,(fun _=>l0.1),(fun _=>l0.2.1),(fun _=>l0.2.2),c8_3,(fun _=>rfl),q0,q1,q2,q3,q4,q5,q6,(fun _=>rfl),q8⟩
           · have l0:L 3=true∧L 7=true:=by have:=hd _ rfl;simp [Region.binds] at this;simp [this]
             have f3:=(hv 3 38 rfl l0.1).trans (q3 l0.1)
             have f7:=(hv 7 42 rfl l0.2).trans (q7 l0.2)
             have hl9:L 9=false:=by cases h:L 9 with | false=>rfl | true=>rw [dd8 h] at hL;cases hL
             have hb:=hbf hl9
             refine Ri.step_plain rfl rfl (fun K' hK=>?_)
             go_simp
             exact hK _ _ ⟨_,_,rfl,rfl,(fun _=>hb),(fun h=>Bool.noConfusion (hl9.symm.trans h)),dd0,dd1,dd2,dd3,dd4,dd5,dd6,dd7,(fun _=>rfl),c7_4,c7_5,c7_6,(fun _=>l0.1),(fun _=>l0.2),q0,q1,q2,q3,q4,q5,q6,q7,(fun _=>rfl)⟩
           · have l0:L 0=true∧L 1=true∧L 2=true∧L 8=true:=by have:=hd _ rfl;simp [Region.binds] at this;simp [this]
             have f0:=(hv 0 35 rfl l0.1).trans (q0 l0.1)
             have f1:=(hv 1 36 rfl l0.2.1).trans (q1 l0.2.1)
             have f2:=(hv 2 37 rfl l0.2.2.1).trans (q2 l0.2.2.1)
             have f8:=(hv 8 43 rfl l0.2.2.2).trans (q8 l0.2.2.2)
             have h0:L 0=true:=by first | (have:=hd _ rfl;simp [Region.binds] at this;simp [this];done)
             have h1:L 1=true:=by first | (have:=hd _ rfl;simp [Region.binds] at this;simp [this];done)
             have h2:L 2=true:=by first | (have:=hd _ rfl;simp [Region.binds] at this;simp [this];done)
             have h8:L 8=true:=by first | (have:=hd _ rfl;simp [Region.binds] at this;simp [this];done)
             have h3:L 3=true:=by first | (have:=hd _ rfl;simp [Region.binds] at this;simp [this];done) | exact c8_3 h8
             have h7:L 7=true:=by first | (have:=hd _ rfl;simp [Region.binds] at this;simp [this];done) | exact c8_7 h8
             have h4:L 4=true:=by first | (have:=hd _ rfl;simp [Region.binds] at this;simp [this];done) | exact c7_4 h7
             have h5:L 5=true:=by first | (have:=hd _ rfl;simp [Region.binds] at this;simp [this];done) | exact c7_5 h7
             have h6:L 6=true:=by first | (have:=hd _ rfl;simp [Region.binds] at this;simp [this];done) | exact c7_6 h7
             have hb:=hbf hL
             refine Ri.step_plain rfl rfl (fun K' hK=>?_)
             go_simp
             refine (HAD.out _ hb).mono ?_
             rintro e w8 ⟨rfl,ht8,hto8⟩
             exact hK _ _ ⟨_,_,rfl,rfl,(fun h=>by cases h),(fun _=>⟨ht8,(Touch.of_below _ hb).trans hto8⟩),(fun _=>h0),(fun _=>h1),(fun _=>h2),(fun _=>h3),(fun _=>h4),(fun _=>h5),(fun _=>h6),(fun _=>h7),(fun _=>h8),c7_4,c7_5,c7_6,c8_3,c8_7,q0,q1,q2,q3,q4,q5,q6,q7,q8⟩
         · rintro v w9 ⟨-,hfin,-,-,-,-,-,-,-,-,-,-,-,-,-,-,-,-,-,-,-,-,-,-,-⟩
           have HF9:=Lib.hid (hfin rfl)
           simp only [Ri.frame,List.zipIdx,List.foldl_cons,List.foldl_nil,if_true,List.setIfInBounds_toArray,List.set_cons_zero,List.set_cons_succ,Nat.reduceAdd]
           clear hfin
           generalize v 0=y0;generalize v 1=y1;generalize v 2=y2;generalize v 3=y3;generalize v 4=y4;generalize v 5=y5;generalize v 6=y6;generalize v 7=y7;generalize v 8=y8;generalize v 9=y9
           obtain ⟨t9,o9⟩:=HF9.out
           have T1n:=Lib.hid t9;have T2n:=Lib.hid (T2.out.touch o9 HNE.out.1)
           have Z0n:=Lib.hid (blk_touch Z0.out o9 (by have:=HNE.out;omega));have Z1n:=Lib.hid (blk_touch Z1.out o9 (by have:=HNE.out;omega));have Z2n:=Lib.hid (blk_touch Z2.out o9 (by have:=HNE.out;omega))
           have HTn:=Lib.hid (HTO.out.trans o9);have HTRn:=Lib.hid (HTR.out.trans o9)
           clear t9 o9 HF9
           go_wp2
           exact ⟨⟨j+1,by simp,by omega,by omega,T1n,T2n,Z0n,Z1n,Z2n,HTn,HTRn⟩,by simp [intOf];omega⟩
       · obtain rfl:j=m+1:=by omega
         have hje:¬ ((lo:Int)+((m+1:Nat):Int) ≤ (lo:Int)+(m:Int)):=by omega
         have hje2:¬ ((m:Int)+1 ≤ (m:Int)):=by omega
         have T1n:=Lib.hid (show TabAtP wr g m (Ps.jN m F F2 F3 a (a+least) (min (k+1) (m+1) - (a+least))) from by rw [HSU.out];exact T1.out)
         clear T1
         go_wp2
         exact ⟨⟨k+1,by simp,by omega,by omega,T1n,T2,Z0,Z1,Z2,HTO⟩,by simp [intOf];omega⟩
theorem Ps.jF_other {F F2 F3:Nat→Nat→Nat} {a k j c d:Nat} (h:c ≠ a):Ps.jF F F2 F3 a k j c d=F c d:=by unfold Ps.jF;rw [if_neg (fun x=>h x.1)]
theorem Ps.jN_other (m:Nat) {F F2 F3:Nat→Nat→Nat} {a s c d:Nat} (h:c ≠ a):∀ n,Ps.jN m F F2 F3 a s n c d=F c d
 | 0=>rfl
 | n+1=>by rw [Ps.jN,Ps.jF_other h];exact Ps.jN_other m h n
theorem psaddJoined_apart (g g2 g3 lo m a least:Nat) (hlo:lo+m ≤ 1000) (ha:a ≤ m) (hls:least ≤ 1) (F F2 F3:Nat→Nat→Nat) (hF:Ps.Low F) (hF2:Ps.Low F2) (hF3:Ps.Low F3) (hne:g2 ≠ g) (hne3:g3 ≠ g) (w:World) (hT:TabAtP w g m F) (hT2:TabAtP w g2 m F2) (hT3:TabAtP w g3 m F3) :
   Calls Tryd.prog 180 #[Ps.tabV g lo m,.int .i64 ((lo:Int)+(a:Int)),.int .i64 (least:Int),Ps.tabV g2 lo m,Ps.tabV g3 lo m] w fun e w'=>e=.returned (.tuple #[])∧TabAtP w' g m (Ps.jN m F F2 F3 a (a+least) (m+1 - (a+least)))∧Touch [g] w w' :=
 psaddJoined_any g g2 g3 lo m a least hlo ha hls F F2 F3 hF hF2 hF3 hne w hT hT2 fun _ h1 _ _ _ _ _ _ _ _ h2 _=>⟨F3,(hT3.touch h1 hne3).touch h2 hne3,rfl⟩
theorem psaddJoined_self (g g2 lo m a:Nat) (hlo:lo+m ≤ 1000) (ha:a ≤ m) (F F2:Nat→Nat→Nat) (hF:Ps.Low F) (hF2:Ps.Low F2) (hne:g2 ≠ g) (w:World) (hT:TabAtP w g m F) (hT2:TabAtP w g2 m F2) :
   Calls Tryd.prog 180 #[Ps.tabV g lo m,.int .i64 ((lo:Int)+(a:Int)),.int .i64 ((1:Nat):Int),Ps.tabV g2 lo m,Ps.tabV g lo m] w fun e w'=>e=.returned (.tuple #[])∧TabAtP w' g m (Ps.jN m F F2 F a (a+1) (m+1 - (a+1)))∧Touch [g] w w' :=
 psaddJoined_any g g2 g lo m a 1 hlo ha (Nat.le_refl _) F F2 F hF hF2 hF hne w hT hT2 fun _ _ k hk _ _ _ _ _ _ _ h=>⟨_,h,by rw [Ps.jF_other (by omega),Ps.jN_other m (by omega)]⟩
end Go.Proofs.YtedjkbmfpjmlpaaDoor
namespace Go.Proofs.YtedjkbmfpjmlpaaDoor
namespace Ps
def sat (n:Nat):Nat:=min n 1000000
theorem sat_le (n:Nat):sat n ≤ 1000000:=by unfold sat;omega
theorem sat_mul (a b c:Nat):min (sat c+sat a * sat b) 1000000=sat (c+a * b):=by
 unfold sat
 by_cases ha:a ≤ 1000000
 · by_cases hb:b ≤ 1000000
   · rw [Nat.min_eq_left ha,Nat.min_eq_left hb];omega
   · rw [Nat.min_eq_left ha,Nat.min_eq_right (show 1000000 ≤ b by omega)]
     by_cases h0:a=0
     · subst h0;simp
     · have h1:1 * 1000000 ≤ a * 1000000:=Nat.mul_le_mul_right _ (by omega)
       have h2:a * 1000000 ≤ a * b:=Nat.mul_le_mul_left _ (by omega)
       omega
 · rw [Nat.min_eq_right (show 1000000 ≤ a by omega)]
   by_cases h0:b=0
   · subst h0;simp
   · have h1:1000000 * 1 ≤ 1000000 * min b 1000000:=Nat.mul_le_mul_left _ (by omega)
     have h2:1000000 * 1 ≤ a * b:=Nat.mul_le_mul (by omega) (by omega)
     omega
def tot:Nat→(Nat→Nat)→Nat
 | 0,_=>0
 | n+1,g=>tot n g+g n
theorem tot_congr {n:Nat} {f g:Nat→Nat} (h:∀ i,i < n→f i=g i):tot n f=tot n g:=by
 induction n with
 | zero=>rfl
 | succ n ih=>rw [tot,tot,ih fun i hi=>h i (by omega),h n (by omega)]
theorem tot_zero {n:Nat} {f:Nat→Nat} (h:∀ i,i < n→f i=0):tot n f=0:=by
 induction n with
 | zero=>rfl
 | succ n ih=>rw [tot,ih fun i hi=>h i (by omega),h n (by omega)]
theorem tot_cut {n k:Nat} {f:Nat→Nat} (hk:k ≤ n) (h:∀ i,k ≤ i→i < n→f i=0):tot n f=tot k f:=by
 induction n with
 | zero=>rw [show k=0 by omega]
 | succ n ih =>
   by_cases e:k=n+1
   · rw [e]
   · rw [tot,ih (by omega) fun i hi hn=>h i hi (by omega),h n (by omega) (by omega),Nat.add_zero]
abbrev T:=Nat→Nat→Nat
def rel (lo:Nat) (f:T):T:=fun a b=>sat (f (lo+a) (lo+b))
theorem rel_low (lo:Nat) (f:T):Low (rel lo f):=fun _ _=>sat_le _
def one:T:=fun i j=>if i=j then 1 else 0
def join (f g:T):T:=fun i j=>tot (j+1 - i) fun c=>f i (i+c) * g (i+c) j
def more (f g:T):T:=fun i j=>one i j+tot (j - i) fun c=>f i (i+1+c) * g (i+1+c) j
def anyN (f:T):Nat→T
 | 0=>one
 | n+1=>more f (anyN f n)
def any (f:T):T:=fun i j=>anyN f (j - i) i j
theorem anyN_stable (f:T):∀ n i j,j - i ≤ n→anyN f n i j=anyN f (j - i) i j:=by
 intro n
 induction n using Nat.strongRecOn with
 | _ n ih =>
   intro i j h
   cases n with
   | zero=>rw [show j - i=0 by omega]
   | succ n =>
     cases hd:j - i with
     | zero =>
       show more f (anyN f n) i j=one i j
       unfold more
       rw [hd];rfl
     | succ k =>
       show more f (anyN f n) i j=more f (anyN f k) i j
       unfold more
       congr 1
       refine tot_congr fun c hc=>?_
       rw [ih n (by omega) _ _ (by omega),ih k (by omega) _ _ (by omega)]
theorem any_eq (f:T) (i j:Nat):any f i j=more f (any f) i j:=by
 unfold any
 cases hd:j - i with
 | zero=>unfold more;rw [hd];rfl
 | succ n =>
   show more f (anyN f n) i j=_
   unfold more
   congr 1
   exact tot_congr fun c hc=>by rw [anyN_stable f n _ _ (by omega)]
theorem jN_val {m:Nat} {F F2 F3:T} {a s d:Nat} (hd:d ≤ m) (hF:F a d ≤ 1000000):∀ n,jN m F F2 F3 a s n a d=min (F a d+tot n fun i=>if s+i ≤ d then F2 a (s+i) * F3 (s+i) d else 0) 1000000
 | 0=>by rw [jN,tot];omega
 | n+1=>by
   have ih:=jN_val (F:=F) (F2:=F2) (F3:=F3) (s:=s) hd hF n
   rw [jN,tot]
   unfold jF
   rw [ih]
   by_cases h:s+n ≤ d
   · rw [if_pos ⟨rfl,h,by omega⟩,if_pos h];omega
   · rw [if_neg (fun x=>h x.2.1),if_neg h,Nat.add_zero]
theorem min_tot (n c:Nat) (g h:Nat→Nat) (hg:∀ i,i < n→min (sat (c+tot i h)+g i) 1000000=sat (c+tot (i+1) h)):min (sat c+tot n g) 1000000=sat (c+tot n h):=by
 induction n with
 | zero=>rw [tot,tot];unfold sat;omega
 | succ n ih =>
   have h1:=ih fun i hi=>hg i (by omega)
   have h2:=hg n (by omega)
   rw [← h2,← h1,tot]
   omega
theorem jN_rel {m lo:Nat} {F:T} {f g h:T} {a s d:Nat} (hd:d ≤ m) (hF:F a d=sat (h (lo+a) (lo+d))) (hs:s ≤ m+1) :
   jN m F (rel lo f) (rel lo g) a s (m+1 - s) a d=sat (h (lo+a) (lo+d)+tot (d+1 - s) fun i=>f (lo+a) (lo+s+i) * g (lo+s+i) (lo+d)):=by
 rw [jN_val hd (by rw [hF];exact sat_le _),hF]
 rw [tot_cut (k:=d+1 - s) (by omega) (fun i h1 h2=>if_neg (by omega))]
 refine min_tot _ _ _ _ fun i hi=>?_
 rw [if_pos (by omega),tot]
 unfold rel
 rw [← Nat.add_assoc lo s i,sat_mul,Nat.add_assoc]
end Ps
end Go.Proofs.YtedjkbmfpjmlpaaDoor
namespace Go.Proofs.YtedjkbmfpjmlpaaDoor
open Go.RowKit
theorem news2 (w:World) (a b:Obj):((w.alloc a).alloc b).heap[w.heap.size]? = some a∧((w.alloc a).alloc b).heap[w.heap.size+1]? = some b:=⟨(heap_alloc_lt (show (w.alloc a).heap[w.heap.size]? = some a from by have:=heap_alloc_new w a;simpa using this)),(show ((w.alloc a).alloc b).heap[w.heap.size+1]? = some b from by have:=heap_alloc_new (w.alloc a) b;simpa using this)⟩
theorem news3 (w:World) (a b c:Obj):(((w.alloc a).alloc b).alloc c).heap[w.heap.size]? = some a∧(((w.alloc a).alloc b).alloc c).heap[w.heap.size+1]? = some b∧(((w.alloc a).alloc b).alloc c).heap[w.heap.size+1+1]? = some c:=⟨(heap_alloc_lt (heap_alloc_lt (show (w.alloc a).heap[w.heap.size]? = some a from by have:=heap_alloc_new w a;simpa using this))),(heap_alloc_lt (show ((w.alloc a).alloc b).heap[w.heap.size+1]? = some b from by have:=heap_alloc_new (w.alloc a) b;simpa using this)),(show (((w.alloc a).alloc b).alloc c).heap[w.heap.size+1+1]? = some c from by have:=heap_alloc_new ((w.alloc a).alloc b) c;simpa using this)⟩
theorem news4 (w:World) (a b c d:Obj):((((w.alloc a).alloc b).alloc c).alloc d).heap[w.heap.size]? = some a∧((((w.alloc a).alloc b).alloc c).alloc d).heap[w.heap.size+1]? = some b∧((((w.alloc a).alloc b).alloc c).alloc d).heap[w.heap.size+1+1]? = some c∧((((w.alloc a).alloc b).alloc c).alloc d).heap[w.heap.size+1+1+1]? = some d:=⟨(heap_alloc_lt (heap_alloc_lt (heap_alloc_lt (show (w.alloc a).heap[w.heap.size]? = some a from by have:=heap_alloc_new w a;simpa using this)))),(heap_alloc_lt (heap_alloc_lt (show ((w.alloc a).alloc b).heap[w.heap.size+1]? = some b from by have:=heap_alloc_new (w.alloc a) b;simpa using this))),(heap_alloc_lt (show (((w.alloc a).alloc b).alloc c).heap[w.heap.size+1+1]? = some c from by have:=heap_alloc_new ((w.alloc a).alloc b) c;simpa using this)),(show ((((w.alloc a).alloc b).alloc c).alloc d).heap[w.heap.size+1+1+1]? = some d from by have:=heap_alloc_new (((w.alloc a).alloc b).alloc c) d;simpa using this)⟩
def PsNew (lo m:Nat) (f:Ps.T) (w:World) (e:Ending) (w':World):Prop:=∃ g,e=.returned (Ps.tabV g lo m)∧w.heap.size ≤ g∧TabAtP w' g m (Ps.rel lo f)∧Below w.heap.size w w'
namespace Ps
def oneAt (P:Nat→Bool):T:=fun i j=>if i=j∧P i=true then 1 else 0
theorem oneAt_true:oneAt (fun _=>true)=one:=by funext i j;simp [oneAt,one]
def emF (lo:Nat) (P:Nat→Bool) (k:Nat):T:=fun c d=>if c < k then rel lo (oneAt P) c d else 0
theorem emF_low (lo:Nat) (P:Nat→Bool) (k:Nat):Low (emF lo P k):=fun c d=>by unfold emF;split;exact sat_le _;omega
theorem emF_yes {lo:Nat} {P:Nat→Bool} {k:Nat} (h:P (lo+k)=true):putF (emF lo P k) k k (min (emF lo P k k k+1) 1000000)=emF lo P (k+1):=by
 funext c d
 unfold putF emF
 by_cases h1:c=k∧d=k
 · obtain ⟨rfl,rfl⟩:=h1
   rw [if_pos ⟨rfl,rfl⟩,if_neg (Nat.lt_irrefl _),if_pos (Nat.lt_succ_self _)]
   unfold rel oneAt
   rw [if_pos ⟨rfl,h⟩]
   rfl
 · rw [if_neg h1]
   by_cases h2:c < k
   · rw [if_pos h2,if_pos (show c < k+1 by omega)]
   · rw [if_neg h2]
     by_cases h3:c < k+1
     · rw [if_pos h3]
       unfold rel oneAt
       rw [if_neg (by rintro ⟨e,-⟩;omega)];rfl
     · rw [if_neg h3]
theorem emF_no {lo:Nat} {P:Nat→Bool} {k:Nat} (h:P (lo+k)=false):emF lo P k=emF lo P (k+1):=by
 funext c d
 unfold emF
 by_cases h2:c < k
 · rw [if_pos h2,if_pos (show c < k+1 by omega)]
 · rw [if_neg h2]
   by_cases h3:c < k+1
   · rw [if_pos h3]
     unfold rel oneAt
     rw [if_neg (by rintro ⟨-,e⟩;rw [show c=k by omega,h] at e;cases e)];rfl
   · rw [if_neg h3]
def rowsF (lo:Nat) (f h:T) (k:Nat):T:=fun c d=>if c < k then rel lo f c d else rel lo h c d
theorem rowsF_low (lo:Nat) (f h:T) (k:Nat):Low (rowsF lo f h k):=fun c d=>by unfold rowsF;split <;> exact sat_le _
theorem rowsF_succ {lo m k least:Nat} {f g h j:T} (hk:k ≤ m) (hl:least ≤ 1) (he:∀ d,d ≤ m→j (lo+k) (lo+d)=h (lo+k) (lo+d)+tot (d+1 - (k+least)) fun i=>f (lo+k) (lo+(k+least)+i) * g (lo+(k+least)+i) (lo+d)) {c d:Nat} (hd:d ≤ m) :
   jN m (rowsF lo j h k) (rel lo f) (rel lo g) k (k+least) (m+1 - (k+least)) c d=rowsF lo j h (k+1) c d:=by
 by_cases hc:c=k
 · subst hc
   rw [jN_rel (h:=h) hd (by unfold rowsF;rw [if_neg (by omega)];rfl) (by omega)]
   unfold rowsF
   rw [if_pos (by omega)]
   unfold rel
   rw [he d hd]
 · rw [jN_other m hc]
   unfold rowsF
   by_cases h2:c < k
   · rw [if_pos h2,if_pos (by omega)]
   · rw [if_neg h2,if_neg (by omega)]
theorem join_row (lo k d:Nat) (f g:T):join f g (lo+k) (lo+d)=(fun _ _=>0:T) (lo+k) (lo+d)+tot (d+1 - (k+0)) fun i=>f (lo+k) (lo+(k+0)+i) * g (lo+(k+0)+i) (lo+d):=by
 unfold join
 rw [show lo+d+1 - (lo+k)=d+1 - (k+0) by omega]
 simp
theorem more_row (lo k d:Nat) (f g:T):more f g (lo+k) (lo+d)=one (lo+k) (lo+d)+tot (d+1 - (k+1)) fun i=>f (lo+k) (lo+(k+1)+i) * g (lo+(k+1)+i) (lo+d):=by
 unfold more
 rw [show lo+d - (lo+k)=d+1 - (k+1) by omega,show lo+(k+1)=lo+k+1 by omega]
def downF (lo:Nat) (f h:T) (k:Nat):T:=fun c d=>if k ≤ c then rel lo f c d else rel lo h c d
theorem downF_low (lo:Nat) (f h:T) (k:Nat):Low (downF lo f h k):=fun c d=>by unfold downF;split <;> exact sat_le _
theorem downF_prev {lo m k:Nat} {f:T} (hk:k ≤ m) {c d:Nat} (hd:d ≤ m):jN m (downF lo (any f) one (k+1)) (rel lo f) (downF lo (any f) one (k+1)) k (k+1) (m+1 - (k+1)) c d=downF lo (any f) one k c d:=by
 by_cases hc:c=k
 · subst hc
   have e:jN m (downF lo (any f) one (c+1)) (rel lo f) (downF lo (any f) one (c+1)) c (c+1) (m+1 - (c+1)) c d=jN m (downF lo (any f) one (c+1)) (rel lo f) (rel lo (any f)) c (c+1) (m+1 - (c+1)) c d:=by
     rw [jN_val hd (downF_low _ _ _ _ _ _),jN_val hd (downF_low _ _ _ _ _ _)]
     congr 2
     refine tot_congr fun i _=>?_
     split
     · rw [show downF lo (any f) one (c+1) (c+1+i) d=rel lo (any f) (c+1+i) d by unfold downF;rw [if_pos (by omega)]]
     · rfl
   rw [e,jN_rel (h:=one) hd (by unfold downF;rw [if_neg (by omega)];rfl) (by omega)]
   unfold downF
   rw [if_pos (Nat.le_refl _)]
   unfold rel
   rw [any_eq,more_row]
 · rw [jN_other m hc]
   unfold downF
   by_cases h2:k ≤ c
   · rw [if_pos (by omega),if_pos h2]
   · rw [if_neg (by omega),if_neg h2]
end Ps
theorem pseverywhere_any (a:Int) (w:World):Calls Tryd.prog 152 #[.int .i64 a] w fun e w'=>e=.returned (.bool true)∧Below w.heap.size w w':=by
 go_enter Tryd.func152,Tryd.ntmps152
 go_wp2
 go_ret
 exact ⟨rfl,Below.refl _ _⟩
theorem psempty_any (K:FuncId) (first:Array Value) (P:Nat→Bool) (xp:Value) (lo m:Nat) (hlo:lo+m ≤ 1000) (w:World) (hE:∀ args w,(callFunc K args).run Tryd.prog w=.ok (.enter K args) w)
   (hc:∀ k,k ≤ m→∀ w9,Below w.heap.size w w9→Calls Tryd.prog K (first ++ #[.int .i64 ((lo:Int)+(k:Int))]) w9 fun e w'=>e=.returned (.bool (P (lo+k)))∧Below w9.heap.size w9 w') :
   Calls Tryd.prog 148 #[.agg #[xp,.int .i64 (lo:Int),.int .i64 ((lo:Int)+(m:Int))],.func (.func K) first #[]] w (PsNew lo m (Ps.oneAt P) w):=by
 have HC:=Lib.hid hc
 clear hc
 have WNx:=Lib.hid (news2 w (.cells #[xp,.int .i64 (lo:Int),.int .i64 ((lo:Int)+(m:Int))] 166) (.cells #[.int .i64 0,.int .i64 0,.slice none 0 0] 127))
 have HB:=Lib.hid (show Below w.heap.size w ((w.alloc (.cells #[xp,.int .i64 (lo:Int),.int .i64 ((lo:Int)+(m:Int))] 166)).alloc (.cells #[.int .i64 0,.int .i64 0,.slice none 0 0] 127)) from by go_grown)
 go_enter Tryd.func148,Tryd.ntmps148
 go_upto_region 1 with (fail)
 generalize ((w.alloc (.cells #[xp,.int .i64 (lo:Int),.int .i64 ((lo:Int)+(m:Int))] 166)).alloc (.cells #[.int .i64 0,.int .i64 0,.slice none 0 0] 127))=W0 at *
 have Y0:=Lib.hid WNx.out.1
 have Y1:=Lib.hid WNx.out.2
 clear WNx
 go_wp2_with (first
   | (refine wpList_load_row rfl 166 (.tmp 2) rfl (w.heap.size) rfl 166 _ (0,0) _ Y0.out Tryd.underlying166 rfl (by kernel_rfl) ?_)
   | fail)
 refine (pstable_any xp lo m hlo W0).mono ?_
 rintro e w1 ⟨g,rfl,hg,htab,hb1⟩
 have HG:=Lib.hid (show w.heap.size ≤ g∧g < w1.heap.size∧W0.heap.size ≤ g from ⟨Nat.le_trans HB.out.size hg,htab.lt,hg⟩)
 have HTB:=Lib.hid htab
 unfold Ps.tabV
 go_upto_region 2 with (first
   | (refine wpList_store_row rfl 127 (.tmp 5) (.tmp 8) rfl (w1.heap.size) #[.int .i64 (lo:Int),.int .i64 ((lo:Int)+(m:Int)),.slice (some ⟨g,0,none⟩) ((m+1) * (m+1)) ((m+1) * (m+1))] rfl rfl 127 _ (heap_alloc_new _ _) (by kernel_rfl) rfl (by simp [Value.oneCell']) ?_)
   | fail)
 have hbL:Below w1.heap.size w1 (World.setRow (w1.alloc (.cells #[.int .i64 0,.int .i64 0,.slice none 0 0] 127)) w1.heap.size #[.int .i64 (lo:Int),.int .i64 ((lo:Int)+(m:Int)),.slice (some ⟨g,0,none⟩) ((m+1) * (m+1)) ((m+1) * (m+1))]):=below_setRow ((Below.refl _ _).alloc (Nat.le_refl _) _) (Nat.le_refl _) _
 have YL:=Lib.hid (show (World.setRow (w1.alloc (.cells #[.int .i64 0,.int .i64 0,.slice none 0 0] 127)) w1.heap.size #[.int .i64 (lo:Int),.int .i64 ((lo:Int)+(m:Int)),.slice (some ⟨g,0,none⟩) ((m+1) * (m+1)) ((m+1) * (m+1))]).heap[w1.heap.size]? = some (.cells #[.int .i64 (lo:Int),.int .i64 ((lo:Int)+(m:Int)),.slice (some ⟨g,0,none⟩) ((m+1) * (m+1)) ((m+1) * (m+1))] 127) from heap_setRow (heap_alloc_new _ _))
 have HBL:=Lib.hid ((HB.out.trans (hb1.mono HB.out.size)).trans (hbL.mono (by have:=HB.out.size;have:=hb1.size;omega)))
 have HB0L:=Lib.hid (hb1.trans (hbL.mono hb1.size))
 have HTL:=Lib.hid (HTB.out.later hbL)
 have X0:=Lib.hid (keep_blk (hb1.trans (hbL.mono hb1.size)) Y0.out)
 have X1:=Lib.hid (keep_blk (hb1.trans (hbL.mono hb1.size)) Y1.out)
 clear hb1 hbL htab hg HTB HB
 generalize (World.setRow (w1.alloc (.cells #[.int .i64 0,.int .i64 0,.slice none 0 0] 127)) w1.heap.size #[.int .i64 (lo:Int),.int .i64 ((lo:Int)+(m:Int)),.slice (some ⟨g,0,none⟩) ((m+1) * (m+1)) ((m+1) * (m+1))])=w2 at *
 obtain ⟨lb,hlb⟩:∃ lb,lb=w1.heap.size:=⟨_,rfl⟩
 rw [← hlb] at YL HG ⊢
 clear hlb
 try simp only [Act.put]
 have HRB:=Lib.hid (show g ≠ w.heap.size+1 from by have:=HG.out;have:=(Array.getElem?_eq_some_iff.1 Y1.out).1;omega)
 have HLB:=Lib.hid (show g ≠ lb∧g ≠ w.heap.size from ⟨by have:=HG.out;omega,by have:=HG.out;have:=(Array.getElem?_eq_some_iff.1 Y1.out).1;omega⟩)
 have TL:=Lib.hid (show TabAtP w2 g m (Ps.emF lo P 0) from HTL.out.same fun c d _ _=>rfl)
 clear HTL Y0 Y1 HB0L
 obtain ⟨u0,u1,u2⟩:=three_cellsT X0.out
 go_wp2_with fail
 clear u0 u1 u2
 go_loopw [6] (fun iv wr=>∃ k:Nat,iv=.int .i64 ((lo:Int)+(k:Int))∧k ≤ m+1∧Hid (TabAtP wr g m (Ps.emF lo P k))∧Hid (wr.heap[w.heap.size]? = some (.cells #[xp,.int .i64 (lo:Int),.int .i64 ((lo:Int)+(m:Int))] 166))∧Hid (wr.heap[w.heap.size+1]? = some (.cells #[.int .i64 0,.int .i64 0,.slice none 0 0] 127))∧Hid (wr.heap[lb]? = some (.cells #[.int .i64 (lo:Int),.int .i64 ((lo:Int)+(m:Int)),.slice (some ⟨g,0,none⟩) ((m+1) * (m+1)) ((m+1) * (m+1))] 127))∧Hid (Below w.heap.size w wr)) (fun iv _=>lo+m+1 - (intOf iv).toNat)
 case atStart=>exact ⟨0,by simp,Nat.zero_le _,TL,X0,X1,YL,HBL⟩
 case round =>
   obtain ⟨k,rfl,hk,T1,Z0,ZR,ZL,HBE⟩:=hrel
   clear TL X0 X1 YL HBL
   have wk:IntKind.i64.wrap ((lo:Int)+(k:Int)+1)=(lo:Int)+((k+1:Nat):Int):=by rw [IntWalk.i64_in _ (by omega)];omega
   obtain ⟨u0,u1,u2⟩:=three_cellsT Z0.out
   by_cases hlt:k ≤ m
   · have hle:(lo:Int)+(k:Int) ≤ (lo:Int)+(m:Int):=by omega
     have hle2:(k:Int) ≤ (m:Int):=by omega
     have HCK:=Lib.hid (HC.out k hlt wr HBE.out)
     cases hP:P (lo+k) with
     | true =>
       rw [hP] at HCK
       have HAD:=Lib.hid (fun w9 (hb:Below wr.heap.size wr w9)=>by
         have h:=psadd_any g lo m k k 1 hlo hlt hlt (Ps.emF lo P k) (Ps.emF_low lo P k k k) (by omega) w9 (T1.out.later hb)
         rw [Ps.emF_yes hP] at h;exact h)
       unfold Ps.tabV at HAD
       rw [show (((1:Nat):Int))=1 from rfl] at HAD
       go_wp2_with fail
       refine HCK.out.mono ?_
       rintro e w5 ⟨rfl,hb5⟩
       have Z05:=Lib.hid (keep_blk hb5 Z0.out);have ZR5:=Lib.hid (keep_blk hb5 ZR.out);have ZL5:=Lib.hid (keep_blk hb5 ZL.out);have HB5:=Lib.hid (HBE.out.trans (hb5.mono HBE.out.size))
       have HADC:=Lib.hid (HAD.out w5 hb5)
       clear hb5 HAD HCK u0 u1 u2
       go_wp2_with (first
         | (refine wpList_load_row rfl 127 (.tmp 5) rfl (lb) rfl 127 _ (0,0) _ ZL5.out Tryd.underlying127 rfl (by kernel_rfl) ?_)
         | fail)
       refine HADC.out.mono ?_
       rintro e w6 ⟨rfl,t6,o6⟩
       have T6:=Lib.hid t6
       have Z06:=Lib.hid (blk_touch Z05.out o6 (by have:=HLB.out;omega));have ZR6:=Lib.hid (blk_touch ZR5.out o6 (by have:=HRB.out;omega));have ZL6:=Lib.hid (blk_touch ZL5.out o6 (by have:=HLB.out;omega))
       have HB6:=Lib.hid (HB5.out.trans (o6.below (B:=w.heap.size) (by intro i hi;have:=HG.out;simp at hi;omega) HB5.out.size))
       clear t6 o6 HADC
       go_wp2
       exact ⟨⟨k+1,by simp,by omega,T6,Z06,ZR6,ZL6,HB6⟩,by simp [intOf];omega⟩
     | false =>
       rw [hP] at HCK
       have TN:=Lib.hid (show TabAtP wr g m (Ps.emF lo P (k+1)) from by rw [← Ps.emF_no hP];exact T1.out)
       go_wp2_with fail
       refine HCK.out.mono ?_
       rintro e w5 ⟨rfl,hb5⟩
       have T5:=Lib.hid (TN.out.later hb5)
       have Z05:=Lib.hid (keep_blk hb5 Z0.out);have ZR5:=Lib.hid (keep_blk hb5 ZR.out);have ZL5:=Lib.hid (keep_blk hb5 ZL.out);have HB5:=Lib.hid (HBE.out.trans (hb5.mono HBE.out.size))
       clear hb5 HCK u0 u1 u2
       go_wp2
       exact ⟨⟨k+1,by simp,by omega,T5,Z05,ZR5,ZL5,HB5⟩,by simp [intOf];omega⟩
   · obtain rfl:k=m+1:=by omega
     have hle:¬ ((lo:Int)+((m+1:Nat):Int) ≤ (lo:Int)+(m:Int)):=by omega
     have hle2:¬ ((m:Int)+1 ≤ (m:Int)):=by omega
     have TE:=Lib.hid (show TabAtP wr g m (Ps.rel lo (Ps.oneAt P)) from T1.out.same fun c d hc _=>by unfold Ps.emF;rw [if_pos (by omega)])
     clear T1 HC
     go_wp2_with (first
       | (refine wpList_load_row rfl 127 (.tmp 5) rfl (lb) rfl 127 _ (0,0) _ ZL.out Tryd.underlying127 rfl (by kernel_rfl) ?_)
       | (refine wpList_store_row rfl 127 (.tmp 4) (.tmp 24) rfl (w.heap.size+1) #[.int .i64 (lo:Int),.int .i64 ((lo:Int)+(m:Int)),.slice (some ⟨g,0,none⟩) ((m+1) * (m+1)) ((m+1) * (m+1))] rfl rfl 127 _ ZR.out (by kernel_rfl) rfl (by simp [Value.oneCell']) ?_)
       | fail)
     refine bodyPost_ret (results_cell_row rfl _ _ (w.heap.size+1) 127 #[.int .i64 (lo:Int),.int .i64 ((lo:Int)+(m:Int)),.slice (some ⟨g,0,none⟩) ((m+1) * (m+1)) ((m+1) * (m+1))] (0,0) _ rfl (heap_setRow ZR.out) Tryd.underlying127 rfl (by kernel_rfl)) rfl ⟨g,rfl,HG.out.1, ?_, ?_⟩
     · unfold TabAtP;rw [heap_setRow_other _ _ _ (by have:=HRB.out;omega)];exact TE.out
     · exact below_setRow HBE.out (by omega) _
theorem psjoined_any (xp:Value) (g2 g3 lo m:Nat) (hlo:lo+m ≤ 1000) (f f3:Ps.T) (w:World) (hT2:TabAtP w g2 m (Ps.rel lo f)) (hT3:TabAtP w g3 m (Ps.rel lo f3)) :
   Calls Tryd.prog 166 #[.agg #[xp,.int .i64 (lo:Int),.int .i64 ((lo:Int)+(m:Int))],Ps.tabV g2 lo m,Ps.tabV g3 lo m] w (PsNew lo m (Ps.join f f3) w):=by
 have HT2:=Lib.hid hT2;have HT3:=Lib.hid hT3
 clear hT2 hT3
 unfold Ps.tabV
 have WNx:=Lib.hid (news4 w (.cells #[xp,.int .i64 (lo:Int),.int .i64 ((lo:Int)+(m:Int))] 166) (.cells #[.int .i64 (lo:Int),.int .i64 ((lo:Int)+(m:Int)),.slice (some ⟨g2,0,none⟩) ((m+1) * (m+1)) ((m+1) * (m+1))] 127) (.cells #[.int .i64 (lo:Int),.int .i64 ((lo:Int)+(m:Int)),.slice (some ⟨g3,0,none⟩) ((m+1) * (m+1)) ((m+1) * (m+1))] 127) (.cells #[.int .i64 0,.int .i64 0,.slice none 0 0] 127))
 have HB:=Lib.hid (show Below w.heap.size w ((((w.alloc (.cells #[xp,.int .i64 (lo:Int),.int .i64 ((lo:Int)+(m:Int))] 166)).alloc (.cells #[.int .i64 (lo:Int),.int .i64 ((lo:Int)+(m:Int)),.slice (some ⟨g2,0,none⟩) ((m+1) * (m+1)) ((m+1) * (m+1))] 127)).alloc (.cells #[.int .i64 (lo:Int),.int .i64 ((lo:Int)+(m:Int)),.slice (some ⟨g3,0,none⟩) ((m+1) * (m+1)) ((m+1) * (m+1))] 127)).alloc (.cells #[.int .i64 0,.int .i64 0,.slice none 0 0] 127)) from by go_grown)
 go_enter Tryd.func166,Tryd.ntmps166
 go_upto_region 1 with (fail)
 generalize ((((w.alloc (.cells #[xp,.int .i64 (lo:Int),.int .i64 ((lo:Int)+(m:Int))] 166)).alloc (.cells #[.int .i64 (lo:Int),.int .i64 ((lo:Int)+(m:Int)),.slice (some ⟨g2,0,none⟩) ((m+1) * (m+1)) ((m+1) * (m+1))] 127)).alloc (.cells #[.int .i64 (lo:Int),.int .i64 ((lo:Int)+(m:Int)),.slice (some ⟨g3,0,none⟩) ((m+1) * (m+1)) ((m+1) * (m+1))] 127)).alloc (.cells #[.int .i64 0,.int .i64 0,.slice none 0 0] 127))=W0 at *
 have Y0:=Lib.hid WNx.out.1
 have Y1:=Lib.hid WNx.out.2.1
 have Y2:=Lib.hid WNx.out.2.2.1
 have Y3:=Lib.hid WNx.out.2.2.2
 clear WNx
 go_wp2_with (first
   | (refine wpList_load_row rfl 166 (.tmp 3) rfl (w.heap.size) rfl 166 _ (0,0) _ Y0.out Tryd.underlying166 rfl (by kernel_rfl) ?_)
   | fail)
 refine (pstable_any xp lo m hlo W0).mono ?_
 rintro e w1 ⟨g,rfl,hg,htab,hb1⟩
 have HG:=Lib.hid (show w.heap.size ≤ g∧g < w1.heap.size∧W0.heap.size ≤ g from ⟨Nat.le_trans HB.out.size hg,htab.lt,hg⟩)
 have HTB:=Lib.hid htab
 try unfold Ps.tabV
 go_upto_region 2 with (first
   | (refine wpList_store_row rfl 127 (.tmp 7) (.tmp 10) rfl (w1.heap.size) #[.int .i64 (lo:Int),.int .i64 ((lo:Int)+(m:Int)),.slice (some ⟨g,0,none⟩) ((m+1) * (m+1)) ((m+1) * (m+1))] rfl rfl 127 _ (heap_alloc_new _ _) (by kernel_rfl) rfl (by simp [Value.oneCell']) ?_)
   | fail)
 have hbL:Below w1.heap.size w1 (World.setRow (w1.alloc (.cells #[.int .i64 0,.int .i64 0,.slice none 0 0] 127)) w1.heap.size #[.int .i64 (lo:Int),.int .i64 ((lo:Int)+(m:Int)),.slice (some ⟨g,0,none⟩) ((m+1) * (m+1)) ((m+1) * (m+1))]):=below_setRow ((Below.refl _ _).alloc (Nat.le_refl _) _) (Nat.le_refl _) _
 have YL:=Lib.hid (show (World.setRow (w1.alloc (.cells #[.int .i64 0,.int .i64 0,.slice none 0 0] 127)) w1.heap.size #[.int .i64 (lo:Int),.int .i64 ((lo:Int)+(m:Int)),.slice (some ⟨g,0,none⟩) ((m+1) * (m+1)) ((m+1) * (m+1))]).heap[w1.heap.size]? = some (.cells #[.int .i64 (lo:Int),.int .i64 ((lo:Int)+(m:Int)),.slice (some ⟨g,0,none⟩) ((m+1) * (m+1)) ((m+1) * (m+1))] 127) from heap_setRow (heap_alloc_new _ _))
 have HBL:=Lib.hid ((HB.out.trans (hb1.mono HB.out.size)).trans (hbL.mono (by have:=HB.out.size;have:=hb1.size;omega)))
 have HB0L:=Lib.hid (hb1.trans (hbL.mono hb1.size))
 have HTL:=Lib.hid (HTB.out.later hbL)
 have X0:=Lib.hid (keep_blk (hb1.trans (hbL.mono hb1.size)) Y0.out)
 have X1:=Lib.hid (keep_blk (hb1.trans (hbL.mono hb1.size)) Y1.out)
 have X2:=Lib.hid (keep_blk (hb1.trans (hbL.mono hb1.size)) Y2.out)
 have X3:=Lib.hid (keep_blk (hb1.trans (hbL.mono hb1.size)) Y3.out)
 clear hb1 hbL htab hg HTB HB
 generalize (World.setRow (w1.alloc (.cells #[.int .i64 0,.int .i64 0,.slice none 0 0] 127)) w1.heap.size #[.int .i64 (lo:Int),.int .i64 ((lo:Int)+(m:Int)),.slice (some ⟨g,0,none⟩) ((m+1) * (m+1)) ((m+1) * (m+1))])=w2 at *
 obtain ⟨lb,hlb⟩:∃ lb,lb=w1.heap.size:=⟨_,rfl⟩
 rw [← hlb] at YL HG ⊢
 clear hlb
 try simp only [Act.put]
 have HRB:=Lib.hid (show g ≠ w.heap.size+1+1+1 from by have:=HG.out;have:=(Array.getElem?_eq_some_iff.1 Y3.out).1;omega)
 have HLB:=Lib.hid (show g ≠ lb∧g ≠ w.heap.size∧g ≠ w.heap.size+1∧g ≠ w.heap.size+1+1 from by have:=HG.out;have:=(Array.getElem?_eq_some_iff.1 Y3.out).1;exact ⟨by omega,by omega,by omega,by omega⟩)
 have HNE:=Lib.hid (show g2 ≠ g∧g3 ≠ g from by have:=HG.out;have:=HT2.out.lt;have:=HT3.out.lt;exact ⟨by omega,by omega⟩)
 have TL:=Lib.hid (show TabAtP w2 g m (Ps.rowsF lo (Ps.join f f3) (fun _ _=>0) 0) from HTL.out.same fun c d _ _=>by first | rfl | (rw [← Ps.oneAt_true];rfl))
 have T2L:=Lib.hid (HT2.out.later HBL.out);have T3L:=Lib.hid (HT3.out.later HBL.out)
 clear HTL Y0 Y1 Y2 Y3 HB0L HT2 HT3
 obtain ⟨u0,u1,u2⟩:=three_cellsT X0.out
 go_wp2_with fail
 clear u0 u1 u2
 go_loopw [8] (fun iv wr=>∃ k:Nat,iv=.int .i64 ((lo:Int)+(k:Int))∧k ≤ m+1∧Hid (TabAtP wr g m (Ps.rowsF lo (Ps.join f f3) (fun _ _=>0) k))∧Hid (TabAtP wr g2 m (Ps.rel lo f))∧Hid (TabAtP wr g3 m (Ps.rel lo f3))∧Hid (wr.heap[w.heap.size]? = some (.cells #[xp,.int .i64 (lo:Int),.int .i64 ((lo:Int)+(m:Int))] 166))∧Hid (wr.heap[w.heap.size+1]? = some (.cells #[.int .i64 (lo:Int),.int .i64 ((lo:Int)+(m:Int)),.slice (some ⟨g2,0,none⟩) ((m+1) * (m+1)) ((m+1) * (m+1))] 127))∧Hid (wr.heap[w.heap.size+1+1]? = some (.cells #[.int .i64 (lo:Int),.int .i64 ((lo:Int)+(m:Int)),.slice (some ⟨g3,0,none⟩) ((m+1) * (m+1)) ((m+1) * (m+1))] 127))∧Hid (wr.heap[w.heap.size+1+1+1]? = some (.cells #[.int .i64 0,.int .i64 0,.slice none 0 0] 127))∧Hid (wr.heap[lb]? = some (.cells #[.int .i64 (lo:Int),.int .i64 ((lo:Int)+(m:Int)),.slice (some ⟨g,0,none⟩) ((m+1) * (m+1)) ((m+1) * (m+1))] 127))∧Hid (Below w.heap.size w wr)) (fun iv _=>lo+m+1 - (intOf iv).toNat)
 case atStart=>exact ⟨0,by simp,Nat.zero_le _,TL,T2L,T3L,X0,X1,X2,X3,YL,HBL⟩
 case round =>
   obtain ⟨k,rfl,hk,T1,T2,T3,Z0,Z1,Z2,ZR,ZL,HBE⟩:=hrel
   clear TL X0 X1 X2 X3 YL HBL T2L T3L
   have wk:IntKind.i64.wrap ((lo:Int)+(k:Int)+1)=(lo:Int)+((k+1:Nat):Int):=by rw [IntWalk.i64_in _ (by omega)];omega
   obtain ⟨u0,u1,u2⟩:=three_cellsT Z0.out
   by_cases hlt:k ≤ m
   · have hle:(lo:Int)+(k:Int) ≤ (lo:Int)+(m:Int):=by omega
     have hle2:(k:Int) ≤ (m:Int):=by omega
     have HAJ:=Lib.hid (fun w9 (hb:Below wr.heap.size wr w9)=>psaddJoined_apart g g2 g3 lo m k 0 hlo hlt (by decide) (Ps.rowsF lo (Ps.join f f3) (fun _ _=>0) k) (Ps.rel lo f) (Ps.rel lo f3) (Ps.rowsF_low _ _ _ _) (Ps.rel_low _ _) (Ps.rel_low _ _) HNE.out.1 HNE.out.2 w9 (T1.out.later hb) (T2.out.later hb) (T3.out.later hb))
     unfold Ps.tabV at HAJ
     rw [show (((0:Nat):Int))=0 from rfl] at HAJ
     go_wp2_with (first
       | (refine wpList_load_row rfl 127 (.tmp 7) rfl (lb) rfl 127 _ (0,0) _ ZL.out Tryd.underlying127 rfl (by kernel_rfl) ?_)
       | (refine wpList_load_row rfl 127 (.tmp 4) rfl (w.heap.size+1) rfl 127 _ (0,0) _ Z1.out Tryd.underlying127 rfl (by kernel_rfl) ?_)
       | (refine wpList_load_row rfl 127 (.tmp 5) rfl (w.heap.size+1+1) rfl 127 _ (0,0) _ Z2.out Tryd.underlying127 rfl (by kernel_rfl) ?_)
       | fail)
     refine (HAJ.out wr (Below.refl _ _)).mono ?_
     rintro e w6 ⟨rfl,t6,o6⟩
     have T6:=Lib.hid (show TabAtP w6 g m (Ps.rowsF lo (Ps.join f f3) (fun _ _=>0) (k+1)) from t6.same fun c d _ hd=>(Ps.rowsF_succ hlt (by decide) (fun d _=>Ps.join_row lo k d f f3) hd).symm)
     have T26:=Lib.hid (T2.out.touch o6 HNE.out.1);have T36:=Lib.hid (T3.out.touch o6 HNE.out.2)
     have Z06:=Lib.hid (blk_touch Z0.out o6 (by have:=HLB.out;omega));have Z16:=Lib.hid (blk_touch Z1.out o6 (by have:=HLB.out;omega));have Z26:=Lib.hid (blk_touch Z2.out o6 (by have:=HLB.out;omega));have ZR6:=Lib.hid (blk_touch ZR.out o6 (by have:=HRB.out;omega));have ZL6:=Lib.hid (blk_touch ZL.out o6 (by have:=HLB.out;omega))
     have HB6:=Lib.hid (HBE.out.trans (o6.below (B:=w.heap.size) (by intro i hi;have:=HG.out;simp at hi;omega) HBE.out.size))
     clear t6 o6 HAJ u0 u1 u2
     go_wp2
     exact ⟨⟨k+1,by simp,by omega,T6,T26,T36,Z06,Z16,Z26,ZR6,ZL6,HB6⟩,by simp [intOf];omega⟩
   · obtain rfl:k=m+1:=by omega
     have hle:¬ ((lo:Int)+((m+1:Nat):Int) ≤ (lo:Int)+(m:Int)):=by omega
     have hle2:¬ ((m:Int)+1 ≤ (m:Int)):=by omega
     have TE:=Lib.hid (show TabAtP wr g m (Ps.rel lo (Ps.join f f3)) from T1.out.same fun c d hc _=>by unfold Ps.rowsF;rw [if_pos (by omega)])
     clear T1
     go_wp2_with (first
       | (refine wpList_load_row rfl 127 (.tmp 7) rfl (lb) rfl 127 _ (0,0) _ ZL.out Tryd.underlying127 rfl (by kernel_rfl) ?_)
       | (refine wpList_store_row rfl 127 (.tmp 6) (.tmp 24) rfl (w.heap.size+1+1+1) #[.int .i64 (lo:Int),.int .i64 ((lo:Int)+(m:Int)),.slice (some ⟨g,0,none⟩) ((m+1) * (m+1)) ((m+1) * (m+1))] rfl rfl 127 _ ZR.out (by kernel_rfl) rfl (by simp [Value.oneCell']) ?_)
       | fail)
     refine bodyPost_ret (results_cell_row rfl _ _ (w.heap.size+1+1+1) 127 #[.int .i64 (lo:Int),.int .i64 ((lo:Int)+(m:Int)),.slice (some ⟨g,0,none⟩) ((m+1) * (m+1)) ((m+1) * (m+1))] (0,0) _ rfl (heap_setRow ZR.out) Tryd.underlying127 rfl (by kernel_rfl)) rfl ⟨g,rfl,HG.out.1, ?_, ?_⟩
     · unfold TabAtP;rw [heap_setRow_other _ _ _ (by have:=HRB.out;omega)];exact TE.out
     · exact below_setRow HBE.out (by omega) _
theorem psoneMore_any (xp:Value) (g2 g3 lo m:Nat) (hlo:lo+m ≤ 1000) (f f3:Ps.T) (w:World) (hT2:TabAtP w g2 m (Ps.rel lo f)) (hT3:TabAtP w g3 m (Ps.rel lo f3)) :
   Calls Tryd.prog 182 #[.agg #[xp,.int .i64 (lo:Int),.int .i64 ((lo:Int)+(m:Int))],Ps.tabV g2 lo m,Ps.tabV g3 lo m] w (PsNew lo m (Ps.more f f3) w):=by
 have HT2:=Lib.hid hT2;have HT3:=Lib.hid hT3
 clear hT2 hT3
 unfold Ps.tabV
 have WNx:=Lib.hid (news4 w (.cells #[xp,.int .i64 (lo:Int),.int .i64 ((lo:Int)+(m:Int))] 166) (.cells #[.int .i64 (lo:Int),.int .i64 ((lo:Int)+(m:Int)),.slice (some ⟨g2,0,none⟩) ((m+1) * (m+1)) ((m+1) * (m+1))] 127) (.cells #[.int .i64 (lo:Int),.int .i64 ((lo:Int)+(m:Int)),.slice (some ⟨g3,0,none⟩) ((m+1) * (m+1)) ((m+1) * (m+1))] 127) (.cells #[.int .i64 0,.int .i64 0,.slice none 0 0] 127))
 have HB:=Lib.hid (show Below w.heap.size w ((((w.alloc (.cells #[xp,.int .i64 (lo:Int),.int .i64 ((lo:Int)+(m:Int))] 166)).alloc (.cells #[.int .i64 (lo:Int),.int .i64 ((lo:Int)+(m:Int)),.slice (some ⟨g2,0,none⟩) ((m+1) * (m+1)) ((m+1) * (m+1))] 127)).alloc (.cells #[.int .i64 (lo:Int),.int .i64 ((lo:Int)+(m:Int)),.slice (some ⟨g3,0,none⟩) ((m+1) * (m+1)) ((m+1) * (m+1))] 127)).alloc (.cells #[.int .i64 0,.int .i64 0,.slice none 0 0] 127)) from by go_grown)
 go_enter Tryd.func182,Tryd.ntmps182
 go_upto_region 1 with (fail)
 generalize ((((w.alloc (.cells #[xp,.int .i64 (lo:Int),.int .i64 ((lo:Int)+(m:Int))] 166)).alloc (.cells #[.int .i64 (lo:Int),.int .i64 ((lo:Int)+(m:Int)),.slice (some ⟨g2,0,none⟩) ((m+1) * (m+1)) ((m+1) * (m+1))] 127)).alloc (.cells #[.int .i64 (lo:Int),.int .i64 ((lo:Int)+(m:Int)),.slice (some ⟨g3,0,none⟩) ((m+1) * (m+1)) ((m+1) * (m+1))] 127)).alloc (.cells #[.int .i64 0,.int .i64 0,.slice none 0 0] 127))=W0 at *
 have Y0:=Lib.hid WNx.out.1
 have Y1:=Lib.hid WNx.out.2.1
 have Y2:=Lib.hid WNx.out.2.2.1
 have Y3:=Lib.hid WNx.out.2.2.2
 clear WNx
 go_wp2_with (first
   | (refine wpList_load_row rfl 166 (.tmp 3) rfl (w.heap.size) rfl 166 _ (0,0) _ Y0.out Tryd.underlying166 rfl (by kernel_rfl) ?_)
   | fail)
 refine (psempty_any 152 #[] (fun _=>true) xp lo m hlo W0 (fun _ _=>by rfl) (fun k _ w9 _=>by simpa using pseverywhere_any _ w9)).mono ?_
 rintro e w1 ⟨g,rfl,hg,htab,hb1⟩
 have HG:=Lib.hid (show w.heap.size ≤ g∧g < w1.heap.size∧W0.heap.size ≤ g from ⟨Nat.le_trans HB.out.size hg,htab.lt,hg⟩)
 have HTB:=Lib.hid htab
 try unfold Ps.tabV
 go_upto_region 2 with (first
   | (refine wpList_store_row rfl 127 (.tmp 7) (.tmp 10) rfl (w1.heap.size) #[.int .i64 (lo:Int),.int .i64 ((lo:Int)+(m:Int)),.slice (some ⟨g,0,none⟩) ((m+1) * (m+1)) ((m+1) * (m+1))] rfl rfl 127 _ (heap_alloc_new _ _) (by kernel_rfl) rfl (by simp [Value.oneCell']) ?_)
   | fail)
 have hbL:Below w1.heap.size w1 (World.setRow (w1.alloc (.cells #[.int .i64 0,.int .i64 0,.slice none 0 0] 127)) w1.heap.size #[.int .i64 (lo:Int),.int .i64 ((lo:Int)+(m:Int)),.slice (some ⟨g,0,none⟩) ((m+1) * (m+1)) ((m+1) * (m+1))]):=below_setRow ((Below.refl _ _).alloc (Nat.le_refl _) _) (Nat.le_refl _) _
 have YL:=Lib.hid (show (World.setRow (w1.alloc (.cells #[.int .i64 0,.int .i64 0,.slice none 0 0] 127)) w1.heap.size #[.int .i64 (lo:Int),.int .i64 ((lo:Int)+(m:Int)),.slice (some ⟨g,0,none⟩) ((m+1) * (m+1)) ((m+1) * (m+1))]).heap[w1.heap.size]? = some (.cells #[.int .i64 (lo:Int),.int .i64 ((lo:Int)+(m:Int)),.slice (some ⟨g,0,none⟩) ((m+1) * (m+1)) ((m+1) * (m+1))] 127) from heap_setRow (heap_alloc_new _ _))
 have HBL:=Lib.hid ((HB.out.trans (hb1.mono HB.out.size)).trans (hbL.mono (by have:=HB.out.size;have:=hb1.size;omega)))
 have HB0L:=Lib.hid (hb1.trans (hbL.mono hb1.size))
 have HTL:=Lib.hid (HTB.out.later hbL)
 have X0:=Lib.hid (keep_blk (hb1.trans (hbL.mono hb1.size)) Y0.out)
 have X1:=Lib.hid (keep_blk (hb1.trans (hbL.mono hb1.size)) Y1.out)
 have X2:=Lib.hid (keep_blk (hb1.trans (hbL.mono hb1.size)) Y2.out)
 have X3:=Lib.hid (keep_blk (hb1.trans (hbL.mono hb1.size)) Y3.out)
 clear hb1 hbL htab hg HTB HB
 generalize (World.setRow (w1.alloc (.cells #[.int .i64 0,.int .i64 0,.slice none 0 0] 127)) w1.heap.size #[.int .i64 (lo:Int),.int .i64 ((lo:Int)+(m:Int)),.slice (some ⟨g,0,none⟩) ((m+1) * (m+1)) ((m+1) * (m+1))])=w2 at *
 obtain ⟨lb,hlb⟩:∃ lb,lb=w1.heap.size:=⟨_,rfl⟩
 rw [← hlb] at YL HG ⊢
 clear hlb
 try simp only [Act.put]
 have HRB:=Lib.hid (show g ≠ w.heap.size+1+1+1 from by have:=HG.out;have:=(Array.getElem?_eq_some_iff.1 Y3.out).1;omega)
 have HLB:=Lib.hid (show g ≠ lb∧g ≠ w.heap.size∧g ≠ w.heap.size+1∧g ≠ w.heap.size+1+1 from by have:=HG.out;have:=(Array.getElem?_eq_some_iff.1 Y3.out).1;exact ⟨by omega,by omega,by omega,by omega⟩)
 have HNE:=Lib.hid (show g2 ≠ g∧g3 ≠ g from by have:=HG.out;have:=HT2.out.lt;have:=HT3.out.lt;exact ⟨by omega,by omega⟩)
 have TL:=Lib.hid (show TabAtP w2 g m (Ps.rowsF lo (Ps.more f f3) Ps.one 0) from HTL.out.same fun c d _ _=>by first | rfl | (rw [← Ps.oneAt_true];rfl))
 have T2L:=Lib.hid (HT2.out.later HBL.out);have T3L:=Lib.hid (HT3.out.later HBL.out)
 clear HTL Y0 Y1 Y2 Y3 HB0L HT2 HT3
 obtain ⟨u0,u1,u2⟩:=three_cellsT X0.out
 go_wp2_with fail
 clear u0 u1 u2
 go_loopw [8] (fun iv wr=>∃ k:Nat,iv=.int .i64 ((lo:Int)+(k:Int))∧k ≤ m+1∧Hid (TabAtP wr g m (Ps.rowsF lo (Ps.more f f3) Ps.one k))∧Hid (TabAtP wr g2 m (Ps.rel lo f))∧Hid (TabAtP wr g3 m (Ps.rel lo f3))∧Hid (wr.heap[w.heap.size]? = some (.cells #[xp,.int .i64 (lo:Int),.int .i64 ((lo:Int)+(m:Int))] 166))∧Hid (wr.heap[w.heap.size+1]? = some (.cells #[.int .i64 (lo:Int),.int .i64 ((lo:Int)+(m:Int)),.slice (some ⟨g2,0,none⟩) ((m+1) * (m+1)) ((m+1) * (m+1))] 127))∧Hid (wr.heap[w.heap.size+1+1]? = some (.cells #[.int .i64 (lo:Int),.int .i64 ((lo:Int)+(m:Int)),.slice (some ⟨g3,0,none⟩) ((m+1) * (m+1)) ((m+1) * (m+1))] 127))∧Hid (wr.heap[w.heap.size+1+1+1]? = some (.cells #[.int .i64 0,.int .i64 0,.slice none 0 0] 127))∧Hid (wr.heap[lb]? = some (.cells #[.int .i64 (lo:Int),.int .i64 ((lo:Int)+(m:Int)),.slice (some ⟨g,0,none⟩) ((m+1) * (m+1)) ((m+1) * (m+1))] 127))∧Hid (Below w.heap.size w wr)) (fun iv _=>lo+m+1 - (intOf iv).toNat)
 case atStart=>exact ⟨0,by simp,Nat.zero_le _,TL,T2L,T3L,X0,X1,X2,X3,YL,HBL⟩
 case round =>
   obtain ⟨k,rfl,hk,T1,T2,T3,Z0,Z1,Z2,ZR,ZL,HBE⟩:=hrel
   clear TL X0 X1 X2 X3 YL HBL T2L T3L
   have wk:IntKind.i64.wrap ((lo:Int)+(k:Int)+1)=(lo:Int)+((k+1:Nat):Int):=by rw [IntWalk.i64_in _ (by omega)];omega
   obtain ⟨u0,u1,u2⟩:=three_cellsT Z0.out
   by_cases hlt:k ≤ m
   · have hle:(lo:Int)+(k:Int) ≤ (lo:Int)+(m:Int):=by omega
     have hle2:(k:Int) ≤ (m:Int):=by omega
     have HAJ:=Lib.hid (fun w9 (hb:Below wr.heap.size wr w9)=>psaddJoined_apart g g2 g3 lo m k 1 hlo hlt (by decide) (Ps.rowsF lo (Ps.more f f3) Ps.one k) (Ps.rel lo f) (Ps.rel lo f3) (Ps.rowsF_low _ _ _ _) (Ps.rel_low _ _) (Ps.rel_low _ _) HNE.out.1 HNE.out.2 w9 (T1.out.later hb) (T2.out.later hb) (T3.out.later hb))
     unfold Ps.tabV at HAJ
     rw [show (((1:Nat):Int))=1 from rfl] at HAJ
     go_wp2_with (first
       | (refine wpList_load_row rfl 127 (.tmp 7) rfl (lb) rfl 127 _ (0,0) _ ZL.out Tryd.underlying127 rfl (by kernel_rfl) ?_)
       | (refine wpList_load_row rfl 127 (.tmp 4) rfl (w.heap.size+1) rfl 127 _ (0,0) _ Z1.out Tryd.underlying127 rfl (by kernel_rfl) ?_)
       | (refine wpList_load_row rfl 127 (.tmp 5) rfl (w.heap.size+1+1) rfl 127 _ (0,0) _ Z2.out Tryd.underlying127 rfl (by kernel_rfl) ?_)
       | fail)
     refine (HAJ.out wr (Below.refl _ _)).mono ?_
     rintro e w6 ⟨rfl,t6,o6⟩
     have T6:=Lib.hid (show TabAtP w6 g m (Ps.rowsF lo (Ps.more f f3) Ps.one (k+1)) from t6.same fun c d _ hd=>(Ps.rowsF_succ hlt (by decide) (fun d _=>Ps.more_row lo k d f f3) hd).symm)
     have T26:=Lib.hid (T2.out.touch o6 HNE.out.1);have T36:=Lib.hid (T3.out.touch o6 HNE.out.2)
     have Z06:=Lib.hid (blk_touch Z0.out o6 (by have:=HLB.out;omega));have Z16:=Lib.hid (blk_touch Z1.out o6 (by have:=HLB.out;omega));have Z26:=Lib.hid (blk_touch Z2.out o6 (by have:=HLB.out;omega));have ZR6:=Lib.hid (blk_touch ZR.out o6 (by have:=HRB.out;omega));have ZL6:=Lib.hid (blk_touch ZL.out o6 (by have:=HLB.out;omega))
     have HB6:=Lib.hid (HBE.out.trans (o6.below (B:=w.heap.size) (by intro i hi;have:=HG.out;simp at hi;omega) HBE.out.size))
     clear t6 o6 HAJ u0 u1 u2
     go_wp2
     exact ⟨⟨k+1,by simp,by omega,T6,T26,T36,Z06,Z16,Z26,ZR6,ZL6,HB6⟩,by simp [intOf];omega⟩
   · obtain rfl:k=m+1:=by omega
     have hle:¬ ((lo:Int)+((m+1:Nat):Int) ≤ (lo:Int)+(m:Int)):=by omega
     have hle2:¬ ((m:Int)+1 ≤ (m:Int)):=by omega
     have TE:=Lib.hid (show TabAtP wr g m (Ps.rel lo (Ps.more f f3)) from T1.out.same fun c d hc _=>by unfold Ps.rowsF;rw [if_pos (by omega)])
     clear T1
     go_wp2_with (first
       | (refine wpList_load_row rfl 127 (.tmp 7) rfl (lb) rfl 127 _ (0,0) _ ZL.out Tryd.underlying127 rfl (by kernel_rfl) ?_)
       | (refine wpList_store_row rfl 127 (.tmp 6) (.tmp 24) rfl (w.heap.size+1+1+1) #[.int .i64 (lo:Int),.int .i64 ((lo:Int)+(m:Int)),.slice (some ⟨g,0,none⟩) ((m+1) * (m+1)) ((m+1) * (m+1))] rfl rfl 127 _ ZR.out (by kernel_rfl) rfl (by simp [Value.oneCell']) ?_)
       | fail)
     refine bodyPost_ret (results_cell_row rfl _ _ (w.heap.size+1+1+1) 127 #[.int .i64 (lo:Int),.int .i64 ((lo:Int)+(m:Int)),.slice (some ⟨g,0,none⟩) ((m+1) * (m+1)) ((m+1) * (m+1))] (0,0) _ rfl (heap_setRow ZR.out) Tryd.underlying127 rfl (by kernel_rfl)) rfl ⟨g,rfl,HG.out.1, ?_, ?_⟩
     · unfold TabAtP;rw [heap_setRow_other _ _ _ (by have:=HRB.out;omega)];exact TE.out
     · exact below_setRow HBE.out (by omega) _
theorem psanyRounds_any (xp:Value) (g2 lo m:Nat) (hlo:lo+m ≤ 1000) (f:Ps.T) (w:World) (hT2:TabAtP w g2 m (Ps.rel lo f)) :
   Calls Tryd.prog 181 #[.agg #[xp,.int .i64 (lo:Int),.int .i64 ((lo:Int)+(m:Int))],Ps.tabV g2 lo m] w (PsNew lo m (Ps.any f) w):=by
 have HT2:=Lib.hid hT2
 clear hT2
 unfold Ps.tabV
 have WNx:=Lib.hid (news3 w (.cells #[xp,.int .i64 (lo:Int),.int .i64 ((lo:Int)+(m:Int))] 166) (.cells #[.int .i64 (lo:Int),.int .i64 ((lo:Int)+(m:Int)),.slice (some ⟨g2,0,none⟩) ((m+1) * (m+1)) ((m+1) * (m+1))] 127) (.cells #[.int .i64 0,.int .i64 0,.slice none 0 0] 127))
 have HB:=Lib.hid (show Below w.heap.size w (((w.alloc (.cells #[xp,.int .i64 (lo:Int),.int .i64 ((lo:Int)+(m:Int))] 166)).alloc (.cells #[.int .i64 (lo:Int),.int .i64 ((lo:Int)+(m:Int)),.slice (some ⟨g2,0,none⟩) ((m+1) * (m+1)) ((m+1) * (m+1))] 127)).alloc (.cells #[.int .i64 0,.int .i64 0,.slice none 0 0] 127)) from by go_grown)
 go_enter Tryd.func181,Tryd.ntmps181
 go_upto_region 1 with (fail)
 generalize (((w.alloc (.cells #[xp,.int .i64 (lo:Int),.int .i64 ((lo:Int)+(m:Int))] 166)).alloc (.cells #[.int .i64 (lo:Int),.int .i64 ((lo:Int)+(m:Int)),.slice (some ⟨g2,0,none⟩) ((m+1) * (m+1)) ((m+1) * (m+1))] 127)).alloc (.cells #[.int .i64 0,.int .i64 0,.slice none 0 0] 127))=W0 at *
 have Y0:=Lib.hid WNx.out.1
 have Y1:=Lib.hid WNx.out.2.1
 have Y2:=Lib.hid WNx.out.2.2
 clear WNx
 go_wp2_with (first
   | (refine wpList_load_row rfl 166 (.tmp 2) rfl (w.heap.size) rfl 166 _ (0,0) _ Y0.out Tryd.underlying166 rfl (by kernel_rfl) ?_)
   | fail)
 refine (psempty_any 152 #[] (fun _=>true) xp lo m hlo W0 (fun _ _=>by rfl) (fun k _ w9 _=>by simpa using pseverywhere_any _ w9)).mono ?_
 rintro e w1 ⟨g,rfl,hg,htab,hb1⟩
 have HG:=Lib.hid (show w.heap.size ≤ g∧g < w1.heap.size∧W0.heap.size ≤ g from ⟨Nat.le_trans HB.out.size hg,htab.lt,hg⟩)
 have HTB:=Lib.hid htab
 try unfold Ps.tabV
 go_upto_region 2 with (first
   | (refine wpList_store_row rfl 127 (.tmp 5) (.tmp 8) rfl (w1.heap.size) #[.int .i64 (lo:Int),.int .i64 ((lo:Int)+(m:Int)),.slice (some ⟨g,0,none⟩) ((m+1) * (m+1)) ((m+1) * (m+1))] rfl rfl 127 _ (heap_alloc_new _ _) (by kernel_rfl) rfl (by simp [Value.oneCell']) ?_)
   | fail)
 have hbL:Below w1.heap.size w1 (World.setRow (w1.alloc (.cells #[.int .i64 0,.int .i64 0,.slice none 0 0] 127)) w1.heap.size #[.int .i64 (lo:Int),.int .i64 ((lo:Int)+(m:Int)),.slice (some ⟨g,0,none⟩) ((m+1) * (m+1)) ((m+1) * (m+1))]):=below_setRow ((Below.refl _ _).alloc (Nat.le_refl _) _) (Nat.le_refl _) _
 have YL:=Lib.hid (show (World.setRow (w1.alloc (.cells #[.int .i64 0,.int .i64 0,.slice none 0 0] 127)) w1.heap.size #[.int .i64 (lo:Int),.int .i64 ((lo:Int)+(m:Int)),.slice (some ⟨g,0,none⟩) ((m+1) * (m+1)) ((m+1) * (m+1))]).heap[w1.heap.size]? = some (.cells #[.int .i64 (lo:Int),.int .i64 ((lo:Int)+(m:Int)),.slice (some ⟨g,0,none⟩) ((m+1) * (m+1)) ((m+1) * (m+1))] 127) from heap_setRow (heap_alloc_new _ _))
 have HBL:=Lib.hid ((HB.out.trans (hb1.mono HB.out.size)).trans (hbL.mono (by have:=HB.out.size;have:=hb1.size;omega)))
 have HB0L:=Lib.hid (hb1.trans (hbL.mono hb1.size))
 have HTL:=Lib.hid (HTB.out.later hbL)
 have X0:=Lib.hid (keep_blk (hb1.trans (hbL.mono hb1.size)) Y0.out)
 have X1:=Lib.hid (keep_blk (hb1.trans (hbL.mono hb1.size)) Y1.out)
 have X2:=Lib.hid (keep_blk (hb1.trans (hbL.mono hb1.size)) Y2.out)
 clear hb1 hbL htab hg HTB HB
 generalize (World.setRow (w1.alloc (.cells #[.int .i64 0,.int .i64 0,.slice none 0 0] 127)) w1.heap.size #[.int .i64 (lo:Int),.int .i64 ((lo:Int)+(m:Int)),.slice (some ⟨g,0,none⟩) ((m+1) * (m+1)) ((m+1) * (m+1))])=w2 at *
 obtain ⟨lb,hlb⟩:∃ lb,lb=w1.heap.size:=⟨_,rfl⟩
 rw [← hlb] at YL HG ⊢
 clear hlb
 try simp only [Act.put]
 have HRB:=Lib.hid (show g ≠ w.heap.size+1+1 from by have:=HG.out;have:=(Array.getElem?_eq_some_iff.1 Y2.out).1;omega)
 have HLB:=Lib.hid (show g ≠ lb∧g ≠ w.heap.size∧g ≠ w.heap.size+1 from by have:=HG.out;have:=(Array.getElem?_eq_some_iff.1 Y2.out).1;exact ⟨by omega,by omega,by omega⟩)
 have HNE:=Lib.hid (show g2 ≠ g from by have:=HG.out;have:=HT2.out.lt;omega)
 have TL:=Lib.hid (show TabAtP w2 g m (Ps.downF lo (Ps.any f) Ps.one (m+1)) from HTL.out.same fun c d hc _=>by rw [Ps.oneAt_true];unfold Ps.downF;rw [if_neg (by omega)])
 have T2L:=Lib.hid (HT2.out.later HBL.out)
 clear HTL Y0 Y1 Y2 HB0L HT2
 obtain ⟨u0,u1,u2⟩:=three_cellsT X0.out
 go_wp2_with fail
 clear u0 u1 u2
 go_loopw [6] (fun iv wr=>∃ k:Nat,iv=.int .i64 ((lo:Int)+(k:Int) - 1)∧k ≤ m+1∧Hid (TabAtP wr g m (Ps.downF lo (Ps.any f) Ps.one k))∧Hid (TabAtP wr g2 m (Ps.rel lo f))∧Hid (wr.heap[w.heap.size]? = some (.cells #[xp,.int .i64 (lo:Int),.int .i64 ((lo:Int)+(m:Int))] 166))∧Hid (wr.heap[w.heap.size+1]? = some (.cells #[.int .i64 (lo:Int),.int .i64 ((lo:Int)+(m:Int)),.slice (some ⟨g2,0,none⟩) ((m+1) * (m+1)) ((m+1) * (m+1))] 127))∧Hid (wr.heap[w.heap.size+1+1]? = some (.cells #[.int .i64 0,.int .i64 0,.slice none 0 0] 127))∧Hid (wr.heap[lb]? = some (.cells #[.int .i64 (lo:Int),.int .i64 ((lo:Int)+(m:Int)),.slice (some ⟨g,0,none⟩) ((m+1) * (m+1)) ((m+1) * (m+1))] 127))∧Hid (Below w.heap.size w wr)) (fun iv _=>(intOf iv+1 - lo).toNat)
 case atStart=>exact ⟨m+1,by simp;omega,Nat.le_refl _,TL,T2L,X0,X1,X2,YL,HBL⟩
 case round =>
   obtain ⟨k,rfl,hk,T1,T2,Z0,Z1,ZR,ZL,HBE⟩:=hrel
   clear TL X0 X1 X2 YL HBL T2L
   obtain ⟨u0,u1,u2⟩:=three_cellsT Z0.out
   cases k with
   | succ a =>
     have e0:(lo:Int)+((a+1:Nat):Int) - 1=(lo:Int)+(a:Int):=by omega
     rw [e0]
     have hlt:a ≤ m:=by omega
     have wk:IntKind.i64.wrap ((lo:Int)+(a:Int) - 1)=(lo:Int)+(a:Int) - 1:=IntWalk.i64_in _ (by omega)
     have hle:(lo:Int) ≤ (lo:Int)+(a:Int):=by omega
     have hle2:(0:Int) ≤ (a:Int):=by omega
     have HAJ:=Lib.hid (fun w9 (hb:Below wr.heap.size wr w9)=>psaddJoined_self g g2 lo m a hlo hlt (Ps.downF lo (Ps.any f) Ps.one (a+1)) (Ps.rel lo f) (Ps.downF_low _ _ _ _) (Ps.rel_low _ _) HNE.out w9 (T1.out.later hb) (T2.out.later hb))
     unfold Ps.tabV at HAJ
     rw [show (((1:Nat):Int))=1 from rfl] at HAJ
     go_wp2_with (first
       | (refine wpList_load_row rfl 127 (.tmp 5) rfl (lb) rfl 127 _ (0,0) _ ZL.out Tryd.underlying127 rfl (by kernel_rfl) ?_)
       | (refine wpList_load_row rfl 127 (.tmp 3) rfl (w.heap.size+1) rfl 127 _ (0,0) _ Z1.out Tryd.underlying127 rfl (by kernel_rfl) ?_)
       | fail)
     refine (HAJ.out wr (Below.refl _ _)).mono ?_
     rintro e w6 ⟨rfl,t6,o6⟩
     have T6:=Lib.hid (show TabAtP w6 g m (Ps.downF lo (Ps.any f) Ps.one a) from t6.same fun c d _ hd=>(Ps.downF_prev hlt hd).symm)
     have T26:=Lib.hid (T2.out.touch o6 HNE.out)
     have Z06:=Lib.hid (blk_touch Z0.out o6 (by have:=HLB.out;omega));have Z16:=Lib.hid (blk_touch Z1.out o6 (by have:=HLB.out;omega));have ZR6:=Lib.hid (blk_touch ZR.out o6 (by have:=HRB.out;omega));have ZL6:=Lib.hid (blk_touch ZL.out o6 (by have:=HLB.out;omega))
     have HB6:=Lib.hid (HBE.out.trans (o6.below (B:=w.heap.size) (by intro i hi;have:=HG.out;simp at hi;omega) HBE.out.size))
     clear t6 o6 HAJ u0 u1 u2
     go_wp2
     exact ⟨⟨a,by simp,by omega,T6,T26,Z06,Z16,ZR6,ZL6,HB6⟩,by simp [intOf];omega⟩
   | zero =>
     have hle:¬ ((lo:Int) ≤ (lo:Int)+((0:Nat):Int) - 1):=by omega
     have hle2:¬ ((lo:Int) ≤ (lo:Int) - 1):=by omega
     have TE:=Lib.hid (show TabAtP wr g m (Ps.rel lo (Ps.any f)) from T1.out.same fun c d hc _=>by unfold Ps.downF;rw [if_pos (by omega)])
     clear T1
     go_wp2_with (first
       | (refine wpList_load_row rfl 127 (.tmp 5) rfl (lb) rfl 127 _ (0,0) _ ZL.out Tryd.underlying127 rfl (by kernel_rfl) ?_)
       | (refine wpList_store_row rfl 127 (.tmp 4) (.tmp 22) rfl (w.heap.size+1+1) #[.int .i64 (lo:Int),.int .i64 ((lo:Int)+(m:Int)),.slice (some ⟨g,0,none⟩) ((m+1) * (m+1)) ((m+1) * (m+1))] rfl rfl 127 _ ZR.out (by kernel_rfl) rfl (by simp [Value.oneCell']) ?_)
       | fail)
     refine bodyPost_ret (results_cell_row rfl _ _ (w.heap.size+1+1) 127 #[.int .i64 (lo:Int),.int .i64 ((lo:Int)+(m:Int)),.slice (some ⟨g,0,none⟩) ((m+1) * (m+1)) ((m+1) * (m+1))] (0,0) _ rfl (heap_setRow ZR.out) Tryd.underlying127 rfl (by kernel_rfl)) rfl ⟨g,rfl,HG.out.1, ?_, ?_⟩
     · unfold TabAtP;rw [heap_setRow_other _ _ _ (by have:=HRB.out;omega)];exact TE.out
     · exact below_setRow HBE.out (by omega) _
end Go.Proofs.YtedjkbmfpjmlpaaDoor
