/- Part 1 of what these proofs need. -/
import Derived.WalkKit
import Derived.WalkSpells
import Derived.WalkLawsBesides
import Derived.Handy
import Derived.Lib.Hide
import Derived.Deep.MidRow
import Derived.Test.YtedjkbmfpjmlpaaDoorRows
import Derived.Laws.AppendOwn
import Derived.Great.BuildSlice
import Derived.Laws.MakeOwn
import Derived.RegionTactic
import Derived.Deep.CutBlock
import Derived.BigRegion
import Derived.Deep.DeepCutAuto
import Derived.Deep.RegionWith
import Derived.Deep.RegionHeld3
import Derived.StillTailTactics
import Derived.Deep.QuietTactic
import Derived.BigQuiet
import Derived.Test.YtedjkbmfpjmlpaaDoorChecked
import Derived.LaidEql
import Derived.Stop.Asserts
import Derived.Stop.IfaceNil
import Derived.RowKitTokens
import Derived.Deep.LoopGhost
import Derived.ProofKit
import Derived.LaidMore
import Derived.LaidHandle
import Derived.OpenShut
import Derived.MakeChecks
import Derived.Stop.LaidErr
import Derived.BigFrame
import Derived.Shelf.Spec.TrailingZeros
set_option maxRecDepth 100000
set_option maxHeartbeats 16000000
namespace Go.Proofs.YtedjkbmfpjmlpaaDoor
open Go.RowKit
theorem ret_int {k:IntKind} {a b:Int} (h:a=b):Ending.returned (.int k a)=.returned (.int k b):=by rw [h]
theorem ret_bool {a b:Bool} (h:a=b):Ending.returned (.bool a)=.returned (.bool b):=by rw [h]
theorem four {w:World} {b:Nat} {x0 x1 x2 x3:Value} {t:TypeId} (h:w.heap[b]? = some (.cells #[x0,x1,x2,x3] t)) :
   w.cell? ⟨b,0,none⟩=some x0∧w.cell? ⟨b,1,none⟩=some x1∧w.cell? ⟨b,2,none⟩=some x2∧w.cell? ⟨b,3,none⟩=some x3 ∧
   w.frozen? ⟨b,0,none⟩=false∧w.frozen? ⟨b,1,none⟩=false∧w.frozen? ⟨b,2,none⟩=false∧w.frozen? ⟨b,3,none⟩=false:=by
 simp [World.cell?,World.frozen?,h]
theorem heap_alloc_lt {w:World} {b:Nat} {o x:Obj} (h:w.heap[b]? = some x):(w.alloc o).heap[b]? = some x:=by
 rw [Below.heap_alloc _ _ _ (by have:=Array.getElem?_eq_some_iff.1 h;exact this.1)];exact h
theorem two_new (w:World) (x y:Obj):((w.alloc x).alloc y).heap[w.heap.size]? = some x∧((w.alloc x).alloc y).heap[w.heap.size+1]? = some y:=by
 show ((w.heap.push x).push y)[w.heap.size]? = _∧((w.heap.push x).push y)[w.heap.size+1]? = _
 constructor
 · simp [Array.getElem?_push]
 · rw [Array.getElem?_push,if_pos (by simp)]
theorem three_new (w:World) (x y z:Obj):(((w.alloc x).alloc y).alloc z).heap[w.heap.size]? = some x∧(((w.alloc x).alloc y).alloc z).heap[w.heap.size+1]? = some y∧(((w.alloc x).alloc y).alloc z).heap[w.heap.size+1+1]? = some z:=by
 show (((w.heap.push x).push y).push z)[w.heap.size]? = _∧(((w.heap.push x).push y).push z)[w.heap.size+1]? = _∧(((w.heap.push x).push y).push z)[w.heap.size+1+1]? = _
 refine ⟨?_, ?_, ?_⟩
 · simp [Array.getElem?_push];omega
 · rw [Array.getElem?_push,if_neg (by simp),Array.getElem?_push,if_pos (by simp)]
 · rw [Array.getElem?_push,if_pos (by simp)]
theorem below_setRow {B g:Nat} {a w:World} (h:Below B a w) (hg:B ≤ g) (cs:Array Value):Below B a (w.setRow g cs) :=
 h.trans ⟨rfl,rfl,rfl,by simp,fun k hk=>by simp only [World.setRow,Array.getElem?_modify];rw [if_neg (by omega)]⟩
theorem heap_setRow {w:World} {g:Nat} {old cs:Array Value} {t:TypeId} (h:w.heap[g]? = some (.cells old t)):(w.setRow g cs).heap[g]? = some (.cells cs t):=by
 simp [World.setRow,Array.getElem?_modify,h]
theorem keep_blk {w w':World} {g:Nat} {x:Obj} (hb:Below w.heap.size w w') (h:w.heap[g]? = some x):w'.heap[g]? = some x :=
 (hb.block g (Array.getElem?_eq_some_iff.1 h).1).trans h
theorem heap_setRow_other (w:World) (g:Nat) (cs:Array Value) {k:Nat} (h:k ≠ g):(w.setRow g cs).heap[k]? = w.heap[k]?:=by
 simp only [World.setRow,Array.getElem?_modify];rw [if_neg (Ne.symm h)]
end Go.Proofs.YtedjkbmfpjmlpaaDoor
namespace Go.Proofs.YtedjkbmfpjmlpaaDoor
namespace Oc
def U (x:BitVec 64):Int:=x.toNat
theorem U_nonneg (x:BitVec 64):0 ≤ U x:=by unfold U;omega
theorem U_inj {x y:BitVec 64} (h:U x=U y):x=y:=by
 unfold U at h;exact BitVec.eq_of_toNat_eq (by omega)
theorem U_toNat (x:BitVec 64):(U x).toNat=x.toNat:=by unfold U;omega
theorem ofInt_U (x:BitVec 64):BitVec.ofInt 64 (U x)=x:=by
 unfold U;rw [BitVec.ofInt_natCast];exact BitVec.eq_of_toNat_eq (by rw [BitVec.toNat_ofNat];exact Nat.mod_eq_of_lt x.isLt)
theorem wrapU (n:Int):IntKind.u64.wrap n=U (BitVec.ofInt 64 n):=by
 rw [IntKind.wrap_u64];unfold U;rw [BitVec.toNat_ofInt];omega
theorem andU (x y:BitVec 64):bits .and .u64 (U x) (U y)=U (x &&& y):=by
 show IntKind.u64.wrap ((BitVec.ofInt 64 (U x) &&& BitVec.ofInt 64 (U y)).toNat:Int)=_
 rw [ofInt_U,ofInt_U,wrapU];exact congrArg U (ofInt_U (x &&& y))
theorem orU (x y:BitVec 64):bits .or .u64 (U x) (U y)=U (x ||| y):=by
 show IntKind.u64.wrap ((BitVec.ofInt 64 (U x) ||| BitVec.ofInt 64 (U y)).toNat:Int)=_
 rw [ofInt_U,ofInt_U,wrapU];exact congrArg U (ofInt_U (x ||| y))
theorem shrU (x:BitVec 64) (n:Nat):U x / ((2 ^ n:Nat):Int)=U (x >>> n):=by
 unfold U;rw [BitVec.toNat_ushiftRight,Nat.shiftRight_eq_div_pow];simp
theorem hasBit (x:BitVec 64) (k:Nat):(bits .and .u64 (U x / (2:Int) ^ k) 1 == 1)=x.getLsbD k:=by
 have e:U x / (2:Int) ^ k=U (x >>> k):=by
   rw [← shrU];congr 1
 have e1:(1:Int)=U 1#64:=by decide
 rw [e]
 show (bits .and .u64 (U (x >>> k)) (U 1#64) == U 1#64)=_
 rw [andU]
 have hb:(x >>> k &&& 1#64)=if x.getLsbD k then 1#64 else 0#64:=by
   apply BitVec.eq_of_getLsbD_eq;intro i hi
   by_cases h:i=0
   · subst h;cases hx:x.getLsbD k <;> simp [hx]
   · cases hx:x.getLsbD k <;> simp [h]
 rw [hb]
 cases x.getLsbD k <;> decide
theorem shlBit (k:Nat):IntKind.u64.wrap ((2:Int) ^ k)=U (1#64 <<< k):=by
 rw [wrapU];refine congrArg U ?_
 apply BitVec.eq_of_toNat_eq
 rw [BitVec.toNat_shiftLeft,show ((2:Int) ^ k)=((2 ^ k:Nat):Int) by simp,BitVec.ofInt_natCast,BitVec.toNat_ofNat,Nat.shiftLeft_eq]
 simp
def cnt (p:Nat→Bool):Nat→Nat
 | 0=>0
 | n+1=>cnt p n+(p n).toNat
theorem cnt_le (p:Nat→Bool):∀ n,cnt p n ≤ n
 | 0=>Nat.le_refl _
 | n+1=>by have:=cnt_le p n;have:=(p n).toNat_le;simp only [cnt];omega
def w4 (a b c d:BitVec 64) (k:Nat):BitVec 64:=if k=0 then a else if k=1 then b else if k=2 then c else d
def mem (a b c d:BitVec 64) (i:Nat):Bool:=(w4 a b c d (i / 64)).getLsbD (i % 64)
def wn (p:Nat→Bool) (k:Nat):Nat→Nat
 | 0=>0
 | n+1=>wn p k n+(if p (64 * k+n) then 2 ^ n else 0)
theorem wn_lt (p:Nat→Bool) (k:Nat):∀ n,wn p k n < 2 ^ n
 | 0=>by simp [wn]
 | n+1=>by have:=wn_lt p k n;simp only [wn];split <;> omega
theorem wn_bit (p:Nat→Bool) (k:Nat):∀ n i,i < n→(wn p k n).testBit i=p (64 * k+i)
 | 0,i,h=>by omega
 | n+1,i,h=>by
   have hl:=wn_lt p k n
   simp only [wn]
   by_cases e:i=n
   · subst e
     by_cases q:p (64 * k+i)=true
     · rw [if_pos q,q,Nat.add_comm,Nat.testBit_two_pow_add_eq,Nat.testBit_lt_two_pow hl];rfl
     · rw [if_neg q,Nat.add_zero,Nat.testBit_lt_two_pow hl];simpa using q
   · rw [← wn_bit p k n i (by omega)]
     split
     · rw [Nat.add_comm,Nat.testBit_two_pow_add_gt (by omega)]
     · rw [Nat.add_zero]
def mk (p:Nat→Bool) (k:Nat):BitVec 64:=BitVec.ofNat 64 (wn p k 64)
theorem mk_bit (p:Nat→Bool) (k i:Nat) (h:i < 64):(mk p k).getLsbD i=p (64 * k+i):=by
 unfold mk;rw [BitVec.getLsbD_ofNat,wn_bit p k 64 i h];simp [h]
theorem mk_eq {p:Nat→Bool} {k:Nat} {x:BitVec 64} (h:∀ i,i < 64→p (64 * k+i)=x.getLsbD i):mk p k=x:=by
 apply BitVec.eq_of_getLsbD_eq;intro i hi;rw [mk_bit p k i hi,h i hi]
def orAll (A:Nat→BitVec 64):Nat→BitVec 64
 | 0=>0#64
 | n+1=>orAll A n ||| A n
theorem mk_same {p q:Nat→Bool} {v k:Nat} (hq:∀ j,q j=(p j || j == v)) (hk:v / 64 ≠ k):mk q k=mk p k:=by
 refine mk_eq fun i hi=>?_
 rw [mk_bit p k i hi,hq,show (64 * k+i == v)=false from by simp;omega];simp
theorem mk_turn {p q:Nat→Bool} {v k:Nat} (hq:∀ j,q j=(p j || j == v)) (hk:v / 64=k):mk q k=mk p k ||| (1#64 <<< (v % 64)):=by
 refine mk_eq fun i hi=>?_
 rw [hq,BitVec.getLsbD_or,mk_bit p k i hi]
 congr 1
 rw [BitVec.getLsbD_shiftLeft,BitVec.getLsbD_one,Bool.eq_iff_iff]
 simp [hi];omega
theorem mk_none (k:Nat):mk (fun _=>false) k=0#64:=by
 refine mk_eq fun i _=>?_
 simp
end Oc
end Go.Proofs.YtedjkbmfpjmlpaaDoor
namespace Go.Proofs.YtedjkbmfpjmlpaaDoor
open Go.RowKit
inductive Tr
 | node (kind:Int) (a b c d:BitVec 64) (subs:List Tr) (num least most:Int) (bare:Bool)
namespace Tr
def kind:Tr→Int | .node k _ _ _ _ _ _ _ _ _=>k
def w0:Tr→BitVec 64 | .node _ a _ _ _ _ _ _ _ _=>a
def w1:Tr→BitVec 64 | .node _ _ b _ _ _ _ _ _ _=>b
def w2:Tr→BitVec 64 | .node _ _ _ c _ _ _ _ _ _=>c
def w3:Tr→BitVec 64 | .node _ _ _ _ d _ _ _ _ _=>d
def subs:Tr→List Tr | .node _ _ _ _ _ s _ _ _ _=>s
def num:Tr→Int | .node _ _ _ _ _ _ n _ _ _=>n
def least:Tr→Int | .node _ _ _ _ _ _ _ m _ _=>m
def most:Tr→Int | .node _ _ _ _ _ _ _ _ m _=>m
def bare:Tr→Bool | .node _ _ _ _ _ _ _ _ _ b=>b
theorem size_sub {t u:Tr} (h:u ∈ t.subs):SizeOf.sizeOf u < SizeOf.sizeOf t:=by
 cases t with
 | node k a b c d s n lo hi br =>
   have:=List.sizeOf_lt_of_mem h
   simp only [subs] at this
   simp only [node.sizeOf_spec]
   omega
theorem rec_subs {P:Tr→Prop} (h:∀ t,(∀ u,u ∈ t.subs→P u)→P t) (t:Tr):P t:=by
 induction hn:SizeOf.sizeOf t using Nat.strongRecOn generalizing t with
 | _ n ih=>exact h t fun u hu=>ih _ (by have:=size_sub hu;omega) u rfl
theorem eta:∀ t:Tr,t=.node t.kind t.w0 t.w1 t.w2 t.w3 t.subs t.num t.least t.most t.bare
 | .node _ _ _ _ _ _ _ _ _ _=>rfl
def cells (t:Tr) (s:Value):Array Value :=
 #[.int .i64 t.kind,.int .u64 (Oc.U t.w0),.int .u64 (Oc.U t.w1),.int .u64 (Oc.U t.w2),.int .u64 (Oc.U t.w3),s,.int .i64 t.num,.int .i64 t.least,.int .i64 t.most,.bool t.bare]
end Tr
structure TenAt (w:World) (b o:Nat) (t:Tr) (s:Value):Prop where
 c0:w.cell? ⟨b,o,none⟩=some (.int .i64 t.kind)
 c1:w.cell? ⟨b,o+1,none⟩=some (.int .u64 (Oc.U t.w0))
 c2:w.cell? ⟨b,o+2,none⟩=some (.int .u64 (Oc.U t.w1))
 c3:w.cell? ⟨b,o+3,none⟩=some (.int .u64 (Oc.U t.w2))
 c4:w.cell? ⟨b,o+4,none⟩=some (.int .u64 (Oc.U t.w3))
 c5:w.cell? ⟨b,o+5,none⟩=some s
 c6:w.cell? ⟨b,o+6,none⟩=some (.int .i64 t.num)
 c7:w.cell? ⟨b,o+7,none⟩=some (.int .i64 t.least)
 c8:w.cell? ⟨b,o+8,none⟩=some (.int .i64 t.most)
 c9:w.cell? ⟨b,o+9,none⟩=some (.bool t.bare)
inductive TreesAt (w:World) (B:Nat→Prop):Value→List Tr→Prop
 | mk (p:Option Addr) (cap:Nat) (ts:List Tr) (S:Nat→Value) (hlen:ts.length * 96 ≤ 140737488351232)
     (hc:∀ i t,ts[i]? = some t→∃ b o,p=some ⟨b,o,none⟩∧B b∧TenAt w b (o+i * 10) t (S i))
     (hs:∀ i t,ts[i]? = some t→TreesAt w B (S i) t.subs):TreesAt w B (.slice p ts.length cap) ts
def NodeV (w:World) (B:Nat→Prop) (v:Value) (t:Tr):Prop:=∃ s,v=.agg (t.cells s)∧TreesAt w B s t.subs
theorem TenAt.keep {w w':World} {b o:Nat} {t:Tr} {s:Value} (h:TenAt w b o t s) (hk:w'.heap[b]? = w.heap[b]?):TenAt w' b o t s:=by
 have e:∀ k,w'.cell? ⟨b,k,none⟩=w.cell? ⟨b,k,none⟩:=fun k=>by unfold World.cell?;rw [hk]
 exact ⟨(e _).trans h.c0,(e _).trans h.c1,(e _).trans h.c2,(e _).trans h.c3,(e _).trans h.c4,(e _).trans h.c5,(e _).trans h.c6,(e _).trans h.c7,(e _).trans h.c8,(e _).trans h.c9⟩
theorem TenAt.lt {w:World} {b o:Nat} {t:Tr} {s:Value} (h:TenAt w b o t s):b < w.heap.size:=block_lt_of_cell h.c0
theorem TreesAt.keep {w w':World} {B:Nat→Prop} {s:Value} {ts:List Tr} (h:TreesAt w B s ts) (hk:∀ b,b < w.heap.size→B b→w'.heap[b]? = w.heap[b]?):TreesAt w' B s ts:=by
 induction h with
 | mk p cap ts S hlen hc hs ih =>
   refine .mk p cap ts S hlen (fun i t hi=>?_) (fun i t hi=>ih i t hi)
   obtain ⟨b,o,hp,hB,h10⟩:=hc i t hi
   exact ⟨b,o,hp,hB,h10.keep (hk b h10.lt hB)⟩
theorem TreesAt.later {w w':World} {B:Nat→Prop} {s:Value} {ts:List Tr} (h:TreesAt w B s ts) (hb:Below w.heap.size w w'):TreesAt w' B s ts :=
 h.keep fun b hb' _=>hb.block b hb'
theorem TreesAt.mono {w:World} {B B':Nat→Prop} {s:Value} {ts:List Tr} (h:TreesAt w B s ts) (hB:∀ b,b < w.heap.size→B b→B' b):TreesAt w B' s ts:=by
 induction h with
 | mk p cap ts S hlen hc hs ih =>
   refine .mk p cap ts S hlen (fun i t hi=>?_) (fun i t hi=>ih i t hi)
   obtain ⟨b,o,hp,hb,h10⟩:=hc i t hi
   exact ⟨b,o,hp,hB b h10.lt hb,h10⟩
theorem NodeV.later {w w':World} {B:Nat→Prop} {v:Value} {t:Tr} (h:NodeV w B v t) (hb:Below w.heap.size w w'):NodeV w' B v t:=by
 obtain ⟨s,e,hs⟩:=h;exact ⟨s,e,hs.later hb⟩
theorem TreesAt.nil {w:World} {B:Nat→Prop} {p:Option Addr} {cap:Nat} : TreesAt w B (.slice p 0 cap) [] :=
 .mk p cap [] (fun _=>.nilIface) (by simp) (fun i t h=>by simp at h) (fun i t h=>by simp at h)
theorem TreesAt.slice {w:World} {B:Nat→Prop} {s:Value} {ts:List Tr} (h:TreesAt w B s ts):∃ p cap,s=.slice p ts.length cap∧ts.length * 96 ≤ 140737488351232:=by
 cases h with | mk p cap _ S hlen hc hs=>exact ⟨p,cap,rfl,hlen⟩
theorem TreesAt.get {w:World} {B:Nat→Prop} {p:Option Addr} {len cap:Nat} {ts:List Tr} (h:TreesAt w B (.slice p len cap) ts) {i:Nat} {t:Tr} (hi:ts[i]? = some t) :
   ∃ b o s,p=some ⟨b,o,none⟩∧B b∧TenAt w b (o+i * 10) t s∧TreesAt w B s t.subs:=by
 cases h with
 | mk _ _ _ S hlen hc hs =>
   obtain ⟨b,o,hp,hB,h10⟩:=hc i t hi
   exact ⟨b,o,S i,hp,hB,h10,hs i t hi⟩
end Go.Proofs.YtedjkbmfpjmlpaaDoor
namespace Go.Proofs.YtedjkbmfpjmlpaaDoor
open Go.RowKit
namespace Tr
def turK (k:Int):Int:=if k=3 then 4 else if k=4 then 3 else k
def rv {α:Type} (k:Int) (l:List α):List α:=if k=5 then l.reverse else l
mutual
def turT:Tr→Tr
 | .node k a b c d s n lo hi br=>.node (turK k) a b c d (rv k (turL s)) n lo hi br
def turL:List Tr→List Tr
 | []=>[]
 | t :: l=>turT t :: turL l
end
theorem turL_map:∀ l:List Tr,turL l=l.map turT
 | []=>by rw [turL];rfl
 | t :: l=>by rw [turL,turL_map l];rfl
theorem turT_node (k:Int) (a b c d:BitVec 64) (s:List Tr) (n lo hi:Int) (br:Bool):turT (.node k a b c d s n lo hi br)=.node (turK k) a b c d (rv k (s.map turT)) n lo hi br:=by rw [turT,turL_map]
theorem turT_eq (t:Tr):t.turT=.node (turK t.kind) t.w0 t.w1 t.w2 t.w3 (rv t.kind (t.subs.map turT)) t.num t.least t.most t.bare:=by cases t;rw [turT_node];rfl
theorem turT_kind (t:Tr):t.turT.kind=turK t.kind:=by rw [turT_eq];rfl
theorem turT_w0 (t:Tr):t.turT.w0=t.w0:=by rw [turT_eq];rfl
theorem turT_w1 (t:Tr):t.turT.w1=t.w1:=by rw [turT_eq];rfl
theorem turT_w2 (t:Tr):t.turT.w2=t.w2:=by rw [turT_eq];rfl
theorem turT_w3 (t:Tr):t.turT.w3=t.w3:=by rw [turT_eq];rfl
theorem turT_num (t:Tr):t.turT.num=t.num:=by rw [turT_eq];rfl
theorem turT_least (t:Tr):t.turT.least=t.least:=by rw [turT_eq];rfl
theorem turT_most (t:Tr):t.turT.most=t.most:=by rw [turT_eq];rfl
theorem turT_bare (t:Tr):t.turT.bare=t.bare:=by rw [turT_eq];rfl
theorem turT_subs (t:Tr):t.turT.subs=rv t.kind (t.subs.map turT):=by rw [turT_eq];rfl
theorem rv_length {α:Type} (k:Int) (l:List α):(rv k l).length=l.length:=by
 unfold rv;split
 · rw [List.length_reverse]
 · rfl
theorem rv_not {α:Type} {k:Int} (h:k ≠ 5) (l:List α):rv k l=l:=if_neg h
theorem turK_five (k:Int):(turK k=5)=(k=5):=by
 unfold turK
 by_cases h:k=3
 · subst h;decide
 · by_cases h4:k=4
   · subst h4;decide
   · rw [if_neg h,if_neg h4]
theorem turS_same {β:Type} (f:List Tr→β) (g:β→β→β) (fT:Tr→β) (e:β) (hnil:f []=e) (hcons:∀ t l,f (t :: l)=g (fT t) (f l)) (happ:∀ l m,f (l ++ m)=g (f l) (f m)) (hcomm:∀ a b,g a b=g b a) (hone:∀ a,g a e=a)
   (k:Int) (l:List Tr) (h:∀ t,t ∈ l→fT t.turT=fT t):f (rv k (l.map turT))=f l:=by
 have hm:∀ l:List Tr,(∀ t,t ∈ l→fT t.turT=fT t)→f (l.map turT)=f l:=by
   intro l
   induction l with
   | nil=>intro _;rfl
   | cons t l il =>
     intro h
     rw [List.map_cons,hcons,hcons,h t List.mem_cons_self,il fun u hu=>h u (List.mem_cons_of_mem _ hu)]
 have hr:∀ l:List Tr,f l.reverse=f l:=by
   intro l
   induction l with
   | nil=>rfl
   | cons t l il=>rw [List.reverse_cons,happ,hcons t [],hnil,hone,il,hcons,hcomm]
 unfold rv
 split
 · rw [hr,hm l h]
 · exact hm l h
end Tr
end Go.Proofs.YtedjkbmfpjmlpaaDoor
namespace Go.Proofs.YtedjkbmfpjmlpaaDoor
open Go.RowKit
structure Touch (F:List Nat) (w w':World):Prop where
 os:w'.os=w.os
 tape:w'.tape=w.tape
 output:w'.output=w.output
 size:w.heap.size ≤ w'.heap.size
 block:∀ k,k < w.heap.size→k ∉ F→w'.heap[k]? = w.heap[k]?
theorem Touch.of_below {w w':World} (F:List Nat) (h:Below w.heap.size w w'):Touch F w w':=⟨h.os,h.tape,h.output,h.size,fun k hk _=>h.block k hk⟩
theorem Touch.trans {F:List Nat} {a b c:World} (h:Touch F a b) (k:Touch F b c):Touch F a c :=
 ⟨k.os.trans h.os,k.tape.trans h.tape,k.output.trans h.output,Nat.le_trans h.size k.size,fun i hi hn=>(k.block i (Nat.lt_of_lt_of_le hi h.size) hn).trans (h.block i hi hn)⟩
theorem Touch.mono {F G:List Nat} {a b:World} (h:Touch F a b) (hs:∀ k,k ∈ F→k ∈ G):Touch G a b:=⟨h.os,h.tape,h.output,h.size,fun k hk hn=>h.block k hk fun hm=>hn (hs k hm)⟩
theorem Touch.below {F:List Nat} {a b:World} {B:Nat} (h:Touch F a b) (hB:∀ k,k ∈ F→B ≤ k) (hs:B ≤ a.heap.size):Below B a b :=
 ⟨h.os,h.tape,h.output,h.size,fun k hk=>h.block k (by omega) fun hm=>by have:=hB k hm;omega⟩
theorem heap_setCells_other {b k:Nat} (hk:k ≠ b):∀ (vs:List Value) (o:Nat) (w:World),(w.setCells b o vs).heap[k]? = w.heap[k]?
 | [],_,_=>rfl
 | v :: r,o,w=>by rw [World.setCells,heap_setCells_other hk r (o+1) _,Below.heap_setCell _ _ _ _ hk]
theorem size_setCells (b:Nat):∀ (vs:List Value) (o:Nat) (w:World),(w.setCells b o vs).heap.size=w.heap.size
 | [],_,_=>rfl
 | v :: r,o,w=>by rw [World.setCells,size_setCells b r (o+1) _];simp [World.setCell]
theorem streams_setCells (b:Nat):∀ (vs:List Value) (o:Nat) (w:World),(w.setCells b o vs).os=w.os∧(w.setCells b o vs).tape=w.tape∧(w.setCells b o vs).output=w.output
 | [],_,_=>⟨rfl,rfl,rfl⟩
 | v :: r,o,w=>by rw [World.setCells];exact streams_setCells b r (o+1) _
theorem cells_setCells {b:Nat} : ∀ (vs:List Value) (o:Nat) (w:World),(∃ cs ty,w.heap[b]? = some (.cells cs ty (0,0)))→∃ cs ty,(w.setCells b o vs).heap[b]? = some (.cells cs ty (0,0))
 | [],_,_,h=>h
 | v :: r,o,w,⟨cs,ty,h⟩=>by
   rw [World.setCells]
   exact cells_setCells r (o+1) _ ⟨cs.setIfInBounds o v,ty,by simp [World.setCell,Array.getElem?_modify,h]⟩
theorem Touch.setCells {F:List Nat} {a w:World} {b:Nat} (h:Touch F a w) (hb:b ∈ F) (o:Nat) (vs:List Value):Touch F a (w.setCells b o vs):=by
 obtain ⟨h1,h2,h3⟩:=streams_setCells b vs o w
 exact ⟨h1.trans h.os,h2.trans h.tape,h3.trans h.output,by rw [size_setCells];exact h.size,fun k hk hn=>by
   rw [heap_setCells_other (k:=k) (b:=b) (fun e=>by subst e;exact hn hb)];exact h.block k hk hn⟩
inductive Owned (w:World):Value→List Tr→List Nat→Prop
 | nil (p:Option Addr) (cap:Nat):Owned w (.slice p 0 cap) [] []
 | row (g o cap:Nat) (ts:List Tr) (S:Nat→Value) (L:Nat→List Nat) (hlen:ts.length * 96 ≤ 140737488351232) (hf:∃ cs ty,w.heap[g]? = some (.cells cs ty (0,0)))
     (hc:∀ i t,ts[i]? = some t→TenAt w g (o+i * 10) t (S i)) (hs:∀ i t,ts[i]? = some t→Owned w (S i) t.subs (L i))
     (hg:∀ i,i < ts.length→g ∉ L i) (hd:∀ i j b,i < ts.length→j < ts.length→i ≠ j→b ∈ L i→b ∉ L j) :
     Owned w (.slice (some ⟨g,o,none⟩) ts.length cap) ts (g :: (List.range ts.length).flatMap L)
theorem mem_range_flatMap {L:Nat→List Nat} {n b:Nat} : b ∈ (List.range n).flatMap L ↔ ∃ i,i < n∧b ∈ L i:=by
 simp [List.mem_flatMap,List.mem_range]
theorem lt_of_some {ts:List Tr} {i:Nat} {t:Tr} (h:ts[i]? = some t):i < ts.length:=by
 by_cases hi:i < ts.length
 · exact hi
 · rw [List.getElem?_eq_none (by omega)] at h;cases h
theorem Owned.trees {w:World} {s:Value} {ts:List Tr} {F:List Nat} (h:Owned w s ts F):TreesAt w (fun b=>b ∈ F) s ts:=by
 induction h with
 | nil p cap=>exact TreesAt.nil
 | row g o cap ts S L hlen hf hc hs hg hd ih =>
   refine .mk _ cap ts S hlen (fun i t hi=>⟨g,o,rfl,List.mem_cons_self,hc i t hi⟩) (fun i t hi=>?_)
   exact (ih i t hi).mono fun b _ hb=>List.mem_cons_of_mem _ (mem_range_flatMap.2 ⟨i,lt_of_some hi,hb⟩)
theorem Owned.lt {w:World} {s:Value} {ts:List Tr} {F:List Nat} (h:Owned w s ts F):∀ b,b ∈ F→b < w.heap.size:=by
 induction h with
 | nil p cap=>intro b hb;cases hb
 | row g o cap ts S L hlen hf hc hs hg hd ih =>
   intro b hb
   rcases List.mem_cons.1 hb with rfl | hb
   · obtain ⟨cs,ty,h⟩:=hf;exact (Array.getElem?_eq_some_iff.1 h).1
   · obtain ⟨i,hi,hb⟩:=mem_range_flatMap.1 hb
     exact ih i ts[i] (List.getElem?_eq_getElem hi) b hb
theorem Owned.keep {w w':World} {s:Value} {ts:List Tr} {F:List Nat} (h:Owned w s ts F) (hk:∀ b,b ∈ F→w'.heap[b]? = w.heap[b]?):Owned w' s ts F:=by
 induction h with
 | nil p cap=>exact .nil p cap
 | row g o cap ts S L hlen hf hc hs hg hd ih =>
   refine .row g o cap ts S L hlen ?_ (fun i t hi=>(hc i t hi).keep (hk g List.mem_cons_self)) (fun i t hi=>ih i t hi fun b hb=>hk b (List.mem_cons_of_mem _ (mem_range_flatMap.2 ⟨i,lt_of_some hi,hb⟩))) hg hd
   obtain ⟨cs,ty,h⟩:=hf
   exact ⟨cs,ty,(hk g List.mem_cons_self).trans h⟩
theorem Owned.later {w w':World} {s:Value} {ts:List Tr} {F:List Nat} (h:Owned w s ts F) (hb:Below w.heap.size w w'):Owned w' s ts F:=h.keep fun b hbF=>hb.block b (h.lt b hbF)
end Go.Proofs.YtedjkbmfpjmlpaaDoor
namespace Go.Proofs.YtedjkbmfpjmlpaaDoor
open Go.RowKit
theorem has_any (a b c d:BitVec 64) (n:Nat) (hn:n < 256) (w:World) :
   Calls Tryd.prog 16 #[(.agg #[.int .u64 (Oc.U a),.int .u64 (Oc.U b),.int .u64 (Oc.U c),.int .u64 (Oc.U d)]),.int .u8 n] w fun e w'=>e=.returned (.bool (Oc.mem a b c d n))∧Below w.heap.size w w':=by
 have ha:=Oc.U_nonneg a;have hb:=Oc.U_nonneg b;have hc:=Oc.U_nonneg c;have hd:=Oc.U_nonneg d
 have hq:n / 64=0 ∨ n / 64=1 ∨ n / 64=2 ∨ n / 64=3:=by omega
 rcases hq with hq | hq | hq | hq
 all_goals
   go_enter Tryd.func16,Tryd.ntmps16
   go_wp2
   go_returns
   refine ⟨ret_bool ?_,by go_grown⟩
   rw [Oc.hasBit]
   unfold Oc.mem Oc.w4
   rw [hq]
   rfl
end Go.Proofs.YtedjkbmfpjmlpaaDoor
namespace Go.Proofs.YtedjkbmfpjmlpaaDoor
open Go.RowKit
theorem frozen_of {w:World} {g o:Nat} (h:∃ cs ty,w.heap[g]? = some (.cells cs ty (0,0))):w.frozen? ⟨g,o,none⟩=false:=by
 obtain ⟨cs,ty,h⟩:=h;simp [World.frozen?,h]
theorem TenAt.there {w:World} {g o:Nat} {t:Tr} {s:Value} (h:TenAt w g o t s) (hf:∃ cs ty,w.heap[g]? = some (.cells cs ty (0,0))):w.there g o 10:=by
 intro j hj
 refine ⟨?_,frozen_of hf⟩
 have:j=0 ∨ j=1 ∨ j=2 ∨ j=3 ∨ j=4 ∨ j=5 ∨ j=6 ∨ j=7 ∨ j=8 ∨ j=9:=by omega
 rcases this with rfl | rfl | rfl | rfl | rfl | rfl | rfl | rfl | rfl | rfl
 · simpa using congrArg Option.isSome h.c0
 · simpa using congrArg Option.isSome h.c1
 · simpa using congrArg Option.isSome h.c2
 · simpa using congrArg Option.isSome h.c3
 · simpa using congrArg Option.isSome h.c4
 · simpa using congrArg Option.isSome h.c5
 · simpa using congrArg Option.isSome h.c6
 · simpa using congrArg Option.isSome h.c7
 · simpa using congrArg Option.isSome h.c8
 · simpa using congrArg Option.isSome h.c9
theorem TenAt.setCells {w:World} {g o o':Nat} {t:Tr} {s:Value} {vs:List Value} (h:TenAt w g o t s) (hv:vs.length=10) (ho:o'+10 ≤ o ∨ o+10 ≤ o'):TenAt (w.setCells g o' vs) g o t s:=by
 have e:∀ k,o ≤ k→k < o+10→(w.setCells g o' vs).cell? ⟨g,k,none⟩=w.cell? ⟨g,k,none⟩:=fun k h1 h2=>World.cell?_setCells_out g vs o' w _ (fun _ _=>by simp;omega)
 exact ⟨(e _ (by omega) (by omega)).trans h.c0,(e _ (by omega) (by omega)).trans h.c1,(e _ (by omega) (by omega)).trans h.c2,(e _ (by omega) (by omega)).trans h.c3,(e _ (by omega) (by omega)).trans h.c4,(e _ (by omega) (by omega)).trans h.c5,(e _ (by omega) (by omega)).trans h.c6,(e _ (by omega) (by omega)).trans h.c7,(e _ (by omega) (by omega)).trans h.c8,(e _ (by omega) (by omega)).trans h.c9⟩
end Go.Proofs.YtedjkbmfpjmlpaaDoor
namespace Go.Proofs.YtedjkbmfpjmlpaaDoor
open Go.RowKit
theorem Tryd.infoNode:(Tryd.prog.info? 37).map (fun i=>(i.zero,i.size,i.bytes))=some (some (.agg #[.int .i64 0,.int .u64 0,.int .u64 0,.int .u64 0,.int .u64 0,.slice none 0 0,.int .i64 0,.int .i64 0,.int .i64 0,.bool false]),10,96):=by kernel_rfl
theorem set5 {w:World} {b:Nat} {x0 x1 x2 x3 x4 x5 x6 x7 x8 x9 y:Value} {t:TypeId} (h:w.heap[b]? = some (.cells #[x0,x1,x2,x3,x4,x5,x6,x7,x8,x9] t)):(w.setCell ⟨b,5,none⟩ y).heap[b]? = some (.cells #[x0,x1,x2,x3,x4,y,x6,x7,x8,x9] t):=by
 simp [World.setCell,Array.getElem?_modify,h]
theorem at5 {w:World} {b:Nat} {x0 x1 x2 x3 x4 x5 x6 x7 x8 x9:Value} {t:TypeId} (h:w.heap[b]? = some (.cells #[x0,x1,x2,x3,x4,x5,x6,x7,x8,x9] t)):w.cell? ⟨b,5,none⟩=some x5∧w.frozen? ⟨b,5,none⟩=false:=by
 simp [World.cell?,World.frozen?,h]
end Go.Proofs.YtedjkbmfpjmlpaaDoor
namespace Go.Proofs.YtedjkbmfpjmlpaaDoor
open Go.RowKit
def OwnEnd (t:Tr) (w:World) (e:Ending) (w':World):Prop:=∃ s F,e=.returned (.agg (t.cells s))∧Owned w' s t.subs F∧(∀ b,b ∈ F→w.heap.size ≤ b)∧Below w.heap.size w w'
def OwnsEnd (ts:List Tr) (w:World) (e:Ending) (w':World):Prop:=∃ v F,e=.returned v∧Owned w' v ts F∧(∀ b,b ∈ F→w.heap.size ≤ b)∧Below w.heap.size w w'
theorem Owned.slice {w:World} {s:Value} {ts:List Tr} {F:List Nat} (h:Owned w s ts F):∃ p cap,s=.slice p ts.length cap∧ts.length * 96 ≤ 140737488351232:=h.trees.slice
theorem nodeC_all (x:Tr) (p:Option Addr) (l c:Nat):(x.cells (.slice p l c)).all (·.oneCell')=true:=by simp [Tr.cells,Value.oneCell']
def pick {α:Type} (f:Nat→α) (m:Nat) (x:α) (i:Nat):α:=if i=m then x else f i
theorem pick_eq {α:Type} (f:Nat→α) (m:Nat) (x:α):pick f m x m=x:=if_pos rfl
theorem pick_ne {α:Type} (f:Nat→α) (m:Nat) (x:α) {i:Nat} (h:i ≠ m):pick f m x i=f i:=if_neg h
def CopiedTo (w:World) (g:Nat) (ts:List Tr) (m:Nat):Prop :=
 ∃ (S:Nat→Value) (L:Nat→List Nat),(∀ i t,i < m→ts[i]? = some t→TenAt w g (i * 10) t (S i)∧Owned w (S i) t.subs (L i))∧(∀ i,i < m→∀ b,b ∈ L i→g < b) ∧
   (∀ i j b,i < m→j < m→i ≠ j→b ∈ L i→b ∉ L j)∧(∀ i,i < m→∀ b,b ∈ L i→b < w.heap.size)
theorem CopiedTo.zero (w:World) (g:Nat) (ts:List Tr):CopiedTo w g ts 0:=⟨fun _=>undef,fun _=>[],fun i t h=>by omega,fun i h=>by omega,fun i j b h=>by omega,fun i h=>by omega⟩
theorem TenAt.of_range {w:World} {g o:Nat} {t:Tr} {s:Value} (h:w.rangeAt g o (t.cells s).toList):TenAt w g o t s:=by
 have get:=fun j u (hu:(t.cells s).toList[j]? = some u)=>h j u hu
 exact ⟨get 0 _ rfl,get 1 _ rfl,get 2 _ rfl,get 3 _ rfl,get 4 _ rfl,get 5 _ rfl,get 6 _ rfl,get 7 _ rfl,get 8 _ rfl,get 9 _ rfl⟩
theorem there_row {w:World} {g o n:Nat} {cs:Array Value} {ty:TypeId} (h:w.heap[g]? = some (.cells cs ty (0,0))) (hn:o+n ≤ cs.size):w.there g o n:=by
 intro j hj
 refine ⟨?_,frozen_of ⟨cs,ty,h⟩⟩
 have hlt:o+j < cs.size:=by omega
 simp [World.cell?,h,hlt]
theorem CopiedTo.step {wr w2:World} {g m:Nat} {ts:List Tr} {x:Tr} {s:Value} {F:List Nat} (h:CopiedTo wr g ts m) (hx:ts[m]? = some x) (hb:Below wr.heap.size wr w2) (hg:g < wr.heap.size)
   (ho:Owned w2 s x.subs F) (hF:∀ b,b ∈ F→wr.heap.size ≤ b) (ht:w2.there g (m * 10) 10):CopiedTo (w2.setCells g (m * 10) (x.cells s).toList) g ts (m+1):=by
 obtain ⟨S,L,h1,h2,h3,h4⟩:=h
 have hg2:w2.heap[g]? = wr.heap[g]?:=hb.block g hg
 have hsz:=hb.size
 have hoth:∀ b,b ≠ g→(w2.setCells g (m * 10) (x.cells s).toList).heap[b]? = w2.heap[b]?:=fun b hbg=>heap_setCells_other hbg _ _ _
 refine ⟨pick S m s,pick L m F,fun i t hi hti=>?_,fun i hi b hbL=>?_,fun i j b hi hj hij h5 h6=>?_,fun i hi b hbL=>?_⟩
 · by_cases e:i=m
   · subst e
     rw [pick_eq,pick_eq]
     rw [hx] at hti
     obtain rfl:=Option.some.inj hti
     refine ⟨TenAt.of_range (World.rangeAt_setCells_same _ _ _ _ (by simpa [Tr.cells] using ht)),ho.keep fun b hb'=>hoth b (fun e=>by subst e;have:=hF _ hb';omega)⟩
   · rw [pick_ne _ _ _ e,pick_ne _ _ _ e]
     obtain ⟨q1,q2⟩:=h1 i t (by omega) hti
     refine ⟨(q1.keep hg2).setCells rfl (by omega),(q2.later hb).keep fun b hb'=>hoth b (fun e=>by subst e;exact absurd (h2 i (by omega) _ hb') (by omega))⟩
 · by_cases e:i=m
   · subst e;rw [pick_eq] at hbL;have:=hF b hbL;omega
   · rw [pick_ne _ _ _ e] at hbL;exact h2 i (by omega) b hbL
 · by_cases e:i=m
   · subst e
     rw [pick_eq] at h5;rw [pick_ne _ _ _ (Ne.symm hij)] at h6
     have:=hF b h5;have:=h4 j (by omega) b h6;omega
   · rw [pick_ne _ _ _ e] at h5
     by_cases e2:j=m
     · subst e2;rw [pick_eq] at h6
       have:=hF b h6;have:=h4 i (by omega) b h5;omega
     · rw [pick_ne _ _ _ e2] at h6;exact h3 i j b (by omega) (by omega) hij h5 h6
 · rw [size_setCells]
   by_cases e:i=m
   · subst e;rw [pick_eq] at hbL;exact ho.lt b hbL
   · rw [pick_ne _ _ _ e] at hbL;have:=h4 i (by omega) b hbL;omega
theorem CopiedTo.owned {w:World} {g:Nat} {ts:List Tr} (h:CopiedTo w g ts ts.length) (hlen:ts.length * 96 ≤ 140737488351232) (hf:∃ cs ty,w.heap[g]? = some (.cells cs ty (0,0))) (cap:Nat) :
   ∃ F,Owned w (.slice (some ⟨g,0,none⟩) ts.length cap) ts F∧∀ b,b ∈ F→g ≤ b:=by
 obtain ⟨S,L,h1,h2,h3,h4⟩:=h
 refine ⟨_,.row g 0 cap ts S L hlen hf (fun i t hi=>by rw [Nat.zero_add];exact (h1 i t (lt_of_some hi) hi).1) (fun i t hi=>(h1 i t (lt_of_some hi) hi).2) (fun i hi hm=>absurd (h2 i hi g hm) (by omega)) h3,fun b hb=>?_⟩
 rcases List.mem_cons.1 hb with rfl | hb
 · omega
 · obtain ⟨i,hi,hb⟩:=mem_range_flatMap.1 hb
   have:=h2 i hi b hb;omega
theorem row_setCells {b n:Nat} {ty:TypeId} : ∀ {vs:List Value} {o:Nat} {w:World} {C:Array Value},w.heap[b]? = some (.cells C ty)→C.size=n→∃ C':Array Value,(w.setCells b o vs).heap[b]? = some (.cells C' ty)∧C'.size=n
 | [],_,_,C,h,hn=>⟨C,h,hn⟩
 | v :: r,o,w,C,h,hn=>by
   rw [World.setCells]
   exact row_setCells (vs:=r) (o:=o+1) (C:=C.setIfInBounds o v) (by simp [World.setCell,Array.getElem?_modify,h]) (by simpa using hn)
theorem setCells_below {B b:Nat} {a w:World} (h:Below B a w) (hb:B ≤ b) (o:Nat) (vs:List Value):Below B a (w.setCells b o vs):=by
 obtain ⟨h1,h2,h3⟩:=streams_setCells b vs o w
 exact h.trans ⟨h1,h2,h3,by rw [size_setCells];omega,fun k hk=>heap_setCells_other (by omega) _ _ _⟩
theorem make_nodes (n:Nat) (hn:n * 96 ≤ 140737488351232):∃ CS:Array Value,CS.size=n * 10∧∀ w:World,(Instr.makeSlice 35 (.int .i64 n) (.int .i64 n)).run Tryd.prog w=.ok (.slice (some ⟨w.heap.size,0,none⟩) n n) (w.alloc (.cells CS 37)):=by
 obtain ⟨ie,hi,hz0,hz1,hz2⟩:=info_parts Tryd.infoNode
 refine ⟨madeCells (Value.agg #[.int .i64 0,.int .u64 0,.int .u64 0,.int .u64 0,.int .u64 0,.slice none 0 0,.int .i64 0,.int .i64 0,.int .i64 0,.bool false]).cells (n * 10),size_madeCells _ _,fun w=>?_⟩
 have h:=run_make (P:=Tryd.prog) w 35 37 ie _ Tryd.underlying35 hi hz0 .i64 .i64 n n (by omega) (Int.le_refl _) (by rw [hz2];omega) (by omega)
 simp only [Int.toNat_natCast,hz1] at h
 exact h
theorem copies_of (ts:List Tr) (ih:∀ u,u ∈ ts→∀ (w:World) (B:Nat→Prop) (v:Value),NodeV w B v u→Calls Tryd.prog 81 #[v] w (OwnEnd u w)) (w:World) (B:Nat→Prop) (v:Value) (hs:TreesAt w B v ts) :
   Calls Tryd.prog 59 #[v] w (OwnsEnd ts w):=by
 obtain ⟨p,cap,rfl,hlen⟩:=hs.slice
 by_cases h0:ts.length=0
 · obtain rfl:=List.length_eq_zero_iff.1 h0
   simp only [List.length_nil] at *
   clear hs
   go_enter Tryd.func59,Tryd.ntmps59
   go_wp2
   go_ret
   exact ⟨_,[],rfl,.nil _ _,fun b hb=>(by cases hb),Below.refl _ _⟩
 · have e0:((ts.length:Int) == 0)=false:=by simp;exact fun h=>h0 (by rw [h];rfl)
   obtain ⟨CS,hCS,hmk⟩:=make_nodes ts.length hlen
   have IH:=Lib.hid ih;have HS:=Lib.hid hs;have HCS:=Lib.hid hCS;have H0:=Lib.hid h0
   clear ih hs hCS h0
   go_enter Tryd.func59,Tryd.ntmps59
   go_wp2
   go_loopw [14] (fun iv wr=>∃ m:Nat,iv=.int .i64 m∧m ≤ ts.length∧Hid (Below w.heap.size w wr)∧w.heap.size < wr.heap.size∧Hid (∃ C:Array Value,wr.heap[w.heap.size]? = some (.cells C 37)∧C.size=ts.length * 10)∧Hid (CopiedTo wr w.heap.size ts m)) (fun iv _=>ts.length - (intOf iv).toNat)
   case atStart=>exact ⟨0,rfl,Nat.zero_le _,Lib.hid (by go_grown),by simp,Lib.hid ⟨CS,heap_alloc_new _ _,HCS.out⟩,Lib.hid (CopiedTo.zero _ _ _)⟩
   case round =>
     obtain ⟨m,rfl,hm,HB,hsz,HC,HD⟩:=hrel
     have wm:IntKind.i64.wrap ((m:Int)+1)=(m:Int)+1:=IntWalk.i64_in _ (by omega)
     by_cases hlt:m < ts.length
     · obtain ⟨x,hx⟩:∃ x,ts[m]? = some x:=⟨_,List.getElem?_eq_getElem hlt⟩
       obtain ⟨b1,o1,s1,rfl,-,t1,sub1⟩:=HS.out.get hx
       obtain ⟨d0,d1,d2,d3,d4,d5,d6,d7,d8,d9⟩:=t1.keep (HB.out.block _ t1.lt)
       obtain ⟨p1,c1,rfl,hl1⟩:=sub1.slice
       have HCALL:=Lib.hid (fun w9 hb=>IH.out x (List.mem_of_getElem? hx) w9 B (.agg (x.cells (.slice p1 x.subs.length c1))) ⟨_,rfl,sub1.later hb⟩)
       have HX:=Lib.hid hx
       clear t1 sub1 hx
       go_wp2_with fail
       generalize hw1:World.alloc wr _=w1
       have hb1:Below wr.heap.size wr w1:=by rw [← hw1];exact (Below.refl _ _).alloc (Nat.le_refl _) _
       clear hw1
       refine (HCALL.out w1 (HB.out.trans (hb1.mono HB.out.size))).mono ?_
       rintro e w2 ⟨s2,F2,rfl,ho2,hF2,hb2⟩
       obtain ⟨p2,c2,rfl,hl2⟩:=ho2.slice
       have hb12:Below wr.heap.size wr w2:=hb1.trans (hb2.mono hb1.size)
       obtain ⟨C,hC1,hC2⟩:=HC.out
       have hC3:=keep_blk hb12 hC1
       have hth:w2.there w.heap.size (m * 10) 10:=there_row hC3 (by omega)
       have HTH:=Lib.hid hth
       have HST:=Lib.hid (HD.out.step HX.out hb12 hsz ho2 (fun b hb=>Nat.le_trans hb1.size (hF2 b hb)) hth)
       have HB2:=Lib.hid (HB.out.trans (hb12.mono HB.out.size))
       have HC4:Hid (∃ C:Array Value,(w2.setCells w.heap.size (m * 10) (x.cells (.slice p2 x.subs.length c2)).toList).heap[w.heap.size]? = some (.cells C 37)∧C.size=ts.length * 10):=Lib.hid (row_setCells hC3 hC2)
       have hs2:w.heap.size < w2.heap.size:=Nat.lt_of_lt_of_le hsz hb12.size
       clear hb1 hb2 hb12 ho2 hF2 hC1 hC2 hC3 hth d0 d1 d2 d3 d4 d5 d6 d7 d8 d9
       go_wp2_with (first
         | (refine wpList_store_mid rfl 37 (.tmp 23) (.tmp 22) rfl w.heap.size (m * 10) (x.cells (.slice p2 x.subs.length c2)) rfl rfl HTH.out (by kernel_rfl) (nodeC_all _ _ _ _) ?_;generalize hw3:World.setCells w2 _ _ _=w3;have HW3:=Lib.hid hw3;clear hw3)
         | fail)
       rw [← HW3.out]
       refine ⟨⟨m+1,by go_num,by omega,Lib.hid (setCells_below HB2.out (Nat.le_refl _) _ _),by rw [size_setCells];exact hs2,HC4,HST⟩,by simp [intOf];omega⟩
     · obtain rfl:m=ts.length:=by omega
       go_wp2
       go_ret
       obtain ⟨C,hC1,-⟩:=HC.out
       obtain ⟨F,hF,hF2⟩:=HD.out.owned hlen ⟨C,_,hC1⟩ ts.length
       exact ⟨_,F,rfl,hF,hF2,HB.out⟩
theorem copy_any:∀ t:Tr,∀ (w:World) (B:Nat→Prop) (v:Value),NodeV w B v t→Calls Tryd.prog 81 #[v] w (OwnEnd t w):=by
 intro t
 induction t using Tr.rec_subs with
 | h t ih =>
   intro w B v hv
   obtain ⟨s,rfl,hs⟩:=hv
   obtain ⟨p,cap,rfl,hlen⟩:=hs.slice
   have HC:=Lib.hid (fun w9 (hb:Below w.heap.size w w9)=>copies_of t.subs ih w9 B _ (hs.later hb))
   cases t with | node k a b c d ts n lo hi br =>
   simp only [Tr.cells,Tr.kind,Tr.w0,Tr.w1,Tr.w2,Tr.w3,Tr.num,Tr.least,Tr.most,Tr.bare,Tr.subs] at *
   clear ih hs
   go_enter Tryd.func81,Tryd.ntmps81
   go_wp2_with fail
   obtain ⟨z0,z1⟩:=two_new w (.cells #[.int .i64 k,.int .u64 (Oc.U a),.int .u64 (Oc.U b),.int .u64 (Oc.U c),.int .u64 (Oc.U d),.slice p ts.length cap,.int .i64 n,.int .i64 lo,.int .i64 hi,.bool br] 37) (.cells #[.int .i64 0,.int .u64 0,.int .u64 0,.int .u64 0,.int .u64 0,.slice none 0 0,.int .i64 0,.int .i64 0,.int .i64 0,.bool false] 37)
   have hb1:Below w.heap.size w ((w.alloc (.cells #[.int .i64 k,.int .u64 (Oc.U a),.int .u64 (Oc.U b),.int .u64 (Oc.U c),.int .u64 (Oc.U d),.slice p ts.length cap,.int .i64 n,.int .i64 lo,.int .i64 hi,.bool br] 37)).alloc (.cells #[.int .i64 0,.int .u64 0,.int .u64 0,.int .u64 0,.int .u64 0,.slice none 0 0,.int .i64 0,.int .i64 0,.int .i64 0,.bool false] 37)):=by go_grown
   have hs1:((w.alloc (.cells #[.int .i64 k,.int .u64 (Oc.U a),.int .u64 (Oc.U b),.int .u64 (Oc.U c),.int .u64 (Oc.U d),.slice p ts.length cap,.int .i64 n,.int .i64 lo,.int .i64 hi,.bool br] 37)).alloc (.cells #[.int .i64 0,.int .u64 0,.int .u64 0,.int .u64 0,.int .u64 0,.slice none 0 0,.int .i64 0,.int .i64 0,.int .i64 0,.bool false] 37)).heap.size=w.heap.size+2:=by simp
   generalize World.alloc (World.alloc _ _) _=w1 at *
   have Z0:=Lib.hid z0;have Z1:=Lib.hid z1;have HB1:=Lib.hid hb1
   clear z0 z1 hb1
   refine (HC.out w1 HB1.out).mono ?_
   rintro e w2 ⟨s2,F,rfl,ho,hF,hb2⟩
   obtain ⟨p2,c2,rfl,hl2⟩:=ho.slice
   have HO:=Lib.hid ho;have HF:=Lib.hid hF
   have Y0:=Lib.hid (keep_blk hb2 Z0.out);have Y1:=Lib.hid (keep_blk hb2 Z1.out)
   have HB2:=Lib.hid (HB1.out.trans (hb2.mono HB1.out.size))
   obtain ⟨f5,g5⟩:=at5 Y0.out
   have Y0s:=Lib.hid (set5 (y:=.slice p2 ts.length c2) Y0.out)
   have Y1s:Hid ((w2.setCell ⟨w.heap.size,5,none⟩ (.slice p2 ts.length c2)).heap[w.heap.size+1]? = some (.cells #[.int .i64 0,.int .u64 0,.int .u64 0,.int .u64 0,.int .u64 0,.slice none 0 0,.int .i64 0,.int .i64 0,.int .i64 0,.bool false] 37)):=Lib.hid (by rw [Below.heap_setCell _ _ _ _ (by simp)];exact Y1.out)
   clear ho hF hb2
   go_wp2_with (first
     | (refine wpList_load_row rfl 37 (.tmp 1) rfl w.heap.size rfl 37 _ (0,0) _ Y0s.out Tryd.underlying37 rfl (by kernel_rfl) ?_)
     | (refine wpList_store_row rfl 37 (.tmp 2) (.tmp 7) rfl (w.heap.size+1) #[.int .i64 k,.int .u64 (Oc.U a),.int .u64 (Oc.U b),.int .u64 (Oc.U c),.int .u64 (Oc.U d),.slice p2 ts.length c2,.int .i64 n,.int .i64 lo,.int .i64 hi,.bool br] rfl rfl 37 _ Y1s.out (by kernel_rfl) rfl (by simp [Value.oneCell']) ?_)
     | fail)
   refine bodyPost_ret (results_cell_row rfl _ _ (w.heap.size+1) 37 #[.int .i64 k,.int .u64 (Oc.U a),.int .u64 (Oc.U b),.int .u64 (Oc.U c),.int .u64 (Oc.U d),.slice p2 ts.length c2,.int .i64 n,.int .i64 lo,.int .i64 hi,.bool br] (0,0) _ rfl (heap_setRow Y1s.out) Tryd.underlying37 rfl (by kernel_rfl)) rfl ⟨_,F,rfl, ?_, ?_, ?_⟩
   · exact HO.out.keep fun b hb=>by
       have:=HF.out b hb
       rw [heap_setRow_other _ _ _ (by omega),Below.heap_setCell _ _ _ _ (by simp;omega)]
   · intro b hb;have:=HF.out b hb;omega
   · exact below_setRow (HB2.out.setCell (Nat.le_refl _) _) (Nat.le_succ _) _
theorem copies_any (ts:List Tr) (w:World) (B:Nat→Prop) (v:Value) (hs:TreesAt w B v ts):Calls Tryd.prog 59 #[v] w (OwnsEnd ts w) :=
 copies_of ts (fun u _ w B v h=>copy_any u w B v h) w B v hs
end Go.Proofs.YtedjkbmfpjmlpaaDoor
namespace Go.Proofs.YtedjkbmfpjmlpaaDoor
open Go.RowKit
namespace Ri
def up {T:Type} (f:Nat→T) (i:Nat) (x:T):Nat→T:=fun j=>if j=i then x else f j
theorem up_same {T:Type} (f:Nat→T) (i:Nat) (x:T):up f i x i=x:=by simp [up]
theorem up_other {T:Type} (f:Nat→T) (i:Nat) (x:T) (j:Nat) (h:j ≠ i):up f i x j=f j:=by simp [up,h]
def backward (ops:Array Oper):Bool:=(List.range ops.size).all fun i=>((ops[i]?).map fun o=>o.after.all fun e=>!Region.binds .any e || decide (e.on < i)).getD true
variable {P:Program} {ops:Array Oper} {Q:Exit→Act→World→Prop}
theorem all_listed (hb:backward ops=true) {listed:Array Bool} (hr:Region.ready .any ops listed=[]) (hs:listed.size=ops.size):∀ i,i < ops.size→listed.getD i false=true:=by
 intro i
 induction i using Nat.strongRecOn with
 | _ i ih =>
   intro hi
   cases hl:listed.getD i false with
   | true=>rfl
   | false =>
     exfalso
     have hmem:i ∈ Region.ready .any ops listed:=by
       unfold Region.ready
       refine List.mem_filter.2 ⟨List.mem_range.2 hi, ?_⟩
       have h1:listed.getD i true=false:=by
         have:i < listed.size:=by omega
         simp only [Array.getD,this,dif_pos] at hl ⊢
         exact hl
       have ho:ops[i]? = some ops[i]:=Array.getElem?_eq_getElem hi
       rw [h1,ho]
       simp only [Bool.not_false,Bool.true_and,Option.map_some,Option.getD_some]
       rw [Array.all_eq_true_iff_forall_mem]
       intro e he
       cases hbi:Region.binds .any e with
       | false=>rfl
       | true =>
         have hlt:e.on < i:=by
           have h2:=List.all_eq_true.1 hb i (List.mem_range.2 hi)
           rw [ho] at h2
           simp only [Option.map_some,Option.getD_some] at h2
           have h3:=(Array.all_eq_true_iff_forall_mem.1 h2) e he
           rw [hbi] at h3
           simpa using h3
         simp [ih e.on hlt (by omega)]
     rw [hr] at hmem
     cases hmem
theorem wpAny_inv (hb:backward ops=true) (I:(Nat→Bool)→(Nat→Value)→World→Prop) (A:(Nat→Bool)→(Nat→Value)→Act)
   (step:∀ i,i < ops.size→∀ L v w,I L v w→L i=false→(∀ o,ops[i]? = some o→∀ e ∈ o.after,Region.binds .any e=true→L e.on=true) →
     wpOp P ops Q i (fun a' w'=>∃ u,a'=A (up L i true) (up v i u)∧I (up L i true) (up v i u) w') (A L v) w)
   (fin:∀ L v w,(∀ i,i < ops.size→L i=true)→I L v w→Q .normal (A L v) w) :
   ∀ (fuel:Nat) (U:List Nat) (listed:Array Bool) (v:Nat→Value) (w:World),listed.size=ops.size→U.length ≤ fuel→(∀ i,i < ops.size→listed.getD i false=false→i ∈ U) →
     I (fun i=>listed.getD i false) v w→wpAny P .any ops Q fuel listed (A (fun i=>listed.getD i false) v) w:=by
 intro fuel
 induction fuel with
 | zero =>
   intro U listed v w hs hU hin hI
   have hnil:U=[]:=List.eq_nil_of_length_eq_zero (by omega)
   subst hnil
   have hall:∀ i,i < ops.size→listed.getD i false=true:=fun i hi=>by
     cases h:listed.getD i false with
     | true=>rfl
     | false=>exact absurd (hin i hi h) (by simp)
   refine ⟨?_,fin _ v w hall hI⟩
   unfold Region.ready
   rw [List.filter_eq_nil_iff]
   intro i hi
   have hi':=List.mem_range.1 hi
   have h1:listed.getD i true=true:=by
     have h0:=hall i hi'
     have:i < listed.size:=by omega
     simp only [Array.getD,this,dif_pos] at h0 ⊢
     exact h0
   simp [h1]
 | succ fuel ih =>
   intro U listed v w hs hU hin hI
   refine ⟨fun hr=>fin _ v w (all_listed hb hr hs) hI,fun i hi=>?_⟩
   unfold Region.ready at hi
   obtain ⟨hir,hcond⟩:=List.mem_filter.1 hi
   have hin':=List.mem_range.1 hir
   have ho:ops[i]? = some ops[i]:=Array.getElem?_eq_getElem hin'
   rw [ho] at hcond
   simp only [Bool.and_eq_true,Option.map_some,Option.getD_some] at hcond
   obtain ⟨hl,hafter⟩:=hcond
   have hlf:listed.getD i false=false:=by
     have:i < listed.size:=by omega
     simp only [Array.getD,this,dif_pos] at hl ⊢
     simpa using hl
   have hst:=step i hin' (fun j=>listed.getD j false) v w hI hlf (fun o hoo e he hbi=>by
     rw [ho] at hoo;cases hoo
     have h3:=(Array.all_eq_true_iff_forall_mem.1 hafter) e he
     rw [hbi] at h3
     simpa using h3)
   refine wpOp_mono (fun a' w' h=>?_) hst
   obtain ⟨u,rfl,hI'⟩:=h
   have hup:(fun j=>(listed.setIfInBounds i true).getD j false)=up (fun j=>listed.getD j false) i true:=by
     funext j
     unfold up
     by_cases e:j=i
     · subst e
       have:j < (listed.setIfInBounds j true).size:=by simp;omega
       simp [Array.getD];omega
     · rw [if_neg e]
       simp only [Array.getD,Array.size_setIfInBounds]
       split
       · rename_i h;exact Array.getElem_setIfInBounds_ne h (Ne.symm e)
       · rfl
   have hmemU:i ∈ U:=hin i hin' hlf
   have:=ih (U.erase i) (listed.setIfInBounds i true) (up v i u) w' (by simpa using hs) (by rw [List.length_erase_of_mem hmemU];have:=List.length_pos_of_mem hmemU;omega)
     (fun j hj hjl=>by
       have hj2:(up (fun j=>listed.getD j false) i true) j=false:=by rw [← hup];exact hjl
       by_cases e:j=i
       · subst e;rw [up_same] at hj2;cases hj2
       · rw [up_other _ _ _ _ e] at hj2
         exact (List.mem_erase_of_ne e).2 (hin j hj hj2))
     (by rw [hup];exact hI')
   rw [hup] at this
   exact this
theorem wp_region_inv {id:Nat} {a:Act} {w:World} (hm:P.follows .mixedOrders=true) (hb:backward ops=true) (I:(Nat→Bool)→(Nat→Value)→World→Prop) (A:(Nat→Bool)→(Nat→Value)→Act)
   (ha:a=A (fun _=>false) (fun _=>undef)) (hi:I (fun _=>false) (fun _=>undef) w.drew)
   (step:∀ i,i < ops.size→∀ L v w,I L v w→L i=false→(∀ o,ops[i]? = some o→∀ e ∈ o.after,Region.binds .any e=true→L e.on=true) →
     wpOp P ops Q i (fun a' w'=>∃ u,a'=A (up L i true) (up v i u)∧I (up L i true) (up v i u) w') (A L v) w)
   (fin:∀ L v w,(∀ i,i < ops.size→L i=true)→I L v w→Q .normal (A L v) w) :
   (Code.region id ops true).wp P Q a w:=by
 refine wp_region_any hm ?_
 have hz:(fun i=>(Array.replicate ops.size false).getD i false)=fun _=>false:=by
   funext i;simp only [Array.getD,Array.size_replicate];split <;> simp
 have:=wpAny_inv (P:=P) hb I A step fin ops.size (List.range ops.size) (Array.replicate ops.size false) (fun _=>undef) w.drew (by simp) (by simp) (fun i hi _=>List.mem_range.2 hi) (by rw [hz];exact hi)
 rw [hz,← ha] at this
 exact this
def frame (ops:Array Oper) (a:Act) (L:Nat→Bool) (v:Nat→Value):Act :=
 { a with tmps:=ops.toList.zipIdx.foldl (fun t p=>match p.1.dst with | some d=>if L p.2 then t.setIfInBounds d (v p.2) else t | none=>t) a.tmps }
def apart (ops:Array Oper):Bool:=(ops.toList.filterMap (·.dst)).eraseDups.length == (ops.toList.filterMap (·.dst)).length && ops.toList.zipIdx.all fun p=>ops.toList.zipIdx.all fun q=>p.2 == q.2 || p.1.dst == none || p.1.dst != q.1.dst
theorem fold_size (L:Nat→Bool) (v:Nat→Value):∀ (l:List (Oper × Nat)) (t:Array Value),
   (l.foldl (fun t p=>match p.1.dst with | some d=>if L p.2 then t.setIfInBounds d (v p.2) else t | none=>t) t).size=t.size:=by
 intro l
 induction l with
 | nil=>intro t;rfl
 | cons p l ih =>
   intro t
   rw [List.foldl_cons,ih]
   split
   · split <;> simp
   · rfl
theorem fold_other (L:Nat→Bool) (v:Nat→Value) (s:Nat):∀ (l:List (Oper × Nat)) (t:Array Value),(∀ p ∈ l,p.1.dst ≠ some s) →
   (l.foldl (fun t p=>match p.1.dst with | some d=>if L p.2 then t.setIfInBounds d (v p.2) else t | none=>t) t)[s]? = t[s]?:=by
 intro l
 induction l with
 | nil=>intro t _;rfl
 | cons p l ih =>
   intro t h
   rw [List.foldl_cons,ih _ (fun q hq=>h q (List.mem_cons_of_mem _ hq))]
   have hp:=h p (List.mem_cons_self ..)
   split
   · rename_i d hd
     split
     · rw [Array.getElem?_setIfInBounds_ne];intro e;subst e;exact hp hd
     · rfl
   · rfl
theorem fold_own (L:Nat→Bool) (v:Nat→Value) (s:Nat) (i:Nat):∀ (l:List (Oper × Nat)) (t:Array Value),s < t.size→(∃ p ∈ l,p.1.dst=some s∧p.2=i)→(∀ p ∈ l,p.1.dst=some s→p.2=i) →
   (l.foldl (fun t p=>match p.1.dst with | some d=>if L p.2 then t.setIfInBounds d (v p.2) else t | none=>t) t)[s]? = if L i then some (v i) else t[s]?:=by
 intro l
 induction l with
 | nil=>rintro t _ ⟨p,hp,_⟩ _;cases hp
 | cons p l ih =>
   intro t hs hex hun
   rw [List.foldl_cons]
   by_cases hp:p.1.dst=some s
   · have hi:=hun p (List.mem_cons_self ..) hp
     rw [hp,hi]
     simp only []
     by_cases hl:∃ q ∈ l,q.1.dst=some s∧q.2=i
     · rw [ih _ (by split <;> simpa using hs) hl (fun q hq=>hun q (List.mem_cons_of_mem _ hq))]
       cases L i <;> simp
     · rw [fold_other L v s l _ (fun q hq e=>hl ⟨q,hq,e,hun q (List.mem_cons_of_mem _ hq) e⟩)]
       cases L i <;> simp [hs]
   · obtain ⟨q,hq,hqd,hqi⟩:=hex
     rcases List.mem_cons.1 hq with rfl | hq
     · exact absurd hqd hp
     · have hne:∀ d,p.1.dst=some d→d ≠ s:=fun d hd e=>hp (by rw [hd,e])
       rw [ih _ (by split <;> (try split) <;> simpa using hs) ⟨q,hq,hqd,hqi⟩ (fun q hq=>hun q (List.mem_cons_of_mem _ hq))]
       congr 1
       split
       · rename_i d hd
         split
         · rw [Array.getElem?_setIfInBounds_ne (hne d hd)]
         · rfl
       · rfl
theorem mem_zip {ops:Array Oper} {p:Oper × Nat} (h:p ∈ ops.toList.zipIdx):ops[p.2]? = some p.1:=by
 obtain ⟨_,_,h3⟩:=List.mem_zipIdx (x:=p.1) (i:=p.2) (k:=0) h
 rw [Array.getElem?_eq_some_iff]
 exact ⟨by rename_i h2;simpa using h2,by rw [h3];simp⟩
theorem zip_mem {ops:Array Oper} {i:Nat} {o:Oper} (h:ops[i]? = some o):(o,i) ∈ ops.toList.zipIdx:=by
 rw [List.mem_zipIdx_iff_getElem?]
 simpa using h
theorem apart_un (hap:apart ops=true) {i j:Nat} {o o':Oper} {d:Nat} (hi:ops[i]? = some o) (hj:ops[j]? = some o') (h1:o.dst=some d) (h2:o'.dst=some d):i=j:=by
 unfold apart at hap
 rw [Bool.and_eq_true] at hap
 have h3:=List.all_eq_true.1 (List.all_eq_true.1 hap.2 _ (zip_mem hi)) _ (zip_mem hj)
 simpa [h1,h2] using h3
theorem frame_size (a:Act) (L:Nat→Bool) (v:Nat→Value):(frame ops a L v).tmps.size=a.tmps.size:=fold_size L v _ _
theorem frame_own (hap:apart ops=true) (a:Act) (L:Nat→Bool) (v:Nat→Value) {i d:Nat} {o:Oper} (ho:ops[i]? = some o) (hd:o.dst=some d) (hs:d < a.tmps.size) :
   (frame ops a L v).tmps[d]? = if L i then some (v i) else a.tmps[d]? :=
 fold_own L v d i _ _ hs ⟨_,zip_mem ho,hd,rfl⟩ (fun _ hp e=>(apart_un hap ho (mem_zip hp) hd e).symm)
theorem frame_other (a:Act) (L:Nat→Bool) (v:Nat→Value) {d:Nat} (h:∀ (i:Nat) (o:Oper),ops[i]? = some o→o.dst ≠ some d):(frame ops a L v).tmps[d]? = a.tmps[d]? :=
 fold_other L v d _ _ (fun p hp=>h p.2 p.1 (mem_zip hp))
theorem frame_put (hap:apart ops=true) (a:Act) (L:Nat→Bool) (v:Nat→Value) {i:Nat} {o:Oper} (ho:ops[i]? = some o) (u:Value) :
   (frame ops a L v).put o.dst u=frame ops a (up L i true) (up v i u):=by
 have key:∀ s:Nat,((frame ops a L v).put o.dst u).tmps[s]? = (frame ops a (up L i true) (up v i u)).tmps[s]?:=by
   intro s
   by_cases hs:s < a.tmps.size
   · by_cases hex:∃ (j:Nat) (o':Oper),ops[j]? = some o'∧o'.dst=some s
     · obtain ⟨j,o',hj,hd⟩:=hex
       rw [frame_own hap a _ _ hj hd hs]
       by_cases e:j=i
       · subst e
         rw [ho] at hj;cases hj
         rw [hd,up_same,up_same]
         simp only [Act.put,if_true]
         rw [Array.getElem?_setIfInBounds_self,if_pos (by rw [frame_size];exact hs)]
       · rw [up_other _ _ _ _ e,up_other _ _ _ _ e,← frame_own hap a L v hj hd hs]
         cases hod:o.dst with
         | none=>rfl
         | some d =>
           simp only [Act.put]
           rw [Array.getElem?_setIfInBounds_ne]
           intro e';subst e';exact e (apart_un hap hj ho hd hod)
     · have hno:∀ (j:Nat) (o':Oper),ops[j]? = some o'→o'.dst ≠ some s:=fun j o' h1 h2=>hex ⟨j,o',h1,h2⟩
       rw [frame_other a _ _ hno,← frame_other a L v hno]
       cases hod:o.dst with
       | none=>rfl
       | some d =>
         simp only [Act.put]
         rw [Array.getElem?_setIfInBounds_ne]
         intro e';subst e';exact hno i o ho hod
   · have h1:(frame ops a (up L i true) (up v i u)).tmps[s]? = none:=Array.getElem?_eq_none (by rw [frame_size];omega)
     have h2:((frame ops a L v).put o.dst u).tmps[s]? = none:=by
       refine Array.getElem?_eq_none ?_
       cases o.dst <;> simp [Act.put,frame_size] <;> omega
     rw [h1,h2]
 have ht:((frame ops a L v).put o.dst u).tmps=(frame ops a (up L i true) (up v i u)).tmps:=Array.ext_getElem? key
 have hd:((frame ops a L v).put o.dst u).defers=(frame ops a (up L i true) (up v i u)).defers:=by cases o.dst <;> rfl
 generalize (frame ops a L v).put o.dst u=x at *
 generalize frame ops a (up L i true) (up v i u)=y at *
 cases x;cases y;simp_all
theorem fold_none (v:Nat→Value):∀ (l:List (Oper × Nat)) (t:Array Value),
   l.foldl (fun t p=>match p.1.dst with | some d=>if (fun _:Nat=>false) p.2 then t.setIfInBounds d (v p.2) else t | none=>t) t=t:=by
 intro l
 induction l with
 | nil=>intro t;rfl
 | cons p l ih=>intro t;rw [List.foldl_cons];cases p.1.dst <;> exact ih t
theorem wp_region_frame {id:Nat} {a:Act} {w:World} (hm:P.follows .mixedOrders=true) (hb:backward ops=true) (hap:apart ops=true) (hsz0:(ops.toList.all fun o=>o.dst.all fun d=>decide (d < a.tmps.size))=true)
   (I:(Nat→Bool)→(Nat→Value)→World→Prop)
   (hi:I (fun _=>false) (fun _=>undef) w.drew)
   (step:∀ i,i < ops.size→∀ L v w (a':Act),I L v w→L i=false→(∀ o,ops[i]? = some o→∀ e ∈ o.after,Region.binds .any e=true→L e.on=true) →
     (∀ j d:Nat,(ops[j]?).bind (·.dst)=some d→L j=true→a'.tmps.getD d undef=v j)→(∀ d,ops.toList.all (fun o=>o.dst != some d)=true→a'.tmps.getD d undef=a.tmps.getD d undef) →
     wpOp P ops Q i (fun b w'=>∃ (o:Oper) (u:Value),ops[i]? = some o∧b=a'.put o.dst u∧I (up L i true) (up v i u) w') a' w)
   (fin:∀ v w,I (fun i=>decide (i < ops.size)) v w→Q .normal (frame ops a (fun _=>true) v) w) :
   (Code.region id ops true).wp P Q a w:=by
 have hsz:∀ (i:Nat) (o:Oper) (d:Nat),ops[i]? = some o→o.dst=some d→d < a.tmps.size:=fun i o d h1 h2=>by
   have:=List.all_eq_true.1 hsz0 o (Array.mem_toList_iff.2 (Array.mem_of_getElem? h1))
   rw [h2] at this
   simpa using this
 refine wp_region_inv hm hb (fun L v w=>I L v w∧∀ i,ops.size ≤ i→L i=false) (frame ops a) ?_ ⟨hi,fun _ _=>rfl⟩ ?_ ?_
 · have:=fold_none (fun _=>undef) ops.toList.zipIdx a.tmps
   unfold frame;rw [show (List.foldl _ a.tmps _)=a.tmps from this]
 · intro i hin L v w ⟨hI,hL⟩ hLi hd
   refine wpOp_mono ?_ (step i hin L v w (frame ops a L v) hI hLi hd ?_ ?_)
   · rintro b w' ⟨o,u,ho,rfl,hI'⟩
     exact ⟨u,frame_put hap a L v ho u,hI',fun j hj=>by rw [up_other _ _ _ _ (by omega)];exact hL j hj⟩
   · intro j d hjd hlj
     obtain ⟨o,ho,hod⟩:=Option.bind_eq_some_iff.1 hjd
     have hs:=hsz j o d ho hod
     have:=frame_own hap a L v ho hod hs
     rw [hlj,if_pos rfl] at this
     rw [Array.getD_eq_getD_getElem?,this];rfl
   · intro d hall
     have hno:∀ (j:Nat) (o:Oper),ops[j]? = some o→o.dst ≠ some d:=fun j o ho=>by
       have:=List.all_eq_true.1 hall o (Array.mem_toList_iff.2 (Array.mem_of_getElem? ho))
       simpa using this
     rw [Array.getD_eq_getD_getElem?,Array.getD_eq_getD_getElem?,frame_other a L v hno]
 · intro L v w hall ⟨hI,hL⟩
   have e:L=fun i=>decide (i < ops.size):=by
     funext i
     by_cases h:i < ops.size
     · rw [hall i h];simp [h]
     · rw [hL i (by omega)];simp [h]
   have e2:frame ops a L v=frame ops a (fun _=>true) v:=by
     have:∀ s:Nat,(frame ops a L v).tmps[s]? = (frame ops a (fun _=>true) v).tmps[s]?:=by
       intro s
       by_cases hex:∃ (j:Nat) (o':Oper),ops[j]? = some o'∧o'.dst=some s
       · obtain ⟨j,o',hj,hd⟩:=hex
         have hs:=hsz j o' s hj hd
         rw [frame_own hap a _ _ hj hd hs,frame_own hap a _ _ hj hd hs,hall j (Array.getElem?_eq_some_iff.1 hj).1]
       · have hno:∀ (j:Nat) (o':Oper),ops[j]? = some o'→o'.dst ≠ some s:=fun j o' h1 h2=>hex ⟨j,o',h1,h2⟩
         rw [frame_other a _ _ hno,frame_other a _ _ hno]
     have ht:=Array.ext_getElem? this
     have hd:(frame ops a L v).defers=(frame ops a (fun _=>true) v).defers:=rfl
     generalize frame ops a L v=x at *
     generalize frame ops a (fun _=>true) v=y at *
     cases x;cases y;simp_all
   rw [e2]
   exact fin v w (e ▸ hI)
theorem step_plain {i:Nat} {o:Oper} {K:Act→World→Prop} {a:Act} {w:World} (ho:ops[i]? = some o) (hg:o.guard=none)
   (h:∀ K':Act→World→Prop,(∀ a w,K a w→K' a w)→Oper.wp P o a w K' Q):wpOp P ops Q i K a w :=
 wpOp_step ho fun K' hK=>by rw [if_pos (by simp [Region.wanted,hg])];exact h K' hK
end Ri
end Go.Proofs.YtedjkbmfpjmlpaaDoor
namespace Go.Proofs.YtedjkbmfpjmlpaaDoor
open Go.RowKit
def el (n m k:Nat):Nat:=if m ≤ k∧k+m < n then k else n - 1 - k
theorem el_zero {n k:Nat} (h:k < n):el n 0 k=k:=by unfold el;rw [if_pos (by omega)]
theorem el_end {n m k:Nat} (h:n ≤ m+m+1) (hk:k < n):el n m k=n - 1 - k:=by unfold el;split <;> omega
theorem el_front {n m:Nat} (h:m+m+1 < n):el n m m=m:=by unfold el;rw [if_pos (by omega)]
theorem el_back {n m:Nat} (h:m+m+1 < n):el n m (n - 1 - m)=n - 1 - m:=by unfold el;rw [if_pos (by omega)]
theorem el_front' {n m:Nat} (_h:m+m+1 < n):el n (m+1) m=n - 1 - m:=by unfold el;rw [if_neg (by omega)]
theorem el_back' {n m:Nat} (h:m+m+1 < n):el n (m+1) (n - 1 - m)=m:=by unfold el;rw [if_neg (by omega)];omega
theorem el_else {n m k:Nat} (_h:m+m+1 < n) (h1:k ≠ m) (h2:k ≠ n - 1 - m) (hk:k < n):el n (m+1) k=el n m k:=by
 unfold el
 by_cases h3:m ≤ k∧k+m < n
 · rw [if_pos h3,if_pos (by omega)]
 · rw [if_neg h3,if_neg (by omega)]
theorem TenAt.range {w:World} {g o:Nat} {t:Tr} {s:Value} (h:TenAt w g o t s):w.rangeAt g o (t.cells s).toList:=by
 intro j u hu
 have hj:j < 10:=by
   have h9:=(List.getElem?_eq_some_iff.1 hu).1
   simpa [Tr.cells] using h9
 have:j=0 ∨ j=1 ∨ j=2 ∨ j=3 ∨ j=4 ∨ j=5 ∨ j=6 ∨ j=7 ∨ j=8 ∨ j=9:=by omega
 rcases this with rfl | rfl | rfl | rfl | rfl | rfl | rfl | rfl | rfl | rfl
 all_goals
   simp [Tr.cells] at hu
   subst hu
 · exact h.c0
 · exact h.c1
 · exact h.c2
 · exact h.c3
 · exact h.c4
 · exact h.c5
 · exact h.c6
 · exact h.c7
 · exact h.c8
 · exact h.c9
theorem turev_any (g o cap:Nat) (ts:List Tr) (S:Nat→Value) (w:World) (hlen:ts.length * 96 ≤ 140737488351232) (hf:∃ cs ty,w.heap[g]? = some (.cells cs ty (0,0))) (hS:∀ i,i < ts.length→∃ p l c,S i=.slice p l c)
   (hc:∀ i t,ts[i]? = some t→TenAt w g (o+i * 10) t (S i)) :
   Calls Tryd.prog 120 #[.slice (some ⟨g,o,none⟩) ts.length cap] w fun e w'=>e=.returned (.tuple #[])∧Touch [g] w w'∧(∃ cs ty,w'.heap[g]? = some (.cells cs ty (0,0))) ∧
     ∀ k t,k < ts.length→ts[ts.length - 1 - k]? = some t→TenAt w' g (o+k * 10) t (S (ts.length - 1 - k)):=by
 have HC:=Lib.hid hc;have HS:=Lib.hid hS;have HF:=Lib.hid hf
 have w1:IntKind.i64.wrap ((ts.length:Int) - 1)=(ts.length:Int) - 1:=IntWalk.i64_in _ (by omega)
 clear hc hS hf
 go_enter Tryd.func120,Tryd.ntmps120
 go_wp2
 go_loopw [2,3] (fun iv jv wr=>∃ m:Nat,iv=.int .i64 (m:Int)∧jv=.int .i64 ((ts.length:Int) - 1 - (m:Int))∧m ≤ ts.length∧Hid (Touch [g] w wr)∧Hid (∃ cs ty,wr.heap[g]? = some (.cells cs ty (0,0)))∧Hid (∀ k t,k < ts.length→ts[el ts.length m k]? = some t→TenAt wr g (o+k * 10) t (S (el ts.length m k)))) (fun iv _ _=>ts.length - (intOf iv).toNat)
 case atStart=>exact ⟨0,rfl,by simp,Nat.zero_le _,Lib.hid ⟨rfl,rfl,rfl,Nat.le_refl _,fun _ _ _=>rfl⟩,HF,Lib.hid fun k t hk ht=>by rw [el_zero hk] at ht ⊢;exact HC.out k t ht⟩
 case round =>
   obtain ⟨m,rfl,rfl,hm,HT,HFR,HR⟩:=hrel
   by_cases hlt:m+m+1 < ts.length
   · obtain ⟨j,hj⟩:∃ j,j=ts.length - 1 - m:=⟨_,rfl⟩
     have hji:(ts.length:Int) - 1 - (m:Int)=(j:Int):=by omega
     rw [hji]
     have hjn:j < ts.length:=by omega
     have hmn:m < ts.length:=by omega
     have hmj:m < j:=by omega
     have hd1:decide ((m:Int) < (j:Int))=true:=decide_eq_true (by omega)
     have wm:IntKind.i64.wrap ((m:Int)+1)=(m:Int)+1:=IntWalk.i64_in _ (by omega)
     have wj:IntKind.i64.wrap ((j:Int) - 1)=(j:Int) - 1:=IntWalk.i64_in _ (by omega)
     obtain ⟨x,hx⟩:∃ x,ts[m]? = some x:=⟨_,List.getElem?_eq_getElem hmn⟩
     obtain ⟨y,hy⟩:∃ y,ts[j]? = some y:=⟨_,List.getElem?_eq_getElem hjn⟩
     have tx:=HR.out m x hmn (by rw [el_front hlt];exact hx)
     have ty:=HR.out j y hjn (by rw [hj,el_back hlt,← hj];exact hy)
     rw [el_front hlt] at tx
     rw [hj,el_back hlt,← hj] at ty
     obtain ⟨px,lx,cx,ex⟩:=HS.out m hmn
     obtain ⟨py,ly,cy,ey⟩:=HS.out j hjn
     have hthx:=tx.there HFR.out
     have hthy:=ty.there HFR.out
     have TX:=Lib.hid tx;have TY:=Lib.hid ty;have HX:=Lib.hid hx;have HY:=Lib.hid hy;have HJ:=Lib.hid hj;have HLT:=Lib.hid hlt
     have RX:=Lib.hid tx.range;have RY:=Lib.hid ty.range
     have HTHX:=Lib.hid hthx;have HTHY:=Lib.hid hthy
     have EX:=Lib.hid ex;have EY:=Lib.hid ey
     rw [ex] at RX;rw [ey] at RY
     clear tx ty hthx hthy hx hy hj hji ex ey
     go_upto_region 3 with (fail)
     obtain ⟨XL,hXL⟩:∃ L,L=(x.cells (.slice px lx cx)):=⟨_,rfl⟩
     obtain ⟨YL,hYL⟩:∃ L,L=(y.cells (.slice py ly cy)):=⟨_,rfl⟩
     rw [← hXL] at RX;rw [← hYL] at RY
     have sx:XL.size=10:=by rw [hXL];rfl
     have sy:YL.size=10:=by rw [hYL];rfl
     have ox:XL.all (·.oneCell')=true:=by rw [hXL];exact nodeC_all _ _ _ _
     have oy:YL.all (·.oneCell')=true:=by rw [hYL];exact nodeC_all _ _ _ _
     have lx9:(XL.toList).length=10:=by simpa using sx
     have ly9:(YL.toList).length=10:=by simpa using sy
     have HXL:=Lib.hid hXL;have HYL:=Lib.hid hYL
     clear hXL hYL
     obtain ⟨W1,hW1⟩:∃ W1,W1=wr.drew.setCells g (o+m * 10) YL.toList:=⟨_,rfl⟩
     obtain ⟨W2,hW2⟩:∃ W2,W2=W1.setCells g (o+j * 10) XL.toList:=⟨_,rfl⟩
     have RX0:Hid (wr.drew.rangeAt g (o+m * 10) XL.toList):=RX
     have RY0:Hid (wr.drew.rangeAt g (o+j * 10) YL.toList):=RY
     have TH0:Hid (wr.drew.there g (o+m * 10) 10):=HTHX
     have TH1:Hid (W1.there g (o+j * 10) 10):=Lib.hid (by
       rw [hW1];intro q hq
       have h1:=HTHY.out q hq
       refine ⟨?_,frozen_of (cells_setCells _ _ _ HFR.out)⟩
       rw [World.cell?_setCells_out g _ _ _ _ (fun _ _=>by simp;omega)]
       exact h1.1)
     refine Ri.wp_region_frame (by kernel_rfl) (by kernel_rfl) (by kernel_rfl) (by kernel_rfl)
       (fun L v w'=>(L 13=false→w'=wr.drew∧L 15=false)∧(L 13=true→L 7=true∧L 11=true)∧(L 13=true→L 15=false→w'=W1)∧(L 15=true→w'=W2∧L 13=true) ∧
         (L 0=true→v 0=.slice (some ⟨g,o,none⟩) ts.length cap)∧(L 1=true→v 1=.int .i64 (m:Int))∧(L 2=true→v 2=.slice (some ⟨g,o,none⟩) ts.length cap)∧(L 3=true→v 3=.int .i64 (j:Int))∧(L 4=true→v 4=.slice (some ⟨g,o,none⟩) ts.length cap)∧(L 5=true→v 5=.int .i64 (j:Int))∧(L 6=true→v 6=.pointer (some ⟨g,o+j * 10,none⟩))∧(L 7=true→v 7=.agg YL) ∧
         (L 8=true→v 8=.slice (some ⟨g,o,none⟩) ts.length cap)∧(L 9=true→v 9=.int .i64 (m:Int))∧(L 10=true→v 10=.pointer (some ⟨g,o+m * 10,none⟩))∧(L 11=true→v 11=.agg XL)∧(L 12=true→v 12=.pointer (some ⟨g,o+m * 10,none⟩))∧(L 14=true→v 14=.pointer (some ⟨g,o+j * 10,none⟩)))
       ?_ ?_ ?_
     · exact ⟨fun _=>⟨rfl,rfl⟩,by simp,by simp,by simp,by simp,by simp,by simp,by simp,by simp,by simp,by simp,by simp,by simp,by simp,by simp,by simp,by simp,by simp⟩
     · intro i hi9 L v w9 xa hI hL hd hv ho
       have hi':i=0 ∨ i=1 ∨ i=2 ∨ i=3 ∨ i=4 ∨ i=5 ∨ i=6 ∨ i=7 ∨ i=8 ∨ i=9 ∨ i=10 ∨ i=11 ∨ i=12 ∨ i=13 ∨ i=14 ∨ i=15:=by simp at hi9;omega
       obtain ⟨h0,h1,h2,h3,q0,q1,q2,q3,q4,q5,q6,q7,q8,q9,q10,q11,q12,q14⟩:=hI
       rcases hi' with rfl | rfl | rfl | rfl | rfl | rfl | rfl | rfl | rfl | rfl | rfl | rfl | rfl | rfl | rfl | rfl
       · have e0:xa.tmps.getD 0 undef=.slice (some ⟨g,o,none⟩) ts.length cap:=ho 0 (by kernel_rfl)
         refine Ri.step_plain rfl rfl (fun K' hK=>?_)
         go_simp
         exact hK _ _ ⟨_,_,rfl,rfl,h0,h1,h2,h3,fun _=>rfl,q1,q2,q3,q4,q5,q6,q7,q8,q9,q10,q11,q12,q14⟩
       · have e2:xa.tmps.getD 2 undef=.int .i64 (m:Int):=ho 2 (by kernel_rfl)
         refine Ri.step_plain rfl rfl (fun K' hK=>?_)
         go_simp
         exact hK _ _ ⟨_,_,rfl,rfl,h0,h1,h2,h3,q0,fun _=>rfl,q2,q3,q4,q5,q6,q7,q8,q9,q10,q11,q12,q14⟩
       · have e0:xa.tmps.getD 0 undef=.slice (some ⟨g,o,none⟩) ts.length cap:=ho 0 (by kernel_rfl)
         refine Ri.step_plain rfl rfl (fun K' hK=>?_)
         go_simp
         exact hK _ _ ⟨_,_,rfl,rfl,h0,h1,h2,h3,q0,q1,fun _=>rfl,q3,q4,q5,q6,q7,q8,q9,q10,q11,q12,q14⟩
       · have e3:xa.tmps.getD 3 undef=.int .i64 (j:Int):=ho 3 (by kernel_rfl)
         refine Ri.step_plain rfl rfl (fun K' hK=>?_)
         go_simp
         exact hK _ _ ⟨_,_,rfl,rfl,h0,h1,h2,h3,q0,q1,q2,fun _=>rfl,q4,q5,q6,q7,q8,q9,q10,q11,q12,q14⟩
       · have e0:xa.tmps.getD 0 undef=.slice (some ⟨g,o,none⟩) ts.length cap:=ho 0 (by kernel_rfl)
         refine Ri.step_plain rfl rfl (fun K' hK=>?_)
         go_simp
         exact hK _ _ ⟨_,_,rfl,rfl,h0,h1,h2,h3,q0,q1,q2,q3,fun _=>rfl,q5,q6,q7,q8,q9,q10,q11,q12,q14⟩
       · have e3:xa.tmps.getD 3 undef=.int .i64 (j:Int):=ho 3 (by kernel_rfl)
         refine Ri.step_plain rfl rfl (fun K' hK=>?_)
         go_simp
         exact hK _ _ ⟨_,_,rfl,rfl,h0,h1,h2,h3,q0,q1,q2,q3,q4,fun _=>rfl,q6,q7,q8,q9,q10,q11,q12,q14⟩
       · obtain ⟨j4,j5⟩:L 4=true∧L 5=true:=by have:=hd _ rfl;simp [Region.binds] at this;simp [this]
         have f4:=(hv 4 18 rfl j4).trans (q4 j4)
         have f5:=(hv 5 19 rfl j5).trans (q5 j5)
         refine Ri.step_plain rfl rfl (fun K' hK=>?_)
         go_simp
         exact hK _ _ ⟨_,_,rfl,rfl,h0,h1,h2,h3,q0,q1,q2,q3,q4,q5,fun _=>rfl,q7,q8,q9,q10,q11,q12,q14⟩
       · have j6:L 6=true:=by have:=hd _ rfl;simp [Region.binds] at this;simp [this]
         have f6:=(hv 6 20 rfl j6).trans (q6 j6)
         have l13:L 13=false:=by cases h:L 13 with | false=>rfl | true=>have:=(h1 h).1;rw [hL] at this;cases this
         obtain ⟨rfl,l15⟩:=h0 l13
         refine Ri.step_plain rfl rfl (fun K' hK=>?_)
         refine wp_load_mid _ _ rfl g (o+j * 10) f6 YL.toList _ RY0.out Tryd.underlying37 rfl (by rw [ly9];kernel_rfl) ?_
         exact hK _ _ ⟨_,_,rfl,rfl,h0,fun h=>⟨rfl,(h1 h).2⟩,h2,h3,q0,q1,q2,q3,q4,q5,q6,fun _=>by simp [Ri.up],q8,q9,q10,q11,q12,q14⟩
       · have e0:xa.tmps.getD 0 undef=.slice (some ⟨g,o,none⟩) ts.length cap:=ho 0 (by kernel_rfl)
         refine Ri.step_plain rfl rfl (fun K' hK=>?_)
         go_simp
         exact hK _ _ ⟨_,_,rfl,rfl,h0,h1,h2,h3,q0,q1,q2,q3,q4,q5,q6,q7,fun _=>rfl,q9,q10,q11,q12,q14⟩
       · have e2:xa.tmps.getD 2 undef=.int .i64 (m:Int):=ho 2 (by kernel_rfl)
         refine Ri.step_plain rfl rfl (fun K' hK=>?_)
         go_simp
         exact hK _ _ ⟨_,_,rfl,rfl,h0,h1,h2,h3,q0,q1,q2,q3,q4,q5,q6,q7,q8,fun _=>rfl,q10,q11,q12,q14⟩
       · obtain ⟨j8,j9⟩:L 8=true∧L 9=true:=by have:=hd _ rfl;simp [Region.binds] at this;simp [this]
         have f8:=(hv 8 22 rfl j8).trans (q8 j8)
         have f9:=(hv 9 23 rfl j9).trans (q9 j9)
         refine Ri.step_plain rfl rfl (fun K' hK=>?_)
         go_simp
         exact hK _ _ ⟨_,_,rfl,rfl,h0,h1,h2,h3,q0,q1,q2,q3,q4,q5,q6,q7,q8,q9,fun _=>rfl,q11,q12,q14⟩
       · have j10:L 10=true:=by have:=hd _ rfl;simp [Region.binds] at this;simp [this]
         have f10:=(hv 10 24 rfl j10).trans (q10 j10)
         have l13:L 13=false:=by cases h:L 13 with | false=>rfl | true=>have:=(h1 h).2;rw [hL] at this;cases this
         obtain ⟨rfl,l15⟩:=h0 l13
         refine Ri.step_plain rfl rfl (fun K' hK=>?_)
         refine wp_load_mid _ _ rfl g (o+m * 10) f10 XL.toList _ RX0.out Tryd.underlying37 rfl (by rw [lx9];kernel_rfl) ?_
         exact hK _ _ ⟨_,_,rfl,rfl,h0,fun h=>⟨(h1 h).1,rfl⟩,h2,h3,q0,q1,q2,q3,q4,q5,q6,q7,q8,q9,q10,fun _=>by simp [Ri.up],q12,q14⟩
       · obtain ⟨j0,j1⟩:L 0=true∧L 1=true:=by have:=hd _ rfl;simp [Region.binds] at this;simp [this]
         have f0:=(hv 0 14 rfl j0).trans (q0 j0)
         have f1:=(hv 1 15 rfl j1).trans (q1 j1)
         refine Ri.step_plain rfl rfl (fun K' hK=>?_)
         go_simp
         exact hK _ _ ⟨_,_,rfl,rfl,h0,h1,h2,h3,q0,q1,q2,q3,q4,q5,q6,q7,q8,q9,q10,q11,fun _=>rfl,q14⟩
       · obtain ⟨j7,j11,j12⟩:L 7=true∧L 11=true∧L 12=true:=by have:=hd _ rfl;simp [Region.binds] at this;simp [this]
         have f7:=(hv 7 21 rfl j7).trans (q7 j7)
         have f12:=(hv 12 26 rfl j12).trans (q12 j12)
         obtain ⟨rfl,l15⟩:=h0 hL
         refine Ri.step_plain rfl rfl (fun K' hK=>?_)
         refine wp_store_mid _ _ _ rfl g (o+m * 10) YL f12 f7 (by rw [sy];exact TH0.out) (by rw [sy];kernel_rfl) oy ?_
         exact hK _ _ ⟨_,undef,rfl,rfl,(fun h=>by cases h),fun _=>⟨j7,j11⟩,fun _ _=>hW1.symm,fun h=>absurd (show L 15=true from h) (by rw [l15];decide),q0,q1,q2,q3,q4,q5,q6,q7,q8,q9,q10,q11,q12,q14⟩
       · obtain ⟨j2,j3⟩:L 2=true∧L 3=true:=by have:=hd _ rfl;simp [Region.binds] at this;simp [this]
         have f2:=(hv 2 16 rfl j2).trans (q2 j2)
         have f3:=(hv 3 17 rfl j3).trans (q3 j3)
         refine Ri.step_plain rfl rfl (fun K' hK=>?_)
         go_simp
         exact hK _ _ ⟨_,_,rfl,rfl,h0,h1,h2,h3,q0,q1,q2,q3,q4,q5,q6,q7,q8,q9,q10,q11,q12,fun _=>rfl⟩
       · obtain ⟨j11,j13,j14⟩:L 11=true∧L 13=true∧L 14=true:=by have:=hd _ rfl;simp [Region.binds] at this;simp [this]
         have f11:=(hv 11 25 rfl j11).trans (q11 j11)
         have f14:=(hv 14 27 rfl j14).trans (q14 j14)
         obtain rfl:=h2 j13 hL
         refine Ri.step_plain rfl rfl (fun K' hK=>?_)
         refine wp_store_mid _ _ _ rfl g (o+j * 10) XL f14 f11 (by rw [sx];exact TH1.out) (by rw [sx];kernel_rfl) ox ?_
         exact hK _ _ ⟨_,undef,rfl,rfl,(fun h=>absurd (show L 13=false from h) (by rw [j13];decide)),h1,(fun _ h=>by cases h),fun _=>⟨hW2.symm,j13⟩,q0,q1,q2,q3,q4,q5,q6,q7,q8,q9,q10,q11,q12,q14⟩
     · rintro v w9 ⟨-,-,-,h3,-⟩
       obtain ⟨rfl,-⟩:=h3 rfl
       have key:Hid (Touch [g] w w9∧(∃ cs ty,w9.heap[g]? = some (.cells cs ty (0,0)))∧∀ k t,k < ts.length→ts[el ts.length (m+1) k]? = some t→TenAt w9 g (o+k * 10) t (S (el ts.length (m+1) k))):=Lib.hid (by
         have hT1:Touch [g] w W1:=by rw [hW1];exact Touch.setCells (show Touch [g] w wr.drew from ⟨HT.out.os,HT.out.tape,HT.out.output,HT.out.size,HT.out.block⟩) (by simp) _ _
         have hF1:∃ cs ty,W1.heap[g]? = some (.cells cs ty (0,0)):=by rw [hW1];exact cells_setCells _ _ _ HFR.out
         refine ⟨by rw [hW2];exact hT1.setCells (by simp) _ _,by rw [hW2];exact cells_setCells _ _ _ hF1,fun k t hk ht=>?_⟩
         have hj:=HJ.out;have hlt:=HLT.out
         by_cases k1:k=m
         · subst k1
           rw [el_front' hlt,← hj] at ht ⊢
           rw [HY.out] at ht
           obtain rfl:=Option.some.inj ht
           rw [hW2]
           refine TenAt.setCells (vs:=XL.toList) ?_ lx9 (by omega)
           refine TenAt.of_range ?_
           rw [EY.out,← HYL.out,hW1]
           exact World.rangeAt_setCells_same _ _ _ _ (by rw [ly9];exact TH0.out)
         by_cases k2:k=j
         · subst k2
           rw [hj,el_back' hlt] at ht ⊢
           rw [← hj]
           rw [HX.out] at ht
           obtain rfl:=Option.some.inj ht
           refine TenAt.of_range ?_
           rw [EX.out,← HXL.out,hW2]
           exact World.rangeAt_setCells_same _ _ _ _ (by rw [lx9];exact TH1.out)
         · have he:=el_else hlt k1 (by rw [← hj];exact k2) hk
           rw [he] at ht ⊢
           have h9:TenAt wr.drew g (o+k * 10) t (S (el ts.length m k)):=(HR.out k t hk ht).keep rfl
           rw [hW2]
           refine TenAt.setCells (vs:=XL.toList) ?_ lx9 (by omega)
           rw [hW1]
           exact TenAt.setCells (vs:=YL.toList) h9 ly9 (by omega))
       clear hW1 hW2 TH0 TH1 RX0 RY0 RX RY HTHX HTHY TX TY HT HFR HR
       simp only [Ri.frame,List.zipIdx,List.foldl_cons,List.foldl_nil,if_true,Nat.reduceAdd]
       generalize v 0=y0;generalize v 1=y1;generalize v 2=y2;generalize v 3=y3;generalize v 4=y4;generalize v 5=y5;generalize v 6=y6;generalize v 7=y7;generalize v 8=y8;generalize v 9=y9;generalize v 10=y10;generalize v 11=y11;generalize v 12=y12;generalize v 14=y14
       go_wp2
       obtain ⟨k1,k2,k3⟩:=key.out
       have hj:=HJ.out
       exact ⟨⟨m+1,by go_num,by congr 1;omega,by omega,Lib.hid k1,Lib.hid k2,Lib.hid k3⟩,by simp [intOf];omega⟩
   · have hd1:decide ((m:Int) < (ts.length:Int) - 1 - (m:Int))=false:=decide_eq_false (by omega)
     go_wp2
     go_end0
     exact ⟨rfl,HT.out,HFR.out,fun k t hk ht=>by have:=HR.out k t hk;rw [el_end (by omega) hk] at this;exact this ht⟩
end Go.Proofs.YtedjkbmfpjmlpaaDoor
namespace Go.Proofs.YtedjkbmfpjmlpaaDoor
open Go.RowKit
theorem tu_cell_out {w:World} {b j:Nat} {v:Value} {i:Nat} (h:i ≠ j):(w.setCell ⟨b,j,none⟩ v).cell? ⟨b,i,none⟩=w.cell? ⟨b,i,none⟩ :=
 World.cell?_setCells_out b [v] j w ⟨b,i,none⟩ (fun _ _=>by simp;omega)
def Tr.withK (t:Tr) (k:Int):Tr:=.node k t.w0 t.w1 t.w2 t.w3 t.subs t.num t.least t.most t.bare
theorem TenAt.withK {w:World} {b o:Nat} {t:Tr} {s:Value} (h:TenAt w b o t s) (hf:∃ cs ty,w.heap[b]? = some (.cells cs ty (0,0))) (k:Int):TenAt (w.setCell ⟨b,o,none⟩ (.int .i64 k)) b o (t.withK k) s:=by
 have hth:w.there b o 1:=fun j hj=>by
   obtain rfl:j=0:=by omega
   exact ⟨by simpa using congrArg Option.isSome h.c0,frozen_of hf⟩
 have hs:(w.setCell ⟨b,o,none⟩ (.int .i64 k)).cell? ⟨b,o,none⟩=some (.int .i64 k):=World.rangeAt_setCells_same w b o [.int .i64 k] (by simpa using hth) 0 _ rfl
 exact ⟨hs,(tu_cell_out (by omega)).trans h.c1,(tu_cell_out (by omega)).trans h.c2,(tu_cell_out (by omega)).trans h.c3,(tu_cell_out (by omega)).trans h.c4,(tu_cell_out (by omega)).trans h.c5,(tu_cell_out (by omega)).trans h.c6,(tu_cell_out (by omega)).trans h.c7,(tu_cell_out (by omega)).trans h.c8,(tu_cell_out (by omega)).trans h.c9⟩
def ButCell (g o:Nat) (w w':World):Prop:=(∀ k,k ≠ o→w'.cell? ⟨g,k,none⟩=w.cell? ⟨g,k,none⟩)∧∀ cs ty,w.heap[g]? = some (.cells cs ty (0,0))→∃ cs',w'.heap[g]? = some (.cells cs' ty (0,0))∧cs'.size=cs.size
theorem ButCell.refl (g o:Nat) (w:World):ButCell g o w w:=⟨fun _ _=>rfl,fun cs _ h=>⟨cs,h,rfl⟩⟩
theorem ButCell.of_heap {g o:Nat} {w w':World} (h:w'.heap[g]? = w.heap[g]?):ButCell g o w w':=⟨fun k _=>by unfold World.cell?;rw [h],fun cs _ hc=>⟨cs,h.trans hc,rfl⟩⟩
theorem ButCell.trans {g o:Nat} {a b c:World} (h:ButCell g o a b) (k:ButCell g o b c):ButCell g o a c :=
 ⟨fun i hi=>(k.1 i hi).trans (h.1 i hi),fun cs ty hc=>by
   obtain ⟨c1,h1,h2⟩:=h.2 cs ty hc
   obtain ⟨c2,h3,h4⟩:=k.2 c1 ty h1
   exact ⟨c2,h3,h4.trans h2⟩⟩
theorem ButCell.set (g o:Nat) (w:World) (v:Value):ButCell g o w (w.setCell ⟨g,o,none⟩ v) :=
 ⟨fun k hk=>tu_cell_out hk,fun cs ty h=>⟨cs.setIfInBounds o v,by simp [World.setCell,Array.getElem?_modify,h],by simp⟩⟩
theorem ButCell.frozen {g o:Nat} {w w':World} (h:ButCell g o w w') (hf:∃ cs ty,w.heap[g]? = some (.cells cs ty (0,0))):∃ cs ty,w'.heap[g]? = some (.cells cs ty (0,0)):=by
 obtain ⟨cs,ty,h1⟩:=hf
 obtain ⟨c1,h2,-⟩:=h.2 cs ty h1
 exact ⟨c1,ty,h2⟩
theorem ButCell.ten {g o o':Nat} {w w':World} {t:Tr} {s:Value} (h:ButCell g o' w w') (ht:TenAt w g o t s) (ho:o' < o ∨ o+10 ≤ o'):TenAt w' g o t s :=
 ⟨(h.1 _ (by omega)).trans ht.c0,(h.1 _ (by omega)).trans ht.c1,(h.1 _ (by omega)).trans ht.c2,(h.1 _ (by omega)).trans ht.c3,(h.1 _ (by omega)).trans ht.c4,(h.1 _ (by omega)).trans ht.c5,(h.1 _ (by omega)).trans ht.c6,(h.1 _ (by omega)).trans ht.c7,(h.1 _ (by omega)).trans ht.c8,(h.1 _ (by omega)).trans ht.c9⟩
structure TreeIn (w:World) (g o:Nat) (t:Tr) (s:Value) (F:List Nat):Prop where
 ten:TenAt w g o t s
 own:Owned w s t.subs F
 out:g ∉ F
 cel:∃ cs ty,w.heap[g]? = some (.cells cs ty (0,0))
def TurnEnd (g o:Nat) (t:Tr) (s:Value) (F:List Nat) (w:World) (e:Ending) (w':World):Prop :=
 e=.returned (.tuple #[])∧TenAt w' g o t.turT s∧(∃ F',Owned w' s t.turT.subs F'∧∀ b,b ∈ F'→b ∈ F)∧Touch (g :: F) w w'∧ButCell g o w w'
structure RowTo (w:World) (g o m:Nat) (ts:List Tr) (S:Nat→Value) (L:Nat→List Nat):Prop where
 done:∀ j u,j < m→ts[j]? = some u→TenAt w g (o+j * 10) u.turT (S j)∧∃ F',Owned w (S j) u.turT.subs F'∧∀ b,b ∈ F'→b ∈ L j
 todo:∀ j u,m ≤ j→ts[j]? = some u→TenAt w g (o+j * 10) u (S j)∧Owned w (S j) u.subs (L j)
 cel:∃ cs ty,w.heap[g]? = some (.cells cs ty (0,0))
theorem RowTo.keep {w w':World} {g o m:Nat} {ts:List Tr} {S:Nat→Value} {L:Nat→List Nat} (h:RowTo w g o m ts S L) (hg:w'.heap[g]? = w.heap[g]?) (hL:∀ j b,j < ts.length→b ∈ L j→w'.heap[b]? = w.heap[b]?):RowTo w' g o m ts S L:=by
 refine ⟨fun j u hj hu=>?_,fun j u hj hu=>?_, ?_⟩
 · obtain ⟨h1,F',h2,h3⟩:=h.done j u hj hu
   exact ⟨h1.keep hg,F',h2.keep fun b hb=>hL j b (lt_of_some hu) (h3 b hb),h3⟩
 · obtain ⟨h1,h2⟩:=h.todo j u hj hu
   exact ⟨h1.keep hg,h2.keep fun b hb=>hL j b (lt_of_some hu) hb⟩
 · obtain ⟨cs,ty,h1⟩:=h.cel;exact ⟨cs,ty,hg.trans h1⟩
theorem RowTo.next {w w':World} {g o m:Nat} {ts:List Tr} {S:Nat→Value} {L:Nat→List Nat} {x:Tr} (h:RowTo w g o m ts S L) (hx:ts[m]? = some x) (hgL:∀ i,i < ts.length→g ∉ L i) (hd:∀ i j b,i < ts.length→j < ts.length→i ≠ j→b ∈ L i→b ∉ L j)
   {e:Ending} (ht:TurnEnd g (o+m * 10) x (S m) (L m) w e w'):RowTo w' g o (m+1) ts S L:=by
 obtain ⟨-,h1,⟨F',h2,h3⟩,h4,h5⟩:=ht
 have hm:=lt_of_some hx
 have keepL:∀ j b,j < ts.length→j ≠ m→b ∈ L j→b < w.heap.size→w'.heap[b]? = w.heap[b]?:=fun j b hj hjm hb hlt =>
   h4.block b hlt fun hmem=>by
     rcases List.mem_cons.1 hmem with rfl | hmem
     · exact hgL j hj hb
     · exact hd j m b hj hm hjm hb hmem
 refine ⟨fun j u hj hu=>?_,fun j u hj hu=>?_,h5.frozen h.cel⟩
 · by_cases e:j=m
   · subst e
     rw [hx] at hu
     obtain rfl:=Option.some.inj hu
     exact ⟨h1,F',h2,h3⟩
   · obtain ⟨q1,G,q2,q3⟩:=h.done j u (by omega) hu
     exact ⟨h5.ten q1 (by omega),G,q2.keep fun b hb=>keepL j b (lt_of_some hu) e (q3 b hb) (q2.lt b hb),q3⟩
 · obtain ⟨q1,q2⟩:=h.todo j u (by omega) hu
   exact ⟨h5.ten q1 (by omega),q2.keep fun b hb=>keepL j b (lt_of_some hu) (by omega) hb (q2.lt b hb)⟩
theorem RowTo.all {w:World} {g o:Nat} {ts:List Tr} {S:Nat→Value} {L:Nat→List Nat} (h:RowTo w g o ts.length ts S L) (hlen:ts.length * 96 ≤ 140737488351232) (hgL:∀ i,i < ts.length→g ∉ L i) (hd:∀ i j b,i < ts.length→j < ts.length→i ≠ j→b ∈ L i→b ∉ L j) (cap:Nat) :
   ∃ F',Owned w (.slice (some ⟨g,o,none⟩) ts.length cap) (ts.map Tr.turT) F'∧∀ b,b ∈ F'→b ∈ g :: (List.range ts.length).flatMap L:=by
 have hex:∀ j:Nat,∃ F':List Nat,(∀ u:Tr,ts[j]? = some u→Owned w (S j) u.turT.subs F')∧∀ b,b ∈ F'→b ∈ L j:=fun j=>by
   cases hu:ts[j]? with
   | none=>exact ⟨[],(fun u h=>by cases h),(fun b hb=>by cases hb)⟩
   | some u =>
     obtain ⟨-,F',h2,h3⟩:=h.done j u (lt_of_some hu) hu
     exact ⟨F',(fun v hv=>by obtain rfl:=Option.some.inj hv;exact h2),h3⟩
 obtain ⟨M,hM⟩:=Classical.axiomOfChoice hex
 have hget:∀ (i:Nat) (t:Tr),(ts.map Tr.turT)[i]? = some t→∃ u:Tr,ts[i]? = some u∧t=u.turT:=fun i t hi=>by
   rw [List.getElem?_map] at hi
   cases hu:ts[i]? with
   | none=>rw [hu] at hi;cases hi
   | some u=>rw [hu] at hi;exact ⟨u,rfl,(Option.some.inj hi).symm⟩
 have hml:(ts.map Tr.turT).length=ts.length:=List.length_map ..
 refine ⟨g :: (List.range ts.length).flatMap M, ?_,fun b hb=>?_⟩
 · have:=Owned.row (w:=w) g o cap (ts.map Tr.turT) S M (by rw [hml];exact hlen) h.cel (fun i t hi=>?_) (fun i t hi=>?_) (fun i hi hm=>?_) (fun i j b hi hj hij h5 h6=>?_)
   · rw [hml] at this;exact this
   · obtain ⟨u,hu,rfl⟩:=hget i t hi;exact (h.done i u (lt_of_some hu) hu).1
   · obtain ⟨u,hu,rfl⟩:=hget i t hi;exact (hM i).1 u hu
   · rw [hml] at hi;exact hgL i hi ((hM i).2 g hm)
   · rw [hml] at hi hj;exact hd i j b hi hj hij ((hM i).2 b h5) ((hM j).2 b h6)
 · rcases List.mem_cons.1 hb with rfl | hb
   · exact List.mem_cons_self
   · obtain ⟨i,hi,hb⟩:=mem_range_flatMap.1 hb
     exact List.mem_cons_of_mem _ (mem_range_flatMap.2 ⟨i,hi,(hM i).2 b hb⟩)
def TurnsAll (ts:List Tr):Prop:=∀ u,u ∈ ts→∀ (w:World) (g o:Nat) (s:Value) (F:List Nat),TreeIn w g o u s F→Calls Tryd.prog 82 #[.pointer (some ⟨g,o,none⟩)] w (TurnEnd g o u s F w)
theorem TenAt.alike {w:World} {g o:Nat} {t u:Tr} {s:Value} (h:TenAt w g o t s) (hk:t.kind=u.kind) (h0:t.w0=u.w0) (h1:t.w1=u.w1) (h2:t.w2=u.w2) (h3:t.w3=u.w3) (hn:t.num=u.num) (hl:t.least=u.least) (hm:t.most=u.most) (hb:t.bare=u.bare):TenAt w g o u s :=
 ⟨by rw [← hk];exact h.c0,by rw [← h0];exact h.c1,by rw [← h1];exact h.c2,by rw [← h2];exact h.c3,by rw [← h3];exact h.c4,h.c5,by rw [← hn];exact h.c6,by rw [← hl];exact h.c7,by rw [← hm];exact h.c8,by rw [← hb];exact h.c9⟩
theorem tuturn_seq (t:Tr) (hk:t.kind=5) (w:World) (g o g0 o0 cap:Nat) (S L) (hn:TurnsAll t.subs) (hten:TenAt w g o t (.slice (some ⟨g0,o0,none⟩) t.subs.length cap)) (hcel:∃ cs ty,w.heap[g]? = some (.cells cs ty (0,0))) (hlen:t.subs.length * 96 ≤ 140737488351232) (hrow:RowTo w g0 o0 0 t.subs S L) (hslc:∀ i,i < t.subs.length→∃ p l c,S i=.slice p l c)
   (hgL:∀ i,i < t.subs.length→g0 ∉ L i) (hd:∀ i j b,i < t.subs.length→j < t.subs.length→i ≠ j→b ∈ L i→b ∉ L j) (hout:g ∉ g0 :: (List.range t.subs.length).flatMap L) :
   Calls Tryd.prog 82 #[.pointer (some ⟨g,o,none⟩)] w (TurnEnd g o t (.slice (some ⟨g0,o0,none⟩) t.subs.length cap) (g0 :: (List.range t.subs.length).flatMap L) w):=by
 have hgw:g < w.heap.size:=hten.lt
 have hg0w:t.subs.length=0 ∨ g0 < w.heap.size:=by obtain ⟨cs,ty,h⟩:=hrow.cel;exact .inr (Array.getElem?_eq_some_iff.1 h).1
 have hgg:g ≠ g0:=fun e=>hout (e ▸ List.mem_cons_self)
 have hoL:∀ j b,j < t.subs.length→b ∈ L j→b ≠ g:=fun j b hj hb e=>hout (List.mem_cons_of_mem _ (mem_range_flatMap.2 ⟨j,hj,e ▸ hb⟩))
 have HTEN:=Lib.hid hten
 obtain ⟨c0,c1,c2,c3,c4,c5,c6,c7,c8,c9⟩:=HTEN.out
 rw [hk] at c0
 clear c1 c2 c3 c4 c6 c7 c8 c9
 have HN:=Lib.hid hn;have HROW:=Lib.hid hrow;have HGL0:=Lib.hid hgL;have HD0:=Lib.hid hd;have HLEN0:=Lib.hid hlen;have HOUT:=Lib.hid hout;have HOL:=Lib.hid hoL;have HSL:=Lib.hid hslc;have HCEL:=Lib.hid hcel;have HGG:=Lib.hid hgg;have HGW:=Lib.hid hgw
 clear hn hrow hgL hd hlen hout hoL hslc hten hcel hgg hgw hg0w
 have HRV:=Lib.hid (turev_any g0 o0 cap t.subs S w HLEN0.out HROW.out.cel HSL.out fun i u hu=>(HROW.out.todo i u (Nat.zero_le _) hu).1)
 go_enter Tryd.func82,Tryd.ntmps82
 go_wp2_with fail
 clear c0 c5
 refine HRV.out.mono ?_
 rintro e W1 ⟨rfl,ht,hcel1,hrev⟩
 obtain ⟨ts1,hts1⟩:∃ ts1,ts1=t.subs.reverse:=⟨_,rfl⟩
 obtain ⟨S1,hS1⟩:∃ S1:Nat→Value,S1=fun k=>S (t.subs.length - 1 - k):=⟨_,rfl⟩
 obtain ⟨L1,hL1⟩:∃ L1:Nat→List Nat,L1=fun k=>L (t.subs.length - 1 - k):=⟨_,rfl⟩
 have hln:ts1.length=t.subs.length:=by rw [hts1,List.length_reverse]
 have hget:∀ j u,ts1[j]? = some u→j < t.subs.length∧t.subs[t.subs.length - 1 - j]? = some u:=fun j u hu=>by
   have hj:=lt_of_some hu
   rw [hln] at hj
   rw [hts1,List.getElem?_reverse hj] at hu
   exact ⟨hj,hu⟩
 have hmemF:∀ b,b ∈ (List.range ts1.length).flatMap L1 ↔ b ∈ (List.range t.subs.length).flatMap L:=fun b=>by
   rw [mem_range_flatMap,mem_range_flatMap,hln,hL1]
   constructor
   · rintro ⟨i,hi,hb⟩;exact ⟨t.subs.length - 1 - i,by omega,hb⟩
   · rintro ⟨i,hi,hb⟩;exact ⟨t.subs.length - 1 - i,by omega,by show b ∈ L (t.subs.length - 1 - (t.subs.length - 1 - i));rw [show t.subs.length - 1 - (t.subs.length - 1 - i)=i by omega];exact hb⟩
 have hlo:∀ j b,j < t.subs.length→b ∈ L j→b < w.heap.size:=fun j b hj hb=>(HROW.out.todo j _ (Nat.zero_le _) (List.getElem?_eq_getElem hj)).2.lt b hb
 have R1:=Lib.hid (show RowTo W1 g0 o0 0 ts1 S1 L1 from ⟨fun j u hj=>by omega,fun j u _ hu=>by
     obtain ⟨hj,hu2⟩:=hget j u hu
     rw [hS1,hL1]
     exact ⟨hrev j u hj hu2,(HROW.out.todo _ u (Nat.zero_le _) hu2).2.keep fun b hb=>ht.block b (hlo _ b (by omega) hb) fun e=>by rw [List.mem_singleton] at e;subst e;exact HGL0.out _ (by omega) hb⟩,hcel1⟩)
 have C5:=Lib.hid (show W1.cell? ⟨g,o+5,none⟩=some (.slice (some ⟨g0,o0,none⟩) ts1.length cap) from by
   have:=HTEN.out.c5;rw [hln];unfold World.cell? at this ⊢;rw [ht.block g HGW.out (by simpa using HGG.out)];exact this)
 have GO:=Lib.hid (show g ∉ g0 :: (List.range ts1.length).flatMap L1 from fun e=>HOUT.out (by
   rcases List.mem_cons.1 e with rfl | e
   · exact List.mem_cons_self
   · exact List.mem_cons_of_mem _ ((hmemF g).1 e)))
 have GW:=Lib.hid (show g < W1.heap.size from Nat.lt_of_lt_of_le HGW.out ht.size)
 have HGL:=Lib.hid (show ∀ i,i < ts1.length→g0 ∉ L1 i from fun i hi=>by rw [hL1];exact HGL0.out _ (by omega))
 have HDJ:=Lib.hid (show ∀ i j b,i < ts1.length→j < ts1.length→i ≠ j→b ∈ L1 i→b ∉ L1 j from fun i j b hi hj hij=>by rw [hL1];exact HD0.out _ _ b (by omega) (by omega) (by omega))
 have HLEN:=Lib.hid (show ts1.length * 96 ≤ 140737488351232 from by rw [hln];exact HLEN0.out)
 have IH:=Lib.hid (show TurnsAll ts1 from fun u hu=>HN.out u (by rw [hts1,List.mem_reverse] at hu;exact hu))
 have HLN:=Lib.hid hln;have HMF:=Lib.hid hmemF;have HT0:=Lib.hid ht;have HTS:=Lib.hid hts1
 have c5:=C5.out
 have hlen9:ts1.length ≤ 1466015503701:=by have:=HLEN.out;omega
 clear ht hcel1 hrev hts1 hS1 hL1 hln hget hmemF hlo HRV
 go_wp2
 go_loopw [29] (fun iv wr=>∃ m:Nat,iv=.int .i64 (m:Int)∧m ≤ ts1.length∧Hid (Touch (g0 :: (List.range ts1.length).flatMap L1) W1 wr)∧Hid (RowTo wr g0 o0 m ts1 S1 L1)) (fun iv _=>ts1.length - (intOf iv).toNat)
 case atStart=>exact ⟨0,rfl,Nat.zero_le _,Lib.hid (Touch.of_below _ (Below.refl _ _)),R1⟩
 case round =>
   obtain ⟨m,rfl,hm,HT,HR⟩:=hrel
   have wm:IntKind.i64.wrap ((m:Int)+1)=(m:Int)+1:=IntWalk.i64_in _ (by omega)
   have hgr:wr.heap[g]? = W1.heap[g]?:=HT.out.block g GW.out GO.out
   have c5r:wr.cell? ⟨g,o+5,none⟩=some (.slice (some ⟨g0,o0,none⟩) ts1.length cap):=by
     have:=C5.out;unfold World.cell? at this ⊢;rw [hgr];exact this
   have HGR:=Lib.hid hgr
   clear hgr
   by_cases hlt:m < ts1.length
   · obtain ⟨x,hx⟩:∃ x,ts1[m]? = some x:=⟨_,List.getElem?_eq_getElem hlt⟩
     obtain ⟨q1,q2⟩:=HR.out.todo m x (Nat.le_refl _) hx
     have hcall:=IH.out x (List.mem_of_getElem? hx) wr g0 (o0+m * 10) (S1 m) (L1 m) ⟨q1,q2,HGL.out m hlt,HR.out.cel⟩
     have HCALL:=Lib.hid hcall;have HX:=Lib.hid hx
     have hd1:decide ((m:Int) < (ts1.length:Int))=true:=decide_eq_true (by omega)
     clear q1 q2 hx hcall
     go_wp2_with fail
     refine HCALL.out.mono ?_
     intro e w2 he
     have HN:=Lib.hid (HR.out.next HX.out HGL.out HDJ.out he)
     obtain ⟨rfl,-,-,ht2,-⟩:=he
     have HT2:=Lib.hid (HT.out.trans (ht2.mono fun b hb=>by
       rcases List.mem_cons.1 hb with rfl | hb
       · exact List.mem_cons_self
       · exact List.mem_cons_of_mem _ (mem_range_flatMap.2 ⟨m,hlt,hb⟩)))
     clear ht2 HCALL
     go_wp2
     exact ⟨⟨m+1,by go_num,by omega,HT2,HN⟩,by simp [intOf];omega⟩
   · obtain rfl:m=ts1.length:=by omega
     obtain ⟨F2,hF2,hF3⟩:=HR.out.all HLEN.out HGL.out HDJ.out cap
     have HF2:=Lib.hid hF2;have HF3:=Lib.hid hF3
     clear hF2 hF3 c5r
     go_wp2
     go_end0
     have hsub:t.turT.subs=ts1.map Tr.turT:=by rw [Tr.turT_subs];unfold Tr.rv;rw [if_pos hk,HTS.out,List.map_reverse]
     refine ⟨rfl, ?_,⟨F2,by rw [hsub,← HLN.out];exact HF2.out,fun b hb=>?_⟩, ?_, ?_⟩
     · have h1:TenAt wr g o t (.slice (some ⟨g0,o0,none⟩) t.subs.length cap):=HTEN.out.keep (HGR.out.trans (HT0.out.block g HGW.out (by simpa using HGG.out)))
       exact TenAt.alike (u:=t.turT) h1 (by rw [Tr.turT_kind,hk];rfl) (by rw [Tr.turT_w0]) (by rw [Tr.turT_w1]) (by rw [Tr.turT_w2]) (by rw [Tr.turT_w3]) (by rw [Tr.turT_num]) (by rw [Tr.turT_least]) (by rw [Tr.turT_most]) (by rw [Tr.turT_bare])
     · rcases List.mem_cons.1 (HF3.out b hb) with rfl | h
       · exact List.mem_cons_self
       · exact List.mem_cons_of_mem _ ((HMF.out b).1 h)
     · refine (HT0.out.mono fun b hb=>?_).trans (HT.out.mono fun b hb=>?_)
       · rw [List.mem_singleton] at hb;subst hb;exact List.mem_cons_of_mem _ List.mem_cons_self
       · rcases List.mem_cons.1 hb with rfl | h
         · exact List.mem_cons_of_mem _ List.mem_cons_self
         · exact List.mem_cons_of_mem _ (List.mem_cons_of_mem _ ((HMF.out b).1 h))
     · exact ButCell.of_heap (HGR.out.trans (HT0.out.block g HGW.out (by simpa using HGG.out)))
theorem tuturn_beg (t:Tr) (hk:t.kind=3) (w:World) (g o g0 o0 cap:Nat) (S L) (hn:TurnsAll t.subs) (hten:TenAt w g o t (.slice (some ⟨g0,o0,none⟩) t.subs.length cap)) (hcel:∃ cs ty,w.heap[g]? = some (.cells cs ty (0,0))) (hlen:t.subs.length * 96 ≤ 140737488351232) (hrow:RowTo w g0 o0 0 t.subs S L) (hslc:∀ i,i < t.subs.length→∃ p l c,S i=.slice p l c)
   (hgL:∀ i,i < t.subs.length→g0 ∉ L i) (hd:∀ i j b,i < t.subs.length→j < t.subs.length→i ≠ j→b ∈ L i→b ∉ L j) (hout:g ∉ g0 :: (List.range t.subs.length).flatMap L) :
   Calls Tryd.prog 82 #[.pointer (some ⟨g,o,none⟩)] w (TurnEnd g o t (.slice (some ⟨g0,o0,none⟩) t.subs.length cap) (g0 :: (List.range t.subs.length).flatMap L) w):=by
 have hgw:g < w.heap.size:=hten.lt
 have hg0w:t.subs.length=0 ∨ g0 < w.heap.size:=by obtain ⟨cs,ty,h⟩:=hrow.cel;exact .inr (Array.getElem?_eq_some_iff.1 h).1
 have hgg:g ≠ g0:=fun e=>hout (e ▸ List.mem_cons_self)
 have hoL:∀ j b,j < t.subs.length→b ∈ L j→b ≠ g:=fun j b hj hb e=>hout (List.mem_cons_of_mem _ (mem_range_flatMap.2 ⟨j,hj,e ▸ hb⟩))
 have HTEN:=Lib.hid hten
 obtain ⟨c0,c1,c2,c3,c4,c5,c6,c7,c8,c9⟩:=HTEN.out
 rw [hk] at c0
 clear c1 c2 c3 c4 c6 c7 c8 c9
 have HN:=Lib.hid hn;have HROW:=Lib.hid hrow;have HGL0:=Lib.hid hgL;have HD0:=Lib.hid hd;have HLEN0:=Lib.hid hlen;have HOUT:=Lib.hid hout;have HOL:=Lib.hid hoL;have HSL:=Lib.hid hslc;have HCEL:=Lib.hid hcel;have HGG:=Lib.hid hgg;have HGW:=Lib.hid hgw
 clear hn hrow hgL hd hlen hout hoL hslc hten hcel hgg hgw hg0w
 have hslot:∀ j b,j < t.subs.length→b ∈ L j→(w.setCell ⟨g,o,none⟩ (.int .i64 4)).heap[b]? = w.heap[b]?:=fun j b hj hb=>(fun (e:_ ≠ g)=>Below.heap_setCell _ _ _ _ e) (HOL.out j b hj hb)
 have hg0h:(w.setCell ⟨g,o,none⟩ (.int .i64 4)).heap[g0]? = w.heap[g0]?:=(fun (e:_ ≠ g)=>Below.heap_setCell _ _ _ _ e) (Ne.symm HGG.out)
 have R1:=Lib.hid (show RowTo (w.setCell ⟨g,o,none⟩ (.int .i64 4)) g0 o0 0 t.subs S L from HROW.out.keep hg0h hslot)
 have C5:=Lib.hid (show (w.setCell ⟨g,o,none⟩ (.int .i64 4)).cell? ⟨g,o+5,none⟩=some (.slice (some ⟨g0,o0,none⟩) t.subs.length cap) from (tu_cell_out (by omega)).trans HTEN.out.c5)
 have GO:=HOUT
 have GW:=Lib.hid (show g < (w.setCell ⟨g,o,none⟩ (.int .i64 4)).heap.size from by simp [World.setCell];exact HGW.out)
 have HBC:=Lib.hid (show ButCell g o w (w.setCell ⟨g,o,none⟩ (.int .i64 4)) from ButCell.set g o w _)
 have HT0:=Lib.hid (show Touch [g] w (w.setCell ⟨g,o,none⟩ (.int .i64 4)) from Touch.setCells (Touch.of_below [g] (Below.refl _ _)) (by simp) o [.int .i64 4])
 have HT1:=Lib.hid (show TenAt (w.setCell ⟨g,o,none⟩ (.int .i64 4)) g o t.turT (.slice (some ⟨g0,o0,none⟩) t.subs.length cap) from TenAt.alike (u:=t.turT) (HTEN.out.withK HCEL.out 4) (by rw [Tr.turT_kind,hk];rfl) (by rw [Tr.turT_w0];rfl) (by rw [Tr.turT_w1];rfl) (by rw [Tr.turT_w2];rfl) (by rw [Tr.turT_w3];rfl) (by rw [Tr.turT_num];rfl) (by rw [Tr.turT_least];rfl) (by rw [Tr.turT_most];rfl) (by rw [Tr.turT_bare];rfl))
 have HGL:=HGL0;have HDJ:=HD0;have HLEN:=HLEN0;have IH:=HN
 have hlen9:t.subs.length ≤ 1466015503701:=by have:=HLEN.out;omega
 have f0:=frozen_of (o:=o) HCEL.out
 have c5b:=C5.out
 clear hslot hg0h
 go_enter Tryd.func82,Tryd.ntmps82
 go_wp2
 go_loopw [29] (fun iv wr=>∃ m:Nat,iv=.int .i64 (m:Int)∧m ≤ t.subs.length∧Hid (Touch (g0 :: (List.range t.subs.length).flatMap L) (w.setCell ⟨g,o,none⟩ (.int .i64 4)) wr)∧Hid (RowTo wr g0 o0 m t.subs S L)) (fun iv _=>t.subs.length - (intOf iv).toNat)
 case atStart=>exact ⟨0,rfl,Nat.zero_le _,Lib.hid (Touch.of_below _ (Below.refl _ _)),R1⟩
 case round =>
   obtain ⟨m,rfl,hm,HT,HR⟩:=hrel
   have wm:IntKind.i64.wrap ((m:Int)+1)=(m:Int)+1:=IntWalk.i64_in _ (by omega)
   have hgr:wr.heap[g]? = (w.setCell ⟨g,o,none⟩ (.int .i64 4)).heap[g]?:=HT.out.block g GW.out GO.out
   have c5r:wr.cell? ⟨g,o+5,none⟩=some (.slice (some ⟨g0,o0,none⟩) t.subs.length cap):=by
     have:=C5.out;unfold World.cell? at this ⊢;rw [hgr];exact this
   have HGR:=Lib.hid hgr
   clear hgr
   by_cases hlt:m < t.subs.length
   · obtain ⟨x,hx⟩:∃ x,t.subs[m]? = some x:=⟨_,List.getElem?_eq_getElem hlt⟩
     obtain ⟨q1,q2⟩:=HR.out.todo m x (Nat.le_refl _) hx
     have hcall:=IH.out x (List.mem_of_getElem? hx) wr g0 (o0+m * 10) (S m) (L m) ⟨q1,q2,HGL.out m hlt,HR.out.cel⟩
     have HCALL:=Lib.hid hcall;have HX:=Lib.hid hx
     have hd1:decide ((m:Int) < (t.subs.length:Int))=true:=decide_eq_true (by omega)
     clear q1 q2 hx hcall
     go_wp2_with fail
     refine HCALL.out.mono ?_
     intro e w2 he
     have HN:=Lib.hid (HR.out.next HX.out HGL.out HDJ.out he)
     obtain ⟨rfl,-,-,ht2,-⟩:=he
     have HT2:=Lib.hid (HT.out.trans (ht2.mono fun b hb=>by
       rcases List.mem_cons.1 hb with rfl | hb
       · exact List.mem_cons_self
       · exact List.mem_cons_of_mem _ (mem_range_flatMap.2 ⟨m,hlt,hb⟩)))
     clear ht2 HCALL
     go_wp2
     exact ⟨⟨m+1,by go_num,by omega,HT2,HN⟩,by simp [intOf];omega⟩
   · obtain rfl:m=t.subs.length:=by omega
     obtain ⟨F2,hF2,hF3⟩:=HR.out.all HLEN.out HGL.out HDJ.out cap
     have HF2:=Lib.hid hF2;have HF3:=Lib.hid hF3
     clear hF2 hF3 c5r
     go_wp2
     go_end0
     have hsub:t.turT.subs=t.subs.map Tr.turT:=by rw [Tr.turT_subs,Tr.rv_not (by omega)]
     refine ⟨rfl,HT1.out.keep HGR.out,⟨F2,by rw [hsub];exact HF2.out,HF3.out⟩, ?_,HBC.out.trans (ButCell.of_heap HGR.out)⟩
     refine (HT0.out.mono fun b hb=>?_).trans (HT.out.mono fun b hb=>List.mem_cons_of_mem _ hb)
     rw [List.mem_singleton] at hb;subst hb;exact List.mem_cons_self
theorem tuturn_fin (t:Tr) (hk:t.kind=4) (w:World) (g o g0 o0 cap:Nat) (S L) (hn:TurnsAll t.subs) (hten:TenAt w g o t (.slice (some ⟨g0,o0,none⟩) t.subs.length cap)) (hcel:∃ cs ty,w.heap[g]? = some (.cells cs ty (0,0))) (hlen:t.subs.length * 96 ≤ 140737488351232) (hrow:RowTo w g0 o0 0 t.subs S L) (hslc:∀ i,i < t.subs.length→∃ p l c,S i=.slice p l c)
   (hgL:∀ i,i < t.subs.length→g0 ∉ L i) (hd:∀ i j b,i < t.subs.length→j < t.subs.length→i ≠ j→b ∈ L i→b ∉ L j) (hout:g ∉ g0 :: (List.range t.subs.length).flatMap L) :
   Calls Tryd.prog 82 #[.pointer (some ⟨g,o,none⟩)] w (TurnEnd g o t (.slice (some ⟨g0,o0,none⟩) t.subs.length cap) (g0 :: (List.range t.subs.length).flatMap L) w):=by
 have hgw:g < w.heap.size:=hten.lt
 have hg0w:t.subs.length=0 ∨ g0 < w.heap.size:=by obtain ⟨cs,ty,h⟩:=hrow.cel;exact .inr (Array.getElem?_eq_some_iff.1 h).1
 have hgg:g ≠ g0:=fun e=>hout (e ▸ List.mem_cons_self)
 have hoL:∀ j b,j < t.subs.length→b ∈ L j→b ≠ g:=fun j b hj hb e=>hout (List.mem_cons_of_mem _ (mem_range_flatMap.2 ⟨j,hj,e ▸ hb⟩))
 have HTEN:=Lib.hid hten
 obtain ⟨c0,c1,c2,c3,c4,c5,c6,c7,c8,c9⟩:=HTEN.out
 rw [hk] at c0
 clear c1 c2 c3 c4 c6 c7 c8 c9
 have HN:=Lib.hid hn;have HROW:=Lib.hid hrow;have HGL0:=Lib.hid hgL;have HD0:=Lib.hid hd;have HLEN0:=Lib.hid hlen;have HOUT:=Lib.hid hout;have HOL:=Lib.hid hoL;have HSL:=Lib.hid hslc;have HCEL:=Lib.hid hcel;have HGG:=Lib.hid hgg;have HGW:=Lib.hid hgw
 clear hn hrow hgL hd hlen hout hoL hslc hten hcel hgg hgw hg0w
 have hslot:∀ j b,j < t.subs.length→b ∈ L j→(w.setCell ⟨g,o,none⟩ (.int .i64 3)).heap[b]? = w.heap[b]?:=fun j b hj hb=>(fun (e:_ ≠ g)=>Below.heap_setCell _ _ _ _ e) (HOL.out j b hj hb)
 have hg0h:(w.setCell ⟨g,o,none⟩ (.int .i64 3)).heap[g0]? = w.heap[g0]?:=(fun (e:_ ≠ g)=>Below.heap_setCell _ _ _ _ e) (Ne.symm HGG.out)
 have R1:=Lib.hid (show RowTo (w.setCell ⟨g,o,none⟩ (.int .i64 3)) g0 o0 0 t.subs S L from HROW.out.keep hg0h hslot)
 have C5:=Lib.hid (show (w.setCell ⟨g,o,none⟩ (.int .i64 3)).cell? ⟨g,o+5,none⟩=some (.slice (some ⟨g0,o0,none⟩) t.subs.length cap) from (tu_cell_out (by omega)).trans HTEN.out.c5)
 have GO:=HOUT
 have GW:=Lib.hid (show g < (w.setCell ⟨g,o,none⟩ (.int .i64 3)).heap.size from by simp [World.setCell];exact HGW.out)
 have HBC:=Lib.hid (show ButCell g o w (w.setCell ⟨g,o,none⟩ (.int .i64 3)) from ButCell.set g o w _)
 have HT0:=Lib.hid (show Touch [g] w (w.setCell ⟨g,o,none⟩ (.int .i64 3)) from Touch.setCells (Touch.of_below [g] (Below.refl _ _)) (by simp) o [.int .i64 3])
 have HT1:=Lib.hid (show TenAt (w.setCell ⟨g,o,none⟩ (.int .i64 3)) g o t.turT (.slice (some ⟨g0,o0,none⟩) t.subs.length cap) from TenAt.alike (u:=t.turT) (HTEN.out.withK HCEL.out 3) (by rw [Tr.turT_kind,hk];rfl) (by rw [Tr.turT_w0];rfl) (by rw [Tr.turT_w1];rfl) (by rw [Tr.turT_w2];rfl) (by rw [Tr.turT_w3];rfl) (by rw [Tr.turT_num];rfl) (by rw [Tr.turT_least];rfl) (by rw [Tr.turT_most];rfl) (by rw [Tr.turT_bare];rfl))
 have HGL:=HGL0;have HDJ:=HD0;have HLEN:=HLEN0;have IH:=HN
 have hlen9:t.subs.length ≤ 1466015503701:=by have:=HLEN.out;omega
 have f0:=frozen_of (o:=o) HCEL.out
 have c5b:=C5.out
 clear hslot hg0h
 go_enter Tryd.func82,Tryd.ntmps82
 go_wp2
 go_loopw [29] (fun iv wr=>∃ m:Nat,iv=.int .i64 (m:Int)∧m ≤ t.subs.length∧Hid (Touch (g0 :: (List.range t.subs.length).flatMap L) (w.setCell ⟨g,o,none⟩ (.int .i64 3)) wr)∧Hid (RowTo wr g0 o0 m t.subs S L)) (fun iv _=>t.subs.length - (intOf iv).toNat)
 case atStart=>exact ⟨0,rfl,Nat.zero_le _,Lib.hid (Touch.of_below _ (Below.refl _ _)),R1⟩
 case round =>
   obtain ⟨m,rfl,hm,HT,HR⟩:=hrel
   have wm:IntKind.i64.wrap ((m:Int)+1)=(m:Int)+1:=IntWalk.i64_in _ (by omega)
   have hgr:wr.heap[g]? = (w.setCell ⟨g,o,none⟩ (.int .i64 3)).heap[g]?:=HT.out.block g GW.out GO.out
   have c5r:wr.cell? ⟨g,o+5,none⟩=some (.slice (some ⟨g0,o0,none⟩) t.subs.length cap):=by
     have:=C5.out;unfold World.cell? at this ⊢;rw [hgr];exact this
   have HGR:=Lib.hid hgr
   clear hgr
   by_cases hlt:m < t.subs.length
   · obtain ⟨x,hx⟩:∃ x,t.subs[m]? = some x:=⟨_,List.getElem?_eq_getElem hlt⟩
     obtain ⟨q1,q2⟩:=HR.out.todo m x (Nat.le_refl _) hx
     have hcall:=IH.out x (List.mem_of_getElem? hx) wr g0 (o0+m * 10) (S m) (L m) ⟨q1,q2,HGL.out m hlt,HR.out.cel⟩
     have HCALL:=Lib.hid hcall;have HX:=Lib.hid hx
     have hd1:decide ((m:Int) < (t.subs.length:Int))=true:=decide_eq_true (by omega)
     clear q1 q2 hx hcall
     go_wp2_with fail
     refine HCALL.out.mono ?_
     intro e w2 he
     have HN:=Lib.hid (HR.out.next HX.out HGL.out HDJ.out he)
     obtain ⟨rfl,-,-,ht2,-⟩:=he
     have HT2:=Lib.hid (HT.out.trans (ht2.mono fun b hb=>by
       rcases List.mem_cons.1 hb with rfl | hb
       · exact List.mem_cons_self
       · exact List.mem_cons_of_mem _ (mem_range_flatMap.2 ⟨m,hlt,hb⟩)))
     clear ht2 HCALL
     go_wp2
     exact ⟨⟨m+1,by go_num,by omega,HT2,HN⟩,by simp [intOf];omega⟩
   · obtain rfl:m=t.subs.length:=by omega
     obtain ⟨F2,hF2,hF3⟩:=HR.out.all HLEN.out HGL.out HDJ.out cap
     have HF2:=Lib.hid hF2;have HF3:=Lib.hid hF3
     clear hF2 hF3 c5r
     go_wp2
     go_end0
     have hsub:t.turT.subs=t.subs.map Tr.turT:=by rw [Tr.turT_subs,Tr.rv_not (by omega)]
     refine ⟨rfl,HT1.out.keep HGR.out,⟨F2,by rw [hsub];exact HF2.out,HF3.out⟩, ?_,HBC.out.trans (ButCell.of_heap HGR.out)⟩
     refine (HT0.out.mono fun b hb=>?_).trans (HT.out.mono fun b hb=>List.mem_cons_of_mem _ hb)
     rw [List.mem_singleton] at hb;subst hb;exact List.mem_cons_self
theorem tuturn_other (t:Tr) (h5:t.kind ≠ 5) (h3:t.kind ≠ 3) (h4:t.kind ≠ 4) (w:World) (g o g0 o0 cap:Nat) (S L) (hn:TurnsAll t.subs) (hten:TenAt w g o t (.slice (some ⟨g0,o0,none⟩) t.subs.length cap)) (hcel:∃ cs ty,w.heap[g]? = some (.cells cs ty (0,0))) (hlen:t.subs.length * 96 ≤ 140737488351232) (hrow:RowTo w g0 o0 0 t.subs S L) (hslc:∀ i,i < t.subs.length→∃ p l c,S i=.slice p l c)
   (hgL:∀ i,i < t.subs.length→g0 ∉ L i) (hd:∀ i j b,i < t.subs.length→j < t.subs.length→i ≠ j→b ∈ L i→b ∉ L j) (hout:g ∉ g0 :: (List.range t.subs.length).flatMap L) :
   Calls Tryd.prog 82 #[.pointer (some ⟨g,o,none⟩)] w (TurnEnd g o t (.slice (some ⟨g0,o0,none⟩) t.subs.length cap) (g0 :: (List.range t.subs.length).flatMap L) w):=by
 have hgw:g < w.heap.size:=hten.lt
 have hg0w:t.subs.length=0 ∨ g0 < w.heap.size:=by obtain ⟨cs,ty,h⟩:=hrow.cel;exact .inr (Array.getElem?_eq_some_iff.1 h).1
 have hgg:g ≠ g0:=fun e=>hout (e ▸ List.mem_cons_self)
 have hoL:∀ j b,j < t.subs.length→b ∈ L j→b ≠ g:=fun j b hj hb e=>hout (List.mem_cons_of_mem _ (mem_range_flatMap.2 ⟨j,hj,e ▸ hb⟩))
 have HTEN:=Lib.hid hten
 obtain ⟨c0,c1,c2,c3,c4,c5,c6,c7,c8,c9⟩:=HTEN.out
 have e5:(t.kind == 5)=false:=by simpa using h5
 have e3:(t.kind == 3)=false:=by simpa using h3
 have e4:(t.kind == 4)=false:=by simpa using h4
 clear c1 c2 c3 c4 c6 c7 c8 c9
 have HN:=Lib.hid hn;have HROW:=Lib.hid hrow;have HGL0:=Lib.hid hgL;have HD0:=Lib.hid hd;have HLEN0:=Lib.hid hlen;have HOUT:=Lib.hid hout;have HOL:=Lib.hid hoL;have HSL:=Lib.hid hslc;have HCEL:=Lib.hid hcel;have HGG:=Lib.hid hgg;have HGW:=Lib.hid hgw
 clear hn hrow hgL hd hlen hout hoL hslc hten hcel hgg hgw hg0w
 have hslot:∀ j b,j < t.subs.length→b ∈ L j→w.heap[b]? = w.heap[b]?:=fun j b hj hb=>(fun (_:_ ≠ g)=>rfl) (HOL.out j b hj hb)
 have hg0h:w.heap[g0]? = w.heap[g0]?:=(fun (_:_ ≠ g)=>rfl) (Ne.symm HGG.out)
 have R1:=Lib.hid (show RowTo w g0 o0 0 t.subs S L from HROW.out.keep hg0h hslot)
 have C5:=Lib.hid (show w.cell? ⟨g,o+5,none⟩=some (.slice (some ⟨g0,o0,none⟩) t.subs.length cap) from HTEN.out.c5)
 have GO:=HOUT
 have GW:=Lib.hid (show g < w.heap.size from HGW.out)
 have HBC:=Lib.hid (show ButCell g o w w from ButCell.refl g o w)
 have HT0:=Lib.hid (show Touch [g] w w from Touch.of_below _ (Below.refl _ _))
 have HT1:=Lib.hid (show TenAt w g o t.turT (.slice (some ⟨g0,o0,none⟩) t.subs.length cap) from TenAt.alike (u:=t.turT) HTEN.out (by rw [Tr.turT_kind];unfold Tr.turK;rw [if_neg h3,if_neg h4]) (by rw [Tr.turT_w0]) (by rw [Tr.turT_w1]) (by rw [Tr.turT_w2]) (by rw [Tr.turT_w3]) (by rw [Tr.turT_num]) (by rw [Tr.turT_least]) (by rw [Tr.turT_most]) (by rw [Tr.turT_bare]))
 have HGL:=HGL0;have HDJ:=HD0;have HLEN:=HLEN0;have IH:=HN
 have hlen9:t.subs.length ≤ 1466015503701:=by have:=HLEN.out;omega
 have f0:=frozen_of (o:=o) HCEL.out
 have c5b:=C5.out
 clear hslot hg0h
 go_enter Tryd.func82,Tryd.ntmps82
 go_wp2
 go_loopw [29] (fun iv wr=>∃ m:Nat,iv=.int .i64 (m:Int)∧m ≤ t.subs.length∧Hid (Touch (g0 :: (List.range t.subs.length).flatMap L) w wr)∧Hid (RowTo wr g0 o0 m t.subs S L)) (fun iv _=>t.subs.length - (intOf iv).toNat)
 case atStart=>exact ⟨0,rfl,Nat.zero_le _,Lib.hid (Touch.of_below _ (Below.refl _ _)),R1⟩
 case round =>
   obtain ⟨m,rfl,hm,HT,HR⟩:=hrel
   have wm:IntKind.i64.wrap ((m:Int)+1)=(m:Int)+1:=IntWalk.i64_in _ (by omega)
   have hgr:wr.heap[g]? = w.heap[g]?:=HT.out.block g GW.out GO.out
   have c5r:wr.cell? ⟨g,o+5,none⟩=some (.slice (some ⟨g0,o0,none⟩) t.subs.length cap):=by
     have:=C5.out;unfold World.cell? at this ⊢;rw [hgr];exact this
   have HGR:=Lib.hid hgr
   clear hgr
   by_cases hlt:m < t.subs.length
   · obtain ⟨x,hx⟩:∃ x,t.subs[m]? = some x:=⟨_,List.getElem?_eq_getElem hlt⟩
     obtain ⟨q1,q2⟩:=HR.out.todo m x (Nat.le_refl _) hx
     have hcall:=IH.out x (List.mem_of_getElem? hx) wr g0 (o0+m * 10) (S m) (L m) ⟨q1,q2,HGL.out m hlt,HR.out.cel⟩
     have HCALL:=Lib.hid hcall;have HX:=Lib.hid hx
     have hd1:decide ((m:Int) < (t.subs.length:Int))=true:=decide_eq_true (by omega)
     clear q1 q2 hx hcall
     go_wp2_with fail
     refine HCALL.out.mono ?_
     intro e w2 he
     have HN:=Lib.hid (HR.out.next HX.out HGL.out HDJ.out he)
     obtain ⟨rfl,-,-,ht2,-⟩:=he
     have HT2:=Lib.hid (HT.out.trans (ht2.mono fun b hb=>by
       rcases List.mem_cons.1 hb with rfl | hb
       · exact List.mem_cons_self
       · exact List.mem_cons_of_mem _ (mem_range_flatMap.2 ⟨m,hlt,hb⟩)))
     clear ht2 HCALL
     go_wp2
     exact ⟨⟨m+1,by go_num,by omega,HT2,HN⟩,by simp [intOf];omega⟩
   · obtain rfl:m=t.subs.length:=by omega
     obtain ⟨F2,hF2,hF3⟩:=HR.out.all HLEN.out HGL.out HDJ.out cap
     have HF2:=Lib.hid hF2;have HF3:=Lib.hid hF3
     clear hF2 hF3 c5r
     go_wp2
     go_end0
     have hsub:t.turT.subs=t.subs.map Tr.turT:=by rw [Tr.turT_subs,Tr.rv_not (by omega)]
     refine ⟨rfl,HT1.out.keep HGR.out,⟨F2,by rw [hsub];exact HF2.out,HF3.out⟩, ?_,HBC.out.trans (ButCell.of_heap HGR.out)⟩
     refine (HT0.out.mono fun b hb=>?_).trans (HT.out.mono fun b hb=>List.mem_cons_of_mem _ hb)
     rw [List.mem_singleton] at hb;subst hb;exact List.mem_cons_self
end Go.Proofs.YtedjkbmfpjmlpaaDoor
namespace Go.Proofs.YtedjkbmfpjmlpaaDoor
open Go.RowKit
theorem turev_nil (p:Option Addr) (cap:Nat) (w:World):Calls Tryd.prog 120 #[.slice p 0 cap] w fun e w'=>e=.returned (.tuple #[])∧Below w.heap.size w w':=by
 go_enter Tryd.func120,Tryd.ntmps120
 go_wp2
 go_loopw [2,3] (fun iv jv wr=>iv=.int .i64 0∧jv=.int .i64 (-1)∧Hid (Below w.heap.size w wr)) (fun _ _ _=>0)
 case atStart=>exact ⟨rfl,rfl,Lib.hid (Below.refl _ _)⟩
 case round =>
   obtain ⟨rfl,rfl,HB⟩:=hrel
   go_wp2
   go_end0
   exact ⟨rfl,HB.out⟩
theorem tuturn_nil (t:Tr) (ht:t.subs=[]) (w:World) (g o cap:Nat) (p:Option Addr) (F:List Nat) (hten:TenAt w g o t (.slice p 0 cap)) (hcel:∃ cs ty,w.heap[g]? = some (.cells cs ty (0,0))) :
   Calls Tryd.prog 82 #[.pointer (some ⟨g,o,none⟩)] w (TurnEnd g o t (.slice p 0 cap) F w):=by
 have HTEN:=Lib.hid hten;have HCEL:=Lib.hid hcel
 have hgw:=hten.lt
 obtain ⟨c0,-,-,-,-,c5,-,-,-,-⟩:=hten
 have hsub:t.turT.subs=[]:=by rw [Tr.turT_subs,ht];unfold Tr.rv;split <;> rfl
 have hnil:∀ w9:World,∃ F',Owned w9 (.slice p 0 cap) t.turT.subs F'∧∀ b,b ∈ F'→b ∈ F:=fun w9=>⟨[],by rw [hsub];exact .nil _ _,fun b hb=>(by cases hb)⟩
 have HNIL:=Lib.hid hnil;have HGW:=Lib.hid hgw
 have HRV:=Lib.hid (turev_nil p cap)
 have f0:=frozen_of (o:=o) hcel
 clear hcel hsub hnil hgw
 by_cases h3:t.kind=3
 · rw [h3] at c0
   have c5b:(w.setCell ⟨g,o,none⟩ (.int .i64 4)).cell? ⟨g,o+5,none⟩=some (.slice p 0 cap):=(tu_cell_out (by omega)).trans c5
   go_enter Tryd.func82,Tryd.ntmps82
   go_wp2
   go_loopw [29] (fun iv wr=>iv=.int .i64 0∧Hid (Below (w.setCell ⟨g,o,none⟩ (.int .i64 4)).heap.size (w.setCell ⟨g,o,none⟩ (.int .i64 4)) wr)) (fun _ _=>0)
   case atStart=>exact ⟨rfl,Lib.hid (Below.refl _ _)⟩
   case round =>
     obtain ⟨rfl,HB⟩:=hrel
     go_wp2
     go_end0
     have hg:wr.heap[g]? = (w.setCell ⟨g,o,none⟩ (.int .i64 4)).heap[g]?:=HB.out.block g (by simp [World.setCell];exact HGW.out)
     refine ⟨rfl, ?_,HNIL.out _,(Touch.setCells (Touch.of_below (g :: F) (Below.refl _ _)) List.mem_cons_self o [.int .i64 4]).trans (Touch.of_below _ HB.out),(ButCell.set g o w _).trans (ButCell.of_heap hg)⟩
     exact TenAt.alike (u:=t.turT) ((HTEN.out.withK HCEL.out 4).keep hg) (by rw [Tr.turT_kind,h3];rfl) (by rw [Tr.turT_w0];rfl) (by rw [Tr.turT_w1];rfl) (by rw [Tr.turT_w2];rfl) (by rw [Tr.turT_w3];rfl) (by rw [Tr.turT_num];rfl) (by rw [Tr.turT_least];rfl) (by rw [Tr.turT_most];rfl) (by rw [Tr.turT_bare];rfl)
 by_cases h4:t.kind=4
 · rw [h4] at c0
   have c5b:(w.setCell ⟨g,o,none⟩ (.int .i64 3)).cell? ⟨g,o+5,none⟩=some (.slice p 0 cap):=(tu_cell_out (by omega)).trans c5
   go_enter Tryd.func82,Tryd.ntmps82
   go_wp2
   go_loopw [29] (fun iv wr=>iv=.int .i64 0∧Hid (Below (w.setCell ⟨g,o,none⟩ (.int .i64 3)).heap.size (w.setCell ⟨g,o,none⟩ (.int .i64 3)) wr)) (fun _ _=>0)
   case atStart=>exact ⟨rfl,Lib.hid (Below.refl _ _)⟩
   case round =>
     obtain ⟨rfl,HB⟩:=hrel
     go_wp2
     go_end0
     have hg:wr.heap[g]? = (w.setCell ⟨g,o,none⟩ (.int .i64 3)).heap[g]?:=HB.out.block g (by simp [World.setCell];exact HGW.out)
     refine ⟨rfl, ?_,HNIL.out _,(Touch.setCells (Touch.of_below (g :: F) (Below.refl _ _)) List.mem_cons_self o [.int .i64 3]).trans (Touch.of_below _ HB.out),(ButCell.set g o w _).trans (ButCell.of_heap hg)⟩
     exact TenAt.alike (u:=t.turT) ((HTEN.out.withK HCEL.out 3).keep hg) (by rw [Tr.turT_kind,h4];rfl) (by rw [Tr.turT_w0];rfl) (by rw [Tr.turT_w1];rfl) (by rw [Tr.turT_w2];rfl) (by rw [Tr.turT_w3];rfl) (by rw [Tr.turT_num];rfl) (by rw [Tr.turT_least];rfl) (by rw [Tr.turT_most];rfl) (by rw [Tr.turT_bare];rfl)
 have hkk:t.turT.kind=t.kind:=by rw [Tr.turT_kind];unfold Tr.turK;rw [if_neg h3,if_neg h4]
 have HKK:=Lib.hid hkk
 have e3:(t.kind == 3)=false:=by simpa using h3
 have e4:(t.kind == 4)=false:=by simpa using h4
 clear hkk h3 h4
 have fin:∀ wr,Below w.heap.size w wr→TurnEnd g o t (.slice p 0 cap) F w (.returned (.tuple #[])) wr:=fun wr hb=>by
   have hg:wr.heap[g]? = w.heap[g]?:=hb.block g HGW.out
   exact ⟨rfl,TenAt.alike (u:=t.turT) (HTEN.out.keep hg) HKK.out.symm (by rw [Tr.turT_w0]) (by rw [Tr.turT_w1]) (by rw [Tr.turT_w2]) (by rw [Tr.turT_w3]) (by rw [Tr.turT_num]) (by rw [Tr.turT_least]) (by rw [Tr.turT_most]) (by rw [Tr.turT_bare]),HNIL.out _,Touch.of_below _ hb,ButCell.of_heap hg⟩
 have FIN:=Lib.hid fin
 clear fin
 by_cases h5:t.kind=5
 · have e5:(t.kind == 5)=true:=by simpa using h5
   clear h5
   go_enter Tryd.func82,Tryd.ntmps82
   go_wp2_with fail
   clear c0 c5
   refine (HRV.out w).mono ?_
   rintro e w1 ⟨rfl,hb⟩
   have c5:w1.cell? ⟨g,o+5,none⟩=some (.slice p 0 cap):=by
     have:=HTEN.out.c5;unfold World.cell? at this ⊢;rw [hb.block g HGW.out];exact this
   have HB1:=Lib.hid hb
   clear hb
   go_wp2
   go_loopw [29] (fun iv wr=>iv=.int .i64 0∧Hid (Below w.heap.size w wr)) (fun _ _=>0)
   case atStart=>exact ⟨rfl,HB1⟩
   case round =>
     obtain ⟨rfl,HB⟩:=hrel
     go_wp2
     go_end0
     exact FIN.out _ HB.out
 · have e5:(t.kind == 5)=false:=by simpa using h5
   clear h5
   go_enter Tryd.func82,Tryd.ntmps82
   go_wp2
   go_loopw [29] (fun iv wr=>iv=.int .i64 0∧Hid (Below w.heap.size w wr)) (fun _ _=>0)
   case atStart=>exact ⟨rfl,Lib.hid (Below.refl _ _)⟩
   case round =>
     obtain ⟨rfl,HB⟩:=hrel
     go_wp2
     go_end0
     exact FIN.out _ HB.out
theorem tuturn_any (t:Tr):∀ (w:World) (g o:Nat) (s:Value) (F:List Nat),TreeIn w g o t s F→Calls Tryd.prog 82 #[.pointer (some ⟨g,o,none⟩)] w (TurnEnd g o t s F w):=by
 induction t using Tr.rec_subs with
 | h t ih =>
   intro w g o s F ⟨hten,hown,hout,hcel⟩
   generalize hts:t.subs=ts at hown
   cases hown with
   | nil p cap=>exact tuturn_nil t hts w g o cap p [] hten hcel
   | row g0 o0 cap _ S L hlen hf hc hs hgL hd =>
     subst hts
     have hslc:∀ i,i < t.subs.length→∃ p l c,S i=.slice p l c:=fun i hi=>by
       obtain ⟨q,c,e,-⟩:=(hs i _ (List.getElem?_eq_getElem hi)).slice
       exact ⟨_,_,_,e⟩
     have hrow:RowTo w g0 o0 0 t.subs S L:=⟨fun j u hj=>by omega,fun j u _ hu=>⟨hc j u hu,hs j u hu⟩,hf⟩
     by_cases h5:t.kind=5
     · exact tuturn_seq t h5 w g o g0 o0 cap S L ih hten hcel hlen hrow hslc hgL hd hout
     by_cases h3:t.kind=3
     · exact tuturn_beg t h3 w g o g0 o0 cap S L ih hten hcel hlen hrow hslc hgL hd hout
     by_cases h4:t.kind=4
     · exact tuturn_fin t h4 w g o g0 o0 cap S L ih hten hcel hlen hrow hslc hgL hd hout
     exact tuturn_other t h5 h3 h4 w g o g0 o0 cap S L ih hten hcel hlen hrow hslc hgL hd hout
end Go.Proofs.YtedjkbmfpjmlpaaDoor
namespace Go.Proofs.YtedjkbmfpjmlpaaDoor
open Go.RowKit
namespace Tr
def fieldsOk (t:Tr):Prop :=
 ((t.kind=1 ∨ t.kind=3 ∨ t.kind=4)∧t.w0=0#64∧t.w1=0#64∧t.w2=0#64∧t.w3=0#64∧t.subs=[]∧t.num=0∧t.least=0∧t.most=0∧t.bare=false) ∨
 (t.kind=2∧t.subs=[]∧t.num=0∧t.least=0∧t.most=0∧t.bare=false) ∨
 ((t.kind=5 ∨ t.kind=6)∧t.w0=0#64∧t.w1=0#64∧t.w2=0#64∧t.w3=0#64∧2 ≤ t.subs.length∧t.num=0∧t.least=0∧t.most=0∧t.bare=false) ∨
 (t.kind=7∧t.w0=0#64∧t.w1=0#64∧t.w2=0#64∧t.w3=0#64∧t.subs.length=1∧1 ≤ t.num∧t.num ≤ 999∧t.least=0∧t.most=0∧t.bare=false) ∨
 (t.kind=8∧t.w0=0#64∧t.w1=0#64∧t.w2=0#64∧t.w3=0#64∧t.subs.length=1∧t.num=0∧0 ≤ t.least∧t.least ≤ 255∧(t.most = -1 ∨ (t.least ≤ t.most∧t.most ≤ 255))∧(t.bare=true→t.least=0))
inductive InForm:Tr→Prop
 | mk (t:Tr) (h:fieldsOk t) (hs:∀ u,u ∈ t.subs→InForm u):InForm t
theorem InForm.fields {t:Tr} (h:InForm t):fieldsOk t:=by cases h;assumption
theorem InForm.sub {t u:Tr} (h:InForm t) (hu:u ∈ t.subs):InForm u:=by cases h with | mk _ _ hs=>exact hs u hu
def sat (n:Nat):Nat:=min 2001 n
theorem sat_sat (a b:Nat):sat (sat a+b)=sat (a+b):=by unfold sat;omega
theorem sat_le (a:Nat):sat a ≤ 2001:=by unfold sat;omega
def repSz (lo hi:Int) (n:Nat):Nat :=
 if hi=0 then 1
 else if lo=1∧hi=1 then n
 else if lo=0∧(hi=1 ∨ hi = -1) then sat (1+n)
 else if hi = -1 then sat (1+lo.toNat * n+(1+n))
 else sat (1+lo.toNat * n+(hi - lo).toNat * (1+n))
mutual
def szT:Tr→Nat
 | .node k _ _ _ _ s _ lo hi _=>if k=8 then repSz lo hi (szH s) else sat (1+szS s)
def szS:List Tr→Nat
 | []=>0
 | t :: l=>szT t+szS l
def szH:List Tr→Nat
 | []=>0
 | t :: _=>szT t
end
theorem repSz_le {lo hi:Int} {n:Nat} (h:n ≤ 2001):repSz lo hi n ≤ 2001:=by
 unfold repSz
 split
 · omega
 split
 · exact h
 split
 · exact sat_le _
 split <;> exact sat_le _
theorem szT_le:∀ t:Tr,szT t ≤ 2001:=by
 intro t
 induction t using Tr.rec_subs with
 | h t ih =>
   cases t with
   | node k a b c d s n lo hi br =>
     rw [szT]
     split
     · refine repSz_le ?_
       cases s with
       | nil=>simp [szH]
       | cons x l=>rw [szH];exact ih x (by simp [subs])
     · exact sat_le _
theorem szS_append:∀ (l m:List Tr),szS (l ++ m)=szS l+szS m
 | [],m=>by simp [szS]
 | t :: l,m=>by rw [List.cons_append,szS,szS,szS_append l m];omega
theorem szS_take (l:List Tr) (m:Nat) (x:Tr) (h:l[m]? = some x):szS (l.take (m+1))=szS (l.take m)+szT x:=by
 rw [List.take_add_one,h,Option.toList_some,szS_append,szS,szS];rfl
end Tr
theorem trcount_any (a b:Nat) (ha:a ≤ 2001) (hb:b ≤ 2002) (x y:Int) (hx:x=a) (hy:y=b) (w:World):Calls Tryd.prog 124 #[.int .i64 x,.int .i64 y] w fun e w'=>e=.returned (.int .i64 (Tr.sat (a+b):Nat))∧w=w':=by
 subst hx hy
 have hw:IntKind.i64.wrap ((a:Int)+b)=(a:Int)+b:=IntWalk.i64_in _ (by omega)
 go_enter Tryd.func124,Tryd.ntmps124
 go_wp2
 all_goals
   go_ret
   exact ⟨ret_int (by unfold Tr.sat;omega),rfl⟩
theorem box5 {w:World} {b:Nat} {t:Tr} {s:Value} {ty:TypeId} (h:w.heap[b]? = some (.cells (t.cells s) ty)) :
   w.cell? ⟨b,0,none⟩=some (.int .i64 t.kind)∧w.cell? ⟨b,4+1,none⟩=some s∧w.cell? ⟨b,5,none⟩=some s∧w.cell? ⟨b,7,none⟩=some (.int .i64 t.least)∧w.cell? ⟨b,8,none⟩=some (.int .i64 t.most):=by
 simp [World.cell?,h,Tr.cells]
def SizeEnd (n:Nat) (w:World) (e:Ending) (w':World):Prop:=e=.returned (.int .i64 n)∧Below w.heap.size w w'
theorem refsize_seq (t:Tr) (ih:∀ u,u ∈ t.subs→u.InForm→∀ (w:World) (B:Nat→Prop) (v:Value),NodeV w B v u→Calls Tryd.prog 87 #[v] w (SizeEnd u.szT w)) (hf:t.InForm) (hk:t.kind ≠ 8)
   (w:World) (B:Nat→Prop) (v:Value) (hv:NodeV w B v t):Calls Tryd.prog 87 #[v] w (SizeEnd t.szT w):=by
 obtain ⟨s,rfl,hs⟩:=hv
 obtain ⟨p,cap,rfl,hlen⟩:=hs.slice
 have HE:=Lib.hid (show t.szT=Tr.sat (1+Tr.szS t.subs) by cases t;rw [Tr.szT];simp only [Tr.kind] at hk;rw [if_neg hk];rfl)
 have HF:=Lib.hid hf
 generalize hts:t.subs=ts at *
 have HTS:=Lib.hid hts;have IH:=Lib.hid ih;have HS:=Lib.hid hs
 have e8:(t.kind != 8)=true:=by simpa using hk
 clear ih hs hf hk hts
 unfold Tr.cells
 go_enter Tryd.func87,Tryd.ntmps87
 go_wp2
 go_loopw [3,4] (fun nv iv wr=>∃ m:Nat,iv=.int .i64 m∧m ≤ ts.length∧nv=.int .i64 (Tr.sat (1+Tr.szS (ts.take m)):Nat)∧Hid (Below w.heap.size w wr)∧w.heap.size < wr.heap.size∧Hid (wr.heap[w.heap.size]? = some (.cells (t.cells (.slice p ts.length cap)) 37))) (fun _ iv _=>ts.length - (intOf iv).toNat)
 case atStart=>exact ⟨0,rfl,Nat.zero_le _,rfl,Lib.hid (by go_grown),by simp,Lib.hid (heap_alloc_new _ _)⟩
 case round =>
   obtain ⟨m,rfl,hm,rfl,HB,hsz,Z0⟩:=hrel
   have wm:IntKind.i64.wrap ((m:Int)+1)=(m:Int)+1:=IntWalk.i64_in _ (by omega)
   obtain ⟨-,-,f5,-,-⟩:=box5 Z0.out
   by_cases hlt:m < ts.length
   · obtain ⟨x,hx⟩:∃ x,ts[m]? = some x:=⟨_,List.getElem?_eq_getElem hlt⟩
     obtain ⟨b1,o1,s1,rfl,-,t1,sub1⟩:=HS.out.get hx
     obtain ⟨d0,d1,d2,d3,d4,d5,d6,d7,d8,d9⟩:=t1.keep (HB.out.block _ t1.lt)
     have hmem:=List.mem_of_getElem? hx
     have HC:=Lib.hid (IH.out x hmem (HF.out.sub (by rw [HTS.out];exact hmem)) wr B (.agg (x.cells s1)) ⟨_,rfl,sub1.later HB.out⟩)
     have hle:=Tr.sat_le (1+Tr.szS (ts.take m));have hlx:=Tr.szT_le x
     have HST:=Lib.hid (Tr.szS_take ts m x hx)
     clear t1 sub1 hmem hx
     generalize hn:Tr.sat (1+Tr.szS (ts.take m))=n at *
     have HN:=Lib.hid hn
     clear hn
     unfold Tr.cells at HC
     go_wp2_with fail
     refine HC.out.mono ?_
     rintro e w2 ⟨rfl,hb2⟩
     have HB2:=Lib.hid (HB.out.trans (hb2.mono HB.out.size));have Z2:=Lib.hid (keep_blk hb2 Z0.out)
     have hsz2:w.heap.size < w2.heap.size:=Nat.lt_of_lt_of_le hsz hb2.size
     clear d0 d1 d2 d3 d4 d5 d6 d7 d8 d9 f5 hb2 HC
     go_wp2_with fail
     refine (trcount_any n x.szT hle (by omega) _ _ rfl rfl _).mono ?_
     rintro e w3 ⟨rfl,rfl⟩
     have hsum:Tr.sat (n+x.szT)=Tr.sat (1+Tr.szS (ts.take (m+1))):=by rw [← HN.out,Tr.sat_sat,HST.out];congr 1;omega
     rw [hsum]
     clear hsum
     go_wp2
     exact ⟨⟨m+1,by go_num,by omega,rfl,HB2,hsz2,Z2⟩,by simp [intOf];omega⟩
   · obtain rfl:m=ts.length:=by omega
     have HX:=Lib.hid (show Tr.sat (1+Tr.szS (ts.take ts.length))=t.szT by rw [List.take_length,HE.out])
     go_wp2
     go_ret
     exact ⟨ret_int (by rw [HX.out]),HB.out⟩
theorem refsize_rep (t x:Tr) (ih:∀ (w:World) (B:Nat→Prop) (v:Value),NodeV w B v x→Calls Tryd.prog 87 #[v] w (SizeEnd x.szT w)) (hsub:t.subs=[x]) (hk:t.kind=8) (h0:0 ≤ t.least) (h1:t.least ≤ 255) (h2:t.most = -1 ∨ (t.least ≤ t.most∧t.most ≤ 255))
   (w:World) (B:Nat→Prop) (v:Value) (hv:NodeV w B v t):Calls Tryd.prog 87 #[v] w (SizeEnd t.szT w):=by
 obtain ⟨s,rfl,hs⟩:=hv
 have hsz0:t.szT=Tr.repSz t.least t.most x.szT:=by
   cases t;simp only [Tr.kind,Tr.subs] at hk hsub;subst hk hsub;rw [Tr.szT,if_pos rfl,Tr.szH];rfl
 rw [hsub] at hs
 obtain ⟨p,cap,rfl,hlen⟩:=hs.slice
 have hs:TreesAt w B (.slice p 1 cap) [x]:=hs
 obtain ⟨b1,o1,s1,rfl,-,t1,sub1⟩:=hs.get (i:=0) (t:=x) rfl
 have HE:=Lib.hid hsz0
 have HC:=Lib.hid ih
 have t1':TenAt w b1 o1 x s1:=by simpa using t1
 have T1:=Lib.hid t1';have SUB:=Lib.hid sub1
 have e8:(t.kind != 8)=false:=by simpa using hk
 have hN:=Tr.szT_le x
 clear ih hs hk hsub hsz0 t1 t1' sub1 hlen
 obtain ⟨lo,hlo⟩:∃ lo:Nat,t.least=lo:=⟨t.least.toNat,by omega⟩
 rw [hlo] at h0 h1 h2
 by_cases hm0:t.most=0
 · have HX:=Lib.hid (show t.szT=1 by rw [HE.out];unfold Tr.repSz;rw [if_pos hm0])
   unfold Tr.cells
   rw [hm0]
   clear hlo hm0
   go_enter Tryd.func87,Tryd.ntmps87
   go_wp2
   go_ret
   exact ⟨ret_int (by rw [HX.out];rfl),by go_grown⟩
 · have em0:(t.most == 0)=false:=by simpa using hm0
   have HM:=Lib.hid hm0;have HLO:=Lib.hid hlo
   unfold Tr.cells
   clear hm0 hlo
   go_enter Tryd.func87,Tryd.ntmps87
   have d:=fun (o:Obj)=>T1.out.keep (w':=w.alloc o) (Below.heap_alloc w o b1 T1.out.lt)
   have e0:=fun o=>(d o).c0;have e1:=fun o=>(d o).c1;have e2:=fun o=>(d o).c2;have e3:=fun o=>(d o).c3;have e4:=fun o=>(d o).c4
   have e5:=fun o=>(d o).c5;have e6:=fun o=>(d o).c6;have e7:=fun o=>(d o).c7;have e8':=fun o=>(d o).c8;have e9:=fun o=>(d o).c9
   clear d
   go_wp2_with fail
   generalize hw1:World.alloc w _=w1
   have hb1:Below w.heap.size w w1:=by rw [← hw1];exact (Below.refl _ _).alloc (Nat.le_refl _) _
   have Z1:Hid (w1.heap[w.heap.size]? = some (.cells (t.cells (.slice (some ⟨b1,o1,none⟩) 1 cap)) 37)):=Lib.hid (by rw [← hw1];exact heap_alloc_new _ _)
   have hs1:w.heap.size < w1.heap.size:=by rw [← hw1];simp
   have hcall:=HC.out w1 B (.agg (x.cells s1)) ⟨_,rfl,SUB.out.later hb1⟩
   unfold Tr.cells at hcall
   have HB1:=Lib.hid hb1
   clear hw1 e0 e1 e2 e3 e4 e5 e6 e7 e8' e9 hb1
   refine hcall.mono ?_
   rintro e w2 ⟨rfl,hb2⟩
   have HB2:=Lib.hid (HB1.out.trans (hb2.mono HB1.out.size));have Z2:=Lib.hid (keep_blk hb2 Z1.out)
   have hs2:w.heap.size < w2.heap.size:=Nat.lt_of_lt_of_le hs1 hb2.size
   clear hb2 hcall HB1 Z1
   generalize hNe:x.szT=N at *
   clear hNe
   have hlo255:lo ≤ 255:=by omega
   go_wp2
   go_loopw [6,7,8] (fun pv nv iv wr=>∃ m:Nat,iv=.int .i64 m∧pv=.int .i64 m∧m ≤ lo∧nv=.int .i64 (Tr.sat (m * N):Nat)∧wr=w2) (fun _ _ iv _=>lo - (intOf iv).toNat)
   case atStart=>exact ⟨0,rfl,rfl,Nat.zero_le _,by simp [Tr.sat],rfl⟩
   case round =>
     obtain ⟨m,rfl,rfl,hm,rfl,rfl⟩:=hrel
     have wm:IntKind.i64.wrap ((m:Int)+1)=(m:Int)+1:=IntWalk.i64_in _ (by omega)
     obtain ⟨-,-,-,f7,f8⟩:=box5 Z2.out
     rw [HLO.out] at f7
     by_cases hlt:m < lo
     · have hsat:=Tr.sat_le (m * N)
       have HS:=Lib.hid (show Tr.sat (Tr.sat (m * N)+N)=Tr.sat ((m+1) * N) by rw [Tr.sat_sat,Nat.succ_mul])
       generalize Tr.sat (m * N)=n at *
       go_wp2_with fail
       refine (trcount_any n N hsat (by omega) _ _ rfl rfl _).mono ?_
       rintro e w3 ⟨rfl,rfl⟩
       rw [HS.out]
       go_wp2
       exact ⟨⟨m+1,by go_num,by go_num,by omega,rfl,trivial⟩,by simp [intOf];omega⟩
     · obtain rfl:m=lo:=by omega
       have hsat0:=Tr.sat_le (m * N)
       generalize hA:m * N=A at *
       have HA:=Lib.hid hA
       clear hA
       generalize hhi:t.most=hi at *
       have HHI:=Lib.hid hhi
       clear hhi
       obtain ⟨J,hJ⟩:∃ J:Nat,J=(hi - m).toNat:=⟨_,rfl⟩
       have HJ:=Lib.hid hJ
       have hJ2:J ≤ 255:=by omega
       clear hJ
       go_wp2
       go_loopw [6,7,9] (fun pv nv iv wz=>∃ j:Nat,iv=.int .i64 ((m+j:Nat):Int)∧pv=.int .i64 ((m+j:Nat):Int)∧j ≤ J∧nv=.int .i64 (Tr.sat (A+j * (N+1)):Nat)∧wz=wr) (fun _ _ iv _=>(m+J) - (intOf iv).toNat)
       case atStart=>exact ⟨0,rfl,rfl,Nat.zero_le _,by simp,rfl⟩
       case round =>
         obtain ⟨j,rfl,rfl,hj,rfl,rfl⟩:=hrel
         have wj:IntKind.i64.wrap (((m+j:Nat):Int)+1)=((m+j:Nat):Int)+1:=IntWalk.i64_in _ (by omega)
         have wj2:IntKind.i64.wrap ((m:Int)+j+1)=(m:Int)+j+1:=IntWalk.i64_in _ (by omega)
         obtain ⟨-,-,-,f7,f8⟩:=box5 Z2.out
         rw [HHI.out] at f8
         by_cases hjJ:j < J
         · have hd:decide (((m+j:Nat):Int) < hi)=true:=by have:=HJ.out;simp;omega
           have hd2:decide ((m:Int)+j < hi)=true:=by have:=HJ.out;simp;omega
           have hsat:=Tr.sat_le (A+j * (N+1))
           have HS:=Lib.hid (show Tr.sat (Tr.sat (Tr.sat (A+j * (N+1))+N)+1)=Tr.sat (A+(j+1) * (N+1)) by rw [Tr.sat_sat,show Tr.sat (A+j * (N+1))+N+1=Tr.sat (A+j * (N+1))+(N+1) by omega,Tr.sat_sat,Nat.succ_mul,Nat.add_assoc])
           generalize Tr.sat (A+j * (N+1))=n at *
           go_wp2_with fail
           refine (trcount_any n N hsat (by omega) _ _ rfl rfl _).mono ?_
           rintro e w3 ⟨rfl,rfl⟩
           have hs2':=Tr.sat_le (n+N)
           generalize Tr.sat (n+N)=n2 at *
           go_wp2_with fail
           refine (trcount_any n2 1 hs2' (by omega) _ _ rfl rfl _).mono ?_
           rintro e w3 ⟨rfl,rfl⟩
           rw [HS.out]
           go_wp2
           exact ⟨⟨j+1,by go_num,by go_num,by omega,rfl,trivial⟩,by simp [intOf];omega⟩
         · obtain rfl:j=J:=by omega
           have hd:decide (((m+j:Nat):Int) < hi)=false:=by have:=HJ.out;simp;omega
           have hd2:decide ((m:Int)+j < hi)=false:=by have:=HJ.out;simp;omega
           have hsat:=Tr.sat_le (A+j * (N+1))
           by_cases hend:hi = -1
           · have hj0:j=0:=by have:=HJ.out;omega
             subst hj0
             have eend:(hi == -1)=true:=by simpa using hend
             have HS:=Lib.hid (show Tr.sat (Tr.sat (Tr.sat (A+0 * (N+1))+N)+1)=Tr.sat (A+N+1) by rw [Tr.sat_sat,show Tr.sat (A+0 * (N+1))+N+1=Tr.sat (A+0 * (N+1))+(N+1) by omega,Tr.sat_sat];congr 1;omega)
             generalize Tr.sat (A+0 * (N+1))=n at *
             go_wp2_with fail
             refine (trcount_any n N hsat (by omega) _ _ rfl rfl _).mono ?_
             rintro e w3 ⟨rfl,rfl⟩
             have hs2':=Tr.sat_le (n+N)
             generalize Tr.sat (n+N)=n2 at *
             go_wp2_with fail
             refine (trcount_any n2 1 hs2' (by omega) _ _ rfl rfl _).mono ?_
             rintro e w3 ⟨rfl,rfl⟩
             rw [HS.out]
             by_cases hm1:m=0
             · subst hm1
               have HX:=Lib.hid (show Tr.sat (A+N+1)=t.szT by
                 rw [HE.out,HLO.out];unfold Tr.repSz;rw [if_neg (by omega),if_neg (by omega),if_pos ⟨rfl,.inr hend⟩]
                 have:=HA.out;congr 1;omega)
               go_wp2
               go_ret
               exact ⟨ret_int (by rw [HX.out]),HB2.out⟩
             · have HX:=Lib.hid (show Tr.sat (Tr.sat (A+N+1)+1)=t.szT by
                 rw [HE.out,HLO.out];unfold Tr.repSz;rw [if_neg (by omega),if_neg (by omega),if_neg (by omega),if_pos hend,Tr.sat_sat]
                 have:=HA.out;congr 1;simp;omega)
               have hgt:decide ((1:Int) < (m:Int)+1)=true:=by simp;omega
               have hgt2:decide ((0:Int) < (m:Int))=true:=by simp;omega
               have hs3:=Tr.sat_le (A+N+1)
               generalize Tr.sat (A+N+1)=n3 at *
               go_wp2_with fail
               refine (trcount_any n3 1 hs3 (by omega) _ _ rfl rfl _).mono ?_
               rintro e w3 ⟨rfl,rfl⟩
               rw [HX.out]
               go_wp2
               go_ret
               exact ⟨rfl,HB2.out⟩
           · have eend:(hi == -1)=false:=by simpa using hend
             have hhim:(m:Int) ≤ hi:=by omega
             have hJm:((m+j:Nat):Int)=hi:=by have:=HJ.out;omega
             have hpos:1 ≤ m+j:=by have:=HM.out;omega
             by_cases h1':m+j=1
             · have HX:=Lib.hid (show Tr.sat (A+j * (N+1))=t.szT by
                 rw [HE.out,HLO.out];unfold Tr.repSz;rw [if_neg (by omega)]
                 have hA:=HA.out
                 by_cases hm1:m=1
                 · rw [if_pos ⟨by omega,by omega⟩]
                   have:j=0:=by omega
                   subst this hm1
                   unfold Tr.sat;omega
                 · have:m=0:=by omega
                   have:j=1:=by omega
                   subst this;subst m
                   rw [if_neg (by omega),if_pos ⟨rfl,.inl (by omega)⟩];congr 1;omega)
               have hgt:decide ((1:Int) < ((m+j:Nat):Int))=false:=by simp;omega
               have hgt2:decide ((1:Int) < (m:Int)+j)=false:=by simp;omega
               rw [HX.out]
               go_wp2
               go_ret
               exact ⟨rfl,HB2.out⟩
             · have HX:=Lib.hid (show Tr.sat (Tr.sat (A+j * (N+1))+1)=t.szT by
                 rw [HE.out,HLO.out];unfold Tr.repSz;rw [if_neg (by omega),if_neg (by omega),if_neg (by omega),if_neg (by omega),Tr.sat_sat]
                 have hA:=HA.out
                 have hjj:(hi - (m:Int)).toNat=j:=by omega
                 rw [hjj]
                 congr 1
                 rw [show ((m:Int)).toNat=m by simp,hA,Nat.add_comm 1 N]
                 omega)
               have hgt:decide ((1:Int) < ((m+j:Nat):Int))=true:=by simp;omega
               have hgt2:decide ((1:Int) < (m:Int)+j)=true:=by simp;omega
               generalize Tr.sat (A+j * (N+1))=n3 at *
               go_wp2_with fail
               refine (trcount_any n3 1 hsat (by omega) _ _ rfl rfl _).mono ?_
               rintro e w3 ⟨rfl,rfl⟩
               rw [HX.out]
               go_wp2
               go_ret
               exact ⟨rfl,HB2.out⟩
theorem refsize_any:∀ t:Tr,t.InForm→∀ (w:World) (B:Nat→Prop) (v:Value),NodeV w B v t→Calls Tryd.prog 87 #[v] w (SizeEnd t.szT w):=by
 intro t
 induction t using Tr.rec_subs with
 | h t ih =>
   intro hf w B v hv
   by_cases hk:t.kind=8
   · have hfl:=hf.fields
     unfold Tr.fieldsOk at hfl
     obtain ⟨-,-,-,-,-,hl,-,h0,h1,h2,-⟩:t.kind=8∧t.w0=0#64∧t.w1=0#64∧t.w2=0#64∧t.w3=0#64∧t.subs.length=1∧t.num=0∧0 ≤ t.least∧t.least ≤ 255∧(t.most = -1 ∨ (t.least ≤ t.most∧t.most ≤ 255))∧(t.bare=true→t.least=0):=by
       rcases hfl with h | h | h | h | h
       · omega
       · omega
       · omega
       · omega
       · exact h
     obtain ⟨x,hx⟩:=List.length_eq_one_iff.1 hl
     have hmem:x ∈ t.subs:=by rw [hx];exact List.mem_cons_self
     exact refsize_rep t x (fun w B v hv=>ih x hmem (hf.sub hmem) w B v hv) hx hk h0 h1 h2 w B v hv
   · exact refsize_seq t ih hf hk w B v hv
end Go.Proofs.YtedjkbmfpjmlpaaDoor
namespace Go.Proofs.YtedjkbmfpjmlpaaDoor
open Go.RowKit
theorem stays_is (t:Tr) (s:Value) (hs:∃ p l c,s=.slice p l c) (b:Bool) (hb:b=decide (t.least=0∧(t.most=1 ∨ t.most = -1))) (w:World):Calls Tryd.prog 85 #[.agg (t.cells s)] w fun e w'=>e=.returned (.bool b)∧Below w.heap.size w w':=by
 obtain ⟨p,l,c,rfl⟩:=hs
 unfold Tr.cells
 by_cases h0:t.least=0
 · by_cases h1:t.most=1
   · have hb1:b=true:=by rw [hb];simp [h0,h1]
     subst hb1
     rw [h0,h1]
     clear hb
     go_enter Tryd.func85,Tryd.ntmps85
     go_wp2
     go_ret
     exact ⟨rfl,by go_grown⟩
   · by_cases h2:t.most = -1
     · have hb1:b=true:=by rw [hb];simp [h0,h2]
       subst hb1
       rw [h0,h2]
       clear hb
       go_enter Tryd.func85,Tryd.ntmps85
       go_wp2
       go_ret
       exact ⟨rfl,by go_grown⟩
     · have hb1:b=false:=by rw [hb];simp [h1,h2]
       subst hb1
       rw [h0]
       have e1:(t.most == 1)=false:=by simpa using h1
       have e2:(t.most == -1)=false:=by simpa using h2
       clear hb h1 h2
       go_enter Tryd.func85,Tryd.ntmps85
       go_wp2
       go_ret
       exact ⟨rfl,by go_grown⟩
 · have hb1:b=false:=by rw [hb];simp [h0]
   subst hb1
   have e1:(t.least == 0)=false:=by simpa using h0
   clear hb h0
   go_enter Tryd.func85,Tryd.ntmps85
   go_wp2
   go_ret
   exact ⟨rfl,by go_grown⟩
theorem treerep (t x:Tr) (ih:∀ (w:World) (B:Nat→Prop) (v:Value),NodeV w B v x→Calls Tryd.prog 58 #[v] w (SizeEnd x.szT w)) (hsub:t.subs=[x]) (h0:0 ≤ t.least) (h1:t.least ≤ 255) (h2:t.most = -1 ∨ (t.least ≤ t.most∧t.most ≤ 255))
   (w:World) (B:Nat→Prop) (v:Value) (hv:NodeV w B v t):Calls Tryd.prog 95 #[v] w (SizeEnd (Tr.repSz t.least t.most x.szT) w):=by
 obtain ⟨s,rfl,hs⟩:=hv
 rw [hsub] at hs
 obtain ⟨p,cap,rfl,hlen⟩:=hs.slice
 have hs:TreesAt w B (.slice p 1 cap) [x]:=hs
 obtain ⟨b1,o1,s1,rfl,-,t1,sub1⟩:=hs.get (i:=0) (t:=x) rfl
 have t1':TenAt w b1 o1 x s1:=by simpa using t1
 have HC:=Lib.hid ih
 have T1:=Lib.hid t1';have SUB:=Lib.hid sub1
 have hN:=Tr.szT_le x
 have HST:=Lib.hid (fun b hb=>stays_is t (.slice (some ⟨b1,o1,none⟩) 1 cap) ⟨_,_,_,rfl⟩ b hb)
 clear ih hs hsub t1 t1' sub1 hlen
 obtain ⟨m,hm⟩:∃ m:Nat,t.least=m:=⟨t.least.toNat,by omega⟩
 have HM:=Lib.hid hm
 rw [hm] at h0 h1 h2
 have hm255:m ≤ 255:=by omega
 have hmul:m * x.szT ≤ 510255:=Nat.le_trans (Nat.mul_le_mul hm255 hN) (by omega)
 have wmul:IntKind.i64.wrap ((m:Int) * (x.szT:Int))=((m * x.szT:Nat):Int):=by rw [← Int.natCast_mul];exact IntWalk.i64_in _ (by omega)
 generalize hhi:t.most=hi at *
 have HHI:=Lib.hid hhi
 unfold Tr.cells
 rw [hm,hhi]
 clear hm hhi
 go_enter Tryd.func95,Tryd.ntmps95
 have d:=fun (o:Obj)=>T1.out.keep (w':=w.alloc o) (Below.heap_alloc w o b1 T1.out.lt)
 have e0:=fun o=>(d o).c0;have e1:=fun o=>(d o).c1;have e2:=fun o=>(d o).c2;have e3:=fun o=>(d o).c3;have e4:=fun o=>(d o).c4
 have e5:=fun o=>(d o).c5;have e6:=fun o=>(d o).c6;have e7:=fun o=>(d o).c7;have e8:=fun o=>(d o).c8;have e9:=fun o=>(d o).c9
 clear d
 go_wp2_with fail
 generalize hw1:World.alloc w _=w1
 have hb1:Below w.heap.size w w1:=by rw [← hw1];exact (Below.refl _ _).alloc (Nat.le_refl _) _
 have Z1:Hid (w1.heap[w.heap.size]? = some (.cells (t.cells (.slice (some ⟨b1,o1,none⟩) 1 cap)) 37)):=Lib.hid (by rw [← hw1,heap_alloc_new];unfold Tr.cells;rw [HM.out,HHI.out])
 have hs1:w.heap.size < w1.heap.size:=by rw [← hw1];simp
 have hcall:=HC.out w1 B (.agg (x.cells s1)) ⟨_,rfl,SUB.out.later hb1⟩
 unfold Tr.cells at hcall
 have HB1:=Lib.hid hb1
 clear hw1 e0 e1 e2 e3 e4 e5 e6 e7 e8 e9 hb1
 refine hcall.mono ?_
 rintro e w2 ⟨rfl,hb2⟩
 have HB2:=Lib.hid (HB1.out.trans (hb2.mono HB1.out.size));have Z2:=Lib.hid (keep_blk hb2 Z1.out)
 have hs2:w.heap.size < w2.heap.size:=Nat.lt_of_lt_of_le hs1 hb2.size
 clear hb2 hcall HB1 Z1
 generalize hNe:x.szT=N at *
 clear hNe
 obtain ⟨-,-,f5,f7,f8⟩:=box5 Z2.out
 rw [HM.out] at f7
 rw [HHI.out] at f8
 generalize hA:m * N=A at *
 have HA:=Lib.hid hA
 clear hA
 by_cases h11:m=1∧hi=1
 · obtain ⟨rfl,rfl⟩:=h11
   go_wp2
   go_ret
   exact ⟨ret_int (by unfold Tr.repSz;simp),HB2.out⟩
 · have H11:=Lib.hid h11
   clear h11 f5 f7 f8
   obtain ⟨-,-,f5,f7,f8⟩:=box5 Z2.out
   rw [HM.out] at f7
   rw [HHI.out] at f8
   by_cases hst:m=0∧(hi=1 ∨ hi = -1)
   · have HX:=Lib.hid (show Tr.repSz m hi N=Tr.sat (1+N) by unfold Tr.repSz;rw [if_neg (by omega),if_neg (by omega),if_pos ⟨by omega,hst.2⟩])
     obtain ⟨rfl,hst2⟩:=hst
     have HS2:=Lib.hid hst2
     have w1n:IntKind.i64.wrap (1+(N:Int))=1+(N:Int):=IntWalk.i64_in _ (by omega)
     clear hst2
     go_wp2_with (first
       | (refine wpList_load_row rfl 37 (.tmp 1) rfl w.heap.size rfl 37 _ (0,0) _ Z2.out Tryd.underlying37 rfl (by kernel_rfl) ?_)
       | fail)
     refine (HST.out true (by rw [HM.out];have:=HS2.out;simp [this]) _).mono ?_
     rintro e w3 ⟨rfl,hb3⟩
     obtain ⟨-,-,f5,f7,f8⟩:=box5 (keep_blk hb3 Z2.out)
     rw [HM.out] at f7
     rw [HHI.out] at f8
     have HB3:=Lib.hid (HB2.out.trans (hb3.mono HB2.out.size))
     clear hb3
     go_wp2
     all_goals
       go_ret
       exact ⟨ret_int (by have h:=HX.out;(first | rw [h] | (push_cast at h;rw [h]));unfold Tr.sat;have ha:=HA.out;(try simp only [Nat.zero_mul] at ha);omega),HB3.out⟩
   · by_cases hend:hi = -1
     · have hmpos:1 ≤ m:=by omega
       subst hend
       have HX:=Lib.hid (show Tr.repSz m (-1) N=Tr.sat (1+A+(1+N)) by unfold Tr.repSz;rw [if_neg (by omega),if_neg (by omega),if_neg (by omega),if_pos rfl];have:=HA.out;simp [this])
       have HS2:=Lib.hid hst
       have w1n:IntKind.i64.wrap (1+(N:Int))=1+(N:Int):=IntWalk.i64_in _ (by omega)
       have w1a:IntKind.i64.wrap (1+(A:Int))=1+(A:Int):=IntWalk.i64_in _ (by omega)
       have w1s:IntKind.i64.wrap (1+(A:Int)+(1+(N:Int)))=1+(A:Int)+(1+(N:Int)):=IntWalk.i64_in _ (by omega)
       clear hst
       by_cases hm1:m=1
       · subst hm1
         go_wp2_with (first
           | (refine wpList_load_row rfl 37 (.tmp 1) rfl w.heap.size rfl 37 _ (0,0) _ Z2.out Tryd.underlying37 rfl (by kernel_rfl) ?_)
           | fail)
         refine (HST.out false (by rw [HM.out];have:=HS2.out;first | (simp;done) | (simp;omega)) _).mono ?_
         rintro e w3 ⟨rfl,hb3⟩
         obtain ⟨-,-,f5,f7,f8⟩:=box5 (keep_blk hb3 Z2.out)
         rw [HM.out] at f7
         rw [HHI.out] at f8
         have HB3:=Lib.hid (HB2.out.trans (hb3.mono HB2.out.size))
         clear hb3
         go_wp2
         all_goals
           go_ret
           exact ⟨ret_int (by have h:=HX.out;(first | rw [h] | (push_cast at h;rw [h]));unfold Tr.sat;have ha:=HA.out;(try simp only [Nat.one_mul] at ha);omega),HB3.out⟩
       · have g1:((m:Int) == 1)=false:=by simp;omega
         clear hm1
         go_wp2_with (first
           | (refine wpList_load_row rfl 37 (.tmp 1) rfl w.heap.size rfl 37 _ (0,0) _ Z2.out Tryd.underlying37 rfl (by kernel_rfl) ?_)
           | fail)
         refine (HST.out false (by rw [HM.out];have:=HS2.out;first | (simp;done) | (simp;omega)) _).mono ?_
         rintro e w3 ⟨rfl,hb3⟩
         obtain ⟨-,-,f5,f7,f8⟩:=box5 (keep_blk hb3 Z2.out)
         rw [HM.out] at f7
         rw [HHI.out] at f8
         have HB3:=Lib.hid (HB2.out.trans (hb3.mono HB2.out.size))
         clear hb3
         go_wp2
         all_goals
           go_ret
           exact ⟨ret_int (by have h:=HX.out;(first | rw [h] | (push_cast at h;rw [h]));unfold Tr.sat;have ha:=HA.out;(try simp only [Nat.one_mul,Nat.zero_mul] at ha);omega),HB3.out⟩
     · obtain ⟨d,hd⟩:∃ d:Nat,hi=(m:Int)+d:=⟨(hi - m).toNat,by omega⟩
       have hdm:d * (1+N) ≤ 510510:=Nat.le_trans (Nat.mul_le_mul (show d ≤ 255 by omega) (show 1+N ≤ 2002 by omega)) (by omega)
       obtain ⟨B2,hB⟩:∃ B2,d * (1+N)=B2:=⟨_,rfl⟩
       have HX:=Lib.hid (show Tr.repSz m hi N=Tr.sat (1+A+B2) by
         rw [← hB]
         unfold Tr.repSz
         by_cases hz:hi=0
         · rw [if_pos hz]
           have hm0:m=0:=by omega
           have hd0:d=0:=by omega
           have:=HA.out
           subst hm0 hd0
           simp at this
           subst this
           simp [Tr.sat]
         · rw [if_neg hz,if_neg (by have:=H11.out;omega),if_neg (by omega),if_neg hend]
           have:=HA.out
           have hdd:(hi - (m:Int)).toNat=d:=by omega
           rw [hdd];simp [this])
       have HS2:=Lib.hid hst
       have eend:(hi == -1)=false:=by simpa using hend
       have w1n:IntKind.i64.wrap (1+(N:Int))=1+(N:Int):=IntWalk.i64_in _ (by omega)
       have w1a:IntKind.i64.wrap (1+(A:Int))=1+(A:Int):=IntWalk.i64_in _ (by omega)
       have wsub:IntKind.i64.wrap (hi - (m:Int))=(d:Int):=by rw [hd,show (m:Int)+d - m=d by omega];exact IntWalk.i64_in _ (by omega)
       have wmul2:IntKind.i64.wrap ((d:Int) * (1+(N:Int)))=((d * (1+N):Nat):Int):=by
         rw [show (d:Int) * (1+(N:Int))=((d * (1+N):Nat):Int) by push_cast;rfl];exact IntWalk.i64_in _ (by omega)
       have HD:=Lib.hid hd
       rw [hB] at hdm wmul2
       have w1s:IntKind.i64.wrap (1+(A:Int)+(B2:Int))=1+(A:Int)+(B2:Int):=IntWalk.i64_in _ (by omega)
       clear hst hd hB
       by_cases hm1:m=1
       · subst hm1
         have g2:(hi == 1)=false:=by have:=H11.out;simp;omega
         have wsub':IntKind.i64.wrap (hi - 1)=(d:Int):=by simpa using wsub
         have w1s':IntKind.i64.wrap (1+(N:Int)+(B2:Int))=1+(N:Int)+(B2:Int):=IntWalk.i64_in _ (by omega)
         clear wsub w1s w1a wmul
         go_wp2_with (first
           | (refine wpList_load_row rfl 37 (.tmp 1) rfl w.heap.size rfl 37 _ (0,0) _ Z2.out Tryd.underlying37 rfl (by kernel_rfl) ?_)
           | fail)
         refine (HST.out false (by rw [HM.out];have:=HS2.out;first | (simp;done) | (simp;omega)) _).mono ?_
         rintro e w3 ⟨rfl,hb3⟩
         obtain ⟨-,-,f5,f7,f8⟩:=box5 (keep_blk hb3 Z2.out)
         rw [HM.out] at f7
         rw [HHI.out] at f8
         have HB3:=Lib.hid (HB2.out.trans (hb3.mono HB2.out.size))
         clear hb3
         go_wp2
         all_goals
           go_ret
           exact ⟨ret_int (by have h:=HX.out;(first | rw [h] | (push_cast at h;rw [h]));unfold Tr.sat;have ha:=HA.out;(try simp only [Nat.one_mul] at ha);omega),HB3.out⟩
       · have g1:((m:Int) == 1)=false:=by simp;omega
         clear hm1
         go_wp2_with (first
           | (refine wpList_load_row rfl 37 (.tmp 1) rfl w.heap.size rfl 37 _ (0,0) _ Z2.out Tryd.underlying37 rfl (by kernel_rfl) ?_)
           | fail)
         refine (HST.out false (by rw [HM.out];have:=HS2.out;first | (simp;done) | (simp;omega)) _).mono ?_
         rintro e w3 ⟨rfl,hb3⟩
         obtain ⟨-,-,f5,f7,f8⟩:=box5 (keep_blk hb3 Z2.out)
         rw [HM.out] at f7
         rw [HHI.out] at f8
         have HB3:=Lib.hid (HB2.out.trans (hb3.mono HB2.out.size))
         clear hb3
         go_wp2
         all_goals
           go_ret
           exact ⟨ret_int (by have h:=HX.out;(first | rw [h] | (push_cast at h;rw [h]));unfold Tr.sat;have ha:=HA.out;(try simp only [Nat.one_mul,Nat.zero_mul] at ha);omega),HB3.out⟩
end Go.Proofs.YtedjkbmfpjmlpaaDoor
namespace Go.Proofs.YtedjkbmfpjmlpaaDoor
open Go.RowKit
theorem part0 (a b c d:Value) (w:World):(Go.part 22 #[a,b,c,d] 0).run Tryd.prog w=.ok a w:=by kernel_rfl
theorem part1 (a b c d:Value) (w:World):(Go.part 22 #[a,b,c,d] 1).run Tryd.prog w=.ok b w:=by kernel_rfl
theorem part2 (a b c d:Value) (w:World):(Go.part 22 #[a,b,c,d] 2).run Tryd.prog w=.ok c w:=by kernel_rfl
theorem part3 (a b c d:Value) (w:World):(Go.part 22 #[a,b,c,d] 3).run Tryd.prog w=.ok d w:=by kernel_rfl
theorem eqi (a b:Int) (w:World):(Op.equalIn 9999 22 (.int .u64 a) (.int .u64 b)).run Tryd.prog w=.ok (a == b) w:=run_equalIn_int w 9998 22 .u64 .u64 a b Tryd.underlying22
theorem eq4 (a b c d a' b' c' d':Int) (w:World):(Op.equalIn 10000 24 (.agg #[.int .u64 a,.int .u64 b,.int .u64 c,.int .u64 d]) (.agg #[.int .u64 a',.int .u64 b',.int .u64 c',.int .u64 d'])).run Tryd.prog w=.ok (a == a' && (b == b' && (c == c' && d == d'))) w:=by
 have h0:=run_underlying (P:=Tryd.prog) (w:=w) Tryd.underlying24
 unfold Op.equalIn
 simp only [Sem.run_bind,h0,Result.andThen_ok]
 simp
 rw [show List.range' 0 4=[0,1,2,3] from rfl]
 simp only [List.forIn_cons,List.forIn_nil,Sem.run_bind,part0,eqi,Result.andThen_ok]
 by_cases h1:a=a'
 · by_cases h2:b=b'
   · by_cases h3:c=c'
     · by_cases h4:d=d' <;> simp [h1,h2,h3,h4,part1,part2,part3,eqi]
     · simp [h1,h2,h3,part1,part2,eqi]
   · simp [h1,h2,part1,eqi]
 · simp [h1]
end Go.Proofs.YtedjkbmfpjmlpaaDoor
namespace Go.Proofs.YtedjkbmfpjmlpaaDoor
open Go.RowKit
theorem treesize_seq (t:Tr) (ih:∀ u,u ∈ t.subs→u.InForm→∀ (w:World) (B:Nat→Prop) (v:Value),NodeV w B v u→Calls Tryd.prog 58 #[v] w (SizeEnd u.szT w)) (hf:t.InForm) (hk:t.kind ≠ 8)
   (w:World) (B:Nat→Prop) (v:Value) (hv:NodeV w B v t):Calls Tryd.prog 58 #[v] w (SizeEnd t.szT w):=by
 obtain ⟨s,rfl,hs⟩:=hv
 obtain ⟨p,cap,rfl,hlen⟩:=hs.slice
 have HE:=Lib.hid (show t.szT=Tr.sat (1+Tr.szS t.subs) by cases t;rw [Tr.szT];simp only [Tr.kind] at hk;rw [if_neg hk];rfl)
 have HF:=Lib.hid hf
 generalize hts:t.subs=ts at *
 have HTS:=Lib.hid hts;have IH:=Lib.hid ih;have HS:=Lib.hid hs
 have e8:(t.kind == 8)=false:=by simpa using hk
 clear ih hs hf hk hts
 unfold Tr.cells
 go_enter Tryd.func58,Tryd.ntmps58
 go_wp2
 go_loopw [3,14] (fun nv iv wr=>∃ m:Nat,iv=.int .i64 m∧m ≤ ts.length∧nv=.int .i64 (Tr.sat (1+Tr.szS (ts.take m)):Nat)∧Hid (Below w.heap.size w wr)) (fun _ iv _=>ts.length - (intOf iv).toNat)
 case atStart=>exact ⟨0,rfl,Nat.zero_le _,rfl,Lib.hid (by go_grown)⟩
 case round =>
   obtain ⟨m,rfl,hm,rfl,HB⟩:=hrel
   have wm:IntKind.i64.wrap ((m:Int)+1)=(m:Int)+1:=IntWalk.i64_in _ (by omega)
   by_cases hlt:m < ts.length
   · obtain ⟨x,hx⟩:∃ x,ts[m]? = some x:=⟨_,List.getElem?_eq_getElem hlt⟩
     obtain ⟨b1,o1,s1,rfl,-,t1,sub1⟩:=HS.out.get hx
     obtain ⟨d0,d1,d2,d3,d4,d5,d6,d7,d8,d9⟩:=t1.keep (HB.out.block _ t1.lt)
     have hmem:=List.mem_of_getElem? hx
     obtain ⟨p1,c1,rfl,hl1⟩:=sub1.slice
     have HC:=Lib.hid (fun w9 hb=>IH.out x hmem (HF.out.sub (by rw [HTS.out];exact hmem)) w9 B (.agg (x.cells (.slice p1 x.subs.length c1))) ⟨_,rfl,sub1.later hb⟩)
     have hle:=Tr.sat_le (1+Tr.szS (ts.take m));have hlx:=Tr.szT_le x
     have HST:=Lib.hid (Tr.szS_take ts m x hx)
     clear t1 sub1 hmem hx
     generalize hn:Tr.sat (1+Tr.szS (ts.take m))=n at *
     have HN:=Lib.hid hn
     clear hn
     unfold Tr.cells at HC
     go_wp2_with fail
     generalize hw1:World.alloc wr _=w1
     have hb1:Below wr.heap.size wr w1:=by rw [← hw1];exact (Below.refl _ _).alloc (Nat.le_refl _) _
     clear hw1
     refine (HC.out w1 (HB.out.trans (hb1.mono HB.out.size))).mono ?_
     rintro e w2 ⟨rfl,hb2⟩
     have HB2:=Lib.hid (HB.out.trans ((hb1.trans (hb2.mono hb1.size)).mono HB.out.size))
     have wsum:IntKind.i64.wrap ((n:Int)+(x.szT:Int))=(n:Int)+x.szT:=IntWalk.i64_in _ (by omega)
     have HSUM:=Lib.hid (show Tr.sat (n+x.szT)=Tr.sat (1+Tr.szS (ts.take (m+1))) by rw [← HN.out,Tr.sat_sat,HST.out];congr 1;omega)
     generalize x.szT=N at *
     clear d0 d1 d2 d3 d4 d5 d6 d7 d8 d9 hb1 hb2 HC
     go_wp2
     all_goals
       exact ⟨⟨m+1,by go_num,by omega,by rw [← HSUM.out];unfold Tr.sat;congr 1;omega,HB2⟩,by simp [intOf];omega⟩
   · obtain rfl:m=ts.length:=by omega
     have HX:=Lib.hid (show Tr.sat (1+Tr.szS (ts.take ts.length))=t.szT by rw [List.take_length,HE.out])
     go_wp2
     go_ret
     exact ⟨ret_int (by rw [HX.out]),HB.out⟩
theorem treesize_rep (t x:Tr) (ih:∀ (w:World) (B:Nat→Prop) (v:Value),NodeV w B v x→Calls Tryd.prog 58 #[v] w (SizeEnd x.szT w)) (hsub:t.subs=[x]) (hk:t.kind=8) (h0:0 ≤ t.least) (h1:t.least ≤ 255) (h2:t.most = -1 ∨ (t.least ≤ t.most∧t.most ≤ 255))
   (w:World) (B:Nat→Prop) (v:Value) (hv:NodeV w B v t):Calls Tryd.prog 58 #[v] w (SizeEnd t.szT w):=by
 obtain ⟨s,rfl,hs⟩:=hv
 have hsz0:t.szT=Tr.repSz t.least t.most x.szT:=by
   cases t;simp only [Tr.kind,Tr.subs] at hk hsub;subst hk hsub;rw [Tr.szT,if_pos rfl,Tr.szH];rfl
 have HSZ:=Lib.hid hsz0
 have HC:=Lib.hid (fun w9 (hb:Below w.heap.size w w9)=>treerep t x ih hsub h0 h1 h2 w9 B _ ⟨s,rfl,hs.later hb⟩)
 obtain ⟨p,cap,rfl,hlen⟩:=hs.slice
 have z0:=heap_alloc_new w (.cells (t.cells (.slice p t.subs.length cap)) 37)
 have Z0:=Lib.hid z0
 clear hsz0 ih hsub h0 h1 h2 hs z0
 unfold Tr.cells at *
 rw [hk] at *
 clear hk
 go_enter Tryd.func58,Tryd.ntmps58
 go_wp2_with (first
   | (refine wpList_load_row rfl 37 (.tmp 1) rfl w.heap.size rfl 37 _ (0,0) _ Z0.out Tryd.underlying37 rfl (by kernel_rfl) ?_)
   | fail)
 refine (HC.out _ ((Below.refl _ _).alloc (Nat.le_refl _) _)).mono ?_
 rintro e w2 ⟨rfl,hb2⟩
 have HB2:=Lib.hid (((Below.refl w.heap.size w).alloc (Nat.le_refl _) _).trans (hb2.mono (by simp)))
 clear hb2
 go_wp2
 go_ret
 exact ⟨ret_int (by rw [HSZ.out]),HB2.out⟩
theorem treesize_any:∀ t:Tr,t.InForm→∀ (w:World) (B:Nat→Prop) (v:Value),NodeV w B v t→Calls Tryd.prog 58 #[v] w (SizeEnd t.szT w):=by
 intro t
 induction t using Tr.rec_subs with
 | h t ih =>
   intro hf w B v hv
   by_cases hk:t.kind=8
   · have hfl:=hf.fields
     unfold Tr.fieldsOk at hfl
     obtain ⟨-,-,-,-,-,hl,-,h0,h1,h2,-⟩:t.kind=8∧t.w0=0#64∧t.w1=0#64∧t.w2=0#64∧t.w3=0#64∧t.subs.length=1∧t.num=0∧0 ≤ t.least∧t.least ≤ 255∧(t.most = -1 ∨ (t.least ≤ t.most∧t.most ≤ 255))∧(t.bare=true→t.least=0):=by
       rcases hfl with h | h | h | h | h
       · omega
       · omega
       · omega
       · omega
       · exact h
     obtain ⟨x,hx⟩:=List.length_eq_one_iff.1 hl
     have hmem:x ∈ t.subs:=by rw [hx];exact List.mem_cons_self
     exact treesize_rep t x (fun w B v hv=>ih x hmem (hf.sub hmem) w B v hv) hx hk h0 h1 h2 w B v hv
   · exact treesize_seq t ih hf hk w B v hv
end Go.Proofs.YtedjkbmfpjmlpaaDoor
namespace Go.Proofs.YtedjkbmfpjmlpaaDoor
namespace Tr
mutual
def dpT:Tr→Nat
 | .node k _ _ _ _ s _ lo hi _=>if s.length=0 then 1 else dpS s+(if k=8∧¬ (lo=0∧(hi=1 ∨ hi = -1)) then 2 else 1)
def dpS:List Tr→Nat
 | []=>0
 | t :: l=>max (dpT t) (dpS l)
end
theorem dpS_append:∀ (l m:List Tr),dpS (l ++ m)=max (dpS l) (dpS m)
 | [],m=>by simp [dpS]
 | t :: l,m=>by rw [List.cons_append,dpS,dpS,dpS_append l m];omega
theorem dpS_take (l:List Tr) (m:Nat) (x:Tr) (h:l[m]? = some x):dpS (l.take (m+1))=max (dpS (l.take m)) (dpT x):=by
 rw [List.take_add_one,h,Option.toList_some,dpS_append,dpS,dpS];omega
theorem dpT_le_dpS {l:List Tr} {x:Tr} (h:x ∈ l):dpT x ≤ dpS l:=by
 induction l with
 | nil=>cases h
 | cons a l ih =>
   rw [dpS]
   rcases List.mem_cons.1 h with rfl | h
   · omega
   · have:=ih h;omega
end Tr
end Go.Proofs.YtedjkbmfpjmlpaaDoor
namespace Go.Proofs.YtedjkbmfpjmlpaaDoor
open Go.RowKit
theorem allTen {w:World} {b:Nat} {x0 x1 x2 x3 x4 x5 x6 x7 x8 x9:Value} {t:TypeId} (h:w.heap[b]? = some (.cells #[x0,x1,x2,x3,x4,x5,x6,x7,x8,x9] t)):w.cell? ⟨b,0,none⟩=some x0∧w.cell? ⟨b,1,none⟩=some x1∧w.cell? ⟨b,2,none⟩=some x2∧w.cell? ⟨b,3,none⟩=some x3∧w.cell? ⟨b,4,none⟩=some x4∧w.cell? ⟨b,5,none⟩=some x5∧w.cell? ⟨b,6,none⟩=some x6∧w.cell? ⟨b,7,none⟩=some x7∧w.cell? ⟨b,8,none⟩=some x8∧w.cell? ⟨b,9,none⟩=some x9:=by
 simp [World.cell?,h]
theorem Tr.dpT_eq (t:Tr):t.dpT=if t.subs.length=0 then 1 else Tr.dpS t.subs+(if t.kind=8∧¬ (t.least=0∧(t.most=1 ∨ t.most = -1)) then 2 else 1):=by
 cases t;rw [Tr.dpT];rfl
theorem treedepth_any:∀ t:Tr,t.dpT ≤ 1000000→∀ (w:World) (B:Nat→Prop) (v:Value),NodeV w B v t→Calls Tryd.prog 46 #[v] w (SizeEnd t.dpT w):=by
 intro t
 induction t using Tr.rec_subs with
 | h t ih =>
   intro hd w B v hv
   obtain ⟨s,rfl,hs⟩:=hv
   obtain ⟨p,cap,rfl,hlen⟩:=hs.slice
   have heq:=Tr.dpT_eq t
   rw [heq] at hd ⊢
   have HST:=Lib.hid (fun w'=>stays_is t (.slice p t.subs.length cap) ⟨_,_,_,rfl⟩ _ rfl w')
   clear heq
   generalize hts:t.subs=ts at *
   have HTS:=Lib.hid hts;have IH:=Lib.hid ih;have HS:=Lib.hid hs
   clear ih hs hts
   unfold Tr.cells at *
   by_cases h0:ts.length=0
   · rw [if_pos h0]
     rw [h0]
     clear hd hlen HST HTS IH HS
     go_enter Tryd.func46,Tryd.ntmps46
     go_wp2
     go_ret
     exact ⟨rfl,by go_grown⟩
   · rw [if_neg h0] at hd ⊢
     generalize hD:Tr.dpS ts+(if t.kind=8∧¬ (t.least=0∧(t.most=1 ∨ t.most = -1)) then 2 else 1)=D at hd ⊢
     have HD:=Lib.hid (show D ≤ 1000000∧Tr.dpS ts+1 ≤ D∧D ≤ Tr.dpS ts+2 from ⟨hd,by rw [← hD];split <;> omega,by rw [← hD];split <;> omega⟩)
     have HDE:=Lib.hid hD
     have e0:((ts.length:Int) == 0)=false:=by simpa using h0
     have e0':(ts.length == 0)=false:=by simpa using h0
     have Z0:=Lib.hid (heap_alloc_new w (.cells #[.int .i64 t.kind,.int .u64 (Oc.U t.w0),.int .u64 (Oc.U t.w1),.int .u64 (Oc.U t.w2),.int .u64 (Oc.U t.w3),.slice p ts.length cap,.int .i64 t.num,.int .i64 t.least,.int .i64 t.most,.bool t.bare] 37))
     have HW:=Lib.hid (show Below w.heap.size w (w.alloc (.cells #[.int .i64 t.kind,.int .u64 (Oc.U t.w0),.int .u64 (Oc.U t.w1),.int .u64 (Oc.U t.w2),.int .u64 (Oc.U t.w3),.slice p ts.length cap,.int .i64 t.num,.int .i64 t.least,.int .i64 t.most,.bool t.bare] 37)) from (Below.refl _ _).alloc (Nat.le_refl _) _)
     have hz:w.heap.size < (w.alloc (.cells #[.int .i64 t.kind,.int .u64 (Oc.U t.w0),.int .u64 (Oc.U t.w1),.int .u64 (Oc.U t.w2),.int .u64 (Oc.U t.w3),.slice p ts.length cap,.int .i64 t.num,.int .i64 t.least,.int .i64 t.most,.bool t.bare] 37)).heap.size:=by simp
     clear hd h0 hD
     go_enter Tryd.func46,Tryd.ntmps46
     go_wp2
     generalize w.alloc (.cells #[.int .i64 t.kind,.int .u64 (Oc.U t.w0),.int .u64 (Oc.U t.w1),.int .u64 (Oc.U t.w2),.int .u64 (Oc.U t.w3),.slice p ts.length cap,.int .i64 t.num,.int .i64 t.least,.int .i64 t.most,.bool t.bare] 37)=W0 at *
     go_loopw [3,13] (fun gv iv wr=>∃ m:Nat,iv=.int .i64 m∧m ≤ ts.length∧gv=.int .i64 (Tr.dpS (ts.take m):Nat)∧Hid (Below W0.heap.size W0 wr)) (fun _ iv _=>ts.length - (intOf iv).toNat)
     case atStart=>exact ⟨0,rfl,Nat.zero_le _,rfl,Lib.hid (Below.refl _ _)⟩
     case round =>
       obtain ⟨m,rfl,hm,rfl,HB⟩:=hrel
       have wm:IntKind.i64.wrap ((m:Int)+1)=(m:Int)+1:=IntWalk.i64_in _ (by omega)
       have HBW:=Lib.hid (HW.out.trans (HB.out.mono HW.out.size))
       by_cases hlt:m < ts.length
       · obtain ⟨x,hx⟩:∃ x,ts[m]? = some x:=⟨_,List.getElem?_eq_getElem hlt⟩
         obtain ⟨b1,o1,s1,rfl,-,t1,sub1⟩:=HS.out.get hx
         obtain ⟨d0,d1,d2,d3,d4,d5,d6,d7,d8,d9⟩:=t1.keep (HBW.out.block _ t1.lt)
         have hmem:=List.mem_of_getElem? hx
         obtain ⟨p1,c1,rfl,hl1⟩:=sub1.slice
         have hdx:x.dpT ≤ 1000000:=by have:=Tr.dpT_le_dpS hmem;have:=HD.out;omega
         have HC:=Lib.hid (fun w9 hb=>IH.out x hmem hdx w9 B (.agg (x.cells (.slice p1 x.subs.length c1))) ⟨_,rfl,sub1.later hb⟩)
         have HSTP:=Lib.hid (Tr.dpS_take ts m x hx)
         clear t1 sub1 hmem hx hdx
         generalize hn:Tr.dpS (ts.take m)=n at *
         clear hn
         unfold Tr.cells at HC
         go_wp2_with fail
         generalize hw1:World.alloc wr _=w1
         have hb1:Below wr.heap.size wr w1:=by rw [← hw1];exact (Below.refl _ _).alloc (Nat.le_refl _) _
         clear hw1
         refine (HC.out w1 (HBW.out.trans (hb1.mono HBW.out.size))).mono ?_
         rintro e w2 ⟨rfl,hb2⟩
         have HB2:=Lib.hid (HB.out.trans ((hb1.trans (hb2.mono hb1.size)).mono HB.out.size))
         clear d0 d1 d2 d3 d4 d5 d6 d7 d8 d9 hb1 hb2 HC
         generalize x.dpT=N at *
         go_wp2
         all_goals
           exact ⟨⟨m+1,by go_num,by omega,by rw [HSTP.out];simp;try omega,HB2⟩,by simp [intOf];omega⟩
       · obtain rfl:m=ts.length:=by omega
         rw [List.take_length] at *
         have Z1:=Lib.hid (keep_blk (HB.out.mono (Nat.le_refl _)) Z0.out)
         have hdp:=HD.out
         have w2':IntKind.i64.wrap ((Tr.dpS ts:Int)+2)=(Tr.dpS ts:Int)+2:=IntWalk.i64_in _ (by omega)
         have w1':IntKind.i64.wrap ((Tr.dpS ts:Int)+1)=(Tr.dpS ts:Int)+1:=IntWalk.i64_in _ (by omega)
         have hde:=HDE.out
         clear hdp
         obtain ⟨d0,d1,d2,d3,d4,d5,d6,d7,d8,d9⟩:=allTen Z1.out
         by_cases h8:t.kind=8
         · rw [h8] at HST Z1 HDE d0 hde
           by_cases hst:t.least=0∧(t.most=1 ∨ t.most = -1)
           · have hst':decide (t.least=0∧(t.most=1 ∨ t.most = -1))=true:=by simpa using hst
             rw [hst'] at HST
             rw [if_neg (by intro h;exact h.2 hst)] at hde
             have HDF:=Lib.hid hde
             clear hst hst' hde
             go_wp2_with fail
             refine (HST.out _).mono ?_
             rintro e w5 ⟨rfl,hb5⟩
             have HB5:=Lib.hid (HBW.out.trans (hb5.mono HBW.out.size))
             clear hb5
             go_wp2
             go_ret
             exact ⟨ret_int (by have:=HDF.out;omega),HB5.out⟩
           · have hst':decide (t.least=0∧(t.most=1 ∨ t.most = -1))=false:=by simpa using hst
             rw [hst'] at HST
             rw [if_pos ⟨rfl,hst⟩] at hde
             have HDF:=Lib.hid hde
             clear hst hst' hde
             go_wp2_with fail
             refine (HST.out _).mono ?_
             rintro e w5 ⟨rfl,hb5⟩
             have HB5:=Lib.hid (HBW.out.trans (hb5.mono HBW.out.size))
             clear hb5
             go_wp2
             go_ret
             exact ⟨ret_int (by have:=HDF.out;omega),HB5.out⟩
         · rw [if_neg (by intro h;exact h8 h.1)] at hde
           have e8:(t.kind == 8)=false:=by simpa using h8
           have HDF:=Lib.hid hde
           clear h8 hde
           go_wp2
           go_ret
           exact ⟨ret_int (by have:=HDF.out;omega),HBW.out⟩
end Go.Proofs.YtedjkbmfpjmlpaaDoor
namespace Go.Proofs.YtedjkbmfpjmlpaaDoor
open Go.RowKit
namespace Tr
def leaf (k:Int):Tr:=.node k 0#64 0#64 0#64 0#64 [] 0 0 0 false
def bytes (P:Nat→Bool):Tr:=.node 2 (Oc.mk P 0) (Oc.mk P 1) (Oc.mk P 2) (Oc.mk P 3) [] 0 0 0 false
def many (k:Int) (l:List Tr):Tr:=.node k 0#64 0#64 0#64 0#64 l 0 0 0 false
def several (k:Int):List Tr→Tr
 | []=>leaf 1
 | [t]=>t
 | l=>many k l
end Tr
theorem u0:Oc.U 0#64=0:=by decide
abbrev noNode:Array Value:=#[.int .i64 0,.int .u64 0,.int .u64 0,.int .u64 0,.int .u64 0,.slice none 0 0,.int .i64 0,.int .i64 0,.int .i64 0,.bool false]
theorem joined_many (k:Int) (ts:List Tr) (h2:2 ≤ ts.length) (x:Tr) (w:World) (B:Nat→Prop) (v:Value) (hs:TreesAt w B v ts) :
   Calls Tryd.prog 60 #[.int .i64 k,v,.agg (x.cells (.slice none 0 0))] w (OwnEnd (.many k ts) w):=by
 obtain ⟨p,cap,rfl,hlen⟩:=hs.slice
 have e0:((ts.length:Int) == 0)=false:=by rw [beq_eq_false_iff_ne];omega
 have e1:((ts.length:Int) == 1)=false:=by rw [beq_eq_false_iff_ne];omega
 have HC:=Lib.hid (fun w9 (hb:Below w.heap.size w w9)=>copies_any ts w9 B _ (hs.later hb))
 unfold Tr.cells
 clear hs
 go_enter Tryd.func60,Tryd.ntmps60
 go_wp2_with fail
 generalize hw1:World.alloc (World.alloc w _) _=w1
 have hb1:Below w.heap.size w w1:=by rw [← hw1];go_grown
 have hs1:w1.heap.size=w.heap.size+2:=by rw [← hw1];simp
 have Z1:=Lib.hid (show w1.heap[w.heap.size+1]? = some (.cells noNode 37) by rw [← hw1];exact (two_new w _ _).2)
 have HB1:=Lib.hid hb1
 clear hw1 hb1
 refine (HC.out w1 HB1.out).mono ?_
 rintro e w2 ⟨s2,F,rfl,ho,hF,hb2⟩
 obtain ⟨p2,c2,rfl,hl2⟩:=ho.slice
 have HO:=Lib.hid ho;have HF:=Lib.hid hF
 have Y1:=Lib.hid (keep_blk hb2 Z1.out)
 have HB2:=Lib.hid (HB1.out.trans (hb2.mono HB1.out.size))
 clear ho hF hb2
 go_wp2_with (first
   | (refine wpList_store_row rfl 37 (.tmp 6) (.tmp 21) rfl (w.heap.size+1) #[.int .i64 k,.int .u64 0,.int .u64 0,.int .u64 0,.int .u64 0,.slice p2 ts.length c2,.int .i64 0,.int .i64 0,.int .i64 0,.bool false] rfl rfl 37 _ Y1.out (by kernel_rfl) rfl (by simp [Value.oneCell']) ?_)
   | fail)
 refine bodyPost_ret (results_cell_row rfl _ _ (w.heap.size+1) 37 #[.int .i64 k,.int .u64 0,.int .u64 0,.int .u64 0,.int .u64 0,.slice p2 ts.length c2,.int .i64 0,.int .i64 0,.int .i64 0,.bool false] (0,0) _ rfl (heap_setRow Y1.out) Tryd.underlying37 rfl (by kernel_rfl)) rfl ⟨.slice p2 ts.length c2,F,rfl, ?_, ?_, ?_⟩
 · exact HO.out.keep fun b hb=>by have:=HF.out b hb;rw [heap_setRow_other _ _ _ (by omega)]
 · intro b hb;have:=HF.out b hb;omega
 · exact below_setRow HB2.out (Nat.le_succ _) _
theorem joined_one (k:Int) (t x:Tr) (w:World) (B:Nat→Prop) (v:Value) (hs:TreesAt w B v [t]) :
   Calls Tryd.prog 60 #[.int .i64 k,v,.agg (x.cells (.slice none 0 0))] w (OwnEnd t w):=by
 obtain ⟨p,cap,rfl,hlen⟩:=hs.slice
 have hs:TreesAt w B (.slice p 1 cap) [t]:=hs
 obtain ⟨b1,o1,s1,rfl,-,t1,sub1⟩:=hs.get (i:=0) (t:=t) rfl
 have t1':TenAt w b1 o1 t s1:=by simpa using t1
 have HC:=Lib.hid (fun w9 (hb:Below w.heap.size w w9)=>copy_any t w9 B _ ⟨s1,rfl,sub1.later hb⟩)
 have hb0:Below w.heap.size w ((w.alloc (.cells (x.cells (.slice none 0 0)) 37)).alloc (.cells noNode 37)):=by go_grown
 have T1:=Lib.hid (t1'.keep (hb0.block _ t1'.lt))
 have hz1:=(two_new w (.cells (x.cells (.slice none 0 0)) 37) (.cells noNode 37)).2
 have Z1:=Lib.hid hz1;have HB1:=Lib.hid hb0
 have hs1:((w.alloc (.cells (x.cells (.slice none 0 0)) 37)).alloc (.cells noNode 37)).heap.size=w.heap.size+2:=by simp
 unfold Tr.cells at *
 simp only [List.length_singleton]
 obtain ⟨d0,d1,d2,d3,d4,d5,d6,d7,d8,d9⟩:=T1.out
 clear hs t1 t1' sub1 hlen hb0 hz1 hs1
 go_enter Tryd.func60,Tryd.ntmps60
 go_wp2_with fail
 clear d0 d1 d2 d3 d4 d5 d6 d7 d8 d9
 refine (HC.out _ HB1.out).mono ?_
 rintro e w2 ⟨s2,F,rfl,ho,hF,hb2⟩
 obtain ⟨p2,c2,rfl,hl2⟩:=ho.slice
 have HO:=Lib.hid ho;have HF:=Lib.hid hF
 have Y1:=Lib.hid (keep_blk hb2 Z1.out)
 have HB2:=Lib.hid (HB1.out.trans (hb2.mono HB1.out.size))
 clear ho hF hb2 Z1 HB1
 go_wp2_with (first
   | (refine wpList_store_row rfl 37 (.tmp 6) (.tmp 17) rfl (w.heap.size+1) #[.int .i64 t.kind,.int .u64 (Oc.U t.w0),.int .u64 (Oc.U t.w1),.int .u64 (Oc.U t.w2),.int .u64 (Oc.U t.w3),.slice p2 t.subs.length c2,.int .i64 t.num,.int .i64 t.least,.int .i64 t.most,.bool t.bare] rfl rfl 37 _ Y1.out (by kernel_rfl) rfl (by simp [Value.oneCell']) ?_)
   | fail)
 refine bodyPost_ret (results_cell_row rfl _ _ (w.heap.size+1) 37 #[.int .i64 t.kind,.int .u64 (Oc.U t.w0),.int .u64 (Oc.U t.w1),.int .u64 (Oc.U t.w2),.int .u64 (Oc.U t.w3),.slice p2 t.subs.length c2,.int .i64 t.num,.int .i64 t.least,.int .i64 t.most,.bool t.bare] (0,0) _ rfl (heap_setRow Y1.out) Tryd.underlying37 rfl (by kernel_rfl)) rfl ⟨.slice p2 t.subs.length c2,F,rfl, ?_, ?_, ?_⟩
 · exact HO.out.keep fun b hb=>by have:=HF.out b hb;rw [heap_setRow_other _ _ _ (by simp at this;omega)]
 · intro b hb;have:=HF.out b hb;simp at this;omega
 · exact below_setRow HB2.out (Nat.le_succ _) _
theorem joined_nil (k:Int) (x:Tr) (w:World) (p:Option Addr) (cap:Nat) (hx:x.subs=[]) :
   Calls Tryd.prog 60 #[.int .i64 k,.slice p 0 cap,.agg (x.cells (.slice none 0 0))] w (OwnEnd x w):=by
 have z0:=(two_new w (.cells (x.cells (.slice none 0 0)) 37) (.cells noNode 37)).1
 have z1:=(two_new w (.cells (x.cells (.slice none 0 0)) 37) (.cells noNode 37)).2
 have Z0:=Lib.hid z0;have Z1:=Lib.hid z1;have HX:=Lib.hid hx
 clear z0 z1 hx
 unfold Tr.cells at *
 go_enter Tryd.func60,Tryd.ntmps60
 go_wp2_with (first
   | (refine wpList_load_row rfl 37 (.tmp 5) rfl w.heap.size rfl 37 _ (0,0) _ Z0.out Tryd.underlying37 rfl (by kernel_rfl) ?_)
   | (refine wpList_store_row rfl 37 (.tmp 6) (.tmp 11) rfl (w.heap.size+1) #[.int .i64 x.kind,.int .u64 (Oc.U x.w0),.int .u64 (Oc.U x.w1),.int .u64 (Oc.U x.w2),.int .u64 (Oc.U x.w3),.slice none 0 0,.int .i64 x.num,.int .i64 x.least,.int .i64 x.most,.bool x.bare] rfl rfl 37 _ Z1.out (by kernel_rfl) rfl (by simp [Value.oneCell']) ?_)
   | fail)
 refine bodyPost_ret (results_cell_row rfl _ _ (w.heap.size+1) 37 #[.int .i64 x.kind,.int .u64 (Oc.U x.w0),.int .u64 (Oc.U x.w1),.int .u64 (Oc.U x.w2),.int .u64 (Oc.U x.w3),.slice none 0 0,.int .i64 x.num,.int .i64 x.least,.int .i64 x.most,.bool x.bare] (0,0) _ rfl (heap_setRow Z1.out) Tryd.underlying37 rfl (by kernel_rfl)) rfl ⟨.slice none 0 0,[],rfl, ?_, ?_, ?_⟩
 · rw [HX.out];exact .nil _ _
 · intro b hb;cases hb
 · exact below_setRow (by go_grown) (Nat.le_succ _) _
theorem joined_any (k:Int) (ts:List Tr) (x:Tr) (hx:x.subs=[]) (w:World) (B:Nat→Prop) (v:Value) (hs:TreesAt w B v ts) (h0:ts=[]→x=.leaf 1) :
   Calls Tryd.prog 60 #[.int .i64 k,v,.agg (x.cells (.slice none 0 0))] w (OwnEnd (.several k ts) w):=by
 match ts,hs,h0 with
 | [],hs,h0 =>
   obtain ⟨p,cap,rfl,-⟩:=hs.slice
   obtain rfl:=h0 rfl
   exact joined_nil k _ w p cap rfl
 | [t],hs,_=>exact joined_one k t x w B v hs
 | a :: b :: r,hs,_=>exact joined_many k (a :: b :: r) (by simp) x w B v hs
theorem seq_any (ts:List Tr) (w:World) (B:Nat→Prop) (v:Value) (hs:TreesAt w B v ts):Calls Tryd.prog 25 #[v] w (OwnEnd (.several 5 ts) w):=by
 have HC:=Lib.hid (fun w9 (hb:Below w.heap.size w w9)=>joined_any 5 ts (.leaf 1) rfl w9 B _ (hs.later hb) (fun _=>rfl))
 obtain ⟨p,cap,rfl,hlen⟩:=hs.slice
 simp only [Tr.leaf,Tr.cells,Tr.kind,Tr.w0,Tr.w1,Tr.w2,Tr.w3,Tr.num,Tr.least,Tr.most,Tr.bare,u0] at HC
 clear hs
 go_enter Tryd.func25,Tryd.ntmps25
 go_wp2_with fail
 have z0:=heap_alloc_new w (.cells noNode 37)
 have Z0:=Lib.hid z0
 clear z0
 refine (HC.out _ ((Below.refl _ _).alloc (Nat.le_refl _) _)).mono ?_
 rintro e w2 ⟨s2,F,rfl,ho,hF,hb2⟩
 obtain ⟨p2,c2,rfl,hl2⟩:=ho.slice
 have HO:=Lib.hid ho;have HF:=Lib.hid hF
 have Y0:=Lib.hid (keep_blk hb2 Z0.out)
 have HB2:=Lib.hid (((Below.refl w.heap.size w).alloc (Nat.le_refl _) (.cells noNode 37)).trans (hb2.mono (by simp)))
 generalize Tr.several 5 ts=t at *
 clear ho hF hb2
 unfold Tr.cells
 go_wp2_with (first
   | (refine wpList_store_row rfl 37 (.tmp 2) (.tmp 5) rfl w.heap.size #[.int .i64 t.kind,.int .u64 (Oc.U t.w0),.int .u64 (Oc.U t.w1),.int .u64 (Oc.U t.w2),.int .u64 (Oc.U t.w3),.slice p2 t.subs.length c2,.int .i64 t.num,.int .i64 t.least,.int .i64 t.most,.bool t.bare] rfl rfl 37 _ Y0.out (by kernel_rfl) rfl (by simp [Value.oneCell']) ?_)
   | fail)
 refine bodyPost_ret (results_cell_row rfl _ _ w.heap.size 37 #[.int .i64 t.kind,.int .u64 (Oc.U t.w0),.int .u64 (Oc.U t.w1),.int .u64 (Oc.U t.w2),.int .u64 (Oc.U t.w3),.slice p2 t.subs.length c2,.int .i64 t.num,.int .i64 t.least,.int .i64 t.most,.bool t.bare] (0,0) _ rfl (heap_setRow Y0.out) Tryd.underlying37 rfl (by kernel_rfl)) rfl ⟨.slice p2 t.subs.length c2,F,rfl, ?_, ?_, ?_⟩
 · exact HO.out.keep fun b hb=>by have:=HF.out b hb;rw [heap_setRow_other _ _ _ (by simp at this;omega)]
 · intro b hb;have:=HF.out b hb;simp at this;omega
 · exact below_setRow HB2.out (Nat.le_refl _) _
theorem bytes_is (a b c d:BitVec 64) (w:World):Calls Tryd.prog 61 #[(.agg #[.int .u64 (Oc.U a),.int .u64 (Oc.U b),.int .u64 (Oc.U c),.int .u64 (Oc.U d)])] w fun e w'=>e=.returned (.agg #[.int .i64 2,.int .u64 (Oc.U a),.int .u64 (Oc.U b),.int .u64 (Oc.U c),.int .u64 (Oc.U d),.slice none 0 0,.int .i64 0,.int .i64 0,.int .i64 0,.bool false])∧Below w.heap.size w w':=by
 have z0:=(two_new w (.cells #[.int .u64 (Oc.U a),.int .u64 (Oc.U b),.int .u64 (Oc.U c),.int .u64 (Oc.U d)] 24) (.cells noNode 37)).1
 have z1:=(two_new w (.cells #[.int .u64 (Oc.U a),.int .u64 (Oc.U b),.int .u64 (Oc.U c),.int .u64 (Oc.U d)] 24) (.cells noNode 37)).2
 have Z0:=Lib.hid z0;have Z1:=Lib.hid z1
 clear z0 z1
 go_enter Tryd.func61,Tryd.ntmps61
 go_wp2_with (first
   | (refine wpList_load_row rfl 24 (.tmp 1) rfl w.heap.size rfl 24 _ (0,0) _ Z0.out Tryd.underlying24 rfl (by kernel_rfl) ?_)
   | (refine wpList_store_row rfl 37 (.tmp 2) (.tmp 4) rfl (w.heap.size+1) #[.int .i64 2,.int .u64 (Oc.U a),.int .u64 (Oc.U b),.int .u64 (Oc.U c),.int .u64 (Oc.U d),.slice none 0 0,.int .i64 0,.int .i64 0,.int .i64 0,.bool false] rfl rfl 37 _ Z1.out (by kernel_rfl) rfl (by simp [Value.oneCell']) ?_)
   | fail)
 exact bodyPost_ret (results_cell_row rfl _ _ (w.heap.size+1) 37 #[.int .i64 2,.int .u64 (Oc.U a),.int .u64 (Oc.U b),.int .u64 (Oc.U c),.int .u64 (Oc.U d),.slice none 0 0,.int .i64 0,.int .i64 0,.int .i64 0,.bool false] (0,0) _ rfl (heap_setRow Z1.out) Tryd.underlying37 rfl (by kernel_rfl)) rfl ⟨rfl,below_setRow (by go_grown) (Nat.le_succ _) _⟩
theorem bytes_any (P:Nat→Bool) (w:World):Calls Tryd.prog 61 #[(.agg #[.int .u64 (Oc.U (Oc.mk P 0)),.int .u64 (Oc.U (Oc.mk P 1)),.int .u64 (Oc.U (Oc.mk P 2)),.int .u64 (Oc.U (Oc.mk P 3))])] w (OwnEnd (.bytes P) w):=by
 refine (bytes_is _ _ _ _ w).mono ?_
 rintro e w' ⟨rfl,hb⟩
 exact ⟨.slice none 0 0,[],rfl,.nil _ _,fun b hb=>(by cases hb),hb⟩
end Go.Proofs.YtedjkbmfpjmlpaaDoor
namespace Go.Proofs.YtedjkbmfpjmlpaaDoor
open Go.RowKit
theorem only_any (v:Nat) (hv:v < 256) (w:World):Calls Tryd.prog 93 #[.int .u8 (v:Int)] w fun e w'=>e=.returned (.agg #[.int .u64 (Oc.U (Oc.mk (fun x=>x == v) 0)),.int .u64 (Oc.U (Oc.mk (fun x=>x == v) 1)),.int .u64 (Oc.U (Oc.mk (fun x=>x == v) 2)),.int .u64 (Oc.U (Oc.mk (fun x=>x == v) 3))])∧Below w.heap.size w w':=by
 have ht:∀ j,(fun x=>x == v) j=((fun _=>false) j || j == v):=fun j=>by simp
 have e:∀ k,Oc.mk (fun x=>x == v) k=if v / 64=k then 1#64 <<< (v % 64) else 0#64:=by
   intro k
   by_cases h:v / 64=k
   · rw [if_pos h,Oc.mk_turn ht h,Oc.mk_none,BitVec.zero_or]
   · rw [if_neg h,Oc.mk_same ht h,Oc.mk_none]
 rw [e 0,e 1,e 2,e 3]
 clear e ht
 have hq:v / 64=0 ∨ v / 64=1 ∨ v / 64=2 ∨ v / 64=3:=by omega
 rcases hq with hq | hq | hq | hq
 all_goals
   rw [hq]
   simp (config:={ decide:=true }) only [if_true,if_false]
   have z:=u0
   go_enter Tryd.func93,Tryd.ntmps93
   go_wp2
   go_returns
   refine ⟨?_,by go_grown⟩
   rw [Oc.shlBit,z]
theorem treetext_any (s:ByteArray) (hs:s.size ≤ 1000000) (w:World):Calls Tryd.prog 56 #[.string s] w (OwnEnd (.several 5 (s.data.toList.map fun c=>Tr.bytes (fun x=>x == c.toNat))) w):=by
 obtain ⟨ts,hts⟩:∃ ts,(s.data.toList.map fun c=>Tr.bytes (fun x=>x == c.toNat))=ts:=⟨_,rfl⟩
 have hl:ts.length=s.size:=by rw [← hts];simp
 obtain ⟨CS,hCS,hmk⟩:=make_nodes ts.length (by omega)
 have HTS:=Lib.hid hts;have HCS:=Lib.hid hCS
 rw [hts]
 rw [hl] at hmk
 clear hts hCS
 have HO:=Lib.hid only_any;have HBY:=Lib.hid bytes_any;have HSQ:=Lib.hid seq_any
 go_enter Tryd.func56,Tryd.ntmps56
 go_wp2
 go_loopw [10] (fun iv wr=>∃ m:Nat,iv=.int .i64 m∧m ≤ ts.length∧Hid (Below w.heap.size w wr)∧w.heap.size+1 < wr.heap.size∧Hid (∃ C:Array Value,wr.heap[w.heap.size+1]? = some (.cells C 37)∧C.size=ts.length * 10)∧Hid (CopiedTo wr (w.heap.size+1) ts m)∧Hid (wr.heap[w.heap.size]? = some (.cells noNode 37))) (fun iv _=>ts.length - (intOf iv).toNat)
 case atStart=>exact ⟨0,rfl,Nat.zero_le _,Lib.hid (by go_grown),by simp,Lib.hid ⟨CS,(two_new _ _ _).2,HCS.out⟩,Lib.hid (CopiedTo.zero _ _ _),Lib.hid (two_new _ _ _).1⟩
 case round =>
   obtain ⟨m,rfl,hm,HB,hsz,HC,HD,Z0⟩:=hrel
   have wm:IntKind.i64.wrap ((m:Int)+1)=(m:Int)+1:=IntWalk.i64_in _ (by omega)
   by_cases hlt:m < ts.length
   · have hsm:m < s.size:=by omega
     have hx:ts[m]? = some (Tr.bytes (fun x=>x == s[m].toNat)):=by
       have:s.data.toList[m]? = some s[m]:=by
         rw [List.getElem?_eq_getElem (by simpa using hsm)];rfl
       rw [← HTS.out,List.getElem?_map,this];rfl
     have hd1:decide ((m:Int) < s.size)=true:=by simp;omega
     have hd1':decide (m < s.size)=true:=by simpa using hsm
     have hc:=s[m].toNat_lt
     have HX:=Lib.hid hx
     clear hx
     go_wp2_with fail
     generalize s[m].toNat=n at *
     refine (HO.out n hc wr).mono ?_
     rintro e w1 ⟨rfl,hb1⟩
     generalize hP:(fun x=>x == n)=P at *
     have HB1:=Lib.hid hb1
     clear hb1 hP
     go_wp2_with fail
     refine (HBY.out P w1).mono ?_
     rintro e w2 ⟨s2,F2,rfl,ho2,hF2,hb2⟩
     obtain ⟨p2,c2,rfl,hl2⟩:=ho2.slice
     have hb12:Below wr.heap.size wr w2:=HB1.out.trans (hb2.mono HB1.out.size)
     obtain ⟨C,hC1,hC2⟩:=HC.out
     have hC3:=keep_blk hb12 hC1
     have hth:w2.there (w.heap.size+1) (m * 10) 10:=there_row hC3 (by omega)
     have HTH:=Lib.hid hth
     generalize hxt:Tr.bytes P=x at *
     have HST:=Lib.hid (HD.out.step HX.out hb12 hsz ho2 (fun b hb=>Nat.le_trans HB1.out.size (hF2 b hb)) hth)
     have HB2:=Lib.hid (HB.out.trans (hb12.mono HB.out.size))
     have HC4:Hid (∃ C:Array Value,(w2.setCells (w.heap.size+1) (m * 10) (x.cells (.slice p2 x.subs.length c2)).toList).heap[w.heap.size+1]? = some (.cells C 37)∧C.size=ts.length * 10):=Lib.hid (row_setCells hC3 hC2)
     have Z4:Hid ((w2.setCells (w.heap.size+1) (m * 10) (x.cells (.slice p2 x.subs.length c2)).toList).heap[w.heap.size]? = some (.cells noNode 37)):=Lib.hid (by rw [heap_setCells_other (by omega)];exact keep_blk hb12 Z0.out)
     have hs2:w.heap.size+1 < w2.heap.size:=Nat.lt_of_lt_of_le hsz hb12.size
     clear hb2 hb12 ho2 hF2 hC1 hC2 hC3 hth hxt HBY HO
     go_wp2_with (first
       | (refine wpList_store_mid rfl 37 (.tmp 20) (.tmp 19) rfl (w.heap.size+1) (m * 10) (x.cells (.slice p2 x.subs.length c2)) rfl rfl HTH.out (by kernel_rfl) (nodeC_all _ _ _ _) ?_;generalize hw3:World.setCells w2 _ _ _=w3;have HW3:=Lib.hid hw3;clear hw3)
       | fail)
     rw [← HW3.out]
     exact ⟨⟨m+1,by go_num,by omega,Lib.hid (setCells_below HB2.out (by omega) _ _),by rw [size_setCells];exact hs2,HC4,HST,Z4⟩,by simp [intOf];omega⟩
   · obtain rfl:m=ts.length:=by omega
     obtain ⟨C,hC1,-⟩:=HC.out
     obtain ⟨F,hF,hF2⟩:=HD.out.owned (by omega) ⟨C,_,hC1⟩ ts.length
     have hcall:=HSQ.out ts wr (fun b=>b ∈ F) _ hF.trees
     rw [hl] at hcall
     have HCALL:=Lib.hid hcall
     clear hcall hC1 HC HD hF2
     go_wp2_with fail
     refine HCALL.out.mono ?_
     rintro e w2 ⟨s2,F2,rfl,ho2,hF2',hb2⟩
     obtain ⟨p2,c2,rfl,hl2⟩:=ho2.slice
     have HO2:=Lib.hid ho2;have HF2:=Lib.hid hF2'
     have Y0:=Lib.hid (keep_blk hb2 Z0.out)
     have HB2:=Lib.hid (HB.out.trans (hb2.mono HB.out.size))
     generalize Tr.several 5 ts=t at *
     clear ho2 hF2' hb2 HCALL
     unfold Tr.cells
     go_wp2_with (first
       | (refine wpList_store_row rfl 37 (.tmp 2) (.tmp 23) rfl w.heap.size #[.int .i64 t.kind,.int .u64 (Oc.U t.w0),.int .u64 (Oc.U t.w1),.int .u64 (Oc.U t.w2),.int .u64 (Oc.U t.w3),.slice p2 t.subs.length c2,.int .i64 t.num,.int .i64 t.least,.int .i64 t.most,.bool t.bare] rfl rfl 37 _ Y0.out (by kernel_rfl) rfl (by simp [Value.oneCell']) ?_)
       | fail)
     refine bodyPost_ret (results_cell_row rfl _ _ w.heap.size 37 #[.int .i64 t.kind,.int .u64 (Oc.U t.w0),.int .u64 (Oc.U t.w1),.int .u64 (Oc.U t.w2),.int .u64 (Oc.U t.w3),.slice p2 t.subs.length c2,.int .i64 t.num,.int .i64 t.least,.int .i64 t.most,.bool t.bare] (0,0) _ rfl (heap_setRow Y0.out) Tryd.underlying37 rfl (by kernel_rfl)) rfl ⟨.slice p2 t.subs.length c2,F2,rfl, ?_, ?_, ?_⟩
     · exact HO2.out.keep fun b hb=>by have:=HF2.out b hb;rw [heap_setRow_other _ _ _ (by omega)]
     · intro b hb;have:=HF2.out b hb;omega
     · exact below_setRow HB2.out (Nat.le_refl _) _
end Go.Proofs.YtedjkbmfpjmlpaaDoor
namespace Go.Proofs.YtedjkbmfpjmlpaaDoor
open Go.RowKit
theorem row_of_ten {w:World} {g:Nat} {cs:Array Value} {ty:TypeId} {u:Tr} {s:Value} (h:w.heap[g]? = some (.cells cs ty (0,0))) (hs:cs.size=10) (ht:TenAt w g 0 u s):w.heap[g]? = some (.cells (u.cells s) ty (0,0)):=by
 have e:∀ j v,w.cell? ⟨g,j,none⟩=some v→cs[j]? = some v:=fun j v hv=>by simpa [World.cell?,h] using hv
 have hcs:cs=u.cells s:=by
   apply Array.ext_getElem?
   intro i
   by_cases hi:i < 10
   · have:i=0 ∨ i=1 ∨ i=2 ∨ i=3 ∨ i=4 ∨ i=5 ∨ i=6 ∨ i=7 ∨ i=8 ∨ i=9:=by omega
     rcases this with rfl | rfl | rfl | rfl | rfl | rfl | rfl | rfl | rfl | rfl
     · exact e 0 _ ht.c0
     · exact e 1 _ ht.c1
     · exact e 2 _ ht.c2
     · exact e 3 _ ht.c3
     · exact e 4 _ ht.c4
     · exact e 5 _ ht.c5
     · exact e 6 _ ht.c6
     · exact e 7 _ ht.c7
     · exact e 8 _ ht.c8
     · exact e 9 _ ht.c9
   · rw [Array.getElem?_eq_none (by omega),Array.getElem?_eq_none (by simp [Tr.cells];omega)]
 rw [h,hcs]
theorem ten_of_row {w:World} {g:Nat} {u:Tr} {s:Value} {ty:TypeId} (h:w.heap[g]? = some (.cells (u.cells s) ty)):TenAt w g 0 u s:=by
 obtain ⟨q0,q1,q2,q3,q4,q5,q6,q7,q8,q9⟩:=allTen h
 exact ⟨q0,q1,q2,q3,q4,q5,q6,q7,q8,q9⟩
theorem tuapi_any (t:Tr) (w:World) (B:Nat→Prop) (v:Value) (hv:NodeV w B v t):Calls Tryd.prog 42 #[v] w (OwnEnd t.turT w):=by
 obtain ⟨s,rfl,hs⟩:=hv
 obtain ⟨p,cap,rfl,hlen⟩:=hs.slice
 have HC:=Lib.hid (fun w9 (hb:Below w.heap.size w w9)=>copy_any t w9 B (.agg (t.cells (.slice p t.subs.length cap))) ⟨_,rfl,hs.later hb⟩)
 obtain ⟨z0,z1⟩:=two_new w (.cells (t.cells (.slice p t.subs.length cap)) 37) (.cells noNode 37)
 have hb0:Below w.heap.size w ((w.alloc (.cells (t.cells (.slice p t.subs.length cap)) 37)).alloc (.cells noNode 37)):=by go_grown
 have hs0:((w.alloc (.cells (t.cells (.slice p t.subs.length cap)) 37)).alloc (.cells noNode 37)).heap.size=w.heap.size+2:=by simp
 have Z0:=Lib.hid z0;have Z1:=Lib.hid z1;have HB0:=Lib.hid hb0;have HS0:=Lib.hid hs0
 clear hs z0 z1 hb0 hs0 hlen
 obtain ⟨u,hu⟩:∃ u,u=t.turT:=⟨_,rfl⟩
 have HU:=Lib.hid hu
 rw [← hu]
 clear hu
 unfold Tr.cells at *
 unfold OwnEnd Tr.cells
 go_enter Tryd.func42,Tryd.ntmps42
 go_upto_region 1 with (fail)
 generalize (w.alloc _).alloc _=W0 at *
 go_wp2_with (first
   | (refine wpList_load_row rfl 37 (.tmp 1) rfl w.heap.size rfl 37 _ (0,0) _ Z0.out Tryd.underlying37 rfl (by kernel_rfl) ?_)
   | fail)
 refine (HC.out W0 HB0.out).mono ?_
 rintro e w2 ⟨s2,F,rfl,ho,hF,hb2⟩
 obtain ⟨p2,c2,rfl,hl2⟩:=ho.slice
 have hb3:Below w2.heap.size w2 (World.setRow (w2.alloc (.cells #[.int .i64 0,.int .u64 0,.int .u64 0,.int .u64 0,.int .u64 0,.slice none 0 0,.int .i64 0,.int .i64 0,.int .i64 0,.bool false] 37)) w2.heap.size #[.int .i64 t.kind,.int .u64 (Oc.U t.w0),.int .u64 (Oc.U t.w1),.int .u64 (Oc.U t.w2),.int .u64 (Oc.U t.w3),.slice p2 t.subs.length c2,.int .i64 t.num,.int .i64 t.least,.int .i64 t.most,.bool t.bare]):=below_setRow ((Below.refl _ _).alloc (Nat.le_refl _) _) (Nat.le_refl _) _
 have V1:=Lib.hid (keep_blk hb3 (keep_blk hb2 Z1.out))
 have V2:=Lib.hid (show (World.setRow (w2.alloc (.cells #[.int .i64 0,.int .u64 0,.int .u64 0,.int .u64 0,.int .u64 0,.slice none 0 0,.int .i64 0,.int .i64 0,.int .i64 0,.bool false] 37)) w2.heap.size #[.int .i64 t.kind,.int .u64 (Oc.U t.w0),.int .u64 (Oc.U t.w1),.int .u64 (Oc.U t.w2),.int .u64 (Oc.U t.w3),.slice p2 t.subs.length c2,.int .i64 t.num,.int .i64 t.least,.int .i64 t.most,.bool t.bare]).heap[w2.heap.size]? = some (.cells (t.cells (.slice p2 t.subs.length c2)) 37) from heap_setRow (heap_alloc_new _ _))
 have HZ3:=Lib.hid (show w2.heap.size+1 ≤ (World.setRow (w2.alloc (.cells #[.int .i64 0,.int .u64 0,.int .u64 0,.int .u64 0,.int .u64 0,.slice none 0 0,.int .i64 0,.int .i64 0,.int .i64 0,.bool false] 37)) w2.heap.size #[.int .i64 t.kind,.int .u64 (Oc.U t.w0),.int .u64 (Oc.U t.w1),.int .u64 (Oc.U t.w2),.int .u64 (Oc.U t.w3),.slice p2 t.subs.length c2,.int .i64 t.num,.int .i64 t.least,.int .i64 t.most,.bool t.bare]).heap.size from by rw [size_setRow];simp)
 have HO:=Lib.hid (ho.later hb3)
 have HF:=Lib.hid (show ∀ b,b ∈ F→w.heap.size+2 ≤ b∧b < w2.heap.size from fun b hb=>⟨by have:=hF b hb;have:=HS0.out;omega,ho.lt b hb⟩)
 have HSZ:=Lib.hid (show w.heap.size+2 ≤ w2.heap.size from by have:=hb2.size;have:=HS0.out;omega)
 have HB2:=Lib.hid ((HB0.out.trans (hb2.mono HB0.out.size)).trans (hb3.mono (HB0.out.trans (hb2.mono HB0.out.size)).size))
 clear ho hF hb2 hb3 HC Z0 Z1 HB0 HS0
 have hti:=TreeIn.mk (F:=F) (ten_of_row V2.out) HO.out (fun e=>by have:=(HF.out _ e).2;omega) ⟨_,_,V2.out⟩
 have HCALL:=Lib.hid (tuturn_any t _ w2.heap.size 0 _ F hti)
 clear hti
 unfold Tr.cells at V1 V2 HB2 HCALL HO
 go_upto_region 2 with (first
   | (refine wpList_store_row rfl 37 (.tmp 3) (.tmp 5) rfl w2.heap.size #[.int .i64 t.kind,.int .u64 (Oc.U t.w0),.int .u64 (Oc.U t.w1),.int .u64 (Oc.U t.w2),.int .u64 (Oc.U t.w3),.slice p2 t.subs.length c2,.int .i64 t.num,.int .i64 t.least,.int .i64 t.most,.bool t.bare] rfl rfl 37 _ (heap_alloc_new _ _) (by kernel_rfl) rfl (by simp [Value.oneCell']) ?_)
   | fail)
 try simp only [Act.put]
 generalize World.setRow (w2.alloc (.cells #[.int .i64 0,.int .u64 0,.int .u64 0,.int .u64 0,.int .u64 0,.slice none 0 0,.int .i64 0,.int .i64 0,.int .i64 0,.bool false] 37)) w2.heap.size #[.int .i64 t.kind,.int .u64 (Oc.U t.w0),.int .u64 (Oc.U t.w1),.int .u64 (Oc.U t.w2),.int .u64 (Oc.U t.w3),.slice p2 t.subs.length c2,.int .i64 t.num,.int .i64 t.least,.int .i64 t.most,.bool t.bare]=w3 at *
 go_wp2_with fail
 refine HCALL.out.mono ?_
 rintro e w4 ⟨rfl,ht4,⟨F',ho4,hF4⟩,htc,hbc⟩
 obtain ⟨cs,hcs,hcz⟩:=hbc.2 _ _ V2.out
 have X2:=Lib.hid (row_of_ten hcs (by rw [hcz];rfl) ht4)
 have X1:=Lib.hid ((htc.block (w.heap.size+1) (by have:=HSZ.out;have:=HZ3.out;omega) (fun e=>by
   rcases List.mem_cons.1 e with e | e
   · have:=HSZ.out;omega
   · have:=(HF.out _ e).1;omega)).trans V1.out)
 have HO4:=Lib.hid ho4
 have HF4:=Lib.hid (show ∀ b,b ∈ F'→w.heap.size+2 ≤ b from fun b hb=>(HF.out b (hF4 b hb)).1)
 have HB4:=Lib.hid (HB2.out.trans (htc.below (B:=w.heap.size) (fun k hk=>by
   rcases List.mem_cons.1 hk with e | e
   · have:=HSZ.out;omega
   · have:=(HF.out _ e).1;omega) HB2.out.size))
 clear ht4 ho4 hF4 htc hbc hcs hcz HCALL V1 V2 HB2 HO
 rw [← HU.out] at X2 HO4
 unfold Tr.cells at X2
 have hsl:=HO4.out.slice
 obtain ⟨p3,c3,e3,-⟩:=hsl
 rw [e3] at X2 HO4
 go_wp2_with (first
   | (refine wpList_load_row rfl 37 (.tmp 3) rfl w2.heap.size rfl 37 _ (0,0) _ X2.out Tryd.underlying37 rfl (by kernel_rfl) ?_)
   | (refine wpList_store_row rfl 37 (.tmp 2) (.tmp 7) rfl (w.heap.size+1) #[.int .i64 u.kind,.int .u64 (Oc.U u.w0),.int .u64 (Oc.U u.w1),.int .u64 (Oc.U u.w2),.int .u64 (Oc.U u.w3),.slice p3 u.subs.length c3,.int .i64 u.num,.int .i64 u.least,.int .i64 u.most,.bool u.bare] rfl rfl 37 _ X1.out (by kernel_rfl) rfl (by simp [Value.oneCell']) ?_)
   | fail)
 refine bodyPost_ret (results_cell_row rfl _ _ (w.heap.size+1) 37 #[.int .i64 u.kind,.int .u64 (Oc.U u.w0),.int .u64 (Oc.U u.w1),.int .u64 (Oc.U u.w2),.int .u64 (Oc.U u.w3),.slice p3 u.subs.length c3,.int .i64 u.num,.int .i64 u.least,.int .i64 u.most,.bool u.bare] (0,0) _ rfl (heap_setRow X1.out) Tryd.underlying37 rfl (by kernel_rfl)) rfl ⟨.slice p3 u.subs.length c3,F',rfl, ?_, ?_, ?_⟩
 · exact HO4.out.keep fun b hb=>by have:=HF4.out b hb;rw [heap_setRow_other _ _ _ (by omega)]
 · intro b hb;have:=HF4.out b hb;omega
 · exact below_setRow HB4.out (Nat.le_succ _) _
end Go.Proofs.YtedjkbmfpjmlpaaDoor
namespace Go.Proofs.YtedjkbmfpjmlpaaDoor
open Go.RowKit
def LsAt (w:World) (v:Value) (ts:List Tr):Prop:=TreesAt w (fun _=>True) v ts
theorem TreesAt.any {w:World} {B:Nat→Prop} {s:Value} {ts:List Tr} (h:TreesAt w B s ts):TreesAt w (fun _=>True) s ts:=h.mono fun _ _ _=>trivial
theorem twenty {w:World} {b:Nat} {x0 x1 x2 x3 x4 x5 x6 x7 x8 x9 y0 y1 y2 y3 y4 y5 y6 y7 y8 y9:Value} {t:TypeId} (h:w.heap[b]? = some (.cells #[x0,x1,x2,x3,x4,x5,x6,x7,x8,x9,y0,y1,y2,y3,y4,y5,y6,y7,y8,y9] t)) :
   (w.cell? ⟨b,0,none⟩=some x0∧w.cell? ⟨b,1,none⟩=some x1∧w.cell? ⟨b,2,none⟩=some x2∧w.cell? ⟨b,3,none⟩=some x3∧w.cell? ⟨b,4,none⟩=some x4∧w.cell? ⟨b,5,none⟩=some x5∧w.cell? ⟨b,6,none⟩=some x6∧w.cell? ⟨b,7,none⟩=some x7∧w.cell? ⟨b,8,none⟩=some x8∧w.cell? ⟨b,9,none⟩=some x9) ∧
   (w.cell? ⟨b,10,none⟩=some y0∧w.cell? ⟨b,11,none⟩=some y1∧w.cell? ⟨b,12,none⟩=some y2∧w.cell? ⟨b,13,none⟩=some y3∧w.cell? ⟨b,14,none⟩=some y4∧w.cell? ⟨b,15,none⟩=some y5∧w.cell? ⟨b,16,none⟩=some y6∧w.cell? ⟨b,17,none⟩=some y7∧w.cell? ⟨b,18,none⟩=some y8∧w.cell? ⟨b,19,none⟩=some y9):=by
 simp [World.cell?,h]
def cells2 (t u:Tr) (s r:Value):Array Value :=
 #[.int .i64 t.kind,.int .u64 (Oc.U t.w0),.int .u64 (Oc.U t.w1),.int .u64 (Oc.U t.w2),.int .u64 (Oc.U t.w3),s,.int .i64 t.num,.int .i64 t.least,.int .i64 t.most,.bool t.bare,
   .int .i64 u.kind,.int .u64 (Oc.U u.w0),.int .u64 (Oc.U u.w1),.int .u64 (Oc.U u.w2),.int .u64 (Oc.U u.w3),r,.int .i64 u.num,.int .i64 u.least,.int .i64 u.most,.bool u.bare]
theorem LsAt.two {w:World} {t u:Tr} {s r:Value} (h:TreesAt w (fun _=>True) s t.subs) (k:TreesAt w (fun _=>True) r u.subs):LsAt (w.alloc (.cells (cells2 t u s r) 37)) (.slice (some ⟨w.heap.size,0,none⟩) 2 2) [t,u]:=by
 have hb:Below w.heap.size w (w.alloc (.cells (cells2 t u s r) 37)):=(Below.refl _ _).alloc (Nat.le_refl _) _
 have two:∀ (i:Nat) (t':Tr),([t,u]:List Tr)[i]? = some t'→(i=0∧t'=t) ∨ (i=1∧t'=u):=fun i t' hi=>by
   match i,hi with
   | 0,hi=>exact .inl ⟨rfl,by simpa using hi.symm⟩
   | 1,hi=>exact .inr ⟨rfl,by simpa using hi.symm⟩
   | i+2,hi=>simp at hi
 refine TreesAt.mk (ts:=[t,u]) (some ⟨w.heap.size,0,none⟩) 2 (fun i=>if i=0 then s else r) (by simp) (fun i t' hi=>?_) (fun i t' hi=>?_)
 · obtain ⟨⟨d0,d1,d2,d3,d4,d5,d6,d7,d8,d9⟩,e0,e1,e2,e3,e4,e5,e6,e7,e8,e9⟩:=twenty (heap_alloc_new w (.cells (cells2 t u s r) 37))
   rcases two i t' hi with ⟨rfl,rfl⟩ | ⟨rfl,rfl⟩
   · exact ⟨_,0,rfl,trivial,d0,d1,d2,d3,d4,d5,d6,d7,d8,d9⟩
   · exact ⟨_,0,rfl,trivial,e0,e1,e2,e3,e4,e5,e6,e7,e8,e9⟩
 · rcases two i t' hi with ⟨rfl,rfl⟩ | ⟨rfl,rfl⟩
   · exact h.later hb
   · exact k.later hb
theorem wp_node2 {Q:Exit→Act→World→Prop} {o:Oper} {a:Act} {w:World} {K:Act→World→Prop} (x y:Operand) (t u:Tr) (p:Option Addr) (len cap:Nat) (p':Option Addr) (len' cap':Nat) (ho:o.op=.buildSlice 35 2 #[(0,x),(1,y)]) (hx:a.eval x=.agg (t.cells (.slice p len cap))) (hy:a.eval y=.agg (u.cells (.slice p' len' cap')))
   (h:K (a.put o.dst (.slice (some ⟨w.heap.size,0,none⟩) 2 2)) (w.alloc (.cells (cells2 t u (.slice p len cap) (.slice p' len' cap')) 37))):Oper.wp Tryd.prog o a w K Q:=by
 obtain ⟨ie,hi,hz0,hz1,-⟩:=info_parts Tryd.infoNode
 refine wp_buildSlice 35 37 2 _ ho _ ie _ Tryd.underlying35 hi hz0 (by rw [hz1];decide) (by rw [hz1];decide) ?_ h
 rw [hz1]
 simp only [List.map_toArray,List.map_cons,List.map_nil,hx,hy]
 kernel_rfl
end Go.Proofs.YtedjkbmfpjmlpaaDoor
namespace Go.Proofs.YtedjkbmfpjmlpaaDoor
open Go.RowKit
def tuA:Tr:=.bytes fun x=>x == 97
def tuT:Tr:=.several 5 [.leaf 3,tuA]
theorem tuT_kind:tuT.turT.kind=5:=by rw [Tr.turT_kind];rfl
theorem tuT_subs:tuT.turT.subs=[tuA.turT,Tr.turT (.leaf 3)]:=by rw [Tr.turT_subs];rfl
theorem tuA_kind:tuA.turT.kind=2:=by rw [Tr.turT_kind];rfl
theorem tuB_kind:(Tr.turT (.leaf 3)).kind=4:=by rw [Tr.turT_kind];rfl
theorem tulives_any (w:World):Calls Tryd.prog 41 #[] w fun e w'=>e=.returned (.bool true)∧Below w.heap.size w w':=by
 have HT:=Lib.hid (show ∀ w,Calls Tryd.prog 56 #[.string ⟨#[97]⟩] w (OwnEnd tuA w) from fun w=>treetext_any ⟨#[97]⟩ (by decide) w)
 go_enter Tryd.func41,Tryd.ntmps41
 go_wp2_with fail
 refine (HT.out w).mono ?_
 rintro e w1 ⟨s1,F1,rfl,ho,-,hb1⟩
 obtain ⟨p1,c1,rfl,-⟩:=ho.slice
 have hls:=LsAt.two (t:=.leaf 3) (u:=tuA) (s:=.slice none 0 0) (r:=.slice p1 tuA.subs.length c1) (show TreesAt w1 (fun _=>True) (.slice none 0 0) (Tr.leaf 3).subs from TreesAt.nil) ho.trees.any
 have HLS:=Lib.hid hls
 have hba:Below w1.heap.size w1 (w1.alloc (.cells (cells2 (.leaf 3) tuA (.slice none 0 0) (.slice p1 tuA.subs.length c1)) 37)):=(Below.refl _ _).alloc (Nat.le_refl _) _
 have HB1:=Lib.hid (hb1.trans (hba.mono hb1.size))
 clear ho hb1 hls hba HT
 have hlf:(Tr.leaf 3).cells (.slice none 0 0)=#[.int .i64 3,.int .u64 0,.int .u64 0,.int .u64 0,.int .u64 0,.slice none 0 0,.int .i64 0,.int .i64 0,.int .i64 0,.bool false]:=by
   unfold Tr.leaf Tr.cells
   simp only [Tr.kind,Tr.w0,Tr.w1,Tr.w2,Tr.w3,Tr.num,Tr.least,Tr.most,Tr.bare,u0]
 have HLF:=Lib.hid hlf
 clear hlf
 obtain ⟨A1,hA1⟩:∃ A1,A1=tuA.cells (.slice p1 tuA.subs.length c1):=⟨_,rfl⟩
 rw [← hA1]
 have HA1:=Lib.hid hA1
 clear hA1
 go_wp2_with (first
   | (refine wpList_plain rfl fun _ hK=>wp_node2 (.tmp 2) (.tmp 3) (.leaf 3) tuA none 0 0 p1 tuA.subs.length c1 rfl (congrArg Value.agg HLF.out.symm) (congrArg Value.agg HA1.out) (hK _ _ ?_))
   | fail)
 generalize w1.alloc _=w2 at *
 refine (seq_any [.leaf 3,tuA] w2 _ _ HLS.out).mono ?_
 rintro e w3 ⟨s3,F3,rfl,ho,-,hb3⟩
 have HV3:=Lib.hid (show NodeV w3 (fun b=>b ∈ F3) (.agg (tuT.cells s3)) tuT from ⟨s3,rfl,ho.trees⟩)
 have HB3:=Lib.hid (HB1.out.trans (hb3.mono HB1.out.size))
 have hcc:(Tr.several 5 [.leaf 3,tuA]).cells s3=tuT.cells s3:=rfl
 rw [hcc]
 clear ho hb3 hcc HB1 HLS HLF HA1
 generalize tuT.cells s3=C3 at *
 go_wp2_with fail
 refine (tuapi_any tuT w3 _ _ HV3.out).mono ?_
 rintro e w4 ⟨s4,F4,rfl,ho,-,hb4⟩
 obtain ⟨p4,c4,rfl,-⟩:=ho.slice
 have HB4:=Lib.hid (HB3.out.trans (hb4.mono HB3.out.size))
 have htr:=ho.trees
 have hl2:tuT.turT.subs.length=2:=by rw [tuT_subs];rfl
 rw [hl2,tuT_subs] at htr
 have hba:Below w4.heap.size w4 (w4.alloc (.cells (tuT.turT.cells (.slice p4 tuT.turT.subs.length c4)) 37)):=(Below.refl _ _).alloc (Nat.le_refl _) _
 have HTR:=Lib.hid (htr.later hba)
 have HB5:=Lib.hid (HB4.out.trans (hba.mono HB4.out.size))
 have X4:=Lib.hid (heap_alloc_new w4 (.cells (tuT.turT.cells (.slice p4 tuT.turT.subs.length c4)) 37))
 clear ho hb4 htr hba HB3 HV3 HB4
 rw [hl2] at HTR X4 HB5 ⊢
 clear hl2
 unfold Tr.cells at X4 HB5 HTR ⊢
 rw [tuT_kind] at X4 HB5 HTR ⊢
 generalize tuT.turT=U at *
 go_upto_region 2 with (fail)
 generalize w4.alloc _=w5 at *
 obtain ⟨b2,o2,s5,rfl,-,t2,-⟩:=HTR.out.get (i:=0) (t:=tuA.turT) rfl
 obtain ⟨b3,o3,s6,e3,-,t3,-⟩:=HTR.out.get (i:=1) (t:=Tr.turT (.leaf 3)) rfl
 obtain ⟨rfl,rfl⟩:b2=b3∧o2=o3:=by simpa using e3
 have d0:=t2.c0;have g0:=t3.c0
 rw [tuA_kind] at d0;rw [tuB_kind] at g0
 rw [show o2+0 * 10=o2 by omega] at d0
 clear t2 t3 e3
 obtain ⟨q0,q1,q2,q3,q4,q5,q6,q7,q8,q9⟩:=allTen X4.out
 clear q1 q2 q3 q4 q6 q7 q8 q9
 go_wp2_with fail
 go_ret
 exact ⟨rfl,HB5.out⟩
end Go.Proofs.YtedjkbmfpjmlpaaDoor
namespace Go.Proofs.YtedjkbmfpjmlpaaDoor
open Go.RowKit
namespace Tr
def noSet (t:Tr):Bool:=Oc.U t.w0 == 0 && (Oc.U t.w1 == 0 && (Oc.U t.w2 == 0 && Oc.U t.w3 == 0))
def noCounts (t:Tr):Bool:=t.least == 0 && t.most == 0 && !t.bare
def countsV (lo hi:Int) (br:Bool):Bool:=!(decide (lo < 0) || decide (255 < lo) || (br && lo != 0)) && (hi == -1 || (decide (lo ≤ hi) && decide (hi ≤ 255)))
def countsB (t:Tr):Bool:=countsV t.least t.most t.bare
def fieldsB (t:Tr):Bool :=
 if t.kind=1 ∨ t.kind=3 ∨ t.kind=4 then t.noSet && (t.num == 0) && t.noCounts && (t.subs.length == 0)
 else if t.kind=2 then (t.num == 0) && t.noCounts && (t.subs.length == 0)
 else if t.kind=5 ∨ t.kind=6 then t.noSet && (t.num == 0) && t.noCounts && decide (2 ≤ t.subs.length)
 else if t.kind=7 then t.noSet && t.noCounts && (t.subs.length == 1) && decide (1 ≤ t.num) && decide (t.num ≤ 999)
 else if t.kind=8 then t.noSet && (t.num == 0) && (t.subs.length == 1) && t.countsB
 else false
mutual
def formB:Tr→Bool
 | .node k a b c d s n lo hi br=>fieldsB (.node k a b c d s n lo hi br) && formS s
def formS:List Tr→Bool
 | []=>true
 | t :: l=>formB t && formS l
end
theorem formB_eq (t:Tr):t.formB=(t.fieldsB && formS t.subs):=by cases t;rw [formB];rfl
theorem formS_append:∀ a b:List Tr,formS (a ++ b)=(formS a && formS b)
 | [],b=>by simp [formS]
 | t :: a,b=>by rw [List.cons_append,formS,formS,formS_append a b,Bool.and_assoc]
theorem formS_take (l:List Tr) (m:Nat) (x:Tr) (h:l[m]? = some x):formS (l.take (m+1))=(formS (l.take m) && x.formB):=by
 rw [List.take_add_one,h,Option.toList_some,formS_append,formS,formS];simp
theorem formS_no {l:List Tr} {m:Nat} (h:formS (l.take m)=false):formS l=false:=by
 have e:=congrArg formS (List.take_append_drop m l)
 rw [formS_append,h] at e
 rw [← e];rfl
theorem U_zero {x:BitVec 64} : (Oc.U x == 0)=true ↔ x=0#64:=by
 rw [beq_iff_eq]
 refine ⟨fun h=>Oc.U_inj (h.trans (by decide)),fun h=>by subst h;decide⟩
theorem noSet_iff (t:Tr):t.noSet=true ↔ t.w0=0#64∧t.w1=0#64∧t.w2=0#64∧t.w3=0#64:=by
 unfold noSet;rw [Bool.and_eq_true,Bool.and_eq_true,Bool.and_eq_true,U_zero,U_zero,U_zero,U_zero]
theorem fieldsB_iff (t:Tr):t.fieldsB=true ↔ t.fieldsOk:=by
 have hs:=noSet_iff t
 have hn:t.noCounts=true ↔ t.least=0∧t.most=0∧t.bare=false:=by
   unfold noCounts;simp [and_assoc]
 have hc:t.countsB=true ↔ 0 ≤ t.least∧t.least ≤ 255∧(t.most = -1 ∨ (t.least ≤ t.most∧t.most ≤ 255))∧(t.bare=true→t.least=0):=by
   unfold countsB countsV
   cases t.bare <;> simp <;> omega
 unfold fieldsB fieldsOk
 by_cases h1:t.kind=1 ∨ t.kind=3 ∨ t.kind=4
 · rw [if_pos h1]
   simp only [Bool.and_eq_true,hs,hn,beq_iff_eq,List.length_eq_zero_iff]
   constructor
   · rintro ⟨⟨⟨⟨a,b,c,d⟩,e⟩,f,g,h⟩,i⟩;exact .inl ⟨h1,a,b,c,d,i,e,f,g,h⟩
   · rintro (⟨-,a,b,c,d,i,e,f,g,h⟩ | ⟨h,-⟩ | ⟨h,-⟩ | ⟨h,-⟩ | ⟨h,-⟩)
     · exact ⟨⟨⟨⟨a,b,c,d⟩,e⟩,f,g,h⟩,i⟩
     all_goals omega
 rw [if_neg h1]
 by_cases h2:t.kind=2
 · rw [if_pos h2]
   simp only [Bool.and_eq_true,hn,beq_iff_eq,List.length_eq_zero_iff]
   constructor
   · rintro ⟨⟨e,f,g,h⟩,i⟩;exact .inr (.inl ⟨h2,i,e,f,g,h⟩)
   · rintro (⟨h,-⟩ | ⟨-,i,e,f,g,h⟩ | ⟨h,-⟩ | ⟨h,-⟩ | ⟨h,-⟩)
     · omega
     · exact ⟨⟨e,f,g,h⟩,i⟩
     all_goals omega
 rw [if_neg h2]
 by_cases h5:t.kind=5 ∨ t.kind=6
 · rw [if_pos h5]
   simp only [Bool.and_eq_true,hs,hn,beq_iff_eq,decide_eq_true_eq]
   constructor
   · rintro ⟨⟨⟨⟨a,b,c,d⟩,e⟩,f,g,h⟩,i⟩;exact .inr (.inr (.inl ⟨h5,a,b,c,d,i,e,f,g,h⟩))
   · rintro (⟨h,-⟩ | ⟨h,-⟩ | ⟨-,a,b,c,d,i,e,f,g,h⟩ | ⟨h,-⟩ | ⟨h,-⟩)
     · omega
     · omega
     · exact ⟨⟨⟨⟨a,b,c,d⟩,e⟩,f,g,h⟩,i⟩
     all_goals omega
 rw [if_neg h5]
 by_cases h7:t.kind=7
 · rw [if_pos h7]
   simp only [Bool.and_eq_true,hs,hn,beq_iff_eq,decide_eq_true_eq]
   constructor
   · rintro ⟨⟨⟨⟨⟨a,b,c,d⟩,f,g,h⟩,i⟩,j⟩,l⟩;exact .inr (.inr (.inr (.inl ⟨h7,a,b,c,d,i,j,l,f,g,h⟩)))
   · rintro (⟨h,-⟩ | ⟨h,-⟩ | ⟨h,-⟩ | ⟨-,a,b,c,d,i,j,l,f,g,h⟩ | ⟨h,-⟩)
     · omega
     · omega
     · omega
     · exact ⟨⟨⟨⟨⟨a,b,c,d⟩,f,g,h⟩,i⟩,j⟩,l⟩
     · omega
 rw [if_neg h7]
 by_cases h8:t.kind=8
 · rw [if_pos h8]
   simp only [Bool.and_eq_true,hs,hc,beq_iff_eq]
   constructor
   · rintro ⟨⟨⟨⟨a,b,c,d⟩,e⟩,i⟩,f,g,h,j⟩;exact .inr (.inr (.inr (.inr ⟨h8,a,b,c,d,i,e,f,g,h,j⟩)))
   · rintro (⟨h,-⟩ | ⟨h,-⟩ | ⟨h,-⟩ | ⟨h,-⟩ | ⟨-,a,b,c,d,i,e,f,g,h,j⟩)
     · omega
     · omega
     · omega
     · omega
     · exact ⟨⟨⟨⟨a,b,c,d⟩,e⟩,i⟩,f,g,h,j⟩
 rw [if_neg h8]
 constructor
 · intro h;cases h
 · rintro (⟨h,-⟩ | ⟨h,-⟩ | ⟨h,-⟩ | ⟨h,-⟩ | ⟨h,-⟩) <;> omega
theorem formS_all:∀ {l:List Tr},(∀ t,t ∈ l→(t.formB=true ↔ t.InForm))→(formS l=true ↔ ∀ t,t ∈ l→t.InForm)
 | [],_=>by simp [formS]
 | t :: l,h=>by
   rw [formS,Bool.and_eq_true,h t List.mem_cons_self,formS_all (fun u hu=>h u (List.mem_cons_of_mem _ hu))]
   constructor
   · rintro ⟨h1,h2⟩ u hu
     rcases List.mem_cons.1 hu with rfl | hu
     · exact h1
     · exact h2 u hu
   · intro h1;exact ⟨h1 t List.mem_cons_self,fun u hu=>h1 u (List.mem_cons_of_mem _ hu)⟩
theorem formB_iff (t:Tr):t.formB=true ↔ t.InForm:=by
 induction t using Tr.rec_subs with
 | h t ih =>
   rw [formB_eq,Bool.and_eq_true,fieldsB_iff,formS_all (fun u hu=>ih u hu)]
   exact ⟨fun h=>.mk t h.1 h.2,fun h=>⟨h.fields,fun u hu=>h.sub hu⟩⟩
end Tr
theorem counts_any (k:Int) (a b c d:BitVec 64) (us:List Tr) (n lo hi:Int) (br:Bool) (p:Option Addr) (l cap:Nat) (w:World) :
   Calls Tryd.prog 125 #[.agg #[.int .i64 k,.int .u64 (Oc.U a),.int .u64 (Oc.U b),.int .u64 (Oc.U c),.int .u64 (Oc.U d),.slice p l cap,.int .i64 n,.int .i64 lo,.int .i64 hi,.bool br]] w fun e w'=>e=.returned (.bool (Tr.countsB (.node k a b c d us n lo hi br)))∧Below w.heap.size w w':=by
 obtain ⟨R,hR⟩:∃ R,Tr.countsV lo hi br=R:=⟨_,rfl⟩
 rw [show Tr.countsB (.node k a b c d us n lo hi br)=Tr.countsV lo hi br from rfl,hR]
 unfold Tr.countsV at hR
 have c1:decide (lo < 0)=true ∨ decide (lo < 0)=false:=by cases decide (lo < 0) <;> simp
 have c2:decide (255 < lo)=true ∨ decide (255 < lo)=false:=by cases decide (255 < lo) <;> simp
 have c3:(lo != 0)=true ∨ (lo != 0)=false:=by cases (lo != 0) <;> simp
 have c4:(hi == -1)=true ∨ (hi == -1)=false:=by cases (hi == -1) <;> simp
 have c5:decide (lo ≤ hi)=true ∨ decide (lo ≤ hi)=false:=by cases decide (lo ≤ hi) <;> simp
 have c6:decide (hi ≤ 255)=true ∨ decide (hi ≤ 255)=false:=by cases decide (hi ≤ 255) <;> simp
 rcases c1 with c1 | c1 <;> rcases c2 with c2 | c2 <;> rcases c3 with c3 | c3 <;> rcases c4 with c4 | c4 <;> rcases c5 with c5 | c5 <;> rcases c6 with c6 | c6 <;> cases br <;> (
   rw [c1,c2,c3,c4,c5,c6] at hR
   subst hR
   go_enter Tryd.func125,Tryd.ntmps125
   go_wp2
   go_ret
   exact ⟨rfl,by go_grown⟩)
theorem bool_or (x:Bool):x=true ∨ x=false:=by cases x <;> simp
theorem treefields_any (k:Int) (a b c d:BitVec 64) (us:List Tr) (n lo hi:Int) (br:Bool) (p:Option Addr) (cap:Nat) (hlen:us.length * 96 ≤ 140737488351232) (w:World) :
   Calls Tryd.prog 94 #[.agg #[.int .i64 k,.int .u64 (Oc.U a),.int .u64 (Oc.U b),.int .u64 (Oc.U c),.int .u64 (Oc.U d),.slice p us.length cap,.int .i64 n,.int .i64 lo,.int .i64 hi,.bool br]] w fun e w'=>e=.returned (.bool (Tr.fieldsB (.node k a b c d us n lo hi br)))∧Below w.heap.size w w':=by
 have he:=eq4
 obtain ⟨S,hS⟩:∃ S,(Oc.U a == 0 && (Oc.U b == 0 && (Oc.U c == 0 && Oc.U d == 0)))=S:=⟨_,rfl⟩
 obtain ⟨NB,hN⟩:∃ NB,(n == 0)=NB:=⟨_,rfl⟩
 obtain ⟨C,hC⟩:∃ C,(lo == 0 && hi == 0 && !br)=C:=⟨_,rfl⟩
 obtain ⟨R,hR⟩:∃ R,Tr.fieldsB (.node k a b c d us n lo hi br)=R:=⟨_,rfl⟩
 have HCT:=Lib.hid (counts_any k a b c d us n lo hi br p us.length cap)
 rw [hR]
 have hR2:(if k=1 ∨ k=3 ∨ k=4 then S && NB && C && (us.length == 0) else if k=2 then NB && C && (us.length == 0) else if k=5 ∨ k=6 then S && NB && C && decide (2 ≤ us.length) else if k=7 then S && C && (us.length == 1) && decide (1 ≤ n) && decide (n ≤ 999) else if k=8 then S && NB && (us.length == 1) && Tr.countsB (.node k a b c d us n lo hi br) else false)=R:=by
   rw [← hR,← hS,← hN,← hC];rfl
 clear hR
 obtain ⟨Q,hQ⟩:∃ Q,Tr.countsB (.node k a b c d us n lo hi br)=Q:=⟨_,rfl⟩
 rw [hQ] at HCT hR2
 have hl0:((us.length:Int) == 0)=(us.length == 0):=by
   by_cases h:us.length=0
   · rw [h];rfl
   · have e1:(us.length == 0)=false:=by rw [beq_eq_false_iff_ne];exact h
     have e2:((us.length:Int) == 0)=false:=by rw [beq_eq_false_iff_ne];omega
     rw [e1,e2]
 have hl1:((us.length:Int) == 1)=(us.length == 1):=by
   by_cases h:us.length=1
   · rw [h];rfl
   · have e1:(us.length == 1)=false:=by simpa using h
     have e2:((us.length:Int) == 1)=false:=by simp;omega
     rw [e1,e2]
 have hl2:decide ((2:Int) ≤ us.length)=decide (2 ≤ us.length):=by
   by_cases h:2 ≤ us.length
   · have e1:decide (2 ≤ us.length)=true:=by simpa using h
     have e2:decide ((2:Int) ≤ us.length)=true:=by simp;omega
     rw [e1,e2]
   · have e1:decide (2 ≤ us.length)=false:=by simpa using h
     have e2:decide ((2:Int) ≤ us.length)=false:=by simp;omega
     rw [e1,e2]
 have HL0:=Lib.hid hl0;have HL1:=Lib.hid hl1;have HL2:=Lib.hid hl2;have HR:=Lib.hid hR2;have HC:=Lib.hid hC
 clear hl0 hl1 hl2 hR2 hC hQ hlen
 have Z0:=Lib.hid (heap_alloc_new w (.cells #[.int .i64 k,.int .u64 (Oc.U a),.int .u64 (Oc.U b),.int .u64 (Oc.U c),.int .u64 (Oc.U d),.slice p us.length cap,.int .i64 n,.int .i64 lo,.int .i64 hi,.bool br] 37))
 have HW:=Lib.hid (show Below w.heap.size w (w.alloc (.cells #[.int .i64 k,.int .u64 (Oc.U a),.int .u64 (Oc.U b),.int .u64 (Oc.U c),.int .u64 (Oc.U d),.slice p us.length cap,.int .i64 n,.int .i64 lo,.int .i64 hi,.bool br] 37)) from (Below.refl _ _).alloc (Nat.le_refl _) _)
 go_enter Tryd.func94,Tryd.ntmps94
 go_upto_region 4 with (fail)
 generalize w.alloc (.cells #[.int .i64 k,.int .u64 (Oc.U a),.int .u64 (Oc.U b),.int .u64 (Oc.U c),.int .u64 (Oc.U d),.slice p us.length cap,.int .i64 n,.int .i64 lo,.int .i64 hi,.bool br] 37)=W0 at *
 obtain ⟨d0,d1,d2,d3,d4,d5,d6,d7,d8,d9⟩:=allTen Z0.out
 go_cut [6] (fun u wx=>u=.bool C∧W0=wx)
 case first =>
   have hC:=HC.out
   rcases bool_or (lo == 0) with q1 | q1 <;> rcases bool_or (hi == 0) with q2 | q2 <;> cases br <;> (
     rw [q1,q2] at hC
     subst hC
     go_wp2
     go_meet
     exact ⟨rfl,rfl⟩)
 case rest =>
   obtain ⟨rfl,rfl⟩:=hcut
   clear HC
   have hR:=HR.out
   have hl0:=HL0.out;have hl1:=HL1.out;have hl2:=HL2.out
   clear HR HL0 HL1 HL2
   by_cases kk1:k=1
   · subst kk1
     rw [if_pos (by decide)] at hR
     clear hl1 hl2
     cases S <;> cases NB <;> cases C <;> rcases bool_or (us.length == 0) with q3 | q3 <;> (
       rw [q3] at hR
       rw [q3] at hl0
       subst hR
       go_wp2
       go_ret
       exact ⟨rfl,HW.out⟩)
   have n1:(k == 1)=false:=by simpa using kk1
   by_cases kk3:k=3
   · subst kk3
     rw [if_pos (by decide)] at hR
     clear hl1 hl2
     cases S <;> cases NB <;> cases C <;> rcases bool_or (us.length == 0) with q3 | q3 <;> (
       rw [q3] at hR
       rw [q3] at hl0
       subst hR
       go_wp2
       go_ret
       exact ⟨rfl,HW.out⟩)
   have n3:(k == 3)=false:=by simpa using kk3
   by_cases kk4:k=4
   · subst kk4
     rw [if_pos (by decide)] at hR
     clear hl1 hl2
     cases S <;> cases NB <;> cases C <;> rcases bool_or (us.length == 0) with q3 | q3 <;> (
       rw [q3] at hR
       rw [q3] at hl0
       subst hR
       go_wp2
       go_ret
       exact ⟨rfl,HW.out⟩)
   have n4:(k == 4)=false:=by simpa using kk4
   by_cases kk2:k=2
   · subst kk2
     rw [if_neg (by decide),if_pos rfl] at hR
     clear hl1 hl2
     cases NB <;> cases C <;> rcases bool_or (us.length == 0) with q2 | q2 <;> (
       rw [q2] at hR
       rw [q2] at hl0
       subst hR
       go_wp2
       go_ret
       exact ⟨rfl,HW.out⟩)
   have n2:(k == 2)=false:=by simpa using kk2
   by_cases kk5:k=5
   · subst kk5
     rw [if_neg (by decide),if_neg (by decide),if_pos (by decide)] at hR
     clear hl0 hl1
     cases S <;> cases NB <;> cases C <;> rcases bool_or (decide (2 ≤ us.length)) with q3 | q3 <;> (
       rw [q3] at hR
       rw [q3] at hl2
       subst hR
       go_wp2
       go_ret
       exact ⟨rfl,HW.out⟩)
   have n5:(k == 5)=false:=by simpa using kk5
   by_cases kk6:k=6
   · subst kk6
     rw [if_neg (by decide),if_neg (by decide),if_pos (by decide)] at hR
     clear hl0 hl1
     cases S <;> cases NB <;> cases C <;> rcases bool_or (decide (2 ≤ us.length)) with q3 | q3 <;> (
       rw [q3] at hR
       rw [q3] at hl2
       subst hR
       go_wp2
       go_ret
       exact ⟨rfl,HW.out⟩)
   have n6:(k == 6)=false:=by simpa using kk6
   by_cases kk7:k=7
   · subst kk7
     rw [if_neg (by decide),if_neg (by decide),if_neg (by decide),if_pos rfl] at hR
     clear hl0 hl2
     cases S <;> cases C <;> rcases bool_or (us.length == 1) with q2 | q2 <;> rcases bool_or (decide (1 ≤ n)) with q3 | q3 <;> rcases bool_or (decide (n ≤ 999)) with q4 | q4 <;> (
       rw [q2,q3,q4] at hR
       rw [q2] at hl1
       subst hR
       go_wp2
       go_ret
       exact ⟨rfl,HW.out⟩)
   have n7:(k == 7)=false:=by simpa using kk7
   by_cases kk8:k=8
   · subst kk8
     rw [if_neg (by decide),if_neg (by decide),if_neg (by decide),if_neg (by decide),if_pos rfl] at hR
     clear hl0 hl2
     rcases bool_or (us.length == 1) with q1 | q1
     · cases S with
       | true =>
         cases NB with
         | true =>
           rw [q1,Bool.true_and,Bool.true_and,Bool.true_and] at hR
           rw [q1] at hl1
           subst hR
           go_wp2_with fail
           refine (HCT.out _).mono ?_;rintro e w2 ⟨rfl,hb2⟩
           have HB2:=Lib.hid (HW.out.trans (hb2.mono HW.out.size))
           clear hb2
           go_wp2
           go_ret
           exact ⟨rfl,HB2.out⟩
         | false =>
           rw [q1] at hR hl1
           subst hR
           go_wp2
           go_ret
           exact ⟨rfl,HW.out⟩
       | false =>
         rw [q1] at hR hl1
         subst hR
         cases NB <;> (
           go_wp2
           go_ret
           exact ⟨rfl,HW.out⟩)
     · rw [q1] at hR hl1
       rw [Bool.and_false,Bool.false_and] at hR
       subst hR
       cases S <;> cases NB <;> (
         go_wp2
         go_ret
         exact ⟨rfl,HW.out⟩)
   have n8:(k == 8)=false:=by simpa using kk8
   rw [if_neg (by omega),if_neg kk2,if_neg (by omega),if_neg kk7,if_neg kk8] at hR
   subst hR
   clear hl0 hl1 hl2 kk1 kk2 kk3 kk4 kk5 kk6 kk7 kk8
   go_wp2
   go_ret
   exact ⟨rfl,HW.out⟩
theorem treeinform_any:∀ t:Tr,∀ (w:World) (B:Nat→Prop) (v:Value),NodeV w B v t→Calls Tryd.prog 57 #[v] w fun e w'=>e=.returned (.bool t.formB)∧Below w.heap.size w w':=by
 intro t
 induction t using Tr.rec_subs with
 | h t ih =>
   intro w B v hv
   obtain ⟨s,rfl,hs⟩:=hv
   obtain ⟨p,cap,rfl,hlen⟩:=hs.slice
   have hfl:=fun w=>treefields_any t.kind t.w0 t.w1 t.w2 t.w3 t.subs t.num t.least t.most t.bare p cap hlen w
   rw [← Tr.eta t] at hfl
   rw [Tr.formB_eq]
   have HF:=Lib.hid hfl
   clear hfl
   generalize hts:t.subs=ts at *
   have IH:=Lib.hid ih;have HS:=Lib.hid hs
   clear ih hs hts
   unfold Tr.cells at *
   generalize t.fieldsB=FB at *
   obtain ⟨R,hR⟩:∃ R,(FB && Tr.formS ts)=R:=⟨_,rfl⟩
   rw [hR]
   have HR:=Lib.hid hR
   clear hR
   have Z0:=Lib.hid (heap_alloc_new w (.cells #[.int .i64 t.kind,.int .u64 (Oc.U t.w0),.int .u64 (Oc.U t.w1),.int .u64 (Oc.U t.w2),.int .u64 (Oc.U t.w3),.slice p ts.length cap,.int .i64 t.num,.int .i64 t.least,.int .i64 t.most,.bool t.bare] 37))
   have HW:=Lib.hid (show Below w.heap.size w (w.alloc (.cells #[.int .i64 t.kind,.int .u64 (Oc.U t.w0),.int .u64 (Oc.U t.w1),.int .u64 (Oc.U t.w2),.int .u64 (Oc.U t.w3),.slice p ts.length cap,.int .i64 t.num,.int .i64 t.least,.int .i64 t.most,.bool t.bare] 37)) from (Below.refl _ _).alloc (Nat.le_refl _) _)
   go_enter Tryd.func57,Tryd.ntmps57
   go_wp2_with (first
     | (refine wpList_load_row rfl 37 (.tmp 1) rfl w.heap.size rfl 37 _ (0,0) _ Z0.out Tryd.underlying37 rfl (by kernel_rfl) ?_)
     | fail)
   refine (HF.out _).mono ?_
   rintro e W0 ⟨rfl,hb1⟩
   have Z1:=Lib.hid (keep_blk (hb1.mono (Nat.le_refl _)) Z0.out)
   have HB1:=Lib.hid (HW.out.trans (hb1.mono HW.out.size))
   obtain ⟨d0,d1,d2,d3,d4,d5,d6,d7,d8,d9⟩:=allTen Z1.out
   clear hb1 Z0 HW HF
   cases FB with
   | false =>
     have hr:=HR.out
     rw [Bool.false_and] at hr
     subst hr
     go_wp2
     go_ret
     exact ⟨rfl,HB1.out⟩
   | true =>
     have hr:=HR.out
     rw [Bool.true_and] at hr
     have HR2:=Lib.hid hr
     clear hr HR
     go_wp2
     clear d0 d1 d2 d3 d4 d5 d6 d7 d8 d9
     go_loopw [11] (fun iv wr=>∃ m:Nat,iv=.int .i64 m∧m ≤ ts.length∧Hid (Tr.formS (ts.take m)=true)∧Hid (Below w.heap.size w wr)) (fun iv _=>ts.length - (intOf iv).toNat)
     case atStart=>exact ⟨0,rfl,Nat.zero_le _,Lib.hid rfl,HB1⟩
     case round =>
       obtain ⟨m,rfl,hm,HT,HB⟩:=hrel
       have wm:IntKind.i64.wrap ((m:Int)+1)=(m:Int)+1:=IntWalk.i64_in _ (by omega)
       by_cases hlt:m < ts.length
       · obtain ⟨x,hx⟩:∃ x,ts[m]? = some x:=⟨_,List.getElem?_eq_getElem hlt⟩
         obtain ⟨b1,o1,s1,rfl,-,t1,sub1⟩:=HS.out.get hx
         obtain ⟨d0,d1,d2,d3,d4,d5,d6,d7,d8,d9⟩:=t1.keep (HB.out.block _ t1.lt)
         have hmem:=List.mem_of_getElem? hx
         obtain ⟨p1,c1,rfl,hl1⟩:=sub1.slice
         have HC:=Lib.hid (fun w9 hb=>IH.out x hmem w9 B (.agg (x.cells (.slice p1 x.subs.length c1))) ⟨_,rfl,sub1.later hb⟩)
         have hst:=Tr.formS_take ts m x hx
         rw [HT.out,Bool.true_and] at hst
         have HST:=Lib.hid hst
         clear t1 sub1 hmem hx hst
         unfold Tr.cells at HC
         have hbx:Below wr.heap.size wr (wr.alloc (.cells #[.int .i64 x.kind,.int .u64 (Oc.U x.w0),.int .u64 (Oc.U x.w1),.int .u64 (Oc.U x.w2),.int .u64 (Oc.U x.w3),.slice p1 x.subs.length c1,.int .i64 x.num,.int .i64 x.least,.int .i64 x.most,.bool x.bare] 37)):=(Below.refl _ _).alloc (Nat.le_refl _) _
         have HBX:=Lib.hid (HB.out.trans (hbx.mono HB.out.size))
         have ZX:=Lib.hid (heap_alloc_new wr (.cells #[.int .i64 x.kind,.int .u64 (Oc.U x.w0),.int .u64 (Oc.U x.w1),.int .u64 (Oc.U x.w2),.int .u64 (Oc.U x.w3),.slice p1 x.subs.length c1,.int .i64 x.num,.int .i64 x.least,.int .i64 x.most,.bool x.bare] 37))
         clear hbx
         go_upto_region 6 with (fail)
         generalize wr.alloc (.cells #[.int .i64 x.kind,.int .u64 (Oc.U x.w0),.int .u64 (Oc.U x.w1),.int .u64 (Oc.U x.w2),.int .u64 (Oc.U x.w3),.slice p1 x.subs.length c1,.int .i64 x.num,.int .i64 x.least,.int .i64 x.most,.bool x.bare] 37)=w1 at *
         clear d0 d1 d2 d3 d4 d5 d6 d7 d8 d9
         go_wp2_with (first
           | (refine wpList_load_row rfl 37 (.tmp 4) rfl wr.heap.size rfl 37 _ (0,0) _ ZX.out Tryd.underlying37 rfl (by kernel_rfl) ?_)
           | fail)
         refine (HC.out w1 HBX.out).mono ?_
         rintro e w2 ⟨rfl,hb2⟩
         have HB2:=Lib.hid (HBX.out.trans (hb2.mono HBX.out.size))
         clear hb2 HC ZX
         cases hxf:x.formB with
         | false =>
           rw [hxf] at HST
           have hr:=HR2.out
           rw [Tr.formS_no HST.out] at hr
           subst hr
           clear hxf
           go_wp2
           go_ret
           exact ⟨rfl,HB2.out⟩
         | true =>
           rw [hxf] at HST
           clear hxf
           go_wp2
           exact ⟨⟨m+1,by go_num,by omega,HST,HB2⟩,by simp [intOf];omega⟩
       · obtain rfl:m=ts.length:=by omega
         rw [List.take_length] at *
         have hr:=HR2.out
         rw [HT.out] at hr
         subst hr
         go_wp2
         go_ret
         exact ⟨rfl,HB.out⟩
end Go.Proofs.YtedjkbmfpjmlpaaDoor
namespace Go.Proofs.YtedjkbmfpjmlpaaDoor
open Go.ChangeShapes Go.WideShapes Go.ChangeAt Go.RowKit
def Sent (W:World) (g:Nat) (t:List UInt8) (a:Addr):Prop :=
 W.cell? ⟨g,0,none⟩=some (.iface 224 (.pointer (some a)))∧g < W.heap.size∧a.block < W.heap.size∧(∃ s,W.cell? a=some (.string s)∧s.data.toList=t∧s.size ≤ maxLen)∧∃ c ty,W.heap[a.block]? = some (.cells c ty (0,0))
theorem Sent.below {W W':World} {g:Nat} {t:List UInt8} {a:Addr} (h:Sent W g t a) (hb:Below W.heap.size W W'):Sent W' g t a:=by
 obtain ⟨h1,h2,h3,⟨s,h4,h5,h6⟩,c,ty,h7⟩:=h
 exact ⟨(hb.cell (p:=⟨g,0,none⟩) h2).trans h1,Nat.lt_of_lt_of_le h2 hb.size,Nat.lt_of_lt_of_le h3 hb.size,⟨s,(hb.cell h3).trans h4,h5,h6⟩,c,ty,(hb.block _ h3).trans h7⟩
def sentDatum (t : List UInt8) : DataW Unit := .iface "*errors.errorString" (.ptr (.agg [.lit (.string t)]))
theorem Tryd.starE : "*" ++ "errors.errorString" = "*errors.errorString" := by decide
theorem Tryd.rowE (u : TypeId) (h : Tryd.prog.typeName? 3 u = some "*errors.errorString") : u = 224 :=
 typeName_ptr_named (nm := "errors.errorString") (by rw [Tryd.starE]; kernel_rfl) (by kernel_rfl) (by decide) u (by rw [Tryd.starE]; exact h)
theorem Tryd.cellsE:Tryd.prog.cellsOf 249=1:=by kernel_rfl
theorem Tryd.cellsStr:Tryd.prog.cellsOf 9=1:=by kernel_rfl
theorem block_lt {W:World} {b:Nat} {o:Obj} (h:W.heap[b]? = some o):b < W.heap.size:=(Array.getElem?_eq_some_iff.1 h).1
theorem sent_head_any {P:Program} {n nm:String} {text:List UInt8} {r:List (String × DataW Unit)} {W:World} {g:Nat} {ti tp te ts:TypeId} {ms:Array (String × TypeId)} {f:Field}
   (h:laidMet P ((n,.iface nm (.ptr (.agg [.lit (.string text)]))) :: r) W)
   (hg:P.globalNamed n=some g) (ht:(P.globals[g]?).map (·.type)=some ti) (hi:P.underlying ti=some (.interface ms)) (hrow:∀ u,P.typeName? 3 u=some nm→u=tp)
   (hp:P.underlying tp=some (.pointer te)) (he:P.underlying te=some (.struct #[f])) (hft:f.type=ts) (hfo:f.offset=0) (hs:P.underlying ts=some .string) (hc:P.cellsOf te=1) (hcs:P.cellsOf ts=1) :
   ∃ (a:Addr) (s:ByteArray) (c0 c1:Array Value) (t0 t1:TypeId),W.cell? ⟨g,0,none⟩=some (.iface tp (.pointer (some a)))∧W.cell? a=some (.string s)∧s.data.toList=text∧s.size ≤ maxLen∧W.heap[a.block]? = some (.cells c0 t0 (0,0))∧W.heap[g]? = some (.cells c1 t1 (0,0)):=by
 obtain ⟨ps,⟨g0,t0,cs0,f0,p0,q0,hg0,ht0,hv0,hd0,_,e0⟩,_,hrows⟩:=h
 obtain rfl:=Option.some.inj (hg.symm.trans hg0)
 obtain rfl:=Option.some.inj (ht.symm.trans ht0)
 subst e0
 obtain ⟨l0⟩:=cs0
 have ok0:∀ u v,l0=[.iface u v]→Value.okWide P W .any 0 u v:=fun u v e=>by
   subst e
   exact (hrows g 0 (by simp [MemPlace.row])).2 u v (by simpa using World.var?_cell hg0 hv0 0)
 obtain ⟨a0,s0,rfl,hc0,hs0,hz0,rfl⟩:=errorString_of_trod hi hrow hp he hft hfo hs hc hcs hd0 ok0
 obtain ⟨c0,t1,hb0⟩:=(hrows a0.block a0.off (by simp [MemPlace.row])).1
 obtain ⟨c1,t2,hb1⟩:=(hrows g 0 (by simp [MemPlace.row])).1
 exact ⟨a0,s0,c0,c1,t1,t2,by simpa using World.var?_cell hg0 hv0 0,hc0,hs0,hz0,hb0,hb1⟩
theorem sent_head {n:String} {t:List UInt8} {r:List (String × DataW Unit)} {W:World} {g:Nat} (h:laidMet Tryd.prog ((n,sentDatum t) :: r) W) (hg:Tryd.prog.globalNamed n=some g) (ht:(Tryd.prog.globals[g]?).map (·.type)=some 42) :
   ∃ a,Sent W g t a:=by
 obtain ⟨a,s,c0,c1,t0,t1,h1,h2,h3,h4,h5,h6⟩:=sent_head_any h hg ht Tryd.underlying42 Tryd.rowE Tryd.underlying224 Tryd.underlying249 rfl rfl Tryd.underlying9 Tryd.cellsE Tryd.cellsStr
 exact ⟨a,h1,block_lt h6,block_lt h5,⟨s,h2,h3,h4⟩,c0,t0,h5⟩
theorem sent_of:∀ {l:List (String × DataW Unit)} {W:World},laidMet Tryd.prog l W→∀ {n t g},(n,sentDatum t) ∈ l→Tryd.prog.globalNamed n=some g→(Tryd.prog.globals[g]?).map (·.type)=some 42→∃ a,Sent W g t a
 | [],_,_,_,_,_,hm,_,_=>by cases hm
 | x :: l,W,h,n,t,g,hm,hg,ht=>by
   rcases List.mem_cons.1 hm with e | hm
   · subst e;exact sent_head h hg ht
   · exact sent_of h.tail hm hg ht
end Go.Proofs.YtedjkbmfpjmlpaaDoor
namespace Go.Proofs.YtedjkbmfpjmlpaaDoor
open Go.ChangeShapes Go.WideShapes Go.ChangeAt Go.RowKit
def errWords:List (List UInt8):=[[98,114,97,99,107,101,116],[112,97,114,101,110,116,104,101,115,105,115],[98,114,97,99,101],[99,111,117,110,116],[114,97,110,103,101],[99,108,97,115,115],[99,111,108,108,97,116,105,110,103],[101,115,99,97,112,101],[114,101,112,101,97,116],[116,111,111,32,98,105,103],[110,101,115,116,105,110,103],[108,111,110,103],[116,114,101,101],[100,101,101,112],[97,114,103,117,109,101,110,116],[110,111,32,109,97,116,99,104],[105,109,97,103,101],[109,97,110,121],[111,112,116,105,111,110],[99,111,109,109,97,110,100],[99,108,111,115,101,100]]
def errPre:List UInt8:=[116,114,97,119,108,58,32]
def errVars:List Nat:=[3,4,5,6,7,8,9,10,11,2,12,13,0,1,14,15,16,17,18,19,20]
end Go.Proofs.YtedjkbmfpjmlpaaDoor
namespace Go.Proofs.YtedjkbmfpjmlpaaDoor
open Go.RowKit
namespace Tr
def checkC (t:Tr):Nat:=if t.formB=false then 13 else if 200 < t.dpT then 14 else if 2000 < t.szT then 10 else 0
theorem checkC_zero {t:Tr} : t.checkC=0 ↔ t.InForm∧t.dpT ≤ 200∧t.szT ≤ 2000:=by
 unfold checkC
 rw [← formB_iff]
 cases t.formB with
 | false=>simp
 | true =>
   rw [if_neg (by decide)]
   split
   · simp;omega
   · split
     · simp;omega
     · simp;omega
end Tr
def sentV (A:Nat→Addr) (c:Nat):Value:=if c=0 then .nilIface else .iface 224 (.pointer (some (A (c - 1))))
def ErrsT (W:World) (A:Nat→Addr):Prop:=∀ k,k ∈ [9,11,12,13,14]→Sent W (errVars.getD k 0) (errPre ++ errWords.getD k []) (A k)
theorem ErrsT.below {W W':World} {A:Nat→Addr} (h:ErrsT W A) (hb:Below W.heap.size W W'):ErrsT W' A:=fun k hk=>(h k hk).below hb
def ErrsC (W:World) (A:Nat→Addr):Prop:=∀ k,k ∈ [9,12,13]→Sent W (errVars.getD k 0) (errPre ++ errWords.getD k []) (A k)
theorem ErrsC.below {W W':World} {A:Nat→Addr} (h:ErrsC W A) (hb:Below W.heap.size W W'):ErrsC W' A:=fun k hk=>(h k hk).below hb
theorem ErrsT.c {W:World} {A:Nat→Addr} (h:ErrsT W A):ErrsC W A:=fun k hk=>h k (by simp at hk ⊢;omega)
theorem treecheckC_any (A:Nat→Addr) (t:Tr) (hd:t.dpT ≤ 1000000) (w:World) (hE:ErrsC w A) (B:Nat→Prop) (v:Value) (hv:NodeV w B v t):Calls Tryd.prog 22 #[v] w fun e w'=>e=.returned (sentV A t.checkC)∧Below w.heap.size w w':=by
 obtain ⟨s,rfl,hs⟩:=hv
 have H1:=Lib.hid (fun w' hb=>treeinform_any t w' B (.agg (t.cells s)) ⟨s,rfl,TreesAt.later (w':=w') hs hb⟩)
 have H2:=Lib.hid (fun w' hb=>treedepth_any t hd w' B (.agg (t.cells s)) ⟨s,rfl,TreesAt.later (w':=w') hs hb⟩)
 have H3:=Lib.hid (fun (hf:t.InForm) w' hb=>treesize_any t hf w' B (.agg (t.cells s)) ⟨s,rfl,TreesAt.later (w':=w') hs hb⟩)
 have HE:=Lib.hid (fun w' (hb:Below w.heap.size w w')=>hE.below hb)
 obtain ⟨p,cap,rfl,hlen⟩:=hs.slice
 have Z0:=Lib.hid (heap_alloc_new w (.cells (t.cells (.slice p t.subs.length cap)) 37))
 have hfi:=Tr.formB_iff t
 have HFI:=Lib.hid hfi
 have HCC:=Lib.hid (show t.checkC=if t.formB=false then 13 else if 200 < t.dpT then 14 else if 2000 < t.szT then 10 else 0 from rfl)
 clear hs hd hE hfi
 unfold Tr.cells at *
 go_enter Tryd.func22,Tryd.ntmps22
 go_wp2_with (first
   | (refine wpList_load_row rfl 37 (.tmp 1) rfl w.heap.size rfl 37 _ (0,0) _ Z0.out Tryd.underlying37 rfl (by kernel_rfl) ?_)
   | fail)
 refine (H1.out _ ((Below.refl _ _).alloc (Nat.le_refl _) _)).mono ?_
 rintro e w1 ⟨rfl,hb1⟩
 have Z1:=Lib.hid (keep_blk hb1 Z0.out)
 have HB1:=Lib.hid (((Below.refl w.heap.size w).alloc (Nat.le_refl _) _).trans (hb1.mono (by simp)))
 clear hb1 Z0
 cases hfb:t.formB with
 | false =>
   have hcc:=HCC.out
   rw [if_pos hfb] at hcc
   have HCV:=Lib.hid (show sentV A t.checkC=.iface 224 (.pointer (some (A 12))) by rw [hcc];rfl)
   have g:=((HE.out w1 HB1.out) 12 (by decide)).1
   have G:w1.cell? ⟨0,0,none⟩=some (.iface 224 (.pointer (some (A 12)))):=g
   clear hcc g HCC HFI hfb
   go_wp2
   go_ret
   exact ⟨congrArg Ending.returned HCV.out.symm,HB1.out⟩
 | true =>
   have hform:=HFI.out.1 hfb
   have H3':=Lib.hid (H3.out hform)
   have hcc:=HCC.out
   rw [if_neg (by rw [hfb];decide)] at hcc
   have HC2:=Lib.hid hcc
   clear hcc HCC HFI hfb hform H3
   go_wp2_with (first
     | (refine wpList_load_row rfl 37 (.tmp 1) rfl w.heap.size rfl 37 _ (0,0) _ Z1.out Tryd.underlying37 rfl (by kernel_rfl) ?_)
     | fail)
   refine (H2.out _ HB1.out).mono ?_
   rintro e w2 ⟨rfl,hb2⟩
   have Z2:=Lib.hid (keep_blk hb2 Z1.out)
   have HB2:=Lib.hid (HB1.out.trans (hb2.mono HB1.out.size))
   clear hb2 Z1
   by_cases hd:200 < t.dpT
   · have hcc:=HC2.out
     rw [if_pos hd] at hcc
     have HCV:=Lib.hid (show sentV A t.checkC=.iface 224 (.pointer (some (A 13))) by rw [hcc];rfl)
     have G:w2.cell? ⟨1,0,none⟩=some (.iface 224 (.pointer (some (A 13)))):=((HE.out w2 HB2.out) 13 (by decide)).1
     have e1:decide ((200:Int) < t.dpT)=true:=by simp;omega
     have e1':decide (200 < t.dpT)=true:=by simpa using hd
     clear hcc HC2 hd
     generalize t.dpT=D at *
     go_wp2
     go_ret
     exact ⟨congrArg Ending.returned HCV.out.symm,HB2.out⟩
   · have e1:decide ((200:Int) < t.dpT)=false:=by simp;omega
     have e1':decide (200 < t.dpT)=false:=by simpa using hd
     have hcc:=HC2.out
     rw [if_neg hd] at hcc
     have HC3:=Lib.hid hcc
     clear hcc HC2 hd
     generalize t.dpT=D at *
     go_wp2_with (first
       | (refine wpList_load_row rfl 37 (.tmp 1) rfl w.heap.size rfl 37 _ (0,0) _ Z2.out Tryd.underlying37 rfl (by kernel_rfl) ?_)
       | fail)
     refine (H3'.out _ HB2.out).mono ?_
     rintro e w3 ⟨rfl,hb3⟩
     have HB3:=Lib.hid (HB2.out.trans (hb3.mono HB2.out.size))
     clear hb3 Z2
     by_cases hz:2000 < t.szT
     · have hcc:=HC3.out
       rw [if_pos hz] at hcc
       have HCV:=Lib.hid (show sentV A t.checkC=.iface 224 (.pointer (some (A 9))) by rw [hcc];rfl)
       have G:w3.cell? ⟨2,0,none⟩=some (.iface 224 (.pointer (some (A 9)))):=((HE.out w3 HB3.out) 9 (by decide)).1
       have z1:decide ((2000:Int) < t.szT)=true:=by simp;omega
       have z1':decide (2000 < t.szT)=true:=by simpa using hz
       clear hcc HC3 hz
       generalize t.szT=ZT at *
       go_wp2
       go_ret
       exact ⟨congrArg Ending.returned HCV.out.symm,HB3.out⟩
     · have z1:decide ((2000:Int) < t.szT)=false:=by simp;omega
       have z1':decide (2000 < t.szT)=false:=by simpa using hz
       have hcc:=HC3.out
       rw [if_neg hz] at hcc
       have HCV:=Lib.hid (show sentV A t.checkC=.nilIface by rw [hcc];rfl)
       clear hcc HC3 hz
       generalize t.szT=ZT at *
       go_wp2
       go_ret
       exact ⟨congrArg Ending.returned HCV.out.symm,HB3.out⟩
theorem treecheckT_any (A:Nat→Addr) (t:Tr) (hd:t.dpT ≤ 1000000) (w:World) (hE:ErrsT w A) (B:Nat→Prop) (v:Value) (hv:NodeV w B v t):Calls Tryd.prog 22 #[v] w fun e w'=>e=.returned (sentV A t.checkC)∧Below w.heap.size w w' :=
 treecheckC_any A t hd w hE.c B v hv
end Go.Proofs.YtedjkbmfpjmlpaaDoor
namespace Go.Proofs.YtedjkbmfpjmlpaaDoor
open Go.RowKit
namespace Tr
mutual
def ndT:Tr→Nat
 | .node _ _ _ _ _ s _ _ _ _=>1+ndS s
def ndS:List Tr→Nat
 | []=>0
 | t :: l=>ndT t+ndS l
end
theorem ndT_eq (t:Tr):t.ndT=1+ndS t.subs:=by cases t;rw [ndT];rfl
mutual
def leftT:Tr→Int→Int
 | .node _ _ _ _ _ s _ _ _ _,m=>leftS s (m - 1)
def leftS:List Tr→Int→Int
 | [],m=>m
 | t :: l,m=>if 0 ≤ m then leftS l (leftT t m) else m
end
theorem leftT_eq (t:Tr) (m:Int):t.leftT m=leftS t.subs (m - 1):=by cases t;rw [leftT];rfl
theorem leftS_neg (l:List Tr) {m:Int} (h:m < 0):leftS l m=m:=by
 cases l with
 | nil=>rfl
 | cons t l=>rw [leftS,if_neg (by omega)]
theorem leftS_spec:∀ (l:List Tr),(∀ t,t ∈ l→∀ m,0 ≤ m→t.leftT m ≤ m∧-1 ≤ t.leftT m∧(0 ≤ t.leftT m→t.leftT m=m - t.ndT)∧((t.ndT:Int) ≤ m→0 ≤ t.leftT m))→∀ m,-1 ≤ m→leftS l m ≤ m∧-1 ≤ leftS l m∧(0 ≤ leftS l m→leftS l m=m - ndS l)∧(0 ≤ m→(ndS l:Int) ≤ m→0 ≤ leftS l m)
 | [],_,m,hm=>by rw [leftS,ndS];exact ⟨Int.le_refl _,hm,fun _=>by omega,fun h _=>h⟩
 | t :: l,ih,m,hm=>by
   rw [leftS,ndS]
   split
   · rename_i h0
     obtain ⟨h1,h2,h3,h4⟩:=ih t List.mem_cons_self m h0
     obtain ⟨k1,k2,k3,k4⟩:=leftS_spec l (fun u hu=>ih u (List.mem_cons_of_mem _ hu)) (t.leftT m) h2
     refine ⟨by omega,k2,fun h=>?_,fun _ h=>?_⟩
     · have:=h3 (by omega)
       have:=k3 h
       omega
     · have a:=h4 (by omega)
       have b:=h3 a
       exact k4 a (by omega)
   · rename_i h0
     exact ⟨Int.le_refl _,hm,fun h=>absurd h h0,fun h=>absurd h h0⟩
theorem leftT_spec:∀ (t:Tr) (m:Int),0 ≤ m→t.leftT m ≤ m∧-1 ≤ t.leftT m∧(0 ≤ t.leftT m→t.leftT m=m - t.ndT)∧((t.ndT:Int) ≤ m→0 ≤ t.leftT m):=by
 intro t
 induction t using Tr.rec_subs with
 | h t ih =>
   intro m hm
   rw [leftT_eq,ndT_eq]
   obtain ⟨k1,k2,k3,k4⟩:=leftS_spec t.subs (fun u hu=>ih u hu) (m - 1) (by omega)
   exact ⟨by omega,k2,fun h=>by have:=k3 h;omega,fun h=>k4 (by omega) (by omega)⟩
end Tr
theorem numleft_any:∀ t:Tr,∀ m0:Nat,m0 ≤ 1000000→∀ (w:World) (B:Nat→Prop) (v:Value),NodeV w B v t→Calls Tryd.prog 66 #[v,.int .i64 m0] w fun e w'=>e=.returned (.int .i64 (t.leftT m0))∧Below w.heap.size w w':=by
 intro t
 induction t using Tr.rec_subs with
 | h t ih =>
   intro m0 hm0 w B v hv
   obtain ⟨s,rfl,hs⟩:=hv
   obtain ⟨p,cap,rfl,hlen⟩:=hs.slice
   have hsp:=Tr.leftS_spec t.subs (fun u _=>Tr.leftT_spec u)
   rw [Tr.leftT_eq]
   generalize hts:t.subs=ts at *
   have IH:=Lib.hid ih;have HS:=Lib.hid hs;have HSP:=Lib.hid hsp
   clear ih hs hts hsp
   unfold Tr.cells at *
   obtain ⟨R,hR⟩:∃ R,Tr.leftS ts ((m0:Int) - 1)=R:=⟨_,rfl⟩
   rw [hR]
   have HR:=Lib.hid hR
   clear hR
   have w0:IntKind.i64.wrap ((m0:Int) - 1)=(m0:Int) - 1:=IntWalk.i64_in _ (by omega)
   have Z0:=Lib.hid (heap_alloc_new w (.cells #[.int .i64 t.kind,.int .u64 (Oc.U t.w0),.int .u64 (Oc.U t.w1),.int .u64 (Oc.U t.w2),.int .u64 (Oc.U t.w3),.slice p ts.length cap,.int .i64 t.num,.int .i64 t.least,.int .i64 t.most,.bool t.bare] 37))
   have HW:=Lib.hid (show Below w.heap.size w (w.alloc (.cells #[.int .i64 t.kind,.int .u64 (Oc.U t.w0),.int .u64 (Oc.U t.w1),.int .u64 (Oc.U t.w2),.int .u64 (Oc.U t.w3),.slice p ts.length cap,.int .i64 t.num,.int .i64 t.least,.int .i64 t.most,.bool t.bare] 37)) from (Below.refl _ _).alloc (Nat.le_refl _) _)
   go_enter Tryd.func66,Tryd.ntmps66
   go_wp2
   generalize w.alloc (.cells #[.int .i64 t.kind,.int .u64 (Oc.U t.w0),.int .u64 (Oc.U t.w1),.int .u64 (Oc.U t.w2),.int .u64 (Oc.U t.w3),.slice p ts.length cap,.int .i64 t.num,.int .i64 t.least,.int .i64 t.most,.bool t.bare] 37)=W0 at *
   go_loopw [1,5] (fun mv iv wr=>∃ (i:Nat) (m:Int),iv=.int .i64 i∧mv=.int .i64 m∧i ≤ ts.length∧-1 ≤ m∧m ≤ 1000000∧Hid (Tr.leftS (ts.drop i) m=R)∧Hid (Below W0.heap.size W0 wr)) (fun _ iv _=>ts.length - (intOf iv).toNat)
   case atStart=>exact ⟨0,(m0:Int) - 1,rfl,rfl,Nat.zero_le _,by omega,by omega,by rw [List.drop_zero];exact HR,Lib.hid (Below.refl _ _)⟩
   case round =>
     obtain ⟨i,m,rfl,rfl,hi,hm1,hm2,HL,HB⟩:=hrel
     have wi:IntKind.i64.wrap ((i:Int)+1)=(i:Int)+1:=IntWalk.i64_in _ (by omega)
     have HBW:=Lib.hid (HW.out.trans (HB.out.mono HW.out.size))
     have Z1:=Lib.hid (keep_blk (HB.out.mono (Nat.le_refl _)) Z0.out)
     obtain ⟨d0,d1,d2,d3,d4,d5,d6,d7,d8,d9⟩:=allTen Z1.out
     by_cases hlt:i < ts.length
     · by_cases hmz:0 ≤ m
       · obtain ⟨mn,rfl⟩:∃ mn:Nat,m=mn:=⟨m.toNat,by omega⟩
         have gm:decide ((0:Int) ≤ (mn:Int))=true:=by simp
         obtain ⟨x,hx⟩:∃ x,ts[i]? = some x:=⟨_,List.getElem?_eq_getElem hlt⟩
         obtain ⟨b1,o1,s1,rfl,-,t1,sub1⟩:=HS.out.get hx
         obtain ⟨e0,e1,e2,e3,e4,e5,e6,e7,e8,e9⟩:=t1.keep (HBW.out.block _ t1.lt)
         have hmem:=List.mem_of_getElem? hx
         obtain ⟨p1,c1,rfl,hl1⟩:=sub1.slice
         have HC:=Lib.hid (IH.out x hmem mn (by omega) wr B (.agg (x.cells (.slice p1 x.subs.length c1))) ⟨_,rfl,sub1.later HBW.out⟩)
         have hdr:ts.drop i=x :: ts.drop (i+1):=by
           rw [List.drop_eq_getElem_cons hlt,(List.getElem?_eq_some_iff.1 hx).2]
         have hl:=HL.out
         rw [hdr,Tr.leftS,if_pos (by omega)] at hl
         have HL2:=Lib.hid hl
         obtain ⟨k1,k2,-,-⟩:=Tr.leftT_spec x mn (by omega)
         clear t1 sub1 hmem hx hdr hl HL
         unfold Tr.cells at HC
         go_wp2_with fail
         refine HC.out.mono ?_
         rintro e w2 ⟨rfl,hb2⟩
         have HB2:=Lib.hid (HB.out.trans (hb2.mono HB.out.size))
         generalize x.leftT mn=mm at *
         clear e0 e1 e2 e3 e4 e5 e6 e7 e8 e9 hb2 HC d0 d1 d2 d3 d4 d5 d6 d7 d8 d9
         go_wp2
         exact ⟨⟨i+1,mm,by go_num,rfl,by omega,k2,by omega,HL2,HB2⟩,by simp [intOf];omega⟩
       · have gm:decide ((0:Int) ≤ m)=false:=by simp;omega
         have hl:=HL.out
         rw [Tr.leftS_neg _ (by omega)] at hl
         have HL2:=Lib.hid hl
         clear hl HL hmz
         go_wp2
         go_ret
         exact ⟨ret_int HL2.out,HBW.out⟩
     · obtain rfl:i=ts.length:=by omega
       have hl:=HL.out
       rw [List.drop_length,Tr.leftS] at hl
       have HL2:=Lib.hid hl
       clear hl HL
       go_wp2
       go_ret
       exact ⟨ret_int HL2.out,HBW.out⟩
theorem few_any (t:Tr) (m:Nat) (hm:m ≤ 1000000) (w:World) (B:Nat→Prop) (v:Value) (hv:NodeV w B v t) :
   Calls Tryd.prog 30 #[v,.int .i64 m] w fun e w'=>e=.returned (.bool (decide (t.ndT ≤ m)))∧Below w.heap.size w w':=by
 obtain ⟨s,rfl,hs⟩:=hv
 have H1:=Lib.hid (fun w' (hb:Below w.heap.size w w')=>numleft_any t m hm w' B (.agg (t.cells s)) ⟨s,rfl,TreesAt.later (w':=w') hs hb⟩)
 obtain ⟨p,cap,rfl,hlen⟩:=hs.slice
 have hsp:=Tr.leftT_spec t m (by omega)
 have hdec:decide ((0:Int) ≤ t.leftT m)=decide (t.ndT ≤ m):=by
   by_cases h:t.ndT ≤ m
   · rw [decide_eq_true h,decide_eq_true (hsp.2.2.2 (by omega))]
   · rw [decide_eq_false h,decide_eq_false (fun h2=>h (by have:=hsp.2.2.1 h2;omega))]
 have HD:=Lib.hid hdec
 have Z0:=Lib.hid (heap_alloc_new w (.cells (t.cells (.slice p t.subs.length cap)) 37))
 have HW:=Lib.hid (show Below w.heap.size w (w.alloc (.cells (t.cells (.slice p t.subs.length cap)) 37)) from (Below.refl _ _).alloc (Nat.le_refl _) _)
 clear hs hsp hdec
 unfold Tr.cells at *
 go_enter Tryd.func30,Tryd.ntmps30
 go_wp2_with (first
   | (refine wpList_load_row rfl 37 (.tmp 2) rfl w.heap.size rfl 37 _ (0,0) _ Z0.out Tryd.underlying37 rfl (by kernel_rfl) ?_)
   | fail)
 refine (H1.out _ HW.out).mono ?_
 rintro e w1 ⟨rfl,hb1⟩
 have HB1:=Lib.hid (HW.out.trans (hb1.mono HW.out.size))
 clear hb1
 generalize t.leftT m=mm at *
 go_wp2
 go_ret
 exact ⟨ret_bool HD.out,HB1.out⟩
end Go.Proofs.YtedjkbmfpjmlpaaDoor
namespace Go.Proofs.YtedjkbmfpjmlpaaDoor
open Go.RowKit
namespace Tr
theorem szS_app:∀ l m:List Tr,szS (l ++ m)=szS l+szS m
 | [],m=>by rw [List.nil_append,szS];omega
 | t :: l,m=>by rw [List.cons_append,szS,szS,szS_app l m];omega
theorem szT_is (t:Tr):t.szT=if t.kind=8 then repSz t.least t.most (szH t.subs) else sat (1+szS t.subs):=by cases t;rw [szT];rfl
theorem turK_eight (k:Int):(turK k=8)=(k=8):=by
 unfold turK
 by_cases h:k=3
 · subst h;decide
 · by_cases h4:k=4
   · subst h4;decide
   · rw [if_neg h,if_neg h4]
theorem turK_seven (k:Int):(turK k=7)=(k=7):=by
 unfold turK
 by_cases h:k=3
 · subst h;decide
 · by_cases h4:k=4
   · subst h4;decide
   · rw [if_neg h,if_neg h4]
theorem sz_tur (t:Tr):t.turT.szT=t.szT:=by
 induction t using Tr.rec_subs with
 | h t ih =>
   rw [szT_is,szT_is t,turT_kind,turT_least,turT_most,turT_subs,turS_same szS (· + ·) szT 0 (by rw [szS]) (fun t l=>by rw [szS]) szS_app Nat.add_comm (fun a=>by simp) _ _ ih]
   simp only [turK_eight]
   by_cases h:t.kind=8
   · rw [if_pos h,if_pos h,rv_not (by omega)]
     cases hs:t.subs with
     | nil=>rfl
     | cons u l =>
       rw [List.map_cons,szH,szH,ih u (by rw [hs];exact List.mem_cons_self)]
   · rw [if_neg h,if_neg h]
theorem dp_tur (t:Tr):t.turT.dpT=t.dpT:=by
 induction t using Tr.rec_subs with
 | h t ih =>
   rw [dpT_eq,dpT_eq t,turT_kind,turT_least,turT_most,turT_subs,turS_same dpS max dpT 0 (by rw [dpS]) (fun t l=>by rw [dpS]) dpS_append Nat.max_comm (fun a=>by omega) _ _ ih,rv_length,List.length_map]
   simp only [turK_eight]
theorem turK_anchor (k:Int):(turK k=1 ∨ turK k=3 ∨ turK k=4)=(k=1 ∨ k=3 ∨ k=4):=by
 unfold turK
 by_cases h:k=3
 · subst h;decide
 · by_cases h4:k=4
   · subst h4;decide
   · rw [if_neg h,if_neg h4]
theorem turK_two (k:Int):(turK k=2)=(k=2):=by
 unfold turK
 by_cases h:k=3
 · subst h;decide
 · by_cases h4:k=4
   · subst h4;decide
   · rw [if_neg h,if_neg h4]
theorem turK_six (k:Int):(turK k=6)=(k=6):=by
 unfold turK
 by_cases h:k=3
 · subst h;decide
 · by_cases h4:k=4
   · subst h4;decide
   · rw [if_neg h,if_neg h4]
theorem fields_tur (t:Tr):t.turT.fieldsB=t.fieldsB:=by
 unfold fieldsB noSet noCounts countsB
 rw [turT_kind,turT_w0,turT_w1,turT_w2,turT_w3,turT_num,turT_least,turT_most,turT_bare,turT_subs,rv_length,List.length_map]
 simp only [turK_anchor,turK_two,turK_five,turK_six,turK_seven,turK_eight]
theorem form_tur (t:Tr):t.turT.formB=t.formB:=by
 induction t using Tr.rec_subs with
 | h t ih =>
   rw [formB_eq,formB_eq t,fields_tur,turT_subs,turS_same formS (· && ·) formB true (by rw [formS]) (fun t l=>by rw [formS]) formS_append Bool.and_comm (fun a=>by simp) _ _ ih]
theorem check_tur (t:Tr):t.turT.checkC=t.checkC:=by
 unfold checkC;rw [form_tur,dp_tur,sz_tur]
theorem inForm_tur {t:Tr} (h:t.InForm):t.turT.InForm:=(formB_iff _).1 (by rw [form_tur];exact (formB_iff t).2 h)
end Tr
end Go.Proofs.YtedjkbmfpjmlpaaDoor
namespace Go.Proofs.YtedjkbmfpjmlpaaDoor
open Go.RowKit
def cb (s:ByteArray) (i:Nat):Nat:=if h:i < s.size then s[i].toNat else 256
theorem cb_in {s:ByteArray} {i:Nat} (h:i < s.size):s[i].toNat=cb s i:=by unfold cb;rw [dif_pos h]
theorem cb_lt {s:ByteArray} {i:Nat} (h:i < s.size):cb s i < 256:=by rw [← cb_in h];exact UInt8.toNat_lt _
structure Sc where
 t:ByteArray
 nl:Bool
 hd:Bool
 tl:Bool
namespace Sc
def inn (x:Sc) (i:Int):Bool:=decide (0 ≤ i) && decide (i < x.t.size)
def byt (x:Sc) (i:Int):Int:=if x.inn i then (cb x.t i.toNat:Int) else 0
def nlAt (x:Sc) (i:Int):Bool:=x.inn i && (x.nl && cb x.t i.toNat == 10)
def beg (x:Sc) (i:Int):Bool:=(x.hd && i == 0) || x.nlAt (i - 1)
def fin (x:Sc) (i:Int):Bool:=(x.tl && i == x.t.size) || x.nlAt i
theorem inn_nat (x:Sc) (k:Nat):x.inn (k:Int)=decide (k < x.t.size):=by
 unfold inn;simp
theorem inn_neg (x:Sc) {i:Int} (h:i < 0):x.inn i=false:=by
 unfold inn;rw [decide_eq_false (by omega)];rfl
theorem inn_big (x:Sc) {i:Int} (h:(x.t.size:Int) ≤ i):x.inn i=false:=by
 unfold inn;rw [show decide (i < (x.t.size:Int))=false from decide_eq_false (by omega),Bool.and_false]
theorem nlAt_out (x:Sc) {i:Int} (h:x.inn i=false):x.nlAt i=false:=by unfold nlAt;rw [h];rfl
theorem nlAt_neg (x:Sc) {i:Int} (h:i < 0):x.nlAt i=false:=x.nlAt_out (x.inn_neg h)
theorem nlAt_big (x:Sc) {i:Int} (h:(x.t.size:Int) ≤ i):x.nlAt i=false:=x.nlAt_out (x.inn_big h)
theorem nlAt_in (x:Sc) {k:Nat} (h:k < x.t.size):x.nlAt (k:Int)=(x.nl && cb x.t k == 10):=by
 unfold nlAt;rw [inn_nat,decide_eq_true h,Bool.true_and];rfl
def new (s:ByteArray) (c e:Int):Sc:=⟨s,bits .and .i64 c 4 != 0,bits .and .i64 e 1 == 0,bits .and .i64 e 2 == 0⟩
def rev (s:ByteArray):ByteArray:=⟨s.data.toList.reverse.toArray⟩
theorem rev_size (s:ByteArray):(rev s).size=s.size:=by
 show s.data.toList.reverse.toArray.size=s.data.size
 rw [List.size_toArray,List.length_reverse,Array.length_toList]
def turned (x:Sc):Sc:=⟨rev x.t,x.nl,x.tl,x.hd⟩
end Sc
def ScAt (w:World) (b:Nat) (x:Sc):Prop:=w.heap[b]? = some (.cells #[.string x.t,.bool x.nl,.bool x.hd,.bool x.tl] 96)
theorem ScAt.below {w w':World} {b:Nat} {x:Sc} (h:ScAt w b x) (hb:Below w.heap.size w w'):ScAt w' b x:=keep_blk hb h
theorem scbyte_any (x:Sc) (b:Nat) (i:Int) (w:World) (h:ScAt w b x) :
   Calls Tryd.prog 126 #[.pointer (some ⟨b,0,none⟩),.int .i64 i] w fun e w'=>e=.returned (.tuple #[.int .u8 (x.byt i),.bool (x.inn i)])∧w'=w:=by
 obtain ⟨c0,-,-,-,-⟩:=four h
 by_cases h0:i < 0
 · have hd:decide (i < 0)=true:=by simpa using h0
   rw [show x.byt i=0 by unfold Sc.byt;rw [x.inn_neg h0];rfl,x.inn_neg h0]
   go_enter Tryd.func126,Tryd.ntmps126
   go_wp2
   go_ret2
   exact ⟨rfl,rfl⟩
 · obtain ⟨k,rfl⟩:∃ k:Nat,i=k:=⟨i.toNat,by omega⟩
   have hd:decide ((k:Int) < 0)=false:=by simp
   by_cases h1:k < x.t.size
   · have hd1:decide ((x.t.size:Int) ≤ k)=false:=by simp;omega
     have hd2:decide (x.t.size ≤ k)=false:=by simp;omega
     have he:=cb_in h1
     rw [show x.byt (k:Int)=(cb x.t k:Int) by unfold Sc.byt;rw [x.inn_nat,decide_eq_true h1];rfl,x.inn_nat,decide_eq_true h1]
     go_enter Tryd.func126,Tryd.ntmps126
     go_wp2
     go_ret2
     exact ⟨rfl,rfl⟩
   · have hd1:decide ((x.t.size:Int) ≤ k)=true:=by simp;omega
     have hd2:decide (x.t.size ≤ k)=true:=by simp;omega
     rw [show x.byt (k:Int)=0 by unfold Sc.byt;rw [x.inn_nat,decide_eq_false h1];rfl,x.inn_nat,decide_eq_false h1]
     go_enter Tryd.func126,Tryd.ntmps126
     go_wp2
     go_ret2
     exact ⟨rfl,rfl⟩
theorem scnl_any (x:Sc) (b:Nat) (i:Int) (w:World) (h:ScAt w b x) :
   Calls Tryd.prog 127 #[.pointer (some ⟨b,0,none⟩),.int .i64 i] w fun e w'=>e=.returned (.bool (x.nlAt i))∧w'=w:=by
 have HB:=Lib.hid (scbyte_any x b i w h)
 obtain ⟨-,c1,-,-,-⟩:=four h
 clear h
 have hn:x.nlAt i=(x.inn i && (x.nl && x.byt i == 10)):=by
   unfold Sc.nlAt Sc.byt
   cases x.inn i with
   | false=>rfl
   | true=>simp only [Bool.true_and,if_true];congr 1;rw [Bool.eq_iff_iff];simp only [beq_iff_eq];omega
 rw [hn]
 clear hn
 generalize x.byt i=y at *
 generalize x.inn i=t at *
 generalize x.nl=n at *
 cases t <;> cases n <;> cases hy:(y == 10)
 all_goals
   go_enter Tryd.func127,Tryd.ntmps127
   go_wp2_with fail
   refine HB.out.mono ?_
   rintro e w' ⟨rfl,rfl⟩
   go_wp2
   go_ret
   exact ⟨rfl,rfl⟩
theorem Sc.nlAt_wrap (x:Sc) (i:Int) (hi : -9223372036854775808 ≤ i∧i ≤ 9223372036854775807) (ht:x.t.size ≤ 4611686018427387904):x.nlAt (wrap64 (i - 1))=x.nlAt (i - 1):=by
 by_cases hm:i = -9223372036854775808
 · have hw:wrap64 (i - 1)=9223372036854775807:=by unfold wrap64;omega
   rw [x.nlAt_neg (by omega:i - 1 < 0),x.nlAt_big (by omega)]
 · rw [show wrap64 (i - 1)=i - 1 by unfold wrap64;omega]
theorem scbeg_any (x:Sc) (b:Nat) (i:Int) (w:World) (h:ScAt w b x) (hi : -9223372036854775808 ≤ i∧i ≤ 9223372036854775807) (ht:x.t.size ≤ 4611686018427387904) :
   Calls Tryd.prog 101 #[.pointer (some ⟨b,0,none⟩),.int .i64 i] w fun e w'=>e=.returned (.bool (x.beg i))∧w'=w:=by
 have hn:=x.nlAt_wrap i hi ht
 have HN:=Lib.hid (scnl_any x b (wrap64 (i - 1)) w h)
 obtain ⟨-,-,c2,-,-⟩:=four h
 clear h hi ht
 unfold Sc.beg
 rw [← hn]
 clear hn
 generalize x.nlAt (wrap64 (i - 1))=y at *
 generalize x.hd=d at *
 cases d <;> cases hy:(i == 0)
 all_goals
   go_enter Tryd.func101,Tryd.ntmps101
   go_wp2_with fail
   first
     | (go_ret;exact ⟨rfl,rfl⟩)
     | (refine HN.out.mono ?_;rintro e w' ⟨rfl,rfl⟩;go_wp2;go_ret;exact ⟨rfl,rfl⟩)
theorem scfin_any (x:Sc) (b:Nat) (i:Int) (w:World) (h:ScAt w b x) :
   Calls Tryd.prog 102 #[.pointer (some ⟨b,0,none⟩),.int .i64 i] w fun e w'=>e=.returned (.bool (x.fin i))∧w'=w:=by
 have HN:=Lib.hid (scnl_any x b i w h)
 obtain ⟨c0,-,-,c3,-⟩:=four h
 clear h
 unfold Sc.fin
 generalize x.nlAt i=y at *
 generalize x.tl=d at *
 cases d <;> cases hy:(i == (x.t.size:Int))
 all_goals
   go_enter Tryd.func102,Tryd.ntmps102
   go_wp2_with fail
   first
     | (go_ret;exact ⟨rfl,rfl⟩)
     | (refine HN.out.mono ?_;rintro e w' ⟨rfl,rfl⟩;go_wp2;go_ret;exact ⟨rfl,rfl⟩)
theorem sclen_any (x:Sc) (b:Nat) (w:World) (h:ScAt w b x) :
   Calls Tryd.prog 96 #[.pointer (some ⟨b,0,none⟩)] w fun e w'=>e=.returned (.int .i64 x.t.size)∧w'=w:=by
 obtain ⟨c0,-,-,-,-⟩:=four h
 go_enter Tryd.func96,Tryd.ntmps96
 go_wp2
 go_ret
 exact ⟨rfl,rfl⟩
theorem scnew_any (s:ByteArray) (c e0:Int) (w:World) :
   Calls Tryd.prog 26 #[.string s,.int .i64 c,.int .i64 e0] w fun e w'=>e=.returned (.pointer (some ⟨w.heap.size,0,none⟩))∧ScAt w' w.heap.size (Sc.new s c e0)∧Below w.heap.size w w'∧w'.heap.size=w.heap.size+1:=by
 go_enter Tryd.func26,Tryd.ntmps26
 go_wp2
 go_ret
 refine ⟨rfl,heap_alloc_new _ _,(Below.refl _ _).alloc (Nat.le_refl _) _,by simp⟩
end Go.Proofs.YtedjkbmfpjmlpaaDoor
namespace Go.Proofs.YtedjkbmfpjmlpaaDoor
open Go.RowKit
namespace Tk
def pow (R:Nat→Nat→Prop):Nat→Nat→Nat→Prop
 | 0=>fun i j=>i=j
 | n+1=>fun i j=>∃ m,R i m∧pow R n m j
def rounds (R:Nat→Nat→Prop) (lo hi:Int) (i j:Nat):Prop:=∃ n:Nat,lo ≤ (n:Int)∧(hi = -1 ∨ (n:Int) ≤ hi)∧pow R n i j
end Tk
namespace Tr
mutual
def tk (x:Sc):Tr→Nat→Nat→Prop
 | .node k a b c d s _ lo hi _=>fun i j =>
   if k=2 then (i < x.t.size∧Oc.mem a b c d (cb x.t i)=true)∧j=i+1
   else if k=3 then x.beg i=true∧i=j
   else if k=4 then x.fin i=true∧i=j
   else if k=5 then tkSeq x s i j
   else if k=6 then tkAlt x s i j
   else if k=7 then tkHead x s i j
   else if k=8 then Tk.rounds (tkHead x s) lo hi i j
   else i=j
def tkSeq (x:Sc):List Tr→Nat→Nat→Prop
 | []=>fun i j=>i=j
 | t :: l=>fun i j=>∃ m,tk x t i m∧tkSeq x l m j
def tkAlt (x:Sc):List Tr→Nat→Nat→Prop
 | []=>fun _ _=>False
 | t :: l=>fun i j=>tk x t i j ∨ tkAlt x l i j
def tkHead (x:Sc):List Tr→Nat→Nat→Prop
 | []=>fun _ _=>False
 | t :: _=>fun i j=>tk x t i j
end
theorem tk_eq (x:Sc) (t:Tr) (i j:Nat):tk x t i j =
   if t.kind=2 then (i < x.t.size∧Oc.mem t.w0 t.w1 t.w2 t.w3 (cb x.t i)=true)∧j=i+1
   else if t.kind=3 then x.beg i=true∧i=j
   else if t.kind=4 then x.fin i=true∧i=j
   else if t.kind=5 then tkSeq x t.subs i j
   else if t.kind=6 then tkAlt x t.subs i j
   else if t.kind=7 then tkHead x t.subs i j
   else if t.kind=8 then Tk.rounds (tkHead x t.subs) t.least t.most i j
   else i=j:=by
 cases t;rw [tk];rfl
theorem tk_bytes {x:Sc} {t:Tr} (h:t.kind=2) (i j:Nat):tk x t i j ↔ (i < x.t.size∧Oc.mem t.w0 t.w1 t.w2 t.w3 (cb x.t i)=true)∧j=i+1:=by rw [tk_eq,if_pos h]
theorem tk_beg {x:Sc} {t:Tr} (h:t.kind=3) (i j:Nat):tk x t i j ↔ x.beg i=true∧i=j:=by rw [tk_eq,h];simp
theorem tk_fin {x:Sc} {t:Tr} (h:t.kind=4) (i j:Nat):tk x t i j ↔ x.fin i=true∧i=j:=by rw [tk_eq,h];simp
theorem tk_seq {x:Sc} {t:Tr} (h:t.kind=5) (i j:Nat):tk x t i j ↔ tkSeq x t.subs i j:=by rw [tk_eq,h];simp
theorem tk_alt {x:Sc} {t:Tr} (h:t.kind=6) (i j:Nat):tk x t i j ↔ tkAlt x t.subs i j:=by rw [tk_eq,h];simp
theorem tk_grp {x:Sc} {t u:Tr} (h:t.kind=7) (hs:t.subs=[u]) (i j:Nat):tk x t i j ↔ tk x u i j:=by rw [tk_eq,h,hs];simp [tkHead]
theorem tkHead_one (x:Sc) (u:Tr):tkHead x [u]=tk x u:=by funext i j;rw [tkHead]
theorem tk_rep {x:Sc} {t u:Tr} (h:t.kind=8) (hs:t.subs=[u]) (i j:Nat):tk x t i j ↔ Tk.rounds (tk x u) t.least t.most i j:=by
 rw [tk_eq,h,hs,tkHead_one];simp
theorem tk_empty {x:Sc} {t:Tr} (h:t.kind=1) (i j:Nat):tk x t i j ↔ i=j:=by rw [tk_eq,h];simp
theorem tkSeq_append (x:Sc):∀ (a b:List Tr) (i j:Nat),tkSeq x (a ++ b) i j ↔ ∃ m,tkSeq x a i m∧tkSeq x b m j
 | [],b,i,j=>by simp [tkSeq]
 | t :: a,b,i,j=>by
   simp only [List.cons_append,tkSeq]
   constructor
   · rintro ⟨m,h1,h2⟩
     obtain ⟨m2,h3,h4⟩:=(tkSeq_append x a b m j).1 h2
     exact ⟨m2,⟨m,h1,h3⟩,h4⟩
   · rintro ⟨m2,⟨m,h1,h3⟩,h4⟩
     exact ⟨m,h1,(tkSeq_append x a b m j).2 ⟨m2,h3,h4⟩⟩
theorem tkSeq_one (x:Sc) (t:Tr) (i j:Nat):tkSeq x [t] i j ↔ tk x t i j:=by simp [tkSeq]
theorem tkAlt_iff (x:Sc):∀ (l:List Tr) (i j:Nat),tkAlt x l i j ↔ ∃ t,t ∈ l∧tk x t i j
 | [],i,j=>by simp [tkAlt]
 | t :: l,i,j=>by simp [tkAlt,tkAlt_iff x l i j]
end Tr
namespace Tk
def On (n:Nat) (R:Nat→Nat→Prop):Prop:=∀ i j,i ≤ n→R i j→i ≤ j∧j ≤ n
theorem pow_on {n:Nat} {R:Nat→Nat→Prop} (h:On n R):∀ k,On n (pow R k)
 | 0,i,j,hi,e=>by simp only [pow] at e;omega
 | k+1,i,j,hi,e=>by
   obtain ⟨m,h1,h2⟩:=e
   have a:=h i m hi h1
   have b:=pow_on h k m j a.2 h2
   omega
theorem rounds_on {n:Nat} {R:Nat→Nat→Prop} (h:On n R) (lo hi:Int):On n (rounds R lo hi):=by
 rintro i j hi ⟨k,-,-,hp⟩;exact pow_on h k i j hi hp
theorem pow_add (R:Nat→Nat→Prop):∀ (a b:Nat) (i j:Nat),pow R (a+b) i j ↔ ∃ m,pow R a i m∧pow R b m j
 | 0,b,i,j=>by simp [pow]
 | a+1,b,i,j=>by
   rw [show a+1+b=(a+b)+1 by omega]
   simp only [pow]
   constructor
   · rintro ⟨m,h1,h2⟩
     obtain ⟨m2,h3,h4⟩:=(pow_add R a b m j).1 h2
     exact ⟨m2,⟨m,h1,h3⟩,h4⟩
   · rintro ⟨m2,⟨m,h1,h3⟩,h4⟩
     exact ⟨m,h1,(pow_add R a b m j).2 ⟨m2,h3,h4⟩⟩
theorem pow_one (R:Nat→Nat→Prop) (i j:Nat):pow R 1 i j ↔ R i j:=by simp [pow]
theorem pow_last (R:Nat→Nat→Prop) (n i j:Nat):pow R (n+1) i j ↔ ∃ m,pow R n i m∧R m j:=by
 rw [pow_add];simp only [pow_one]
def long (R:Nat→Nat→Prop) (i j:Nat):Prop:=R i j∧i ≠ j
theorem pow_long {R:Nat→Nat→Prop} : ∀ n i j,pow (long R) n i j→pow R n i j
 | 0,_,_,h=>h
 | n+1,_,j,⟨m,h1,h2⟩=>⟨m,h1.1,pow_long n m j h2⟩
theorem pow_short {R:Nat→Nat→Prop} : ∀ n i j,pow R n i j→∃ m,m ≤ n∧pow (long R) m i j
 | 0,i,j,h=>⟨0,Nat.le_refl _,h⟩
 | n+1,i,j,⟨k,h1,h2⟩=>by
   obtain ⟨m,hm,hp⟩:=pow_short n k j h2
   by_cases e:i=k
   · subst e;exact ⟨m,by omega,hp⟩
   · exact ⟨m+1,by omega,k,⟨h1,e⟩,hp⟩
theorem long_on {n:Nat} {R:Nat→Nat→Prop} (h:On n R):On n (long R):=fun i j hi hr=>h i j hi hr.1
theorem rounds_split {R:Nat→Nat→Prop} (lo:Nat) (hi:Int) (_hh:hi = -1 ∨ (lo:Int) ≤ hi) (i j:Nat) :
   rounds R lo hi i j ↔ ∃ m,pow R lo i m∧∃ k:Nat,(hi = -1 ∨ (lo:Int)+k ≤ hi)∧pow (long R) k m j:=by
 constructor
 · rintro ⟨n,h1,h2,h3⟩
   obtain ⟨d,rfl⟩:∃ d,n=lo+d:=⟨n - lo,by omega⟩
   obtain ⟨m,h4,h5⟩:=(pow_add R lo d i j).1 h3
   obtain ⟨k,hk,h6⟩:=pow_short d m j h5
   exact ⟨m,h4,k,by omega,h6⟩
 · rintro ⟨m,h4,k,hk,h6⟩
   exact ⟨lo+k,by omega,by omega,(pow_add R lo k i j).2 ⟨m,h4,pow_long k m j h6⟩⟩
end Tk
namespace Tr
theorem tkSeq_on {x:Sc} : ∀ {l:List Tr},(∀ t,t ∈ l→Tk.On x.t.size (tk x t))→Tk.On x.t.size (tkSeq x l)
 | [],_,i,j,hi,e=>by simp only [tkSeq] at e;omega
 | t :: l,h,i,j,hi,e=>by
   simp only [tkSeq] at e
   obtain ⟨m,h1,h2⟩:=e
   have a:=h t (by simp) i m hi h1
   have b:=tkSeq_on (fun u hu=>h u (by simp [hu])) m j a.2 h2
   omega
theorem tkHead_on {x:Sc} : ∀ {l:List Tr},(∀ t,t ∈ l→Tk.On x.t.size (tk x t))→Tk.On x.t.size (tkHead x l)
 | [],_,i,j,_,e=>by simp [tkHead] at e
 | t :: l,h,i,j,hi,e=>by
   simp only [tkHead] at e
   exact h t (by simp) i j hi e
theorem tk_on (x:Sc) (t:Tr):Tk.On x.t.size (tk x t):=by
 induction t using Tr.rec_subs with
 | h t ih =>
   intro i j hi h
   rw [tk_eq] at h
   split at h
   · omega
   split at h
   · omega
   split at h
   · omega
   split at h
   · exact tkSeq_on ih i j hi h
   split at h
   · obtain ⟨u,hu,h2⟩:=(tkAlt_iff x _ i j).1 h
     exact ih u hu i j hi h2
   split at h
   · exact tkHead_on ih i j hi h
   split at h
   · exact Tk.rounds_on (tkHead_on ih) _ _ i j hi h
   · omega
end Tr
end Go.Proofs.YtedjkbmfpjmlpaaDoor
namespace Go.Proofs.YtedjkbmfpjmlpaaDoor
open Go.RowKit
theorem cb_rev (s:ByteArray) {k:Nat} (h:k < s.size):cb (Sc.rev s) (s.size - 1 - k)=cb s k:=by
 have h1:s.size - 1 - k < (Sc.rev s).size:=by rw [Sc.rev_size];omega
 rw [← cb_in h1,← cb_in h]
 congr 1
 have e1:(Sc.rev s)[s.size - 1 - k]=s.data.toList.reverse[s.size - 1 - k]'(by simp;have:s.data.size=s.size:=rfl;omega):=rfl
 have e2:s[k]=s.data.toList[k]'(by simpa using h):=rfl
 rw [e1,e2,List.getElem_reverse]
 congr 1
 have:s.data.toList.length=s.size:=by simp
 omega
theorem rev_rev (s:ByteArray):Sc.rev (Sc.rev s)=s:=by
 unfold Sc.rev
 simp
theorem turned_turned (x:Sc):x.turned.turned=x:=by
 unfold Sc.turned
 simp only [rev_rev]
theorem turned_size (x:Sc):x.turned.t.size=x.t.size:=Sc.rev_size x.t
theorem fin_turned (x:Sc) {i:Nat} (h:i ≤ x.t.size):x.turned.fin ((x.t.size - i:Nat):Int)=x.beg i:=by
 unfold Sc.fin Sc.beg
 rw [turned_size]
 have e1:((((x.t.size - i:Nat):Int) == (x.t.size:Int)):Bool)=((i:Int) == 0):=by
   rw [Bool.eq_iff_iff,beq_iff_eq,beq_iff_eq];omega
 rw [e1]
 have e2:x.turned.nlAt ((x.t.size - i:Nat):Int)=x.nlAt ((i:Int) - 1):=by
   by_cases h0:i=0
   · subst h0
     rw [Sc.nlAt_big _ (by rw [turned_size];omega),Sc.nlAt_neg _ (by omega)]
   · rw [Sc.nlAt_in _ (by rw [turned_size];omega),show ((i:Int) - 1)=((i - 1:Nat):Int) by omega,Sc.nlAt_in _ (by omega)]
     have:=cb_rev x.t (k:=i - 1) (by omega)
     rw [show x.t.size - 1 - (i - 1)=x.t.size - i by omega] at this
     show (x.nl && cb (Sc.rev x.t) (x.t.size - i) == 10)=_
     rw [this]
 rw [e2];rfl
theorem beg_turned (x:Sc) {i:Nat} (h:i ≤ x.t.size):x.turned.beg ((x.t.size - i:Nat):Int)=x.fin i:=by
 have:=fin_turned x.turned (i:=x.t.size - i) (by rw [turned_size];omega)
 rw [turned_turned,turned_size,show x.t.size - (x.t.size - i)=i by omega] at this
 exact this.symm
namespace Tk
def Mir (n:Nat) (R R':Nat→Nat→Prop):Prop:=∀ i j,i ≤ n→j ≤ n→(R' (n - j) (n - i) ↔ R i j)
theorem mir_pow {n:Nat} {R R':Nat→Nat→Prop} (h1:On n R) (h2:On n R') (h:Mir n R R'):∀ k,Mir n (pow R k) (pow R' k)
 | 0,i,j,hi,hj=>by simp only [pow];omega
 | k+1,i,j,hi,hj=>by
   rw [pow_last,pow]
   constructor
   · rintro ⟨m,a,b⟩
     have hm:=(pow_on h2 k (n - j) m (by omega) a).2
     obtain ⟨m',rfl,hm'⟩:∃ m',m=n - m'∧m' ≤ n:=⟨n - m,by omega,by omega⟩
     exact ⟨m',(h i m' hi hm').1 b,(mir_pow h1 h2 h k m' j hm' hj).1 a⟩
   · rintro ⟨m,a,b⟩
     have hm:=(h1 i m hi a).2
     exact ⟨n - m,(mir_pow h1 h2 h k m j hm hj).2 b,(h i m hi hm).2 a⟩
theorem mir_rounds {n:Nat} {R R':Nat→Nat→Prop} (h1:On n R) (h2:On n R') (h:Mir n R R') (lo hi:Int):Mir n (rounds R lo hi) (rounds R' lo hi):=by
 intro i j hi' hj
 constructor
 · rintro ⟨k,a,b,c⟩;exact ⟨k,a,b,(mir_pow h1 h2 h k i j hi' hj).1 c⟩
 · rintro ⟨k,a,b,c⟩;exact ⟨k,a,b,(mir_pow h1 h2 h k i j hi' hj).2 c⟩
end Tk
namespace Tr
theorem mir_seq (x:Sc):∀ l:List Tr,(∀ t,t ∈ l→Tk.Mir x.t.size (tk x t) (tk x.turned t.turT))→Tk.Mir x.t.size (tkSeq x l) (tkSeq x.turned (l.map turT).reverse)
 | [],_,i,j,hi,hj=>by simp only [List.map_nil,List.reverse_nil,tkSeq];omega
 | t :: l,h,i,j,hi,hj=>by
   have il:=mir_seq x l fun u hu=>h u (List.mem_cons_of_mem _ hu)
   have ht:=h t List.mem_cons_self
   rw [List.map_cons,List.reverse_cons,tkSeq_append,show tkSeq x (t :: l) i j=∃ m,tk x t i m∧tkSeq x l m j from by rw [tkSeq]]
   simp only [tkSeq_one]
   constructor
   · rintro ⟨m,a,b⟩
     have hm:m ≤ x.t.size:=by
       have:=(tkSeq_on (fun u _=>tk_on x.turned u) (x.t.size - j) m (by rw [turned_size];omega) a).2
       rwa [turned_size] at this
     obtain ⟨m',rfl,hm'⟩:∃ m',m=x.t.size - m'∧m' ≤ x.t.size:=⟨x.t.size - m,by omega,by omega⟩
     exact ⟨m',(ht i m' hi hm').1 b,(il m' j hm' hj).1 a⟩
   · rintro ⟨m,a,b⟩
     have hm:=(tk_on x t i m hi a).2
     exact ⟨x.t.size - m,(il m j hm hj).2 b,(ht i m hi hm).2 a⟩
theorem mir_alt (x:Sc) (l:List Tr) (h:∀ t,t ∈ l→Tk.Mir x.t.size (tk x t) (tk x.turned t.turT)):Tk.Mir x.t.size (tkAlt x l) (tkAlt x.turned (l.map turT)):=by
 intro i j hi hj
 rw [tkAlt_iff,tkAlt_iff]
 constructor
 · rintro ⟨u,hu,a⟩
   obtain ⟨t,ht,rfl⟩:=List.mem_map.1 hu
   exact ⟨t,ht,(h t ht i j hi hj).1 a⟩
 · rintro ⟨t,ht,a⟩
   exact ⟨t.turT,List.mem_map.2 ⟨t,ht,rfl⟩,(h t ht i j hi hj).2 a⟩
theorem mir_head (x:Sc):∀ l:List Tr,(∀ t,t ∈ l→Tk.Mir x.t.size (tk x t) (tk x.turned t.turT))→Tk.Mir x.t.size (tkHead x l) (tkHead x.turned (l.map turT))
 | [],_,i,j,_,_=>by simp [tkHead]
 | t :: l,h,i,j,hi,hj=>by rw [List.map_cons,tkHead,tkHead];exact h t List.mem_cons_self i j hi hj
theorem tk_tur (x:Sc) (t:Tr):Tk.Mir x.t.size (tk x t) (tk x.turned t.turT):=by
 induction t using Tr.rec_subs with
 | h t ih =>
   intro i j hi hj
   rw [tk_eq x.turned,tk_eq x t,turT_kind,turT_w0,turT_w1,turT_w2,turT_w3,turT_least,turT_most,turT_subs,turned_size]
   by_cases h2:t.kind=2
   · rw [if_pos h2,if_pos (by rw [turK_two];exact h2)]
     constructor
     · rintro ⟨⟨a,b⟩,c⟩
       obtain rfl:j=i+1:=by omega
       have:=cb_rev x.t (k:=i) (by omega)
       rw [show x.t.size - 1 - i=x.t.size - (i+1) by omega] at this
       rw [← this]
       exact ⟨⟨by omega,b⟩,rfl⟩
     · rintro ⟨⟨a,b⟩,rfl⟩
       have:=cb_rev x.t (k:=i) (by omega)
       rw [show x.t.size - 1 - i=x.t.size - (i+1) by omega] at this
       rw [← this] at b
       exact ⟨⟨by omega,b⟩,by omega⟩
   rw [if_neg h2,if_neg (by rw [turK_two];exact h2)]
   by_cases h3:t.kind=3
   · rw [if_pos h3,if_neg (by rw [h3];decide),if_pos (by rw [h3];decide)]
     constructor
     · rintro ⟨a,b⟩
       obtain rfl:i=j:=by omega
       rw [fin_turned x hi] at a
       exact ⟨a,rfl⟩
     · rintro ⟨a,rfl⟩
       rw [fin_turned x hi]
       exact ⟨a,rfl⟩
   rw [if_neg h3]
   by_cases h4:t.kind=4
   · rw [if_pos h4,if_pos (by rw [h4];decide)]
     constructor
     · rintro ⟨a,b⟩
       obtain rfl:i=j:=by omega
       rw [beg_turned x hi] at a
       exact ⟨a,rfl⟩
     · rintro ⟨a,rfl⟩
       rw [beg_turned x hi]
       exact ⟨a,rfl⟩
   have hk:turK t.kind=t.kind:=by unfold turK;rw [if_neg h3,if_neg h4]
   rw [if_neg h4,hk,if_neg h3,if_neg h4]
   by_cases h5:t.kind=5
   · rw [if_pos h5,if_pos h5]
     unfold rv
     rw [if_pos h5]
     exact mir_seq x t.subs ih i j hi hj
   rw [if_neg h5,if_neg h5,rv_not h5]
   split
   · exact mir_alt x t.subs ih i j hi hj
   split
   · exact mir_head x t.subs ih i j hi hj
   split
   · have hon:∀ (y:Sc) (l:List Tr),Tk.On y.t.size (tkHead y l):=fun y l=>tkHead_on fun u _=>tk_on y u
     exact Tk.mir_rounds (hon x _) (by have:=hon x.turned (t.subs.map turT);rwa [turned_size] at this) (mir_head x t.subs ih) _ _ i j hi hj
   · omega
end Tr
end Go.Proofs.YtedjkbmfpjmlpaaDoor
namespace Go.Proofs.YtedjkbmfpjmlpaaDoor
open Go.RowKit
namespace Oc
def nxt (p:Nat→Bool):Nat→Nat→Nat
 | 0,f=>f
 | n+1,f=>if p f then f else nxt p n (f+1)
def nx (p:Nat→Bool) (f:Nat):Nat:=nxt p (256 - f) f
def zeros (x:BitVec 64):Nat:=Lib.ctz 64 x.toNat
theorem ctz_bits (x:BitVec 64) (h:x ≠ 0#64):zeros x < 64∧x.getLsbD (zeros x)=true∧∀ i,i < zeros x→x.getLsbD i=false:=by
 unfold zeros
 have hx0:x.toNat ≠ 0:=fun e=>h (BitVec.eq_of_toNat_eq (by simpa using e))
 obtain ⟨m,hm,hlt⟩:=Lib.ctzFrom_spec 64 x.toNat (by omega) x.isLt
 have hc:Lib.ctz 64 x.toNat=Lib.ctzFrom 64 x.toNat:=by unfold Lib.ctz;rw [if_neg hx0]
 rw [hc]
 generalize Lib.ctzFrom 64 x.toNat=c at *
 refine ⟨hlt, ?_,fun i hi=>?_⟩
 · show x.toNat.testBit c=true
   rw [hm,Nat.testBit_two_pow_mul];simp
 · show x.toNat.testBit i=false
   rw [hm,Nat.testBit_two_pow_mul];simp;omega
end Oc
theorem tz_core (x:BitVec 64) (k idx:Nat) (w:World) (hx0:(Oc.U x == 0)=false)
   (key:IntKind.u64.wrap (bits BinOp.and IntKind.u64 (Oc.U x) (IntKind.u64.wrap (-(Oc.U x))) * 285870213051353865) / 288230376151711744=(idx:Int))
   (hi:idx < 64) (hk:k < 64) (hcell:w.cell? ⟨21,idx,none⟩=some (.int .u8 k)) :
   Calls Tryd.prog 92 #[.int .u64 (Oc.U x)] w fun e w'=>e=.returned (.int .i64 k)∧w=w':=by
 go_enter Tryd.func92,Tryd.ntmps92
 go_wp2_with (simp only [key])
 go_ret
 exact ⟨rfl,rfl⟩
theorem tz_any (x:BitVec 64) (hx:x ≠ 0#64) (w:World) (hT:TabAt 21 Lib.deBruijn64tab w) :
   Calls Tryd.prog 92 #[.int .u64 (Oc.U x)] w fun e w'=>e=.returned (.int .i64 (Oc.zeros x))∧w=w':=by
 have hx0:x.toNat ≠ 0:=fun e=>hx (BitVec.eq_of_toNat_eq (by simpa using e))
 obtain ⟨hlow,hk⟩:=Lib.lowest_bit 64 x.toNat hx0 x.isLt
 obtain ⟨hi,htab⟩:=Lib.deBruijn64_at _ hk
 have hcell:=hT _ hi
 rw [htab] at hcell
 exact tz_core x _ _ w (by unfold Oc.U;simp;omega) (tz64_key x.toNat _ x.isLt hx0 hlow) hi hk hcell
theorem U_zero {x:BitVec 64} : (Oc.U x=0)=(x=0#64):=by
 rw [eq_iff_iff];constructor
 · intro h;exact Oc.U_inj (y:=0#64) (by rw [h];decide)
 · rintro rfl;decide
end Go.Proofs.YtedjkbmfpjmlpaaDoor
namespace Go.Proofs.YtedjkbmfpjmlpaaDoor
open Go.RowKit
namespace Re
theorem bit0 (q k:Nat):(2 * q+1).testBit (k+1)=(2 * q).testBit (k+1):=by
 rw [Nat.testBit_succ,Nat.testBit_succ];congr 1;omega
theorem drop_bit (x:BitVec 64) (h:x ≠ 0#64) (j:Nat):(x &&& (x - 1#64)).getLsbD j=(x.getLsbD j && decide (j ≠ Oc.zeros x)):=by
 obtain ⟨hz,h1,h0⟩:=Oc.ctz_bits x h
 generalize Oc.zeros x=z at *
 have hx0:x.toNat ≠ 0:=fun e=>h (BitVec.eq_of_toNat_eq (by simpa using e))
 have hs:(x - 1#64).toNat=x.toNat - 1:=by
   rw [BitVec.toNat_sub];have:=x.isLt;simp only [BitVec.toNat_ofNat];omega
 rw [BitVec.getLsbD_and]
 show (x.getLsbD j && (x - 1#64).toNat.testBit j)=_
 rw [hs]
 by_cases hj:j < z
 · rw [h0 j hj];simp
 -- x=2 ^ z * (2 q+1)
 have hlow:x.toNat % 2 ^ z=0:=by
   apply Nat.eq_of_testBit_eq;intro i
   rw [Nat.testBit_mod_two_pow,Nat.zero_testBit]
   by_cases hi:i < z
   · have:x.toNat.testBit i=false:=h0 i hi
     rw [this];simp
   · simp [hi]
 have hodd:(x.toNat / 2 ^ z) % 2=1:=by
   have:(x.toNat / 2 ^ z).testBit 0=true:=by rw [Nat.testBit_div_two_pow,Nat.zero_add];exact h1
   rw [Nat.testBit_zero] at this;simpa using this
 have hdm:=Nat.div_add_mod x.toNat (2 ^ z)
 rw [hlow,Nat.add_zero] at hdm
 generalize hm:x.toNat / 2 ^ z=m at *
 have hp:0 < 2 ^ z:=Nat.two_pow_pos z
 have hpred:(x.toNat - 1) / 2 ^ z=m - 1:=by
   have:x.toNat - 1=(2 ^ z - 1)+2 ^ z * (m - 1):=by
     rw [← hdm]
     obtain ⟨k,rfl⟩:∃ k,m=k+1:=⟨m - 1,by omega⟩
     rw [Nat.mul_add,Nat.mul_one,Nat.add_sub_cancel];omega
   rw [this,Nat.add_mul_div_left _ _ hp,Nat.div_eq_of_lt (by omega)];omega
 obtain ⟨d,rfl⟩:∃ d,j=z+d:=⟨j - z,by omega⟩
 have e1:(x.toNat - 1).testBit (z+d)=(m - 1).testBit d:=by
   rw [Nat.add_comm z d,← Nat.testBit_div_two_pow,hpred]
 have e2:x.getLsbD (z+d)=m.testBit d:=by
   show x.toNat.testBit (z+d)=_
   rw [Nat.add_comm z d,← Nat.testBit_div_two_pow,hm]
 rw [e1,e2]
 obtain ⟨q,rfl⟩:∃ q,m=2 * q+1:=⟨m / 2,by omega⟩
 cases d with
 | zero=>simp [Nat.testBit_zero]
 | succ d =>
   rw [Nat.add_sub_cancel,← bit0 q d]
   simp
theorem drop_lt (x:BitVec 64) (h:x ≠ 0#64):(x &&& (x - 1#64)).toNat < x.toNat:=by
 have hx0:x.toNat ≠ 0:=fun e=>h (BitVec.eq_of_toNat_eq (by simpa using e))
 have hs:(x - 1#64).toNat=x.toNat - 1:=by
   rw [BitVec.toNat_sub];have:=x.isLt;simp only [BitVec.toNat_ofNat];omega
 rw [BitVec.toNat_and,hs]
 have:=Nat.and_le_right (n:=x.toNat) (m:=x.toNat - 1)
 omega
theorem zero_iff (x:BitVec 64):x=0#64 ↔ ∀ j,x.getLsbD j=false:=by
 constructor
 · rintro rfl j;simp
 · intro h;apply BitVec.eq_of_getLsbD_eq;intro i _;rw [h i];simp
theorem one_bit (k j:Nat) (hk:k < 64):(1#64 <<< k).getLsbD j=decide (j=k):=by
 rw [BitVec.getLsbD_shiftLeft,BitVec.getLsbD_one,Bool.eq_iff_iff]
 simp only [Bool.and_eq_true,Bool.not_eq_true',decide_eq_true_eq,decide_eq_false_iff_not]
 omega
def Means (n:Nat) (P:Nat→BitVec 64) (R:Nat→Nat→Prop):Prop:=∀ i,i < 64→∀ j,(P i).getLsbD j=true ↔ i ≤ n∧R i j
theorem Means.congr {n:Nat} {P:Nat→BitVec 64} {R S:Nat→Nat→Prop} (h:Means n P R) (hs:∀ i j,i ≤ n→(R i j ↔ S i j)):Means n P S:=fun i hi j=>by
 rw [h i hi j]
 constructor
 · rintro ⟨a,b⟩;exact ⟨a,(hs i j a).1 b⟩
 · rintro ⟨a,b⟩;exact ⟨a,(hs i j a).2 b⟩
end Re
end Go.Proofs.YtedjkbmfpjmlpaaDoor
