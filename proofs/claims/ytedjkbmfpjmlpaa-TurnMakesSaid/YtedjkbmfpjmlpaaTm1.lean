/- Part 1 of what these proofs need. -/
import Derived.WalkKit
import Derived.WalkSpells
import Derived.WalkLawsBesides
import Derived.Handy
import Derived.Lib.Hide
import Derived.Deep.MidRow
import Derived.Test.YtedjkbmfpjmlpaaRows
import Derived.Laws.AppendOwn
import Derived.Great.BuildSlice
import Derived.Laws.MakeOwn
import Derived.RegionTactic
import Derived.Deep.CutBlock
import Derived.BigRegion
import Derived.Deep.DeepCutAuto
import Derived.Deep.RegionWith
import Derived.Deep.RegionHeld3
import Derived.StillTailTactics
import Derived.Deep.QuietTactic
import Derived.BigQuiet
import Derived.Laws.Tables
set_option maxRecDepth 100000
set_option maxHeartbeats 16000000
namespace Go.Proofs.Ytedjkbmfpjmlpaa
open Go.RowKit
theorem ret_int {k:IntKind} {a b:Int} (h:a=b):Ending.returned (.int k a)=.returned (.int k b):=by rw [h]
theorem ret_bool {a b:Bool} (h:a=b):Ending.returned (.bool a)=.returned (.bool b):=by rw [h]
theorem two_new (w:World) (x y:Obj):((w.alloc x).alloc y).heap[w.heap.size]? = some x∧((w.alloc x).alloc y).heap[w.heap.size+1]? = some y:=by
 show ((w.heap.push x).push y)[w.heap.size]? = _∧((w.heap.push x).push y)[w.heap.size+1]? = _
 constructor
 · simp [Array.getElem?_push]
 · rw [Array.getElem?_push,if_pos (by simp)]
theorem cell_new (w:World) (cs:Array Value) (t:TypeId) (j:Nat):(w.alloc (.cells cs t)).cell? ⟨w.heap.size,j,none⟩=cs[j]?:=by
 have e:(w.alloc (.cells cs t)).heap[w.heap.size]? = some (.cells cs t):=by show (w.heap.push _)[w.heap.size]? = _;simp
 unfold World.cell?;rw [e];rfl
theorem three_new (w:World) (x y z:Obj):(((w.alloc x).alloc y).alloc z).heap[w.heap.size]? = some x∧(((w.alloc x).alloc y).alloc z).heap[w.heap.size+1]? = some y∧(((w.alloc x).alloc y).alloc z).heap[w.heap.size+1+1]? = some z:=by
 show (((w.heap.push x).push y).push z)[w.heap.size]? = _∧(((w.heap.push x).push y).push z)[w.heap.size+1]? = _∧(((w.heap.push x).push y).push z)[w.heap.size+1+1]? = _
 refine ⟨?_, ?_, ?_⟩
 · simp [Array.getElem?_push];omega
 · rw [Array.getElem?_push,if_neg (by simp),Array.getElem?_push,if_pos (by simp)]
 · rw [Array.getElem?_push,if_pos (by simp)]
theorem below_setRow {B g:Nat} {a w:World} (h:Below B a w) (hg:B ≤ g) (cs:Array Value):Below B a (w.setRow g cs) :=
 h.trans ⟨rfl,rfl,rfl,by simp,fun k hk=>by simp only [World.setRow,Array.getElem?_modify];rw [if_neg (by omega)]⟩
theorem heap_setRow {w:World} {g:Nat} {old cs:Array Value} {t:TypeId} (h:w.heap[g]? = some (.cells old t)):(w.setRow g cs).heap[g]? = some (.cells cs t):=by
 simp [World.setRow,Array.getElem?_modify,h]
theorem keep_blk {w w':World} {g:Nat} {x:Obj} (hb:Below w.heap.size w w') (h:w.heap[g]? = some x):w'.heap[g]? = some x :=
 (hb.block g (Array.getElem?_eq_some_iff.1 h).1).trans h
theorem heap_setRow_other (w:World) (g:Nat) (cs:Array Value) {k:Nat} (h:k ≠ g):(w.setRow g cs).heap[k]? = w.heap[k]?:=by
 simp only [World.setRow,Array.getElem?_modify];rw [if_neg (Ne.symm h)]
end Go.Proofs.Ytedjkbmfpjmlpaa
namespace Go.Proofs.Ytedjkbmfpjmlpaa
namespace Oc
def U (x:BitVec 64):Int:=x.toNat
theorem U_inj {x y:BitVec 64} (h:U x=U y):x=y:=by
 unfold U at h;exact BitVec.eq_of_toNat_eq (by omega)
theorem wrapU (n:Int):IntKind.u64.wrap n=U (BitVec.ofInt 64 n):=by
 rw [IntKind.wrap_u64];unfold U;rw [BitVec.toNat_ofInt];omega
theorem shlBit (k:Nat):IntKind.u64.wrap ((2:Int) ^ k)=U (1#64 <<< k):=by
 rw [wrapU];refine congrArg U ?_
 apply BitVec.eq_of_toNat_eq
 rw [BitVec.toNat_shiftLeft,show ((2:Int) ^ k)=((2 ^ k:Nat):Int) by simp,BitVec.ofInt_natCast,BitVec.toNat_ofNat,Nat.shiftLeft_eq]
 simp
def cnt (p:Nat→Bool):Nat→Nat
 | 0=>0
 | n+1=>cnt p n+(p n).toNat
def wn (p:Nat→Bool) (k:Nat):Nat→Nat
 | 0=>0
 | n+1=>wn p k n+(if p (64 * k+n) then 2 ^ n else 0)
theorem wn_lt (p:Nat→Bool) (k:Nat):∀ n,wn p k n < 2 ^ n
 | 0=>by simp [wn]
 | n+1=>by have:=wn_lt p k n;simp only [wn];split <;> omega
theorem wn_bit (p:Nat→Bool) (k:Nat):∀ n i,i < n→(wn p k n).testBit i=p (64 * k+i)
 | 0,i,h=>by omega
 | n+1,i,h=>by
   have hl:=wn_lt p k n
   simp only [wn]
   by_cases e:i=n
   · subst e
     by_cases q:p (64 * k+i)=true
     · rw [if_pos q,q,Nat.add_comm,Nat.testBit_two_pow_add_eq,Nat.testBit_lt_two_pow hl];rfl
     · rw [if_neg q,Nat.add_zero,Nat.testBit_lt_two_pow hl];simpa using q
   · rw [← wn_bit p k n i (by omega)]
     split
     · rw [Nat.add_comm,Nat.testBit_two_pow_add_gt (by omega)]
     · rw [Nat.add_zero]
def mk (p:Nat→Bool) (k:Nat):BitVec 64:=BitVec.ofNat 64 (wn p k 64)
theorem mk_bit (p:Nat→Bool) (k i:Nat) (h:i < 64):(mk p k).getLsbD i=p (64 * k+i):=by
 unfold mk;rw [BitVec.getLsbD_ofNat,wn_bit p k 64 i h];simp [h]
theorem mk_eq {p:Nat→Bool} {k:Nat} {x:BitVec 64} (h:∀ i,i < 64→p (64 * k+i)=x.getLsbD i):mk p k=x:=by
 apply BitVec.eq_of_getLsbD_eq;intro i hi;rw [mk_bit p k i hi,h i hi]
theorem mk_same {p q:Nat→Bool} {v k:Nat} (hq:∀ j,q j=(p j || j == v)) (hk:v / 64 ≠ k):mk q k=mk p k:=by
 refine mk_eq fun i hi=>?_
 rw [mk_bit p k i hi,hq,show (64 * k+i == v)=false from by simp;omega];simp
theorem mk_turn {p q:Nat→Bool} {v k:Nat} (hq:∀ j,q j=(p j || j == v)) (hk:v / 64=k):mk q k=mk p k ||| (1#64 <<< (v % 64)):=by
 refine mk_eq fun i hi=>?_
 rw [hq,BitVec.getLsbD_or,mk_bit p k i hi]
 congr 1
 rw [BitVec.getLsbD_shiftLeft,BitVec.getLsbD_one,Bool.eq_iff_iff]
 simp [hi];omega
theorem mk_none (k:Nat):mk (fun _=>false) k=0#64:=by
 refine mk_eq fun i _=>?_
 simp
end Oc
end Go.Proofs.Ytedjkbmfpjmlpaa
namespace Go.Proofs.Ytedjkbmfpjmlpaa
open Go.RowKit
inductive Tr
 | node (kind:Int) (a b c d:BitVec 64) (subs:List Tr) (num least most:Int) (bare:Bool)
namespace Tr
def kind:Tr→Int | .node k _ _ _ _ _ _ _ _ _=>k
def w0:Tr→BitVec 64 | .node _ a _ _ _ _ _ _ _ _=>a
def w1:Tr→BitVec 64 | .node _ _ b _ _ _ _ _ _ _=>b
def w2:Tr→BitVec 64 | .node _ _ _ c _ _ _ _ _ _=>c
def w3:Tr→BitVec 64 | .node _ _ _ _ d _ _ _ _ _=>d
def subs:Tr→List Tr | .node _ _ _ _ _ s _ _ _ _=>s
def num:Tr→Int | .node _ _ _ _ _ _ n _ _ _=>n
def least:Tr→Int | .node _ _ _ _ _ _ _ m _ _=>m
def most:Tr→Int | .node _ _ _ _ _ _ _ _ m _=>m
def bare:Tr→Bool | .node _ _ _ _ _ _ _ _ _ b=>b
theorem size_sub {t u:Tr} (h:u ∈ t.subs):SizeOf.sizeOf u < SizeOf.sizeOf t:=by
 cases t with
 | node k a b c d s n lo hi br =>
   have:=List.sizeOf_lt_of_mem h
   simp only [subs] at this
   simp only [node.sizeOf_spec]
   omega
theorem rec_subs {P:Tr→Prop} (h:∀ t,(∀ u,u ∈ t.subs→P u)→P t) (t:Tr):P t:=by
 induction hn:SizeOf.sizeOf t using Nat.strongRecOn generalizing t with
 | _ n ih=>exact h t fun u hu=>ih _ (by have:=size_sub hu;omega) u rfl
def cells (t:Tr) (s:Value):Array Value :=
 #[.int .i64 t.kind,.int .u64 (Oc.U t.w0),.int .u64 (Oc.U t.w1),.int .u64 (Oc.U t.w2),.int .u64 (Oc.U t.w3),s,.int .i64 t.num,.int .i64 t.least,.int .i64 t.most,.bool t.bare]
end Tr
structure TenAt (w:World) (b o:Nat) (t:Tr) (s:Value):Prop where
 c0:w.cell? ⟨b,o,none⟩=some (.int .i64 t.kind)
 c1:w.cell? ⟨b,o+1,none⟩=some (.int .u64 (Oc.U t.w0))
 c2:w.cell? ⟨b,o+2,none⟩=some (.int .u64 (Oc.U t.w1))
 c3:w.cell? ⟨b,o+3,none⟩=some (.int .u64 (Oc.U t.w2))
 c4:w.cell? ⟨b,o+4,none⟩=some (.int .u64 (Oc.U t.w3))
 c5:w.cell? ⟨b,o+5,none⟩=some s
 c6:w.cell? ⟨b,o+6,none⟩=some (.int .i64 t.num)
 c7:w.cell? ⟨b,o+7,none⟩=some (.int .i64 t.least)
 c8:w.cell? ⟨b,o+8,none⟩=some (.int .i64 t.most)
 c9:w.cell? ⟨b,o+9,none⟩=some (.bool t.bare)
inductive TreesAt (w:World) (B:Nat→Prop):Value→List Tr→Prop
 | mk (p:Option Addr) (cap:Nat) (ts:List Tr) (S:Nat→Value) (hlen:ts.length * 96 ≤ 140737488351232)
     (hc:∀ i t,ts[i]? = some t→∃ b o,p=some ⟨b,o,none⟩∧B b∧TenAt w b (o+i * 10) t (S i))
     (hs:∀ i t,ts[i]? = some t→TreesAt w B (S i) t.subs):TreesAt w B (.slice p ts.length cap) ts
def NodeV (w:World) (B:Nat→Prop) (v:Value) (t:Tr):Prop:=∃ s,v=.agg (t.cells s)∧TreesAt w B s t.subs
theorem TenAt.keep {w w':World} {b o:Nat} {t:Tr} {s:Value} (h:TenAt w b o t s) (hk:w'.heap[b]? = w.heap[b]?):TenAt w' b o t s:=by
 have e:∀ k,w'.cell? ⟨b,k,none⟩=w.cell? ⟨b,k,none⟩:=fun k=>by unfold World.cell?;rw [hk]
 exact ⟨(e _).trans h.c0,(e _).trans h.c1,(e _).trans h.c2,(e _).trans h.c3,(e _).trans h.c4,(e _).trans h.c5,(e _).trans h.c6,(e _).trans h.c7,(e _).trans h.c8,(e _).trans h.c9⟩
theorem TenAt.lt {w:World} {b o:Nat} {t:Tr} {s:Value} (h:TenAt w b o t s):b < w.heap.size:=block_lt_of_cell h.c0
theorem TreesAt.keep {w w':World} {B:Nat→Prop} {s:Value} {ts:List Tr} (h:TreesAt w B s ts) (hk:∀ b,b < w.heap.size→B b→w'.heap[b]? = w.heap[b]?):TreesAt w' B s ts:=by
 induction h with
 | mk p cap ts S hlen hc hs ih =>
   refine .mk p cap ts S hlen (fun i t hi=>?_) (fun i t hi=>ih i t hi)
   obtain ⟨b,o,hp,hB,h10⟩:=hc i t hi
   exact ⟨b,o,hp,hB,h10.keep (hk b h10.lt hB)⟩
theorem TreesAt.later {w w':World} {B:Nat→Prop} {s:Value} {ts:List Tr} (h:TreesAt w B s ts) (hb:Below w.heap.size w w'):TreesAt w' B s ts :=
 h.keep fun b hb' _=>hb.block b hb'
theorem TreesAt.mono {w:World} {B B':Nat→Prop} {s:Value} {ts:List Tr} (h:TreesAt w B s ts) (hB:∀ b,b < w.heap.size→B b→B' b):TreesAt w B' s ts:=by
 induction h with
 | mk p cap ts S hlen hc hs ih =>
   refine .mk p cap ts S hlen (fun i t hi=>?_) (fun i t hi=>ih i t hi)
   obtain ⟨b,o,hp,hb,h10⟩:=hc i t hi
   exact ⟨b,o,hp,hB b h10.lt hb,h10⟩
theorem TreesAt.nil {w:World} {B:Nat→Prop} {p:Option Addr} {cap:Nat} : TreesAt w B (.slice p 0 cap) [] :=
 .mk p cap [] (fun _=>.nilIface) (by simp) (fun i t h=>by simp at h) (fun i t h=>by simp at h)
theorem TreesAt.slice {w:World} {B:Nat→Prop} {s:Value} {ts:List Tr} (h:TreesAt w B s ts):∃ p cap,s=.slice p ts.length cap∧ts.length * 96 ≤ 140737488351232:=by
 cases h with | mk p cap _ S hlen hc hs=>exact ⟨p,cap,rfl,hlen⟩
theorem TreesAt.get {w:World} {B:Nat→Prop} {p:Option Addr} {len cap:Nat} {ts:List Tr} (h:TreesAt w B (.slice p len cap) ts) {i:Nat} {t:Tr} (hi:ts[i]? = some t) :
   ∃ b o s,p=some ⟨b,o,none⟩∧B b∧TenAt w b (o+i * 10) t s∧TreesAt w B s t.subs:=by
 cases h with
 | mk _ _ _ S hlen hc hs =>
   obtain ⟨b,o,hp,hB,h10⟩:=hc i t hi
   exact ⟨b,o,S i,hp,hB,h10,hs i t hi⟩
end Go.Proofs.Ytedjkbmfpjmlpaa
namespace Go.Proofs.Ytedjkbmfpjmlpaa
open Go.RowKit
namespace Tr
def turK (k:Int):Int:=if k=3 then 4 else if k=4 then 3 else k
def rv {α:Type} (k:Int) (l:List α):List α:=if k=5 then l.reverse else l
mutual
def turT:Tr→Tr
 | .node k a b c d s n lo hi br=>.node (turK k) a b c d (rv k (turL s)) n lo hi br
def turL:List Tr→List Tr
 | []=>[]
 | t :: l=>turT t :: turL l
end
theorem turL_map:∀ l:List Tr,turL l=l.map turT
 | []=>by rw [turL];rfl
 | t :: l=>by rw [turL,turL_map l];rfl
theorem turT_node (k:Int) (a b c d:BitVec 64) (s:List Tr) (n lo hi:Int) (br:Bool):turT (.node k a b c d s n lo hi br)=.node (turK k) a b c d (rv k (s.map turT)) n lo hi br:=by rw [turT,turL_map]
theorem turT_eq (t:Tr):t.turT=.node (turK t.kind) t.w0 t.w1 t.w2 t.w3 (rv t.kind (t.subs.map turT)) t.num t.least t.most t.bare:=by cases t;rw [turT_node];rfl
theorem turT_kind (t:Tr):t.turT.kind=turK t.kind:=by rw [turT_eq];rfl
theorem turT_w0 (t:Tr):t.turT.w0=t.w0:=by rw [turT_eq];rfl
theorem turT_w1 (t:Tr):t.turT.w1=t.w1:=by rw [turT_eq];rfl
theorem turT_w2 (t:Tr):t.turT.w2=t.w2:=by rw [turT_eq];rfl
theorem turT_w3 (t:Tr):t.turT.w3=t.w3:=by rw [turT_eq];rfl
theorem turT_num (t:Tr):t.turT.num=t.num:=by rw [turT_eq];rfl
theorem turT_least (t:Tr):t.turT.least=t.least:=by rw [turT_eq];rfl
theorem turT_most (t:Tr):t.turT.most=t.most:=by rw [turT_eq];rfl
theorem turT_bare (t:Tr):t.turT.bare=t.bare:=by rw [turT_eq];rfl
theorem turT_subs (t:Tr):t.turT.subs=rv t.kind (t.subs.map turT):=by rw [turT_eq];rfl
theorem rv_map {α β:Type} (k:Int) (f:α→β) (l:List α):(rv k l).map f=rv k (l.map f):=by
 unfold rv;split
 · rw [List.map_reverse]
 · rfl
theorem rv_length {α:Type} (k:Int) (l:List α):(rv k l).length=l.length:=by
 unfold rv;split
 · rw [List.length_reverse]
 · rfl
theorem rv_not {α:Type} {k:Int} (h:k ≠ 5) (l:List α):rv k l=l:=if_neg h
end Tr
end Go.Proofs.Ytedjkbmfpjmlpaa
namespace Go.Proofs.Ytedjkbmfpjmlpaa
open Go.RowKit
structure Touch (F:List Nat) (w w':World):Prop where
 os:w'.os=w.os
 tape:w'.tape=w.tape
 output:w'.output=w.output
 size:w.heap.size ≤ w'.heap.size
 block:∀ k,k < w.heap.size→k ∉ F→w'.heap[k]? = w.heap[k]?
theorem Touch.of_below {w w':World} (F:List Nat) (h:Below w.heap.size w w'):Touch F w w':=⟨h.os,h.tape,h.output,h.size,fun k hk _=>h.block k hk⟩
theorem Touch.trans {F:List Nat} {a b c:World} (h:Touch F a b) (k:Touch F b c):Touch F a c :=
 ⟨k.os.trans h.os,k.tape.trans h.tape,k.output.trans h.output,Nat.le_trans h.size k.size,fun i hi hn=>(k.block i (Nat.lt_of_lt_of_le hi h.size) hn).trans (h.block i hi hn)⟩
theorem Touch.mono {F G:List Nat} {a b:World} (h:Touch F a b) (hs:∀ k,k ∈ F→k ∈ G):Touch G a b:=⟨h.os,h.tape,h.output,h.size,fun k hk hn=>h.block k hk fun hm=>hn (hs k hm)⟩
theorem Touch.below {F:List Nat} {a b:World} {B:Nat} (h:Touch F a b) (hB:∀ k,k ∈ F→B ≤ k) (hs:B ≤ a.heap.size):Below B a b :=
 ⟨h.os,h.tape,h.output,h.size,fun k hk=>h.block k (by omega) fun hm=>by have:=hB k hm;omega⟩
theorem heap_setCells_other {b k:Nat} (hk:k ≠ b):∀ (vs:List Value) (o:Nat) (w:World),(w.setCells b o vs).heap[k]? = w.heap[k]?
 | [],_,_=>rfl
 | v :: r,o,w=>by rw [World.setCells,heap_setCells_other hk r (o+1) _,Below.heap_setCell _ _ _ _ hk]
theorem size_setCells (b:Nat):∀ (vs:List Value) (o:Nat) (w:World),(w.setCells b o vs).heap.size=w.heap.size
 | [],_,_=>rfl
 | v :: r,o,w=>by rw [World.setCells,size_setCells b r (o+1) _];simp [World.setCell]
theorem streams_setCells (b:Nat):∀ (vs:List Value) (o:Nat) (w:World),(w.setCells b o vs).os=w.os∧(w.setCells b o vs).tape=w.tape∧(w.setCells b o vs).output=w.output
 | [],_,_=>⟨rfl,rfl,rfl⟩
 | v :: r,o,w=>by rw [World.setCells];exact streams_setCells b r (o+1) _
theorem cells_setCells {b:Nat} : ∀ (vs:List Value) (o:Nat) (w:World),(∃ cs ty,w.heap[b]? = some (.cells cs ty (0,0)))→∃ cs ty,(w.setCells b o vs).heap[b]? = some (.cells cs ty (0,0))
 | [],_,_,h=>h
 | v :: r,o,w,⟨cs,ty,h⟩=>by
   rw [World.setCells]
   exact cells_setCells r (o+1) _ ⟨cs.setIfInBounds o v,ty,by simp [World.setCell,Array.getElem?_modify,h]⟩
theorem Touch.setCells {F:List Nat} {a w:World} {b:Nat} (h:Touch F a w) (hb:b ∈ F) (o:Nat) (vs:List Value):Touch F a (w.setCells b o vs):=by
 obtain ⟨h1,h2,h3⟩:=streams_setCells b vs o w
 exact ⟨h1.trans h.os,h2.trans h.tape,h3.trans h.output,by rw [size_setCells];exact h.size,fun k hk hn=>by
   rw [heap_setCells_other (k:=k) (b:=b) (fun e=>by subst e;exact hn hb)];exact h.block k hk hn⟩
inductive Owned (w:World):Value→List Tr→List Nat→Prop
 | nil (p:Option Addr) (cap:Nat):Owned w (.slice p 0 cap) [] []
 | row (g o cap:Nat) (ts:List Tr) (S:Nat→Value) (L:Nat→List Nat) (hlen:ts.length * 96 ≤ 140737488351232) (hf:∃ cs ty,w.heap[g]? = some (.cells cs ty (0,0)))
     (hc:∀ i t,ts[i]? = some t→TenAt w g (o+i * 10) t (S i)) (hs:∀ i t,ts[i]? = some t→Owned w (S i) t.subs (L i))
     (hg:∀ i,i < ts.length→g ∉ L i) (hd:∀ i j b,i < ts.length→j < ts.length→i ≠ j→b ∈ L i→b ∉ L j) :
     Owned w (.slice (some ⟨g,o,none⟩) ts.length cap) ts (g :: (List.range ts.length).flatMap L)
theorem mem_range_flatMap {L:Nat→List Nat} {n b:Nat} : b ∈ (List.range n).flatMap L ↔ ∃ i,i < n∧b ∈ L i:=by
 simp [List.mem_flatMap,List.mem_range]
theorem lt_of_some {ts:List Tr} {i:Nat} {t:Tr} (h:ts[i]? = some t):i < ts.length:=by
 by_cases hi:i < ts.length
 · exact hi
 · rw [List.getElem?_eq_none (by omega)] at h;cases h
theorem Owned.trees {w:World} {s:Value} {ts:List Tr} {F:List Nat} (h:Owned w s ts F):TreesAt w (fun b=>b ∈ F) s ts:=by
 induction h with
 | nil p cap=>exact TreesAt.nil
 | row g o cap ts S L hlen hf hc hs hg hd ih =>
   refine .mk _ cap ts S hlen (fun i t hi=>⟨g,o,rfl,List.mem_cons_self,hc i t hi⟩) (fun i t hi=>?_)
   exact (ih i t hi).mono fun b _ hb=>List.mem_cons_of_mem _ (mem_range_flatMap.2 ⟨i,lt_of_some hi,hb⟩)
theorem Owned.lt {w:World} {s:Value} {ts:List Tr} {F:List Nat} (h:Owned w s ts F):∀ b,b ∈ F→b < w.heap.size:=by
 induction h with
 | nil p cap=>intro b hb;cases hb
 | row g o cap ts S L hlen hf hc hs hg hd ih =>
   intro b hb
   rcases List.mem_cons.1 hb with rfl | hb
   · obtain ⟨cs,ty,h⟩:=hf;exact (Array.getElem?_eq_some_iff.1 h).1
   · obtain ⟨i,hi,hb⟩:=mem_range_flatMap.1 hb
     exact ih i ts[i] (List.getElem?_eq_getElem hi) b hb
theorem Owned.keep {w w':World} {s:Value} {ts:List Tr} {F:List Nat} (h:Owned w s ts F) (hk:∀ b,b ∈ F→w'.heap[b]? = w.heap[b]?):Owned w' s ts F:=by
 induction h with
 | nil p cap=>exact .nil p cap
 | row g o cap ts S L hlen hf hc hs hg hd ih =>
   refine .row g o cap ts S L hlen ?_ (fun i t hi=>(hc i t hi).keep (hk g List.mem_cons_self)) (fun i t hi=>ih i t hi fun b hb=>hk b (List.mem_cons_of_mem _ (mem_range_flatMap.2 ⟨i,lt_of_some hi,hb⟩))) hg hd
   obtain ⟨cs,ty,h⟩:=hf
   exact ⟨cs,ty,(hk g List.mem_cons_self).trans h⟩
theorem Owned.later {w w':World} {s:Value} {ts:List Tr} {F:List Nat} (h:Owned w s ts F) (hb:Below w.heap.size w w'):Owned w' s ts F:=h.keep fun b hbF=>hb.block b (h.lt b hbF)
end Go.Proofs.Ytedjkbmfpjmlpaa
namespace Go.Proofs.Ytedjkbmfpjmlpaa
open Go.RowKit
theorem field5' {w:World} {b:Nat} {t:Tr} {s:Value} {ty:TypeId} (h:w.heap[b]? = some (.cells (t.cells s) ty)):w.cell? ⟨b,5,none⟩=some s:=by
 simp [World.cell?,h,Tr.cells]
def SpoilEnd (F:List Nat) (w:World) (e:Ending) (w':World):Prop:=e=.returned (.tuple #[])∧Touch F w w'
theorem frozen_of {w:World} {g o:Nat} (h:∃ cs ty,w.heap[g]? = some (.cells cs ty (0,0))):w.frozen? ⟨g,o,none⟩=false:=by
 obtain ⟨cs,ty,h⟩:=h;simp [World.frozen?,h]
theorem TenAt.there {w:World} {g o:Nat} {t:Tr} {s:Value} (h:TenAt w g o t s) (hf:∃ cs ty,w.heap[g]? = some (.cells cs ty (0,0))):w.there g o 10:=by
 intro j hj
 refine ⟨?_,frozen_of hf⟩
 have:j=0 ∨ j=1 ∨ j=2 ∨ j=3 ∨ j=4 ∨ j=5 ∨ j=6 ∨ j=7 ∨ j=8 ∨ j=9:=by omega
 rcases this with rfl | rfl | rfl | rfl | rfl | rfl | rfl | rfl | rfl | rfl
 · simpa using congrArg Option.isSome h.c0
 · simpa using congrArg Option.isSome h.c1
 · simpa using congrArg Option.isSome h.c2
 · simpa using congrArg Option.isSome h.c3
 · simpa using congrArg Option.isSome h.c4
 · simpa using congrArg Option.isSome h.c5
 · simpa using congrArg Option.isSome h.c6
 · simpa using congrArg Option.isSome h.c7
 · simpa using congrArg Option.isSome h.c8
 · simpa using congrArg Option.isSome h.c9
theorem TenAt.setCells {w:World} {g o o':Nat} {t:Tr} {s:Value} {vs:List Value} (h:TenAt w g o t s) (hv:vs.length=10) (ho:o'+10 ≤ o ∨ o+10 ≤ o'):TenAt (w.setCells g o' vs) g o t s:=by
 have e:∀ k,o ≤ k→k < o+10→(w.setCells g o' vs).cell? ⟨g,k,none⟩=w.cell? ⟨g,k,none⟩:=fun k h1 h2=>World.cell?_setCells_out g vs o' w _ (fun _ _=>by simp;omega)
 exact ⟨(e _ (by omega) (by omega)).trans h.c0,(e _ (by omega) (by omega)).trans h.c1,(e _ (by omega) (by omega)).trans h.c2,(e _ (by omega) (by omega)).trans h.c3,(e _ (by omega) (by omega)).trans h.c4,(e _ (by omega) (by omega)).trans h.c5,(e _ (by omega) (by omega)).trans h.c6,(e _ (by omega) (by omega)).trans h.c7,(e _ (by omega) (by omega)).trans h.c8,(e _ (by omega) (by omega)).trans h.c9⟩
theorem spoil_nil (t:Tr) (w:World) (p:Option Addr) (cap:Nat):Calls Try.prog 10 #[.agg (t.cells (.slice p 0 cap))] w (SpoilEnd [] w):=by
 unfold Tr.cells
 go_enter Try.func10,Try.ntmps10
 go_wp2
 go_loopw [6] (fun iv wr=>iv=.int .i64 0∧Hid (Below w.heap.size w wr)) (fun _ _=>0)
 case atStart=>exact ⟨rfl,Lib.hid (by go_grown)⟩
 case round =>
   obtain ⟨rfl,HB⟩:=hrel
   go_wp2
   go_end0
   exact ⟨rfl,Touch.of_below _ HB.out⟩
theorem spoil_any:∀ t:Tr,∀ (w:World) (s:Value) (F:List Nat),Owned w s t.subs F→Calls Try.prog 10 #[.agg (t.cells s)] w (SpoilEnd F w):=by
 intro t
 induction t using Tr.rec_subs with
 | h t ih =>
   intro w s F hO
   have IH:=Lib.hid ih
   clear ih
   have hlt:=hO.lt
   generalize hts:t.subs=ts at hO
   cases hO with
   | nil p cap=>exact spoil_nil t w p cap
   | row g o cap _ S L hlen hf hc hs hgL hd =>
     have HC:=Lib.hid hc;have HO:=Lib.hid hs;have HF:=Lib.hid hf;have HG:=Lib.hid hgL;have HDJ:=Lib.hid hd;have HTS:=Lib.hid hts;have HLT:=Lib.hid hlt
     have hgw:g < w.heap.size:=by obtain ⟨cs,ty,h⟩:=hf;exact (Array.getElem?_eq_some_iff.1 h).1
     have hbytes:ts.length ≤ 1152921504606846976:=by omega
     clear hc hs hf hgL hd hts hlt
     unfold Tr.cells
     go_enter Try.func10,Try.ntmps10
     go_wp2
     go_loopw [6] (fun iv wr=>∃ m:Nat,iv=.int .i64 m∧m ≤ ts.length∧Hid (Touch (g :: (List.range ts.length).flatMap L) w wr)∧w.heap.size < wr.heap.size∧Hid (wr.heap[w.heap.size]? = some (.cells (t.cells (.slice (some ⟨g,o,none⟩) ts.length cap)) 27)) ∧
       Hid (∀ j u,m ≤ j→ts[j]? = some u→TenAt wr g (o+j * 10) u (S j)∧Owned wr (S j) u.subs (L j))∧Hid (∃ cs ty,wr.heap[g]? = some (.cells cs ty (0,0)))) (fun iv _=>ts.length - (intOf iv).toNat)
     case atStart =>
       have hb:Below w.heap.size w (w.alloc (.cells #[.int .i64 t.kind,.int .u64 (Oc.U t.w0),.int .u64 (Oc.U t.w1),.int .u64 (Oc.U t.w2),.int .u64 (Oc.U t.w3),.slice (some ⟨g,o,none⟩) ts.length cap,.int .i64 t.num,.int .i64 t.least,.int .i64 t.most,.bool t.bare] 27)):=(Below.refl _ _).alloc (Nat.le_refl _) _
       exact ⟨0,rfl,Nat.zero_le _,Lib.hid (Touch.of_below _ hb),by simp,Lib.hid (heap_alloc_new _ _),Lib.hid (fun j u _ hj=>⟨(HC.out j u hj).keep (hb.block g hgw),(HO.out j u hj).later hb⟩),Lib.hid (by obtain ⟨cs,ty,h⟩:=HF.out;exact ⟨cs,ty,(hb.block g hgw).trans h⟩)⟩
     case round =>
       obtain ⟨m,rfl,hm,HT,hsz,Z0,hrest,hfr⟩:=hrel
       have wm:IntKind.i64.wrap ((m:Int)+1)=(m:Int)+1:=IntWalk.i64_in _ (by omega)
       by_cases hlt:m < ts.length
       · obtain ⟨x,hx⟩:∃ x,ts[m]? = some x:=⟨_,List.getElem?_eq_getElem hlt⟩
         obtain ⟨t10,own1⟩:=hrest.out m x (Nat.le_refl _) hx
         obtain ⟨d0,d1,d2,d3,d4,d5,d6,d7,d8,d9⟩:=t10
         have hmem:x ∈ t.subs:=by rw [HTS.out];exact List.mem_of_getElem? hx
         have HCALL:=Lib.hid (IH.out x hmem wr (S m) (L m) own1)
         have f5:=field5' Z0.out
         have OWN:=Lib.hid own1
         have HX:=Lib.hid hx
         clear own1 hmem hx
         go_wp2_with fail
         unfold Tr.cells at HCALL
         refine HCALL.out.mono ?_
         rintro e w2 ⟨rfl,ht2⟩
         have hgm:=HG.out m hlt
         have hgr:g < wr.heap.size:=Nat.lt_of_lt_of_le hgw HT.out.size
         have hg2:w2.heap[g]? = wr.heap[g]?:=ht2.block g hgr hgm
         have hwm:w.heap.size ∉ L m:=fun h=>by
           have:=HLT.out w.heap.size (List.mem_cons_of_mem _ (mem_range_flatMap.2 ⟨m,hlt,h⟩));omega
         have Z2:Hid (w2.heap[w.heap.size]? = some (.cells (t.cells (.slice (some ⟨g,o,none⟩) ts.length cap)) 27)):=Lib.hid ((ht2.block _ hsz hwm).trans Z0.out)
         have hf2:∃ cs ty,w2.heap[g]? = some (.cells cs ty (0,0)):=by rw [hg2];exact hfr.out
         have HTH:=Lib.hid (((hrest.out m x (Nat.le_refl _) HX.out).1.keep hg2).there hf2)
         have HT2:=Lib.hid (HT.out.trans (ht2.mono fun b hb=>List.mem_cons_of_mem _ (mem_range_flatMap.2 ⟨m,hlt,hb⟩)))
         have HF2:=Lib.hid hf2;have HG2:=Lib.hid hg2;have HTT:=Lib.hid ht2
         have f6:=field5' Z2.out
         have hsz2:w.heap.size < w2.heap.size:=Nat.lt_of_lt_of_le hsz ht2.size
         have hne:w.heap.size ≠ g:=by omega
         clear d0 d1 d2 d3 d4 d5 d6 d7 d8 d9 f5 hg2 hf2 ht2
         go_wp2_with (first
           | (refine wpList_store_mid rfl 27 (.tmp 20) (.tmp 19) rfl g (o+m * 10) #[.int .i64 77,.int .u64 0,.int .u64 0,.int .u64 0,.int .u64 0,.slice none 0 0,.int .i64 m,.int .i64 0,.int .i64 0,.bool false] rfl rfl HTH.out (by kernel_rfl) (by simp [Value.oneCell']) ?_;generalize hw3:World.setCells w2 _ _ _=w3;have HW3:=Lib.hid hw3;clear hw3)
           | fail)
         rw [← HW3.out]
         refine ⟨⟨m+1,by go_num,by omega,Lib.hid (HT2.out.setCells List.mem_cons_self _ _),by rw [size_setCells];exact hsz2,Lib.hid ((heap_setCells_other hne _ _ _).trans Z2.out),Lib.hid ?_,Lib.hid (cells_setCells _ _ _ HF2.out)⟩,by simp [intOf];omega⟩
         intro j u hj hu
         have hjl:=lt_of_some hu
         obtain ⟨q1,q2⟩:=hrest.out j u (by omega) hu
         refine ⟨(q1.keep HG2.out).setCells rfl (by omega), ?_⟩
         have q3:Owned w2 (S j) u.subs (L j):=q2.keep fun b hb=>HTT.out.block b (q2.lt b hb) (HDJ.out j m b hjl hlt (by omega) hb)
         exact q3.keep fun b hb=>heap_setCells_other (fun e=>by subst e;exact HG.out j hjl hb) _ _ _
       · obtain rfl:m=ts.length:=by omega
         go_wp2
         go_end0
         exact ⟨rfl,HT.out⟩
end Go.Proofs.Ytedjkbmfpjmlpaa
namespace Go.Proofs.Ytedjkbmfpjmlpaa
open Go.RowKit
def rowOf (ps:List (Tr × Value)):List Value:=ps.flatMap fun x=>(x.1.cells x.2).toList
theorem rowOf_snoc (ps:List (Tr × Value)) (t:Tr) (s:Value):rowOf (ps ++ [(t,s)])=rowOf ps ++ (t.cells s).toList:=by
 unfold rowOf;simp
theorem rowOf_length (ps:List (Tr × Value)):(rowOf ps).length=ps.length * 10:=by
 unfold rowOf
 induction ps with
 | nil=>rfl
 | cons x ps ih=>rw [List.flatMap_cons,List.length_append,ih];simp [Tr.cells];omega
theorem rowOf_get:∀ (ps:List (Tr × Value)) (i:Nat) (t:Tr) (s:Value),ps[i]? = some (t,s)→∀ j,j < 10→(rowOf ps)[i * 10+j]? = (t.cells s)[j]?
 | [],i,t,s,h,_,_=>by simp at h
 | x :: ps,0,t,s,h,j,hj=>by
   simp only [List.getElem?_cons_zero,Option.some.injEq] at h
   subst h
   unfold rowOf
   rw [List.flatMap_cons,Nat.zero_mul,Nat.zero_add,List.getElem?_append_left (by simp [Tr.cells];omega)]
   simp
 | x :: ps,i+1,t,s,h,j,hj=>by
   have ih:=rowOf_get ps i t s (by simpa using h) j hj
   unfold rowOf at ih ⊢
   rw [List.flatMap_cons,List.getElem?_append_right (by simp [Tr.cells];omega)]
   rw [← ih]
   congr 1
   simp [Tr.cells];omega
theorem trees_of_row {w:World} {base:Nat} {B B':Nat→Prop} {v:Value} {n:Nat} {ps:List (Tr × Value)} (h:w.ownsRow base 27 10 v n (rowOf ps)) (hn:ps.length * 96 ≤ 140737488351232)
   (hs:∀ (i:Nat) (t:Tr) (s:Value),ps[i]? = some (t,s)→TreesAt w B s t.subs) (hB:∀ b,B b→B' b) (hg:∀ g,v.ownBlock=some g→B' g):TreesAt w B' v (ps.map (·.1)):=by
 have hlen:ps.length=n:=by have:=h.1;rw [rowOf_length] at this;omega
 have hcells:=fun g hv=>World.ownsRow.cells h (g:=g) hv
 rcases h.2 with ⟨rfl,hn0⟩ | ⟨g,cap,cur,rfl,hbg,hheap,-⟩
 · have:ps=[]:=List.length_eq_zero_iff.1 (by omega)
   subst this
   exact TreesAt.nil
 · have hc:=hcells g rfl
   have key:∀ (i:Nat) (t:Tr) (s:Value),ps[i]? = some (t,s)→TenAt w g (0+i * 10) t s:=by
     intro i t s hi
     have get:∀ j u,j < 10→(t.cells s)[j]? = some u→w.cell? ⟨g,0+i * 10+j,none⟩=some u:=by
       intro j u hj hu
       have:=hc (i * 10+j) u (by rw [rowOf_get ps i t s hi j hj];exact hu)
       have ea:(⟨g,0,none⟩:Addr).add (i * 10+j)=⟨g,0+i * 10+j,none⟩:=by unfold Addr.add;split <;> simp_all <;> omega
       rw [ea] at this;exact this
     exact ⟨get 0 _ (by omega) rfl,get 1 _ (by omega) rfl,get 2 _ (by omega) rfl,get 3 _ (by omega) rfl,get 4 _ (by omega) rfl,get 5 _ (by omega) rfl,get 6 _ (by omega) rfl,get 7 _ (by omega) rfl,get 8 _ (by omega) rfl,get 9 _ (by omega) rfl⟩
   have hl2:n=(ps.map (·.1)).length:=by rw [List.length_map];omega
   rw [hl2]
   have split:∀ (i:Nat) (t:Tr),(ps.map (·.1))[i]? = some t→∃ s,ps[i]? = some (t,s):=by
     intro i t hi
     rw [List.getElem?_map] at hi
     cases hx:ps[i]? with
     | none=>rw [hx] at hi;cases hi
     | some x=>rw [hx] at hi;cases x with | mk a b=>simp only [Option.map_some,Option.some.injEq] at hi;subst hi;exact ⟨b,rfl⟩
   refine .mk (some ⟨g,0,none⟩) cap (ps.map (·.1)) (fun i=>((ps[i]?).map (·.2)).getD undef) (by rw [List.length_map];exact hn) (fun i t hi=>?_) (fun i t hi=>?_)
   · obtain ⟨s,hs'⟩:=split i t hi
     exact ⟨g,0,rfl,hg g rfl,by simp only [hs',Option.map_some,Option.getD_some];exact key i t s hs'⟩
   · obtain ⟨s,hs'⟩:=split i t hi
     simp only [hs',Option.map_some,Option.getD_some]
     exact (hs i t s hs').mono fun b _ hb=>hB b hb
end Go.Proofs.Ytedjkbmfpjmlpaa
namespace Go.Proofs.Ytedjkbmfpjmlpaa
open Go.RowKit
theorem append_block {P:Program} {w w':World} (base:Nat) (t ty e:TypeId) (i:TypeInfo) (z:Value) (size bytes:Nat) (ht:P.underlying t=some (.slice e)) (hi:P.info? e=some i) (hz:i.zero=some z)
   (hsize:i.size=size) (hby:i.bytes=bytes) (v v':Value) (n:Nat) (xs:List Value) (hown:w.ownsRow base e size v n xs)
   (a:Addr) (m c:Nat) (news:List Value) (hl:news.length=m * size) (hnews:∀ j u,news[j]? = some u→w.cell? (a.add j)=some u) (h1:∀ u ∈ news,u.oneCell'=true) (hm:0 < m)
   (h63:n+m ≤ maxLen) (hbytes:(n+m) * bytes ≤ 140737488355328) (hr:(Builtin.append_ #[t,t] ty #[v,.slice (some a) m c]).run P w=.ok v' w') :
   v'.ownBlock=v.ownBlock ∨ v'.ownBlock=some w.heap.size:=by
 subst hsize hby
 unfold maxLen at h63
 have hxl:=hown.1
 have hcells:=fun g hg=>World.ownsRow.cells hown (g:=g) hg
 rcases hown.2 with ⟨rfl,rfl⟩ | ⟨g,cap,cur,rfl,-,hg,hnc,hcm,hcs,-⟩
 · rw [run_append_nil (P:=P) w t ty e i z ht hi hz a m c news hl hnews hm (by omega) (by rw [Nat.zero_add] at hbytes;omega)] at hr
   injection hr with h2 h3
   right;rw [← h2];rfl
 · by_cases hroom:n+m ≤ cap
   · rw [run_append_room (P:=P) w t ty e i ht hi g n cap cur hg a m c news hl hnews h1 hroom (by rw [hl,hcs,← Nat.add_mul];exact Nat.mul_le_mul_right _ hroom)] at hr
     injection hr with h2 h3
     left;rw [← h2];rfl
   · rw [run_append_grow (P:=P) w t ty e i z ht hi hz ⟨g,0,none⟩ n cap xs hxl (hcells g rfl) a m c news hl hnews (by omega) (by omega) (growslice_fits (by omega) hbytes)] at hr
     injection hr with h2 h3
     right;rw [← h2];rfl
theorem wpList_append_fresh {P:Program} (w:World) {ops:Array Oper} {rest:List Oper} {o:Oper} {a:Act} {Q:Exit→Act→World→Prop} (hgd:o.guard=none) (s x:Operand) (t:TypeId)
   (ho:o.op=.call { callee:=.builtin .append,args:=#[s,x],argTypes:=#[t,t] })
   (base:Nat) (e:TypeId) (i:TypeInfo) (z:Value) (size bytes:Nat) (ht:P.underlying t=some (.slice e)) (hi:P.info? e=some i) (hz:i.zero=some z)
   (hsize:i.size=size) (hby:i.bytes=bytes) (hzs:z.cells.size=size) (hsz:0 < size)
   (v:Value) (n:Nat) (xs:List Value) (hs:a.eval s=v) (hown:w.ownsRow base e size v n xs)
   (ad:Addr) (m c:Nat) (news:List Value) (hx:a.eval x=.slice (some ad) m c) (hl:news.length=m * size) (hnews:∀ j u,news[j]? = some u→w.cell? (ad.add j)=some u) (h1:∀ u ∈ news,u.oneCell'=true) (hm:0 < m)
   (h63:n+m ≤ maxLen) (hbytes:(n+m) * bytes ≤ 140737488355328) (hbase:base ≤ w.heap.size)
   (h:∀ v' w',w'.ownsRow base e size v' (n+m) (xs ++ news)→w.grownBy w' v.ownBlock→(v'.ownBlock=v.ownBlock ∨ v'.ownBlock=some w.heap.size)→wpList P ops Q rest (a.put o.dst v') w'):wpList P ops Q (o :: rest) a w:=by
 refine wpList_plain hgd fun K hK=>?_
 obtain ⟨v',w',hr,h2,h3,-⟩:=run_append_own (P:=P) w base t o.type e i z size bytes ht hi hz hsize hby hzs hsz v n xs hown ad m c news hl hnews h1 h63 hbytes hbase
 have h4:=append_block base t o.type e i z size bytes ht hi hz hsize hby v v' n xs hown ad m c news hl hnews h1 hm h63 hbytes hr
 unfold Oper.wp execOp
 simp only [ho,resolve,invoke,builtin,Sem.run_bind,Sem.run_pure,Result.andThen_ok,List.map_toArray,List.map_cons,List.map_nil,hs,hx,hr]
 exact hK _ _ (h v' w' h2 h3 h4)
end Go.Proofs.Ytedjkbmfpjmlpaa
namespace Go.Proofs.Ytedjkbmfpjmlpaa
open Go.RowKit
theorem Try.infoNode:(Try.prog.info? 27).map (fun i=>(i.zero,i.size,i.bytes))=some (some (.agg #[.int .i64 0,.int .u64 0,.int .u64 0,.int .u64 0,.int .u64 0,.slice none 0 0,.int .i64 0,.int .i64 0,.int .i64 0,.bool false]),10,96):=by kernel_rfl
def NewEnd (t:Tr) (w:World) (e:Ending) (w':World):Prop:=∃ v,e=.returned v∧NodeV w' (fun b=>w.heap.size ≤ b) v t∧Below w.heap.size w w'
theorem NewEnd.of {t:Tr} {w:World} {e:Ending} {w':World} (h:NewEnd t w e w'):∃ s,e=.returned (.agg (t.cells s))∧TreesAt w' (fun b=>w.heap.size ≤ b) s t.subs∧Below w.heap.size w w':=by
 obtain ⟨v,rfl,⟨s,rfl,hs⟩,hb⟩:=h;exact ⟨s,rfl,hs,hb⟩
theorem nodeC_one (x:Tr) (p:Option Addr) (l c:Nat):∀ u ∈ (x.cells (.slice p l c)).toList,u.oneCell'=true:=by simp [Tr.cells,Value.oneCell']
theorem wpList_node1 {ops:Array Oper} {rest:List Oper} {o:Oper} {a:Act} {w:World} {Q:Exit→Act→World→Prop} (hgd:o.guard=none) (x:Operand) (t:Tr) (p:Option Addr) (len cap:Nat) (ho:o.op=.buildSlice 25 1 #[(0,x)]) (hx:a.eval x=.agg (t.cells (.slice p len cap)))
   (h:wpList Try.prog ops Q rest (a.put o.dst (.slice (some ⟨w.heap.size,0,none⟩) 1 1)) (w.alloc (.cells (t.cells (.slice p len cap)) 27))):wpList Try.prog ops Q (o :: rest) a w:=by
 refine wpList_plain hgd fun K hK=>?_
 obtain ⟨ie,hi,hz0,hz1,-⟩:=info_parts Try.infoNode
 refine wp_buildSlice 25 27 1 _ ho _ ie _ Try.underlying25 hi hz0 (by rw [hz1];decide) (by rw [hz1];decide) ?_ (hK _ _ h)
 rw [hz1]
 simp only [List.map_toArray,List.map_cons,List.map_nil,hx]
 kernel_rfl
theorem subs_step {w3 w4:World} {base:Nat} {v v':Value} {s:Value} {ts:List Tr} (h:TreesAt w3 (fun b=>base ≤ b∧v.ownBlock ≠ some b) s ts) (hg:w3.grownBy w4 v.ownBlock) (hw:v'.ownBlock=v.ownBlock ∨ v'.ownBlock=some w3.heap.size) :
   TreesAt w4 (fun b=>base ≤ b∧v'.ownBlock ≠ some b) s ts:=by
 have h1:TreesAt w3 (fun b=>(base ≤ b∧v.ownBlock ≠ some b)∧v'.ownBlock ≠ some b) s ts:=h.mono fun b hb hB=>⟨hB,by
   rcases hw with e | e
   · rw [e];exact hB.2
   · rw [e];intro h;have:=Option.some.inj h;omega⟩
 exact (h1.keep (w':=w4) fun b hb hB=>hg.block b hb (fun e=>hB.1.2 e.symm)).mono fun b _ hB=>⟨hB.1.1,hB.2⟩
theorem set5 {w:World} {b:Nat} {x0 x1 x2 x3 x4 x5 x6 x7 x8 x9 y:Value} {t:TypeId} (h:w.heap[b]? = some (.cells #[x0,x1,x2,x3,x4,x5,x6,x7,x8,x9] t)):(w.setCell ⟨b,5,none⟩ y).heap[b]? = some (.cells #[x0,x1,x2,x3,x4,y,x6,x7,x8,x9] t):=by
 simp [World.setCell,Array.getElem?_modify,h]
theorem at5 {w:World} {b:Nat} {x0 x1 x2 x3 x4 x5 x6 x7 x8 x9:Value} {t:TypeId} (h:w.heap[b]? = some (.cells #[x0,x1,x2,x3,x4,x5,x6,x7,x8,x9] t)):w.cell? ⟨b,5,none⟩=some x5∧w.frozen? ⟨b,5,none⟩=false:=by
 simp [World.cell?,World.frozen?,h]
end Go.Proofs.Ytedjkbmfpjmlpaa
namespace Go.Proofs.Ytedjkbmfpjmlpaa
open Go.RowKit
def OwnEnd (t:Tr) (w:World) (e:Ending) (w':World):Prop:=∃ s F,e=.returned (.agg (t.cells s))∧Owned w' s t.subs F∧(∀ b,b ∈ F→w.heap.size ≤ b)∧Below w.heap.size w w'
def OwnsEnd (ts:List Tr) (w:World) (e:Ending) (w':World):Prop:=∃ v F,e=.returned v∧Owned w' v ts F∧(∀ b,b ∈ F→w.heap.size ≤ b)∧Below w.heap.size w w'
theorem Owned.slice {w:World} {s:Value} {ts:List Tr} {F:List Nat} (h:Owned w s ts F):∃ p cap,s=.slice p ts.length cap∧ts.length * 96 ≤ 140737488351232:=h.trees.slice
theorem nodeC_all (x:Tr) (p:Option Addr) (l c:Nat):(x.cells (.slice p l c)).all (·.oneCell')=true:=by simp [Tr.cells,Value.oneCell']
def pick {α:Type} (f:Nat→α) (m:Nat) (x:α) (i:Nat):α:=if i=m then x else f i
theorem pick_eq {α:Type} (f:Nat→α) (m:Nat) (x:α):pick f m x m=x:=if_pos rfl
theorem pick_ne {α:Type} (f:Nat→α) (m:Nat) (x:α) {i:Nat} (h:i ≠ m):pick f m x i=f i:=if_neg h
def CopiedTo (w:World) (g:Nat) (ts:List Tr) (m:Nat):Prop :=
 ∃ (S:Nat→Value) (L:Nat→List Nat),(∀ i t,i < m→ts[i]? = some t→TenAt w g (i * 10) t (S i)∧Owned w (S i) t.subs (L i))∧(∀ i,i < m→∀ b,b ∈ L i→g < b) ∧
   (∀ i j b,i < m→j < m→i ≠ j→b ∈ L i→b ∉ L j)∧(∀ i,i < m→∀ b,b ∈ L i→b < w.heap.size)
theorem CopiedTo.zero (w:World) (g:Nat) (ts:List Tr):CopiedTo w g ts 0:=⟨fun _=>undef,fun _=>[],fun i t h=>by omega,fun i h=>by omega,fun i j b h=>by omega,fun i h=>by omega⟩
theorem TenAt.of_range {w:World} {g o:Nat} {t:Tr} {s:Value} (h:w.rangeAt g o (t.cells s).toList):TenAt w g o t s:=by
 have get:=fun j u (hu:(t.cells s).toList[j]? = some u)=>h j u hu
 exact ⟨get 0 _ rfl,get 1 _ rfl,get 2 _ rfl,get 3 _ rfl,get 4 _ rfl,get 5 _ rfl,get 6 _ rfl,get 7 _ rfl,get 8 _ rfl,get 9 _ rfl⟩
theorem there_row {w:World} {g o n:Nat} {cs:Array Value} {ty:TypeId} (h:w.heap[g]? = some (.cells cs ty (0,0))) (hn:o+n ≤ cs.size):w.there g o n:=by
 intro j hj
 refine ⟨?_,frozen_of ⟨cs,ty,h⟩⟩
 have hlt:o+j < cs.size:=by omega
 simp [World.cell?,h,hlt]
theorem CopiedTo.step {wr w2:World} {g m:Nat} {ts:List Tr} {x:Tr} {s:Value} {F:List Nat} (h:CopiedTo wr g ts m) (hx:ts[m]? = some x) (hb:Below wr.heap.size wr w2) (hg:g < wr.heap.size)
   (ho:Owned w2 s x.subs F) (hF:∀ b,b ∈ F→wr.heap.size ≤ b) (ht:w2.there g (m * 10) 10):CopiedTo (w2.setCells g (m * 10) (x.cells s).toList) g ts (m+1):=by
 obtain ⟨S,L,h1,h2,h3,h4⟩:=h
 have hg2:w2.heap[g]? = wr.heap[g]?:=hb.block g hg
 have hsz:=hb.size
 have hoth:∀ b,b ≠ g→(w2.setCells g (m * 10) (x.cells s).toList).heap[b]? = w2.heap[b]?:=fun b hbg=>heap_setCells_other hbg _ _ _
 refine ⟨pick S m s,pick L m F,fun i t hi hti=>?_,fun i hi b hbL=>?_,fun i j b hi hj hij h5 h6=>?_,fun i hi b hbL=>?_⟩
 · by_cases e:i=m
   · subst e
     rw [pick_eq,pick_eq]
     rw [hx] at hti
     obtain rfl:=Option.some.inj hti
     refine ⟨TenAt.of_range (World.rangeAt_setCells_same _ _ _ _ (by simpa [Tr.cells] using ht)),ho.keep fun b hb'=>hoth b (fun e=>by subst e;have:=hF _ hb';omega)⟩
   · rw [pick_ne _ _ _ e,pick_ne _ _ _ e]
     obtain ⟨q1,q2⟩:=h1 i t (by omega) hti
     refine ⟨(q1.keep hg2).setCells rfl (by omega),(q2.later hb).keep fun b hb'=>hoth b (fun e=>by subst e;exact absurd (h2 i (by omega) _ hb') (by omega))⟩
 · by_cases e:i=m
   · subst e;rw [pick_eq] at hbL;have:=hF b hbL;omega
   · rw [pick_ne _ _ _ e] at hbL;exact h2 i (by omega) b hbL
 · by_cases e:i=m
   · subst e
     rw [pick_eq] at h5;rw [pick_ne _ _ _ (Ne.symm hij)] at h6
     have:=hF b h5;have:=h4 j (by omega) b h6;omega
   · rw [pick_ne _ _ _ e] at h5
     by_cases e2:j=m
     · subst e2;rw [pick_eq] at h6
       have:=hF b h6;have:=h4 i (by omega) b h5;omega
     · rw [pick_ne _ _ _ e2] at h6;exact h3 i j b (by omega) (by omega) hij h5 h6
 · rw [size_setCells]
   by_cases e:i=m
   · subst e;rw [pick_eq] at hbL;exact ho.lt b hbL
   · rw [pick_ne _ _ _ e] at hbL;have:=h4 i (by omega) b hbL;omega
theorem CopiedTo.owned {w:World} {g:Nat} {ts:List Tr} (h:CopiedTo w g ts ts.length) (hlen:ts.length * 96 ≤ 140737488351232) (hf:∃ cs ty,w.heap[g]? = some (.cells cs ty (0,0))) (cap:Nat) :
   ∃ F,Owned w (.slice (some ⟨g,0,none⟩) ts.length cap) ts F∧∀ b,b ∈ F→g ≤ b:=by
 obtain ⟨S,L,h1,h2,h3,h4⟩:=h
 refine ⟨_,.row g 0 cap ts S L hlen hf (fun i t hi=>by rw [Nat.zero_add];exact (h1 i t (lt_of_some hi) hi).1) (fun i t hi=>(h1 i t (lt_of_some hi) hi).2) (fun i hi hm=>absurd (h2 i hi g hm) (by omega)) h3,fun b hb=>?_⟩
 rcases List.mem_cons.1 hb with rfl | hb
 · omega
 · obtain ⟨i,hi,hb⟩:=mem_range_flatMap.1 hb
   have:=h2 i hi b hb;omega
theorem row_setCells {b n:Nat} {ty:TypeId} : ∀ {vs:List Value} {o:Nat} {w:World} {C:Array Value},w.heap[b]? = some (.cells C ty)→C.size=n→∃ C':Array Value,(w.setCells b o vs).heap[b]? = some (.cells C' ty)∧C'.size=n
 | [],_,_,C,h,hn=>⟨C,h,hn⟩
 | v :: r,o,w,C,h,hn=>by
   rw [World.setCells]
   exact row_setCells (vs:=r) (o:=o+1) (C:=C.setIfInBounds o v) (by simp [World.setCell,Array.getElem?_modify,h]) (by simpa using hn)
theorem setCells_below {B b:Nat} {a w:World} (h:Below B a w) (hb:B ≤ b) (o:Nat) (vs:List Value):Below B a (w.setCells b o vs):=by
 obtain ⟨h1,h2,h3⟩:=streams_setCells b vs o w
 exact h.trans ⟨h1,h2,h3,by rw [size_setCells];omega,fun k hk=>heap_setCells_other (by omega) _ _ _⟩
theorem make_nodes (n:Nat) (hn:n * 96 ≤ 140737488351232):∃ CS:Array Value,CS.size=n * 10∧∀ w:World,(Instr.makeSlice 25 (.int .i64 n) (.int .i64 n)).run Try.prog w=.ok (.slice (some ⟨w.heap.size,0,none⟩) n n) (w.alloc (.cells CS 27)):=by
 obtain ⟨ie,hi,hz0,hz1,hz2⟩:=info_parts Try.infoNode
 refine ⟨madeCells (Value.agg #[.int .i64 0,.int .u64 0,.int .u64 0,.int .u64 0,.int .u64 0,.slice none 0 0,.int .i64 0,.int .i64 0,.int .i64 0,.bool false]).cells (n * 10),size_madeCells _ _,fun w=>?_⟩
 have h:=run_make (P:=Try.prog) w 25 27 ie _ Try.underlying25 hi hz0 .i64 .i64 n n (by omega) (Int.le_refl _) (by rw [hz2];omega) (by omega)
 simp only [Int.toNat_natCast,hz1] at h
 exact h
theorem copies_of (ts:List Tr) (ih:∀ u,u ∈ ts→∀ (w:World) (B:Nat→Prop) (v:Value),NodeV w B v u→Calls Try.prog 14 #[v] w (OwnEnd u w)) (w:World) (B:Nat→Prop) (v:Value) (hs:TreesAt w B v ts) :
   Calls Try.prog 19 #[v] w (OwnsEnd ts w):=by
 obtain ⟨p,cap,rfl,hlen⟩:=hs.slice
 by_cases h0:ts.length=0
 · obtain rfl:=List.length_eq_zero_iff.1 h0
   simp only [List.length_nil] at *
   clear hs
   go_enter Try.func19,Try.ntmps19
   go_wp2
   go_ret
   exact ⟨_,[],rfl,.nil _ _,fun b hb=>(by cases hb),Below.refl _ _⟩
 · have e0:((ts.length:Int) == 0)=false:=by simp;exact fun h=>h0 (by rw [h];rfl)
   obtain ⟨CS,hCS,hmk⟩:=make_nodes ts.length hlen
   have IH:=Lib.hid ih;have HS:=Lib.hid hs;have HCS:=Lib.hid hCS;have H0:=Lib.hid h0
   clear ih hs hCS h0
   go_enter Try.func19,Try.ntmps19
   go_wp2
   go_loopw [14] (fun iv wr=>∃ m:Nat,iv=.int .i64 m∧m ≤ ts.length∧Hid (Below w.heap.size w wr)∧w.heap.size < wr.heap.size∧Hid (∃ C:Array Value,wr.heap[w.heap.size]? = some (.cells C 27)∧C.size=ts.length * 10)∧Hid (CopiedTo wr w.heap.size ts m)) (fun iv _=>ts.length - (intOf iv).toNat)
   case atStart=>exact ⟨0,rfl,Nat.zero_le _,Lib.hid (by go_grown),by simp,Lib.hid ⟨CS,heap_alloc_new _ _,HCS.out⟩,Lib.hid (CopiedTo.zero _ _ _)⟩
   case round =>
     obtain ⟨m,rfl,hm,HB,hsz,HC,HD⟩:=hrel
     have wm:IntKind.i64.wrap ((m:Int)+1)=(m:Int)+1:=IntWalk.i64_in _ (by omega)
     by_cases hlt:m < ts.length
     · obtain ⟨x,hx⟩:∃ x,ts[m]? = some x:=⟨_,List.getElem?_eq_getElem hlt⟩
       obtain ⟨b1,o1,s1,rfl,-,t1,sub1⟩:=HS.out.get hx
       obtain ⟨d0,d1,d2,d3,d4,d5,d6,d7,d8,d9⟩:=t1.keep (HB.out.block _ t1.lt)
       obtain ⟨p1,c1,rfl,hl1⟩:=sub1.slice
       have HCALL:=Lib.hid (fun w9 hb=>IH.out x (List.mem_of_getElem? hx) w9 B (.agg (x.cells (.slice p1 x.subs.length c1))) ⟨_,rfl,sub1.later hb⟩)
       have HX:=Lib.hid hx
       clear t1 sub1 hx
       go_wp2_with fail
       generalize hw1:World.alloc wr _=w1
       have hb1:Below wr.heap.size wr w1:=by rw [← hw1];exact (Below.refl _ _).alloc (Nat.le_refl _) _
       clear hw1
       refine (HCALL.out w1 (HB.out.trans (hb1.mono HB.out.size))).mono ?_
       rintro e w2 ⟨s2,F2,rfl,ho2,hF2,hb2⟩
       obtain ⟨p2,c2,rfl,hl2⟩:=ho2.slice
       have hb12:Below wr.heap.size wr w2:=hb1.trans (hb2.mono hb1.size)
       obtain ⟨C,hC1,hC2⟩:=HC.out
       have hC3:=keep_blk hb12 hC1
       have hth:w2.there w.heap.size (m * 10) 10:=there_row hC3 (by omega)
       have HTH:=Lib.hid hth
       have HST:=Lib.hid (HD.out.step HX.out hb12 hsz ho2 (fun b hb=>Nat.le_trans hb1.size (hF2 b hb)) hth)
       have HB2:=Lib.hid (HB.out.trans (hb12.mono HB.out.size))
       have HC4:Hid (∃ C:Array Value,(w2.setCells w.heap.size (m * 10) (x.cells (.slice p2 x.subs.length c2)).toList).heap[w.heap.size]? = some (.cells C 27)∧C.size=ts.length * 10):=Lib.hid (row_setCells hC3 hC2)
       have hs2:w.heap.size < w2.heap.size:=Nat.lt_of_lt_of_le hsz hb12.size
       clear hb1 hb2 hb12 ho2 hF2 hC1 hC2 hC3 hth d0 d1 d2 d3 d4 d5 d6 d7 d8 d9
       go_wp2_with (first
         | (refine wpList_store_mid rfl 27 (.tmp 23) (.tmp 22) rfl w.heap.size (m * 10) (x.cells (.slice p2 x.subs.length c2)) rfl rfl HTH.out (by kernel_rfl) (nodeC_all _ _ _ _) ?_;generalize hw3:World.setCells w2 _ _ _=w3;have HW3:=Lib.hid hw3;clear hw3)
         | fail)
       rw [← HW3.out]
       refine ⟨⟨m+1,by go_num,by omega,Lib.hid (setCells_below HB2.out (Nat.le_refl _) _ _),by rw [size_setCells];exact hs2,HC4,HST⟩,by simp [intOf];omega⟩
     · obtain rfl:m=ts.length:=by omega
       go_wp2
       go_ret
       obtain ⟨C,hC1,-⟩:=HC.out
       obtain ⟨F,hF,hF2⟩:=HD.out.owned hlen ⟨C,_,hC1⟩ ts.length
       exact ⟨_,F,rfl,hF,hF2,HB.out⟩
theorem copy_any:∀ t:Tr,∀ (w:World) (B:Nat→Prop) (v:Value),NodeV w B v t→Calls Try.prog 14 #[v] w (OwnEnd t w):=by
 intro t
 induction t using Tr.rec_subs with
 | h t ih =>
   intro w B v hv
   obtain ⟨s,rfl,hs⟩:=hv
   obtain ⟨p,cap,rfl,hlen⟩:=hs.slice
   have HC:=Lib.hid (fun w9 (hb:Below w.heap.size w w9)=>copies_of t.subs ih w9 B _ (hs.later hb))
   cases t with | node k a b c d ts n lo hi br =>
   simp only [Tr.cells,Tr.kind,Tr.w0,Tr.w1,Tr.w2,Tr.w3,Tr.num,Tr.least,Tr.most,Tr.bare,Tr.subs] at *
   clear ih hs
   go_enter Try.func14,Try.ntmps14
   go_wp2_with fail
   obtain ⟨z0,z1⟩:=two_new w (.cells #[.int .i64 k,.int .u64 (Oc.U a),.int .u64 (Oc.U b),.int .u64 (Oc.U c),.int .u64 (Oc.U d),.slice p ts.length cap,.int .i64 n,.int .i64 lo,.int .i64 hi,.bool br] 27) (.cells #[.int .i64 0,.int .u64 0,.int .u64 0,.int .u64 0,.int .u64 0,.slice none 0 0,.int .i64 0,.int .i64 0,.int .i64 0,.bool false] 27)
   have hb1:Below w.heap.size w ((w.alloc (.cells #[.int .i64 k,.int .u64 (Oc.U a),.int .u64 (Oc.U b),.int .u64 (Oc.U c),.int .u64 (Oc.U d),.slice p ts.length cap,.int .i64 n,.int .i64 lo,.int .i64 hi,.bool br] 27)).alloc (.cells #[.int .i64 0,.int .u64 0,.int .u64 0,.int .u64 0,.int .u64 0,.slice none 0 0,.int .i64 0,.int .i64 0,.int .i64 0,.bool false] 27)):=by go_grown
   have hs1:((w.alloc (.cells #[.int .i64 k,.int .u64 (Oc.U a),.int .u64 (Oc.U b),.int .u64 (Oc.U c),.int .u64 (Oc.U d),.slice p ts.length cap,.int .i64 n,.int .i64 lo,.int .i64 hi,.bool br] 27)).alloc (.cells #[.int .i64 0,.int .u64 0,.int .u64 0,.int .u64 0,.int .u64 0,.slice none 0 0,.int .i64 0,.int .i64 0,.int .i64 0,.bool false] 27)).heap.size=w.heap.size+2:=by simp
   generalize World.alloc (World.alloc _ _) _=w1 at *
   have Z0:=Lib.hid z0;have Z1:=Lib.hid z1;have HB1:=Lib.hid hb1
   clear z0 z1 hb1
   refine (HC.out w1 HB1.out).mono ?_
   rintro e w2 ⟨s2,F,rfl,ho,hF,hb2⟩
   obtain ⟨p2,c2,rfl,hl2⟩:=ho.slice
   have HO:=Lib.hid ho;have HF:=Lib.hid hF
   have Y0:=Lib.hid (keep_blk hb2 Z0.out);have Y1:=Lib.hid (keep_blk hb2 Z1.out)
   have HB2:=Lib.hid (HB1.out.trans (hb2.mono HB1.out.size))
   obtain ⟨f5,g5⟩:=at5 Y0.out
   have Y0s:=Lib.hid (set5 (y:=.slice p2 ts.length c2) Y0.out)
   have Y1s:Hid ((w2.setCell ⟨w.heap.size,5,none⟩ (.slice p2 ts.length c2)).heap[w.heap.size+1]? = some (.cells #[.int .i64 0,.int .u64 0,.int .u64 0,.int .u64 0,.int .u64 0,.slice none 0 0,.int .i64 0,.int .i64 0,.int .i64 0,.bool false] 27)):=Lib.hid (by rw [Below.heap_setCell _ _ _ _ (by simp)];exact Y1.out)
   clear ho hF hb2
   go_wp2_with (first
     | (refine wpList_load_row rfl 27 (.tmp 1) rfl w.heap.size rfl 27 _ (0,0) _ Y0s.out Try.underlying27 rfl (by kernel_rfl) ?_)
     | (refine wpList_store_row rfl 27 (.tmp 2) (.tmp 7) rfl (w.heap.size+1) #[.int .i64 k,.int .u64 (Oc.U a),.int .u64 (Oc.U b),.int .u64 (Oc.U c),.int .u64 (Oc.U d),.slice p2 ts.length c2,.int .i64 n,.int .i64 lo,.int .i64 hi,.bool br] rfl rfl 27 _ Y1s.out (by kernel_rfl) rfl (by simp [Value.oneCell']) ?_)
     | fail)
   refine bodyPost_ret (results_cell_row rfl _ _ (w.heap.size+1) 27 #[.int .i64 k,.int .u64 (Oc.U a),.int .u64 (Oc.U b),.int .u64 (Oc.U c),.int .u64 (Oc.U d),.slice p2 ts.length c2,.int .i64 n,.int .i64 lo,.int .i64 hi,.bool br] (0,0) _ rfl (heap_setRow Y1s.out) Try.underlying27 rfl (by kernel_rfl)) rfl ⟨_,F,rfl, ?_, ?_, ?_⟩
   · exact HO.out.keep fun b hb=>by
       have:=HF.out b hb
       rw [heap_setRow_other _ _ _ (by omega),Below.heap_setCell _ _ _ _ (by simp;omega)]
   · intro b hb;have:=HF.out b hb;omega
   · exact below_setRow (HB2.out.setCell (Nat.le_refl _) _) (Nat.le_succ _) _
theorem copies_any (ts:List Tr) (w:World) (B:Nat→Prop) (v:Value) (hs:TreesAt w B v ts):Calls Try.prog 19 #[v] w (OwnsEnd ts w) :=
 copies_of ts (fun u _ w B v h=>copy_any u w B v h) w B v hs
end Go.Proofs.Ytedjkbmfpjmlpaa
namespace Go.Proofs.Ytedjkbmfpjmlpaa
open Go.RowKit
namespace Ri
def up {T:Type} (f:Nat→T) (i:Nat) (x:T):Nat→T:=fun j=>if j=i then x else f j
theorem up_same {T:Type} (f:Nat→T) (i:Nat) (x:T):up f i x i=x:=by simp [up]
theorem up_other {T:Type} (f:Nat→T) (i:Nat) (x:T) (j:Nat) (h:j ≠ i):up f i x j=f j:=by simp [up,h]
def backward (ops:Array Oper):Bool:=(List.range ops.size).all fun i=>((ops[i]?).map fun o=>o.after.all fun e=>!Region.binds .any e || decide (e.on < i)).getD true
variable {P:Program} {ops:Array Oper} {Q:Exit→Act→World→Prop}
theorem all_listed (hb:backward ops=true) {listed:Array Bool} (hr:Region.ready .any ops listed=[]) (hs:listed.size=ops.size):∀ i,i < ops.size→listed.getD i false=true:=by
 intro i
 induction i using Nat.strongRecOn with
 | _ i ih =>
   intro hi
   cases hl:listed.getD i false with
   | true=>rfl
   | false =>
     exfalso
     have hmem:i ∈ Region.ready .any ops listed:=by
       unfold Region.ready
       refine List.mem_filter.2 ⟨List.mem_range.2 hi, ?_⟩
       have h1:listed.getD i true=false:=by
         have:i < listed.size:=by omega
         simp only [Array.getD,this,dif_pos] at hl ⊢
         exact hl
       have ho:ops[i]? = some ops[i]:=Array.getElem?_eq_getElem hi
       rw [h1,ho]
       simp only [Bool.not_false,Bool.true_and,Option.map_some,Option.getD_some]
       rw [Array.all_eq_true_iff_forall_mem]
       intro e he
       cases hbi:Region.binds .any e with
       | false=>rfl
       | true =>
         have hlt:e.on < i:=by
           have h2:=List.all_eq_true.1 hb i (List.mem_range.2 hi)
           rw [ho] at h2
           simp only [Option.map_some,Option.getD_some] at h2
           have h3:=(Array.all_eq_true_iff_forall_mem.1 h2) e he
           rw [hbi] at h3
           simpa using h3
         simp [ih e.on hlt (by omega)]
     rw [hr] at hmem
     cases hmem
theorem wpAny_inv (hb:backward ops=true) (I:(Nat→Bool)→(Nat→Value)→World→Prop) (A:(Nat→Bool)→(Nat→Value)→Act)
   (step:∀ i,i < ops.size→∀ L v w,I L v w→L i=false→(∀ o,ops[i]? = some o→∀ e ∈ o.after,Region.binds .any e=true→L e.on=true) →
     wpOp P ops Q i (fun a' w'=>∃ u,a'=A (up L i true) (up v i u)∧I (up L i true) (up v i u) w') (A L v) w)
   (fin:∀ L v w,(∀ i,i < ops.size→L i=true)→I L v w→Q .normal (A L v) w) :
   ∀ (fuel:Nat) (U:List Nat) (listed:Array Bool) (v:Nat→Value) (w:World),listed.size=ops.size→U.length ≤ fuel→(∀ i,i < ops.size→listed.getD i false=false→i ∈ U) →
     I (fun i=>listed.getD i false) v w→wpAny P .any ops Q fuel listed (A (fun i=>listed.getD i false) v) w:=by
 intro fuel
 induction fuel with
 | zero =>
   intro U listed v w hs hU hin hI
   have hnil:U=[]:=List.eq_nil_of_length_eq_zero (by omega)
   subst hnil
   have hall:∀ i,i < ops.size→listed.getD i false=true:=fun i hi=>by
     cases h:listed.getD i false with
     | true=>rfl
     | false=>exact absurd (hin i hi h) (by simp)
   refine ⟨?_,fin _ v w hall hI⟩
   unfold Region.ready
   rw [List.filter_eq_nil_iff]
   intro i hi
   have hi':=List.mem_range.1 hi
   have h1:listed.getD i true=true:=by
     have h0:=hall i hi'
     have:i < listed.size:=by omega
     simp only [Array.getD,this,dif_pos] at h0 ⊢
     exact h0
   simp [h1]
 | succ fuel ih =>
   intro U listed v w hs hU hin hI
   refine ⟨fun hr=>fin _ v w (all_listed hb hr hs) hI,fun i hi=>?_⟩
   unfold Region.ready at hi
   obtain ⟨hir,hcond⟩:=List.mem_filter.1 hi
   have hin':=List.mem_range.1 hir
   have ho:ops[i]? = some ops[i]:=Array.getElem?_eq_getElem hin'
   rw [ho] at hcond
   simp only [Bool.and_eq_true,Option.map_some,Option.getD_some] at hcond
   obtain ⟨hl,hafter⟩:=hcond
   have hlf:listed.getD i false=false:=by
     have:i < listed.size:=by omega
     simp only [Array.getD,this,dif_pos] at hl ⊢
     simpa using hl
   have hst:=step i hin' (fun j=>listed.getD j false) v w hI hlf (fun o hoo e he hbi=>by
     rw [ho] at hoo;cases hoo
     have h3:=(Array.all_eq_true_iff_forall_mem.1 hafter) e he
     rw [hbi] at h3
     simpa using h3)
   refine wpOp_mono (fun a' w' h=>?_) hst
   obtain ⟨u,rfl,hI'⟩:=h
   have hup:(fun j=>(listed.setIfInBounds i true).getD j false)=up (fun j=>listed.getD j false) i true:=by
     funext j
     unfold up
     by_cases e:j=i
     · subst e
       have:j < (listed.setIfInBounds j true).size:=by simp;omega
       simp [Array.getD];omega
     · rw [if_neg e]
       simp only [Array.getD,Array.size_setIfInBounds]
       split
       · rename_i h;exact Array.getElem_setIfInBounds_ne h (Ne.symm e)
       · rfl
   have hmemU:i ∈ U:=hin i hin' hlf
   have:=ih (U.erase i) (listed.setIfInBounds i true) (up v i u) w' (by simpa using hs) (by rw [List.length_erase_of_mem hmemU];have:=List.length_pos_of_mem hmemU;omega)
     (fun j hj hjl=>by
       have hj2:(up (fun j=>listed.getD j false) i true) j=false:=by rw [← hup];exact hjl
       by_cases e:j=i
       · subst e;rw [up_same] at hj2;cases hj2
       · rw [up_other _ _ _ _ e] at hj2
         exact (List.mem_erase_of_ne e).2 (hin j hj hj2))
     (by rw [hup];exact hI')
   rw [hup] at this
   exact this
theorem wp_region_inv {id:Nat} {a:Act} {w:World} (hm:P.follows .mixedOrders=true) (hb:backward ops=true) (I:(Nat→Bool)→(Nat→Value)→World→Prop) (A:(Nat→Bool)→(Nat→Value)→Act)
   (ha:a=A (fun _=>false) (fun _=>undef)) (hi:I (fun _=>false) (fun _=>undef) w.drew)
   (step:∀ i,i < ops.size→∀ L v w,I L v w→L i=false→(∀ o,ops[i]? = some o→∀ e ∈ o.after,Region.binds .any e=true→L e.on=true) →
     wpOp P ops Q i (fun a' w'=>∃ u,a'=A (up L i true) (up v i u)∧I (up L i true) (up v i u) w') (A L v) w)
   (fin:∀ L v w,(∀ i,i < ops.size→L i=true)→I L v w→Q .normal (A L v) w) :
   (Code.region id ops true).wp P Q a w:=by
 refine wp_region_any hm ?_
 have hz:(fun i=>(Array.replicate ops.size false).getD i false)=fun _=>false:=by
   funext i;simp only [Array.getD,Array.size_replicate];split <;> simp
 have:=wpAny_inv (P:=P) hb I A step fin ops.size (List.range ops.size) (Array.replicate ops.size false) (fun _=>undef) w.drew (by simp) (by simp) (fun i hi _=>List.mem_range.2 hi) (by rw [hz];exact hi)
 rw [hz,← ha] at this
 exact this
def frame (ops:Array Oper) (a:Act) (L:Nat→Bool) (v:Nat→Value):Act :=
 { a with tmps:=ops.toList.zipIdx.foldl (fun t p=>match p.1.dst with | some d=>if L p.2 then t.setIfInBounds d (v p.2) else t | none=>t) a.tmps }
def apart (ops:Array Oper):Bool:=(ops.toList.filterMap (·.dst)).eraseDups.length == (ops.toList.filterMap (·.dst)).length && ops.toList.zipIdx.all fun p=>ops.toList.zipIdx.all fun q=>p.2 == q.2 || p.1.dst == none || p.1.dst != q.1.dst
theorem fold_size (L:Nat→Bool) (v:Nat→Value):∀ (l:List (Oper × Nat)) (t:Array Value),
   (l.foldl (fun t p=>match p.1.dst with | some d=>if L p.2 then t.setIfInBounds d (v p.2) else t | none=>t) t).size=t.size:=by
 intro l
 induction l with
 | nil=>intro t;rfl
 | cons p l ih =>
   intro t
   rw [List.foldl_cons,ih]
   split
   · split <;> simp
   · rfl
theorem fold_other (L:Nat→Bool) (v:Nat→Value) (s:Nat):∀ (l:List (Oper × Nat)) (t:Array Value),(∀ p ∈ l,p.1.dst ≠ some s) →
   (l.foldl (fun t p=>match p.1.dst with | some d=>if L p.2 then t.setIfInBounds d (v p.2) else t | none=>t) t)[s]? = t[s]?:=by
 intro l
 induction l with
 | nil=>intro t _;rfl
 | cons p l ih =>
   intro t h
   rw [List.foldl_cons,ih _ (fun q hq=>h q (List.mem_cons_of_mem _ hq))]
   have hp:=h p (List.mem_cons_self ..)
   split
   · rename_i d hd
     split
     · rw [Array.getElem?_setIfInBounds_ne];intro e;subst e;exact hp hd
     · rfl
   · rfl
theorem fold_own (L:Nat→Bool) (v:Nat→Value) (s:Nat) (i:Nat):∀ (l:List (Oper × Nat)) (t:Array Value),s < t.size→(∃ p ∈ l,p.1.dst=some s∧p.2=i)→(∀ p ∈ l,p.1.dst=some s→p.2=i) →
   (l.foldl (fun t p=>match p.1.dst with | some d=>if L p.2 then t.setIfInBounds d (v p.2) else t | none=>t) t)[s]? = if L i then some (v i) else t[s]?:=by
 intro l
 induction l with
 | nil=>rintro t _ ⟨p,hp,_⟩ _;cases hp
 | cons p l ih =>
   intro t hs hex hun
   rw [List.foldl_cons]
   by_cases hp:p.1.dst=some s
   · have hi:=hun p (List.mem_cons_self ..) hp
     rw [hp,hi]
     simp only []
     by_cases hl:∃ q ∈ l,q.1.dst=some s∧q.2=i
     · rw [ih _ (by split <;> simpa using hs) hl (fun q hq=>hun q (List.mem_cons_of_mem _ hq))]
       cases L i <;> simp
     · rw [fold_other L v s l _ (fun q hq e=>hl ⟨q,hq,e,hun q (List.mem_cons_of_mem _ hq) e⟩)]
       cases L i <;> simp [hs]
   · obtain ⟨q,hq,hqd,hqi⟩:=hex
     rcases List.mem_cons.1 hq with rfl | hq
     · exact absurd hqd hp
     · have hne:∀ d,p.1.dst=some d→d ≠ s:=fun d hd e=>hp (by rw [hd,e])
       rw [ih _ (by split <;> (try split) <;> simpa using hs) ⟨q,hq,hqd,hqi⟩ (fun q hq=>hun q (List.mem_cons_of_mem _ hq))]
       congr 1
       split
       · rename_i d hd
         split
         · rw [Array.getElem?_setIfInBounds_ne (hne d hd)]
         · rfl
       · rfl
theorem mem_zip {ops:Array Oper} {p:Oper × Nat} (h:p ∈ ops.toList.zipIdx):ops[p.2]? = some p.1:=by
 obtain ⟨_,_,h3⟩:=List.mem_zipIdx (x:=p.1) (i:=p.2) (k:=0) h
 rw [Array.getElem?_eq_some_iff]
 exact ⟨by rename_i h2;simpa using h2,by rw [h3];simp⟩
theorem zip_mem {ops:Array Oper} {i:Nat} {o:Oper} (h:ops[i]? = some o):(o,i) ∈ ops.toList.zipIdx:=by
 rw [List.mem_zipIdx_iff_getElem?]
 simpa using h
theorem apart_un (hap:apart ops=true) {i j:Nat} {o o':Oper} {d:Nat} (hi:ops[i]? = some o) (hj:ops[j]? = some o') (h1:o.dst=some d) (h2:o'.dst=some d):i=j:=by
 unfold apart at hap
 rw [Bool.and_eq_true] at hap
 have h3:=List.all_eq_true.1 (List.all_eq_true.1 hap.2 _ (zip_mem hi)) _ (zip_mem hj)
 simpa [h1,h2] using h3
theorem frame_size (a:Act) (L:Nat→Bool) (v:Nat→Value):(frame ops a L v).tmps.size=a.tmps.size:=fold_size L v _ _
theorem frame_own (hap:apart ops=true) (a:Act) (L:Nat→Bool) (v:Nat→Value) {i d:Nat} {o:Oper} (ho:ops[i]? = some o) (hd:o.dst=some d) (hs:d < a.tmps.size) :
   (frame ops a L v).tmps[d]? = if L i then some (v i) else a.tmps[d]? :=
 fold_own L v d i _ _ hs ⟨_,zip_mem ho,hd,rfl⟩ (fun _ hp e=>(apart_un hap ho (mem_zip hp) hd e).symm)
theorem frame_other (a:Act) (L:Nat→Bool) (v:Nat→Value) {d:Nat} (h:∀ (i:Nat) (o:Oper),ops[i]? = some o→o.dst ≠ some d):(frame ops a L v).tmps[d]? = a.tmps[d]? :=
 fold_other L v d _ _ (fun p hp=>h p.2 p.1 (mem_zip hp))
theorem frame_put (hap:apart ops=true) (a:Act) (L:Nat→Bool) (v:Nat→Value) {i:Nat} {o:Oper} (ho:ops[i]? = some o) (u:Value) :
   (frame ops a L v).put o.dst u=frame ops a (up L i true) (up v i u):=by
 have key:∀ s:Nat,((frame ops a L v).put o.dst u).tmps[s]? = (frame ops a (up L i true) (up v i u)).tmps[s]?:=by
   intro s
   by_cases hs:s < a.tmps.size
   · by_cases hex:∃ (j:Nat) (o':Oper),ops[j]? = some o'∧o'.dst=some s
     · obtain ⟨j,o',hj,hd⟩:=hex
       rw [frame_own hap a _ _ hj hd hs]
       by_cases e:j=i
       · subst e
         rw [ho] at hj;cases hj
         rw [hd,up_same,up_same]
         simp only [Act.put,if_true]
         rw [Array.getElem?_setIfInBounds_self,if_pos (by rw [frame_size];exact hs)]
       · rw [up_other _ _ _ _ e,up_other _ _ _ _ e,← frame_own hap a L v hj hd hs]
         cases hod:o.dst with
         | none=>rfl
         | some d =>
           simp only [Act.put]
           rw [Array.getElem?_setIfInBounds_ne]
           intro e';subst e';exact e (apart_un hap hj ho hd hod)
     · have hno:∀ (j:Nat) (o':Oper),ops[j]? = some o'→o'.dst ≠ some s:=fun j o' h1 h2=>hex ⟨j,o',h1,h2⟩
       rw [frame_other a _ _ hno,← frame_other a L v hno]
       cases hod:o.dst with
       | none=>rfl
       | some d =>
         simp only [Act.put]
         rw [Array.getElem?_setIfInBounds_ne]
         intro e';subst e';exact hno i o ho hod
   · have h1:(frame ops a (up L i true) (up v i u)).tmps[s]? = none:=Array.getElem?_eq_none (by rw [frame_size];omega)
     have h2:((frame ops a L v).put o.dst u).tmps[s]? = none:=by
       refine Array.getElem?_eq_none ?_
       cases o.dst <;> simp [Act.put,frame_size] <;> omega
     rw [h1,h2]
 have ht:((frame ops a L v).put o.dst u).tmps=(frame ops a (up L i true) (up v i u)).tmps:=Array.ext_getElem? key
 have hd:((frame ops a L v).put o.dst u).defers=(frame ops a (up L i true) (up v i u)).defers:=by cases o.dst <;> rfl
 generalize (frame ops a L v).put o.dst u=x at *
 generalize frame ops a (up L i true) (up v i u)=y at *
 cases x;cases y;simp_all
theorem fold_none (v:Nat→Value):∀ (l:List (Oper × Nat)) (t:Array Value),
   l.foldl (fun t p=>match p.1.dst with | some d=>if (fun _:Nat=>false) p.2 then t.setIfInBounds d (v p.2) else t | none=>t) t=t:=by
 intro l
 induction l with
 | nil=>intro t;rfl
 | cons p l ih=>intro t;rw [List.foldl_cons];cases p.1.dst <;> exact ih t
theorem wp_region_frame {id:Nat} {a:Act} {w:World} (hm:P.follows .mixedOrders=true) (hb:backward ops=true) (hap:apart ops=true) (hsz0:(ops.toList.all fun o=>o.dst.all fun d=>decide (d < a.tmps.size))=true)
   (I:(Nat→Bool)→(Nat→Value)→World→Prop)
   (hi:I (fun _=>false) (fun _=>undef) w.drew)
   (step:∀ i,i < ops.size→∀ L v w (a':Act),I L v w→L i=false→(∀ o,ops[i]? = some o→∀ e ∈ o.after,Region.binds .any e=true→L e.on=true) →
     (∀ j d:Nat,(ops[j]?).bind (·.dst)=some d→L j=true→a'.tmps.getD d undef=v j)→(∀ d,ops.toList.all (fun o=>o.dst != some d)=true→a'.tmps.getD d undef=a.tmps.getD d undef) →
     wpOp P ops Q i (fun b w'=>∃ (o:Oper) (u:Value),ops[i]? = some o∧b=a'.put o.dst u∧I (up L i true) (up v i u) w') a' w)
   (fin:∀ v w,I (fun i=>decide (i < ops.size)) v w→Q .normal (frame ops a (fun _=>true) v) w) :
   (Code.region id ops true).wp P Q a w:=by
 have hsz:∀ (i:Nat) (o:Oper) (d:Nat),ops[i]? = some o→o.dst=some d→d < a.tmps.size:=fun i o d h1 h2=>by
   have:=List.all_eq_true.1 hsz0 o (Array.mem_toList_iff.2 (Array.mem_of_getElem? h1))
   rw [h2] at this
   simpa using this
 refine wp_region_inv hm hb (fun L v w=>I L v w∧∀ i,ops.size ≤ i→L i=false) (frame ops a) ?_ ⟨hi,fun _ _=>rfl⟩ ?_ ?_
 · have:=fold_none (fun _=>undef) ops.toList.zipIdx a.tmps
   unfold frame;rw [show (List.foldl _ a.tmps _)=a.tmps from this]
 · intro i hin L v w ⟨hI,hL⟩ hLi hd
   refine wpOp_mono ?_ (step i hin L v w (frame ops a L v) hI hLi hd ?_ ?_)
   · rintro b w' ⟨o,u,ho,rfl,hI'⟩
     exact ⟨u,frame_put hap a L v ho u,hI',fun j hj=>by rw [up_other _ _ _ _ (by omega)];exact hL j hj⟩
   · intro j d hjd hlj
     obtain ⟨o,ho,hod⟩:=Option.bind_eq_some_iff.1 hjd
     have hs:=hsz j o d ho hod
     have:=frame_own hap a L v ho hod hs
     rw [hlj,if_pos rfl] at this
     rw [Array.getD_eq_getD_getElem?,this];rfl
   · intro d hall
     have hno:∀ (j:Nat) (o:Oper),ops[j]? = some o→o.dst ≠ some d:=fun j o ho=>by
       have:=List.all_eq_true.1 hall o (Array.mem_toList_iff.2 (Array.mem_of_getElem? ho))
       simpa using this
     rw [Array.getD_eq_getD_getElem?,Array.getD_eq_getD_getElem?,frame_other a L v hno]
 · intro L v w hall ⟨hI,hL⟩
   have e:L=fun i=>decide (i < ops.size):=by
     funext i
     by_cases h:i < ops.size
     · rw [hall i h];simp [h]
     · rw [hL i (by omega)];simp [h]
   have e2:frame ops a L v=frame ops a (fun _=>true) v:=by
     have:∀ s:Nat,(frame ops a L v).tmps[s]? = (frame ops a (fun _=>true) v).tmps[s]?:=by
       intro s
       by_cases hex:∃ (j:Nat) (o':Oper),ops[j]? = some o'∧o'.dst=some s
       · obtain ⟨j,o',hj,hd⟩:=hex
         have hs:=hsz j o' s hj hd
         rw [frame_own hap a _ _ hj hd hs,frame_own hap a _ _ hj hd hs,hall j (Array.getElem?_eq_some_iff.1 hj).1]
       · have hno:∀ (j:Nat) (o':Oper),ops[j]? = some o'→o'.dst ≠ some s:=fun j o' h1 h2=>hex ⟨j,o',h1,h2⟩
         rw [frame_other a _ _ hno,frame_other a _ _ hno]
     have ht:=Array.ext_getElem? this
     have hd:(frame ops a L v).defers=(frame ops a (fun _=>true) v).defers:=rfl
     generalize frame ops a L v=x at *
     generalize frame ops a (fun _=>true) v=y at *
     cases x;cases y;simp_all
   rw [e2]
   exact fin v w (e ▸ hI)
theorem step_plain {i:Nat} {o:Oper} {K:Act→World→Prop} {a:Act} {w:World} (ho:ops[i]? = some o) (hg:o.guard=none)
   (h:∀ K':Act→World→Prop,(∀ a w,K a w→K' a w)→Oper.wp P o a w K' Q):wpOp P ops Q i K a w :=
 wpOp_step ho fun K' hK=>by rw [if_pos (by simp [Region.wanted,hg])];exact h K' hK
end Ri
end Go.Proofs.Ytedjkbmfpjmlpaa
namespace Go.Proofs.Ytedjkbmfpjmlpaa
open Go.RowKit
def el (n m k:Nat):Nat:=if m ≤ k∧k+m < n then k else n - 1 - k
theorem el_zero {n k:Nat} (h:k < n):el n 0 k=k:=by unfold el;rw [if_pos (by omega)]
theorem el_end {n m k:Nat} (h:n ≤ m+m+1) (hk:k < n):el n m k=n - 1 - k:=by unfold el;split <;> omega
theorem el_front {n m:Nat} (h:m+m+1 < n):el n m m=m:=by unfold el;rw [if_pos (by omega)]
theorem el_back {n m:Nat} (h:m+m+1 < n):el n m (n - 1 - m)=n - 1 - m:=by unfold el;rw [if_pos (by omega)]
theorem el_front' {n m:Nat} (_h:m+m+1 < n):el n (m+1) m=n - 1 - m:=by unfold el;rw [if_neg (by omega)]
theorem el_back' {n m:Nat} (h:m+m+1 < n):el n (m+1) (n - 1 - m)=m:=by unfold el;rw [if_neg (by omega)];omega
theorem el_else {n m k:Nat} (_h:m+m+1 < n) (h1:k ≠ m) (h2:k ≠ n - 1 - m) (hk:k < n):el n (m+1) k=el n m k:=by
 unfold el
 by_cases h3:m ≤ k∧k+m < n
 · rw [if_pos h3,if_pos (by omega)]
 · rw [if_neg h3,if_neg (by omega)]
theorem TenAt.range {w:World} {g o:Nat} {t:Tr} {s:Value} (h:TenAt w g o t s):w.rangeAt g o (t.cells s).toList:=by
 intro j u hu
 have hj:j < 10:=by
   have h9:=(List.getElem?_eq_some_iff.1 hu).1
   simpa [Tr.cells] using h9
 have:j=0 ∨ j=1 ∨ j=2 ∨ j=3 ∨ j=4 ∨ j=5 ∨ j=6 ∨ j=7 ∨ j=8 ∨ j=9:=by omega
 rcases this with rfl | rfl | rfl | rfl | rfl | rfl | rfl | rfl | rfl | rfl
 all_goals
   simp [Tr.cells] at hu
   subst hu
 · exact h.c0
 · exact h.c1
 · exact h.c2
 · exact h.c3
 · exact h.c4
 · exact h.c5
 · exact h.c6
 · exact h.c7
 · exact h.c8
 · exact h.c9
theorem turev_any (g o cap:Nat) (ts:List Tr) (S:Nat→Value) (w:World) (hlen:ts.length * 96 ≤ 140737488351232) (hf:∃ cs ty,w.heap[g]? = some (.cells cs ty (0,0))) (hS:∀ i,i < ts.length→∃ p l c,S i=.slice p l c)
   (hc:∀ i t,ts[i]? = some t→TenAt w g (o+i * 10) t (S i)) :
   Calls Try.prog 20 #[.slice (some ⟨g,o,none⟩) ts.length cap] w fun e w'=>e=.returned (.tuple #[])∧Touch [g] w w'∧(∃ cs ty,w'.heap[g]? = some (.cells cs ty (0,0))) ∧
     ∀ k t,k < ts.length→ts[ts.length - 1 - k]? = some t→TenAt w' g (o+k * 10) t (S (ts.length - 1 - k)):=by
 have HC:=Lib.hid hc;have HS:=Lib.hid hS;have HF:=Lib.hid hf
 have w1:IntKind.i64.wrap ((ts.length:Int) - 1)=(ts.length:Int) - 1:=IntWalk.i64_in _ (by omega)
 clear hc hS hf
 go_enter Try.func20,Try.ntmps20
 go_wp2
 go_loopw [2,3] (fun iv jv wr=>∃ m:Nat,iv=.int .i64 (m:Int)∧jv=.int .i64 ((ts.length:Int) - 1 - (m:Int))∧m ≤ ts.length∧Hid (Touch [g] w wr)∧Hid (∃ cs ty,wr.heap[g]? = some (.cells cs ty (0,0)))∧Hid (∀ k t,k < ts.length→ts[el ts.length m k]? = some t→TenAt wr g (o+k * 10) t (S (el ts.length m k)))) (fun iv _ _=>ts.length - (intOf iv).toNat)
 case atStart=>exact ⟨0,rfl,by simp,Nat.zero_le _,Lib.hid ⟨rfl,rfl,rfl,Nat.le_refl _,fun _ _ _=>rfl⟩,HF,Lib.hid fun k t hk ht=>by rw [el_zero hk] at ht ⊢;exact HC.out k t ht⟩
 case round =>
   obtain ⟨m,rfl,rfl,hm,HT,HFR,HR⟩:=hrel
   by_cases hlt:m+m+1 < ts.length
   · obtain ⟨j,hj⟩:∃ j,j=ts.length - 1 - m:=⟨_,rfl⟩
     have hji:(ts.length:Int) - 1 - (m:Int)=(j:Int):=by omega
     rw [hji]
     have hjn:j < ts.length:=by omega
     have hmn:m < ts.length:=by omega
     have hmj:m < j:=by omega
     have hd1:decide ((m:Int) < (j:Int))=true:=decide_eq_true (by omega)
     have wm:IntKind.i64.wrap ((m:Int)+1)=(m:Int)+1:=IntWalk.i64_in _ (by omega)
     have wj:IntKind.i64.wrap ((j:Int) - 1)=(j:Int) - 1:=IntWalk.i64_in _ (by omega)
     obtain ⟨x,hx⟩:∃ x,ts[m]? = some x:=⟨_,List.getElem?_eq_getElem hmn⟩
     obtain ⟨y,hy⟩:∃ y,ts[j]? = some y:=⟨_,List.getElem?_eq_getElem hjn⟩
     have tx:=HR.out m x hmn (by rw [el_front hlt];exact hx)
     have ty:=HR.out j y hjn (by rw [hj,el_back hlt,← hj];exact hy)
     rw [el_front hlt] at tx
     rw [hj,el_back hlt,← hj] at ty
     obtain ⟨px,lx,cx,ex⟩:=HS.out m hmn
     obtain ⟨py,ly,cy,ey⟩:=HS.out j hjn
     have hthx:=tx.there HFR.out
     have hthy:=ty.there HFR.out
     have TX:=Lib.hid tx;have TY:=Lib.hid ty;have HX:=Lib.hid hx;have HY:=Lib.hid hy;have HJ:=Lib.hid hj;have HLT:=Lib.hid hlt
     have RX:=Lib.hid tx.range;have RY:=Lib.hid ty.range
     have HTHX:=Lib.hid hthx;have HTHY:=Lib.hid hthy
     have EX:=Lib.hid ex;have EY:=Lib.hid ey
     rw [ex] at RX;rw [ey] at RY
     clear tx ty hthx hthy hx hy hj hji ex ey
     go_upto_region 3 with (fail)
     obtain ⟨XL,hXL⟩:∃ L,L=(x.cells (.slice px lx cx)):=⟨_,rfl⟩
     obtain ⟨YL,hYL⟩:∃ L,L=(y.cells (.slice py ly cy)):=⟨_,rfl⟩
     rw [← hXL] at RX;rw [← hYL] at RY
     have sx:XL.size=10:=by rw [hXL];rfl
     have sy:YL.size=10:=by rw [hYL];rfl
     have ox:XL.all (·.oneCell')=true:=by rw [hXL];exact nodeC_all _ _ _ _
     have oy:YL.all (·.oneCell')=true:=by rw [hYL];exact nodeC_all _ _ _ _
     have lx9:(XL.toList).length=10:=by simpa using sx
     have ly9:(YL.toList).length=10:=by simpa using sy
     have HXL:=Lib.hid hXL;have HYL:=Lib.hid hYL
     clear hXL hYL
     obtain ⟨W1,hW1⟩:∃ W1,W1=wr.drew.setCells g (o+m * 10) YL.toList:=⟨_,rfl⟩
     obtain ⟨W2,hW2⟩:∃ W2,W2=W1.setCells g (o+j * 10) XL.toList:=⟨_,rfl⟩
     have RX0:Hid (wr.drew.rangeAt g (o+m * 10) XL.toList):=RX
     have RY0:Hid (wr.drew.rangeAt g (o+j * 10) YL.toList):=RY
     have TH0:Hid (wr.drew.there g (o+m * 10) 10):=HTHX
     have TH1:Hid (W1.there g (o+j * 10) 10):=Lib.hid (by
       rw [hW1];intro q hq
       have h1:=HTHY.out q hq
       refine ⟨?_,frozen_of (cells_setCells _ _ _ HFR.out)⟩
       rw [World.cell?_setCells_out g _ _ _ _ (fun _ _=>by simp;omega)]
       exact h1.1)
     refine Ri.wp_region_frame (by kernel_rfl) (by kernel_rfl) (by kernel_rfl) (by kernel_rfl)
       (fun L v w'=>(L 13=false→w'=wr.drew∧L 15=false)∧(L 13=true→L 7=true∧L 11=true)∧(L 13=true→L 15=false→w'=W1)∧(L 15=true→w'=W2∧L 13=true) ∧
         (L 0=true→v 0=.slice (some ⟨g,o,none⟩) ts.length cap)∧(L 1=true→v 1=.int .i64 (m:Int))∧(L 2=true→v 2=.slice (some ⟨g,o,none⟩) ts.length cap)∧(L 3=true→v 3=.int .i64 (j:Int))∧(L 4=true→v 4=.slice (some ⟨g,o,none⟩) ts.length cap)∧(L 5=true→v 5=.int .i64 (j:Int))∧(L 6=true→v 6=.pointer (some ⟨g,o+j * 10,none⟩))∧(L 7=true→v 7=.agg YL) ∧
         (L 8=true→v 8=.slice (some ⟨g,o,none⟩) ts.length cap)∧(L 9=true→v 9=.int .i64 (m:Int))∧(L 10=true→v 10=.pointer (some ⟨g,o+m * 10,none⟩))∧(L 11=true→v 11=.agg XL)∧(L 12=true→v 12=.pointer (some ⟨g,o+m * 10,none⟩))∧(L 14=true→v 14=.pointer (some ⟨g,o+j * 10,none⟩)))
       ?_ ?_ ?_
     · exact ⟨fun _=>⟨rfl,rfl⟩,by simp,by simp,by simp,by simp,by simp,by simp,by simp,by simp,by simp,by simp,by simp,by simp,by simp,by simp,by simp,by simp,by simp⟩
     · intro i hi9 L v w9 xa hI hL hd hv ho
       have hi':i=0 ∨ i=1 ∨ i=2 ∨ i=3 ∨ i=4 ∨ i=5 ∨ i=6 ∨ i=7 ∨ i=8 ∨ i=9 ∨ i=10 ∨ i=11 ∨ i=12 ∨ i=13 ∨ i=14 ∨ i=15:=by simp at hi9;omega
       obtain ⟨h0,h1,h2,h3,q0,q1,q2,q3,q4,q5,q6,q7,q8,q9,q10,q11,q12,q14⟩:=hI
       rcases hi' with rfl | rfl | rfl | rfl | rfl | rfl | rfl | rfl | rfl | rfl | rfl | rfl | rfl | rfl | rfl | rfl
       · have e0:xa.tmps.getD 0 undef=.slice (some ⟨g,o,none⟩) ts.length cap:=ho 0 (by kernel_rfl)
         refine Ri.step_plain rfl rfl (fun K' hK=>?_)
         go_simp
         exact hK _ _ ⟨_,_,rfl,rfl,h0,h1,h2,h3,fun _=>rfl,q1,q2,q3,q4,q5,q6,q7,q8,q9,q10,q11,q12,q14⟩
       · have e2:xa.tmps.getD 2 undef=.int .i64 (m:Int):=ho 2 (by kernel_rfl)
         refine Ri.step_plain rfl rfl (fun K' hK=>?_)
         go_simp
         exact hK _ _ ⟨_,_,rfl,rfl,h0,h1,h2,h3,q0,fun _=>rfl,q2,q3,q4,q5,q6,q7,q8,q9,q10,q11,q12,q14⟩
       · have e0:xa.tmps.getD 0 undef=.slice (some ⟨g,o,none⟩) ts.length cap:=ho 0 (by kernel_rfl)
         refine Ri.step_plain rfl rfl (fun K' hK=>?_)
         go_simp
         exact hK _ _ ⟨_,_,rfl,rfl,h0,h1,h2,h3,q0,q1,fun _=>rfl,q3,q4,q5,q6,q7,q8,q9,q10,q11,q12,q14⟩
       · have e3:xa.tmps.getD 3 undef=.int .i64 (j:Int):=ho 3 (by kernel_rfl)
         refine Ri.step_plain rfl rfl (fun K' hK=>?_)
         go_simp
         exact hK _ _ ⟨_,_,rfl,rfl,h0,h1,h2,h3,q0,q1,q2,fun _=>rfl,q4,q5,q6,q7,q8,q9,q10,q11,q12,q14⟩
       · have e0:xa.tmps.getD 0 undef=.slice (some ⟨g,o,none⟩) ts.length cap:=ho 0 (by kernel_rfl)
         refine Ri.step_plain rfl rfl (fun K' hK=>?_)
         go_simp
         exact hK _ _ ⟨_,_,rfl,rfl,h0,h1,h2,h3,q0,q1,q2,q3,fun _=>rfl,q5,q6,q7,q8,q9,q10,q11,q12,q14⟩
       · have e3:xa.tmps.getD 3 undef=.int .i64 (j:Int):=ho 3 (by kernel_rfl)
         refine Ri.step_plain rfl rfl (fun K' hK=>?_)
         go_simp
         exact hK _ _ ⟨_,_,rfl,rfl,h0,h1,h2,h3,q0,q1,q2,q3,q4,fun _=>rfl,q6,q7,q8,q9,q10,q11,q12,q14⟩
       · obtain ⟨j4,j5⟩:L 4=true∧L 5=true:=by have:=hd _ rfl;simp [Region.binds] at this;simp [this]
         have f4:=(hv 4 18 rfl j4).trans (q4 j4)
         have f5:=(hv 5 19 rfl j5).trans (q5 j5)
         refine Ri.step_plain rfl rfl (fun K' hK=>?_)
         go_simp
         exact hK _ _ ⟨_,_,rfl,rfl,h0,h1,h2,h3,q0,q1,q2,q3,q4,q5,fun _=>rfl,q7,q8,q9,q10,q11,q12,q14⟩
       · have j6:L 6=true:=by have:=hd _ rfl;simp [Region.binds] at this;simp [this]
         have f6:=(hv 6 20 rfl j6).trans (q6 j6)
         have l13:L 13=false:=by cases h:L 13 with | false=>rfl | true=>have:=(h1 h).1;rw [hL] at this;cases this
         obtain ⟨rfl,l15⟩:=h0 l13
         refine Ri.step_plain rfl rfl (fun K' hK=>?_)
         refine wp_load_mid _ _ rfl g (o+j * 10) f6 YL.toList _ RY0.out Try.underlying27 rfl (by rw [ly9];kernel_rfl) ?_
         exact hK _ _ ⟨_,_,rfl,rfl,h0,fun h=>⟨rfl,(h1 h).2⟩,h2,h3,q0,q1,q2,q3,q4,q5,q6,fun _=>by simp [Ri.up],q8,q9,q10,q11,q12,q14⟩
       · have e0:xa.tmps.getD 0 undef=.slice (some ⟨g,o,none⟩) ts.length cap:=ho 0 (by kernel_rfl)
         refine Ri.step_plain rfl rfl (fun K' hK=>?_)
         go_simp
         exact hK _ _ ⟨_,_,rfl,rfl,h0,h1,h2,h3,q0,q1,q2,q3,q4,q5,q6,q7,fun _=>rfl,q9,q10,q11,q12,q14⟩
       · have e2:xa.tmps.getD 2 undef=.int .i64 (m:Int):=ho 2 (by kernel_rfl)
         refine Ri.step_plain rfl rfl (fun K' hK=>?_)
         go_simp
         exact hK _ _ ⟨_,_,rfl,rfl,h0,h1,h2,h3,q0,q1,q2,q3,q4,q5,q6,q7,q8,fun _=>rfl,q10,q11,q12,q14⟩
       · obtain ⟨j8,j9⟩:L 8=true∧L 9=true:=by have:=hd _ rfl;simp [Region.binds] at this;simp [this]
         have f8:=(hv 8 22 rfl j8).trans (q8 j8)
         have f9:=(hv 9 23 rfl j9).trans (q9 j9)
         refine Ri.step_plain rfl rfl (fun K' hK=>?_)
         go_simp
         exact hK _ _ ⟨_,_,rfl,rfl,h0,h1,h2,h3,q0,q1,q2,q3,q4,q5,q6,q7,q8,q9,fun _=>rfl,q11,q12,q14⟩
       · have j10:L 10=true:=by have:=hd _ rfl;simp [Region.binds] at this;simp [this]
         have f10:=(hv 10 24 rfl j10).trans (q10 j10)
         have l13:L 13=false:=by cases h:L 13 with | false=>rfl | true=>have:=(h1 h).2;rw [hL] at this;cases this
         obtain ⟨rfl,l15⟩:=h0 l13
         refine Ri.step_plain rfl rfl (fun K' hK=>?_)
         refine wp_load_mid _ _ rfl g (o+m * 10) f10 XL.toList _ RX0.out Try.underlying27 rfl (by rw [lx9];kernel_rfl) ?_
         exact hK _ _ ⟨_,_,rfl,rfl,h0,fun h=>⟨(h1 h).1,rfl⟩,h2,h3,q0,q1,q2,q3,q4,q5,q6,q7,q8,q9,q10,fun _=>by simp [Ri.up],q12,q14⟩
       · obtain ⟨j0,j1⟩:L 0=true∧L 1=true:=by have:=hd _ rfl;simp [Region.binds] at this;simp [this]
         have f0:=(hv 0 14 rfl j0).trans (q0 j0)
         have f1:=(hv 1 15 rfl j1).trans (q1 j1)
         refine Ri.step_plain rfl rfl (fun K' hK=>?_)
         go_simp
         exact hK _ _ ⟨_,_,rfl,rfl,h0,h1,h2,h3,q0,q1,q2,q3,q4,q5,q6,q7,q8,q9,q10,q11,fun _=>rfl,q14⟩
       · obtain ⟨j7,j11,j12⟩:L 7=true∧L 11=true∧L 12=true:=by have:=hd _ rfl;simp [Region.binds] at this;simp [this]
         have f7:=(hv 7 21 rfl j7).trans (q7 j7)
         have f12:=(hv 12 26 rfl j12).trans (q12 j12)
         obtain ⟨rfl,l15⟩:=h0 hL
         refine Ri.step_plain rfl rfl (fun K' hK=>?_)
         refine wp_store_mid _ _ _ rfl g (o+m * 10) YL f12 f7 (by rw [sy];exact TH0.out) (by rw [sy];kernel_rfl) oy ?_
         exact hK _ _ ⟨_,undef,rfl,rfl,(fun h=>by cases h),fun _=>⟨j7,j11⟩,fun _ _=>hW1.symm,fun h=>absurd (show L 15=true from h) (by rw [l15];decide),q0,q1,q2,q3,q4,q5,q6,q7,q8,q9,q10,q11,q12,q14⟩
       · obtain ⟨j2,j3⟩:L 2=true∧L 3=true:=by have:=hd _ rfl;simp [Region.binds] at this;simp [this]
         have f2:=(hv 2 16 rfl j2).trans (q2 j2)
         have f3:=(hv 3 17 rfl j3).trans (q3 j3)
         refine Ri.step_plain rfl rfl (fun K' hK=>?_)
         go_simp
         exact hK _ _ ⟨_,_,rfl,rfl,h0,h1,h2,h3,q0,q1,q2,q3,q4,q5,q6,q7,q8,q9,q10,q11,q12,fun _=>rfl⟩
       · obtain ⟨j11,j13,j14⟩:L 11=true∧L 13=true∧L 14=true:=by have:=hd _ rfl;simp [Region.binds] at this;simp [this]
         have f11:=(hv 11 25 rfl j11).trans (q11 j11)
         have f14:=(hv 14 27 rfl j14).trans (q14 j14)
         obtain rfl:=h2 j13 hL
         refine Ri.step_plain rfl rfl (fun K' hK=>?_)
         refine wp_store_mid _ _ _ rfl g (o+j * 10) XL f14 f11 (by rw [sx];exact TH1.out) (by rw [sx];kernel_rfl) ox ?_
         exact hK _ _ ⟨_,undef,rfl,rfl,(fun h=>absurd (show L 13=false from h) (by rw [j13];decide)),h1,(fun _ h=>by cases h),fun _=>⟨hW2.symm,j13⟩,q0,q1,q2,q3,q4,q5,q6,q7,q8,q9,q10,q11,q12,q14⟩
     · rintro v w9 ⟨-,-,-,h3,-⟩
       obtain ⟨rfl,-⟩:=h3 rfl
       have key:Hid (Touch [g] w w9∧(∃ cs ty,w9.heap[g]? = some (.cells cs ty (0,0)))∧∀ k t,k < ts.length→ts[el ts.length (m+1) k]? = some t→TenAt w9 g (o+k * 10) t (S (el ts.length (m+1) k))):=Lib.hid (by
         have hT1:Touch [g] w W1:=by rw [hW1];exact Touch.setCells (show Touch [g] w wr.drew from ⟨HT.out.os,HT.out.tape,HT.out.output,HT.out.size,HT.out.block⟩) (by simp) _ _
         have hF1:∃ cs ty,W1.heap[g]? = some (.cells cs ty (0,0)):=by rw [hW1];exact cells_setCells _ _ _ HFR.out
         refine ⟨by rw [hW2];exact hT1.setCells (by simp) _ _,by rw [hW2];exact cells_setCells _ _ _ hF1,fun k t hk ht=>?_⟩
         have hj:=HJ.out;have hlt:=HLT.out
         by_cases k1:k=m
         · subst k1
           rw [el_front' hlt,← hj] at ht ⊢
           rw [HY.out] at ht
           obtain rfl:=Option.some.inj ht
           rw [hW2]
           refine TenAt.setCells (vs:=XL.toList) ?_ lx9 (by omega)
           refine TenAt.of_range ?_
           rw [EY.out,← HYL.out,hW1]
           exact World.rangeAt_setCells_same _ _ _ _ (by rw [ly9];exact TH0.out)
         by_cases k2:k=j
         · subst k2
           rw [hj,el_back' hlt] at ht ⊢
           rw [← hj]
           rw [HX.out] at ht
           obtain rfl:=Option.some.inj ht
           refine TenAt.of_range ?_
           rw [EX.out,← HXL.out,hW2]
           exact World.rangeAt_setCells_same _ _ _ _ (by rw [lx9];exact TH1.out)
         · have he:=el_else hlt k1 (by rw [← hj];exact k2) hk
           rw [he] at ht ⊢
           have h9:TenAt wr.drew g (o+k * 10) t (S (el ts.length m k)):=(HR.out k t hk ht).keep rfl
           rw [hW2]
           refine TenAt.setCells (vs:=XL.toList) ?_ lx9 (by omega)
           rw [hW1]
           exact TenAt.setCells (vs:=YL.toList) h9 ly9 (by omega))
       clear hW1 hW2 TH0 TH1 RX0 RY0 RX RY HTHX HTHY TX TY HT HFR HR
       simp only [Ri.frame,List.zipIdx,List.foldl_cons,List.foldl_nil,if_true,Nat.reduceAdd]
       generalize v 0=y0;generalize v 1=y1;generalize v 2=y2;generalize v 3=y3;generalize v 4=y4;generalize v 5=y5;generalize v 6=y6;generalize v 7=y7;generalize v 8=y8;generalize v 9=y9;generalize v 10=y10;generalize v 11=y11;generalize v 12=y12;generalize v 14=y14
       go_wp2
       obtain ⟨k1,k2,k3⟩:=key.out
       have hj:=HJ.out
       exact ⟨⟨m+1,by go_num,by congr 1;omega,by omega,Lib.hid k1,Lib.hid k2,Lib.hid k3⟩,by simp [intOf];omega⟩
   · have hd1:decide ((m:Int) < (ts.length:Int) - 1 - (m:Int))=false:=decide_eq_false (by omega)
     go_wp2
     go_end0
     exact ⟨rfl,HT.out,HFR.out,fun k t hk ht=>by have:=HR.out k t hk;rw [el_end (by omega) hk] at this;exact this ht⟩
end Go.Proofs.Ytedjkbmfpjmlpaa
namespace Go.Proofs.Ytedjkbmfpjmlpaa
open Go.RowKit
theorem tu_cell_out {w:World} {b j:Nat} {v:Value} {i:Nat} (h:i ≠ j):(w.setCell ⟨b,j,none⟩ v).cell? ⟨b,i,none⟩=w.cell? ⟨b,i,none⟩ :=
 World.cell?_setCells_out b [v] j w ⟨b,i,none⟩ (fun _ _=>by simp;omega)
def Tr.withK (t:Tr) (k:Int):Tr:=.node k t.w0 t.w1 t.w2 t.w3 t.subs t.num t.least t.most t.bare
theorem TenAt.withK {w:World} {b o:Nat} {t:Tr} {s:Value} (h:TenAt w b o t s) (hf:∃ cs ty,w.heap[b]? = some (.cells cs ty (0,0))) (k:Int):TenAt (w.setCell ⟨b,o,none⟩ (.int .i64 k)) b o (t.withK k) s:=by
 have hth:w.there b o 1:=fun j hj=>by
   obtain rfl:j=0:=by omega
   exact ⟨by simpa using congrArg Option.isSome h.c0,frozen_of hf⟩
 have hs:(w.setCell ⟨b,o,none⟩ (.int .i64 k)).cell? ⟨b,o,none⟩=some (.int .i64 k):=World.rangeAt_setCells_same w b o [.int .i64 k] (by simpa using hth) 0 _ rfl
 exact ⟨hs,(tu_cell_out (by omega)).trans h.c1,(tu_cell_out (by omega)).trans h.c2,(tu_cell_out (by omega)).trans h.c3,(tu_cell_out (by omega)).trans h.c4,(tu_cell_out (by omega)).trans h.c5,(tu_cell_out (by omega)).trans h.c6,(tu_cell_out (by omega)).trans h.c7,(tu_cell_out (by omega)).trans h.c8,(tu_cell_out (by omega)).trans h.c9⟩
def ButCell (g o:Nat) (w w':World):Prop:=(∀ k,k ≠ o→w'.cell? ⟨g,k,none⟩=w.cell? ⟨g,k,none⟩)∧∀ cs ty,w.heap[g]? = some (.cells cs ty (0,0))→∃ cs',w'.heap[g]? = some (.cells cs' ty (0,0))∧cs'.size=cs.size
theorem ButCell.refl (g o:Nat) (w:World):ButCell g o w w:=⟨fun _ _=>rfl,fun cs _ h=>⟨cs,h,rfl⟩⟩
theorem ButCell.of_heap {g o:Nat} {w w':World} (h:w'.heap[g]? = w.heap[g]?):ButCell g o w w':=⟨fun k _=>by unfold World.cell?;rw [h],fun cs _ hc=>⟨cs,h.trans hc,rfl⟩⟩
theorem ButCell.trans {g o:Nat} {a b c:World} (h:ButCell g o a b) (k:ButCell g o b c):ButCell g o a c :=
 ⟨fun i hi=>(k.1 i hi).trans (h.1 i hi),fun cs ty hc=>by
   obtain ⟨c1,h1,h2⟩:=h.2 cs ty hc
   obtain ⟨c2,h3,h4⟩:=k.2 c1 ty h1
   exact ⟨c2,h3,h4.trans h2⟩⟩
theorem ButCell.set (g o:Nat) (w:World) (v:Value):ButCell g o w (w.setCell ⟨g,o,none⟩ v) :=
 ⟨fun k hk=>tu_cell_out hk,fun cs ty h=>⟨cs.setIfInBounds o v,by simp [World.setCell,Array.getElem?_modify,h],by simp⟩⟩
theorem ButCell.frozen {g o:Nat} {w w':World} (h:ButCell g o w w') (hf:∃ cs ty,w.heap[g]? = some (.cells cs ty (0,0))):∃ cs ty,w'.heap[g]? = some (.cells cs ty (0,0)):=by
 obtain ⟨cs,ty,h1⟩:=hf
 obtain ⟨c1,h2,-⟩:=h.2 cs ty h1
 exact ⟨c1,ty,h2⟩
theorem ButCell.ten {g o o':Nat} {w w':World} {t:Tr} {s:Value} (h:ButCell g o' w w') (ht:TenAt w g o t s) (ho:o' < o ∨ o+10 ≤ o'):TenAt w' g o t s :=
 ⟨(h.1 _ (by omega)).trans ht.c0,(h.1 _ (by omega)).trans ht.c1,(h.1 _ (by omega)).trans ht.c2,(h.1 _ (by omega)).trans ht.c3,(h.1 _ (by omega)).trans ht.c4,(h.1 _ (by omega)).trans ht.c5,(h.1 _ (by omega)).trans ht.c6,(h.1 _ (by omega)).trans ht.c7,(h.1 _ (by omega)).trans ht.c8,(h.1 _ (by omega)).trans ht.c9⟩
structure TreeIn (w:World) (g o:Nat) (t:Tr) (s:Value) (F:List Nat):Prop where
 ten:TenAt w g o t s
 own:Owned w s t.subs F
 out:g ∉ F
 cel:∃ cs ty,w.heap[g]? = some (.cells cs ty (0,0))
def TurnEnd (g o:Nat) (t:Tr) (s:Value) (F:List Nat) (w:World) (e:Ending) (w':World):Prop :=
 e=.returned (.tuple #[])∧TenAt w' g o t.turT s∧(∃ F',Owned w' s t.turT.subs F'∧∀ b,b ∈ F'→b ∈ F)∧Touch (g :: F) w w'∧ButCell g o w w'
structure RowTo (w:World) (g o m:Nat) (ts:List Tr) (S:Nat→Value) (L:Nat→List Nat):Prop where
 done:∀ j u,j < m→ts[j]? = some u→TenAt w g (o+j * 10) u.turT (S j)∧∃ F',Owned w (S j) u.turT.subs F'∧∀ b,b ∈ F'→b ∈ L j
 todo:∀ j u,m ≤ j→ts[j]? = some u→TenAt w g (o+j * 10) u (S j)∧Owned w (S j) u.subs (L j)
 cel:∃ cs ty,w.heap[g]? = some (.cells cs ty (0,0))
theorem RowTo.keep {w w':World} {g o m:Nat} {ts:List Tr} {S:Nat→Value} {L:Nat→List Nat} (h:RowTo w g o m ts S L) (hg:w'.heap[g]? = w.heap[g]?) (hL:∀ j b,j < ts.length→b ∈ L j→w'.heap[b]? = w.heap[b]?):RowTo w' g o m ts S L:=by
 refine ⟨fun j u hj hu=>?_,fun j u hj hu=>?_, ?_⟩
 · obtain ⟨h1,F',h2,h3⟩:=h.done j u hj hu
   exact ⟨h1.keep hg,F',h2.keep fun b hb=>hL j b (lt_of_some hu) (h3 b hb),h3⟩
 · obtain ⟨h1,h2⟩:=h.todo j u hj hu
   exact ⟨h1.keep hg,h2.keep fun b hb=>hL j b (lt_of_some hu) hb⟩
 · obtain ⟨cs,ty,h1⟩:=h.cel;exact ⟨cs,ty,hg.trans h1⟩
theorem RowTo.next {w w':World} {g o m:Nat} {ts:List Tr} {S:Nat→Value} {L:Nat→List Nat} {x:Tr} (h:RowTo w g o m ts S L) (hx:ts[m]? = some x) (hgL:∀ i,i < ts.length→g ∉ L i) (hd:∀ i j b,i < ts.length→j < ts.length→i ≠ j→b ∈ L i→b ∉ L j)
   {e:Ending} (ht:TurnEnd g (o+m * 10) x (S m) (L m) w e w'):RowTo w' g o (m+1) ts S L:=by
 obtain ⟨-,h1,⟨F',h2,h3⟩,h4,h5⟩:=ht
 have hm:=lt_of_some hx
 have keepL:∀ j b,j < ts.length→j ≠ m→b ∈ L j→b < w.heap.size→w'.heap[b]? = w.heap[b]?:=fun j b hj hjm hb hlt =>
   h4.block b hlt fun hmem=>by
     rcases List.mem_cons.1 hmem with rfl | hmem
     · exact hgL j hj hb
     · exact hd j m b hj hm hjm hb hmem
 refine ⟨fun j u hj hu=>?_,fun j u hj hu=>?_,h5.frozen h.cel⟩
 · by_cases e:j=m
   · subst e
     rw [hx] at hu
     obtain rfl:=Option.some.inj hu
     exact ⟨h1,F',h2,h3⟩
   · obtain ⟨q1,G,q2,q3⟩:=h.done j u (by omega) hu
     exact ⟨h5.ten q1 (by omega),G,q2.keep fun b hb=>keepL j b (lt_of_some hu) e (q3 b hb) (q2.lt b hb),q3⟩
 · obtain ⟨q1,q2⟩:=h.todo j u (by omega) hu
   exact ⟨h5.ten q1 (by omega),q2.keep fun b hb=>keepL j b (lt_of_some hu) (by omega) hb (q2.lt b hb)⟩
theorem RowTo.all {w:World} {g o:Nat} {ts:List Tr} {S:Nat→Value} {L:Nat→List Nat} (h:RowTo w g o ts.length ts S L) (hlen:ts.length * 96 ≤ 140737488351232) (hgL:∀ i,i < ts.length→g ∉ L i) (hd:∀ i j b,i < ts.length→j < ts.length→i ≠ j→b ∈ L i→b ∉ L j) (cap:Nat) :
   ∃ F',Owned w (.slice (some ⟨g,o,none⟩) ts.length cap) (ts.map Tr.turT) F'∧∀ b,b ∈ F'→b ∈ g :: (List.range ts.length).flatMap L:=by
 have hex:∀ j:Nat,∃ F':List Nat,(∀ u:Tr,ts[j]? = some u→Owned w (S j) u.turT.subs F')∧∀ b,b ∈ F'→b ∈ L j:=fun j=>by
   cases hu:ts[j]? with
   | none=>exact ⟨[],(fun u h=>by cases h),(fun b hb=>by cases hb)⟩
   | some u =>
     obtain ⟨-,F',h2,h3⟩:=h.done j u (lt_of_some hu) hu
     exact ⟨F',(fun v hv=>by obtain rfl:=Option.some.inj hv;exact h2),h3⟩
 obtain ⟨M,hM⟩:=Classical.axiomOfChoice hex
 have hget:∀ (i:Nat) (t:Tr),(ts.map Tr.turT)[i]? = some t→∃ u:Tr,ts[i]? = some u∧t=u.turT:=fun i t hi=>by
   rw [List.getElem?_map] at hi
   cases hu:ts[i]? with
   | none=>rw [hu] at hi;cases hi
   | some u=>rw [hu] at hi;exact ⟨u,rfl,(Option.some.inj hi).symm⟩
 have hml:(ts.map Tr.turT).length=ts.length:=List.length_map ..
 refine ⟨g :: (List.range ts.length).flatMap M, ?_,fun b hb=>?_⟩
 · have:=Owned.row (w:=w) g o cap (ts.map Tr.turT) S M (by rw [hml];exact hlen) h.cel (fun i t hi=>?_) (fun i t hi=>?_) (fun i hi hm=>?_) (fun i j b hi hj hij h5 h6=>?_)
   · rw [hml] at this;exact this
   · obtain ⟨u,hu,rfl⟩:=hget i t hi;exact (h.done i u (lt_of_some hu) hu).1
   · obtain ⟨u,hu,rfl⟩:=hget i t hi;exact (hM i).1 u hu
   · rw [hml] at hi;exact hgL i hi ((hM i).2 g hm)
   · rw [hml] at hi hj;exact hd i j b hi hj hij ((hM i).2 b h5) ((hM j).2 b h6)
 · rcases List.mem_cons.1 hb with rfl | hb
   · exact List.mem_cons_self
   · obtain ⟨i,hi,hb⟩:=mem_range_flatMap.1 hb
     exact List.mem_cons_of_mem _ (mem_range_flatMap.2 ⟨i,hi,(hM i).2 b hb⟩)
def TurnsAll (ts:List Tr):Prop:=∀ u,u ∈ ts→∀ (w:World) (g o:Nat) (s:Value) (F:List Nat),TreeIn w g o u s F→Calls Try.prog 15 #[.pointer (some ⟨g,o,none⟩)] w (TurnEnd g o u s F w)
theorem TenAt.alike {w:World} {g o:Nat} {t u:Tr} {s:Value} (h:TenAt w g o t s) (hk:t.kind=u.kind) (h0:t.w0=u.w0) (h1:t.w1=u.w1) (h2:t.w2=u.w2) (h3:t.w3=u.w3) (hn:t.num=u.num) (hl:t.least=u.least) (hm:t.most=u.most) (hb:t.bare=u.bare):TenAt w g o u s :=
 ⟨by rw [← hk];exact h.c0,by rw [← h0];exact h.c1,by rw [← h1];exact h.c2,by rw [← h2];exact h.c3,by rw [← h3];exact h.c4,h.c5,by rw [← hn];exact h.c6,by rw [← hl];exact h.c7,by rw [← hm];exact h.c8,by rw [← hb];exact h.c9⟩
theorem tuturn_seq (t:Tr) (hk:t.kind=5) (w:World) (g o g0 o0 cap:Nat) (S L) (hn:TurnsAll t.subs) (hten:TenAt w g o t (.slice (some ⟨g0,o0,none⟩) t.subs.length cap)) (hcel:∃ cs ty,w.heap[g]? = some (.cells cs ty (0,0))) (hlen:t.subs.length * 96 ≤ 140737488351232) (hrow:RowTo w g0 o0 0 t.subs S L) (hslc:∀ i,i < t.subs.length→∃ p l c,S i=.slice p l c)
   (hgL:∀ i,i < t.subs.length→g0 ∉ L i) (hd:∀ i j b,i < t.subs.length→j < t.subs.length→i ≠ j→b ∈ L i→b ∉ L j) (hout:g ∉ g0 :: (List.range t.subs.length).flatMap L) :
   Calls Try.prog 15 #[.pointer (some ⟨g,o,none⟩)] w (TurnEnd g o t (.slice (some ⟨g0,o0,none⟩) t.subs.length cap) (g0 :: (List.range t.subs.length).flatMap L) w):=by
 have hgw:g < w.heap.size:=hten.lt
 have hg0w:t.subs.length=0 ∨ g0 < w.heap.size:=by obtain ⟨cs,ty,h⟩:=hrow.cel;exact .inr (Array.getElem?_eq_some_iff.1 h).1
 have hgg:g ≠ g0:=fun e=>hout (e ▸ List.mem_cons_self)
 have hoL:∀ j b,j < t.subs.length→b ∈ L j→b ≠ g:=fun j b hj hb e=>hout (List.mem_cons_of_mem _ (mem_range_flatMap.2 ⟨j,hj,e ▸ hb⟩))
 have HTEN:=Lib.hid hten
 obtain ⟨c0,c1,c2,c3,c4,c5,c6,c7,c8,c9⟩:=HTEN.out
 rw [hk] at c0
 clear c1 c2 c3 c4 c6 c7 c8 c9
 have HN:=Lib.hid hn;have HROW:=Lib.hid hrow;have HGL0:=Lib.hid hgL;have HD0:=Lib.hid hd;have HLEN0:=Lib.hid hlen;have HOUT:=Lib.hid hout;have HOL:=Lib.hid hoL;have HSL:=Lib.hid hslc;have HCEL:=Lib.hid hcel;have HGG:=Lib.hid hgg;have HGW:=Lib.hid hgw
 clear hn hrow hgL hd hlen hout hoL hslc hten hcel hgg hgw hg0w
 have HRV:=Lib.hid (turev_any g0 o0 cap t.subs S w HLEN0.out HROW.out.cel HSL.out fun i u hu=>(HROW.out.todo i u (Nat.zero_le _) hu).1)
 go_enter Try.func15,Try.ntmps15
 go_wp2_with fail
 clear c0 c5
 refine HRV.out.mono ?_
 rintro e W1 ⟨rfl,ht,hcel1,hrev⟩
 obtain ⟨ts1,hts1⟩:∃ ts1,ts1=t.subs.reverse:=⟨_,rfl⟩
 obtain ⟨S1,hS1⟩:∃ S1:Nat→Value,S1=fun k=>S (t.subs.length - 1 - k):=⟨_,rfl⟩
 obtain ⟨L1,hL1⟩:∃ L1:Nat→List Nat,L1=fun k=>L (t.subs.length - 1 - k):=⟨_,rfl⟩
 have hln:ts1.length=t.subs.length:=by rw [hts1,List.length_reverse]
 have hget:∀ j u,ts1[j]? = some u→j < t.subs.length∧t.subs[t.subs.length - 1 - j]? = some u:=fun j u hu=>by
   have hj:=lt_of_some hu
   rw [hln] at hj
   rw [hts1,List.getElem?_reverse hj] at hu
   exact ⟨hj,hu⟩
 have hmemF:∀ b,b ∈ (List.range ts1.length).flatMap L1 ↔ b ∈ (List.range t.subs.length).flatMap L:=fun b=>by
   rw [mem_range_flatMap,mem_range_flatMap,hln,hL1]
   constructor
   · rintro ⟨i,hi,hb⟩;exact ⟨t.subs.length - 1 - i,by omega,hb⟩
   · rintro ⟨i,hi,hb⟩;exact ⟨t.subs.length - 1 - i,by omega,by show b ∈ L (t.subs.length - 1 - (t.subs.length - 1 - i));rw [show t.subs.length - 1 - (t.subs.length - 1 - i)=i by omega];exact hb⟩
 have hlo:∀ j b,j < t.subs.length→b ∈ L j→b < w.heap.size:=fun j b hj hb=>(HROW.out.todo j _ (Nat.zero_le _) (List.getElem?_eq_getElem hj)).2.lt b hb
 have R1:=Lib.hid (show RowTo W1 g0 o0 0 ts1 S1 L1 from ⟨fun j u hj=>by omega,fun j u _ hu=>by
     obtain ⟨hj,hu2⟩:=hget j u hu
     rw [hS1,hL1]
     exact ⟨hrev j u hj hu2,(HROW.out.todo _ u (Nat.zero_le _) hu2).2.keep fun b hb=>ht.block b (hlo _ b (by omega) hb) fun e=>by rw [List.mem_singleton] at e;subst e;exact HGL0.out _ (by omega) hb⟩,hcel1⟩)
 have C5:=Lib.hid (show W1.cell? ⟨g,o+5,none⟩=some (.slice (some ⟨g0,o0,none⟩) ts1.length cap) from by
   have:=HTEN.out.c5;rw [hln];unfold World.cell? at this ⊢;rw [ht.block g HGW.out (by simpa using HGG.out)];exact this)
 have GO:=Lib.hid (show g ∉ g0 :: (List.range ts1.length).flatMap L1 from fun e=>HOUT.out (by
   rcases List.mem_cons.1 e with rfl | e
   · exact List.mem_cons_self
   · exact List.mem_cons_of_mem _ ((hmemF g).1 e)))
 have GW:=Lib.hid (show g < W1.heap.size from Nat.lt_of_lt_of_le HGW.out ht.size)
 have HGL:=Lib.hid (show ∀ i,i < ts1.length→g0 ∉ L1 i from fun i hi=>by rw [hL1];exact HGL0.out _ (by omega))
 have HDJ:=Lib.hid (show ∀ i j b,i < ts1.length→j < ts1.length→i ≠ j→b ∈ L1 i→b ∉ L1 j from fun i j b hi hj hij=>by rw [hL1];exact HD0.out _ _ b (by omega) (by omega) (by omega))
 have HLEN:=Lib.hid (show ts1.length * 96 ≤ 140737488351232 from by rw [hln];exact HLEN0.out)
 have IH:=Lib.hid (show TurnsAll ts1 from fun u hu=>HN.out u (by rw [hts1,List.mem_reverse] at hu;exact hu))
 have HLN:=Lib.hid hln;have HMF:=Lib.hid hmemF;have HT0:=Lib.hid ht;have HTS:=Lib.hid hts1
 have c5:=C5.out
 have hlen9:ts1.length ≤ 1466015503701:=by have:=HLEN.out;omega
 clear ht hcel1 hrev hts1 hS1 hL1 hln hget hmemF hlo HRV
 go_wp2
 go_loopw [29] (fun iv wr=>∃ m:Nat,iv=.int .i64 (m:Int)∧m ≤ ts1.length∧Hid (Touch (g0 :: (List.range ts1.length).flatMap L1) W1 wr)∧Hid (RowTo wr g0 o0 m ts1 S1 L1)) (fun iv _=>ts1.length - (intOf iv).toNat)
 case atStart=>exact ⟨0,rfl,Nat.zero_le _,Lib.hid (Touch.of_below _ (Below.refl _ _)),R1⟩
 case round =>
   obtain ⟨m,rfl,hm,HT,HR⟩:=hrel
   have wm:IntKind.i64.wrap ((m:Int)+1)=(m:Int)+1:=IntWalk.i64_in _ (by omega)
   have hgr:wr.heap[g]? = W1.heap[g]?:=HT.out.block g GW.out GO.out
   have c5r:wr.cell? ⟨g,o+5,none⟩=some (.slice (some ⟨g0,o0,none⟩) ts1.length cap):=by
     have:=C5.out;unfold World.cell? at this ⊢;rw [hgr];exact this
   have HGR:=Lib.hid hgr
   clear hgr
   by_cases hlt:m < ts1.length
   · obtain ⟨x,hx⟩:∃ x,ts1[m]? = some x:=⟨_,List.getElem?_eq_getElem hlt⟩
     obtain ⟨q1,q2⟩:=HR.out.todo m x (Nat.le_refl _) hx
     have hcall:=IH.out x (List.mem_of_getElem? hx) wr g0 (o0+m * 10) (S1 m) (L1 m) ⟨q1,q2,HGL.out m hlt,HR.out.cel⟩
     have HCALL:=Lib.hid hcall;have HX:=Lib.hid hx
     have hd1:decide ((m:Int) < (ts1.length:Int))=true:=decide_eq_true (by omega)
     clear q1 q2 hx hcall
     go_wp2_with fail
     refine HCALL.out.mono ?_
     intro e w2 he
     have HN:=Lib.hid (HR.out.next HX.out HGL.out HDJ.out he)
     obtain ⟨rfl,-,-,ht2,-⟩:=he
     have HT2:=Lib.hid (HT.out.trans (ht2.mono fun b hb=>by
       rcases List.mem_cons.1 hb with rfl | hb
       · exact List.mem_cons_self
       · exact List.mem_cons_of_mem _ (mem_range_flatMap.2 ⟨m,hlt,hb⟩)))
     clear ht2 HCALL
     go_wp2
     exact ⟨⟨m+1,by go_num,by omega,HT2,HN⟩,by simp [intOf];omega⟩
   · obtain rfl:m=ts1.length:=by omega
     obtain ⟨F2,hF2,hF3⟩:=HR.out.all HLEN.out HGL.out HDJ.out cap
     have HF2:=Lib.hid hF2;have HF3:=Lib.hid hF3
     clear hF2 hF3 c5r
     go_wp2
     go_end0
     have hsub:t.turT.subs=ts1.map Tr.turT:=by rw [Tr.turT_subs];unfold Tr.rv;rw [if_pos hk,HTS.out,List.map_reverse]
     refine ⟨rfl, ?_,⟨F2,by rw [hsub,← HLN.out];exact HF2.out,fun b hb=>?_⟩, ?_, ?_⟩
     · have h1:TenAt wr g o t (.slice (some ⟨g0,o0,none⟩) t.subs.length cap):=HTEN.out.keep (HGR.out.trans (HT0.out.block g HGW.out (by simpa using HGG.out)))
       exact TenAt.alike (u:=t.turT) h1 (by rw [Tr.turT_kind,hk];rfl) (by rw [Tr.turT_w0]) (by rw [Tr.turT_w1]) (by rw [Tr.turT_w2]) (by rw [Tr.turT_w3]) (by rw [Tr.turT_num]) (by rw [Tr.turT_least]) (by rw [Tr.turT_most]) (by rw [Tr.turT_bare])
     · rcases List.mem_cons.1 (HF3.out b hb) with rfl | h
       · exact List.mem_cons_self
       · exact List.mem_cons_of_mem _ ((HMF.out b).1 h)
     · refine (HT0.out.mono fun b hb=>?_).trans (HT.out.mono fun b hb=>?_)
       · rw [List.mem_singleton] at hb;subst hb;exact List.mem_cons_of_mem _ List.mem_cons_self
       · rcases List.mem_cons.1 hb with rfl | h
         · exact List.mem_cons_of_mem _ List.mem_cons_self
         · exact List.mem_cons_of_mem _ (List.mem_cons_of_mem _ ((HMF.out b).1 h))
     · exact ButCell.of_heap (HGR.out.trans (HT0.out.block g HGW.out (by simpa using HGG.out)))
theorem tuturn_beg (t:Tr) (hk:t.kind=3) (w:World) (g o g0 o0 cap:Nat) (S L) (hn:TurnsAll t.subs) (hten:TenAt w g o t (.slice (some ⟨g0,o0,none⟩) t.subs.length cap)) (hcel:∃ cs ty,w.heap[g]? = some (.cells cs ty (0,0))) (hlen:t.subs.length * 96 ≤ 140737488351232) (hrow:RowTo w g0 o0 0 t.subs S L) (hslc:∀ i,i < t.subs.length→∃ p l c,S i=.slice p l c)
   (hgL:∀ i,i < t.subs.length→g0 ∉ L i) (hd:∀ i j b,i < t.subs.length→j < t.subs.length→i ≠ j→b ∈ L i→b ∉ L j) (hout:g ∉ g0 :: (List.range t.subs.length).flatMap L) :
   Calls Try.prog 15 #[.pointer (some ⟨g,o,none⟩)] w (TurnEnd g o t (.slice (some ⟨g0,o0,none⟩) t.subs.length cap) (g0 :: (List.range t.subs.length).flatMap L) w):=by
 have hgw:g < w.heap.size:=hten.lt
 have hg0w:t.subs.length=0 ∨ g0 < w.heap.size:=by obtain ⟨cs,ty,h⟩:=hrow.cel;exact .inr (Array.getElem?_eq_some_iff.1 h).1
 have hgg:g ≠ g0:=fun e=>hout (e ▸ List.mem_cons_self)
 have hoL:∀ j b,j < t.subs.length→b ∈ L j→b ≠ g:=fun j b hj hb e=>hout (List.mem_cons_of_mem _ (mem_range_flatMap.2 ⟨j,hj,e ▸ hb⟩))
 have HTEN:=Lib.hid hten
 obtain ⟨c0,c1,c2,c3,c4,c5,c6,c7,c8,c9⟩:=HTEN.out
 rw [hk] at c0
 clear c1 c2 c3 c4 c6 c7 c8 c9
 have HN:=Lib.hid hn;have HROW:=Lib.hid hrow;have HGL0:=Lib.hid hgL;have HD0:=Lib.hid hd;have HLEN0:=Lib.hid hlen;have HOUT:=Lib.hid hout;have HOL:=Lib.hid hoL;have HSL:=Lib.hid hslc;have HCEL:=Lib.hid hcel;have HGG:=Lib.hid hgg;have HGW:=Lib.hid hgw
 clear hn hrow hgL hd hlen hout hoL hslc hten hcel hgg hgw hg0w
 have hslot:∀ j b,j < t.subs.length→b ∈ L j→(w.setCell ⟨g,o,none⟩ (.int .i64 4)).heap[b]? = w.heap[b]?:=fun j b hj hb=>(fun (e:_ ≠ g)=>Below.heap_setCell _ _ _ _ e) (HOL.out j b hj hb)
 have hg0h:(w.setCell ⟨g,o,none⟩ (.int .i64 4)).heap[g0]? = w.heap[g0]?:=(fun (e:_ ≠ g)=>Below.heap_setCell _ _ _ _ e) (Ne.symm HGG.out)
 have R1:=Lib.hid (show RowTo (w.setCell ⟨g,o,none⟩ (.int .i64 4)) g0 o0 0 t.subs S L from HROW.out.keep hg0h hslot)
 have C5:=Lib.hid (show (w.setCell ⟨g,o,none⟩ (.int .i64 4)).cell? ⟨g,o+5,none⟩=some (.slice (some ⟨g0,o0,none⟩) t.subs.length cap) from (tu_cell_out (by omega)).trans HTEN.out.c5)
 have GO:=HOUT
 have GW:=Lib.hid (show g < (w.setCell ⟨g,o,none⟩ (.int .i64 4)).heap.size from by simp [World.setCell];exact HGW.out)
 have HBC:=Lib.hid (show ButCell g o w (w.setCell ⟨g,o,none⟩ (.int .i64 4)) from ButCell.set g o w _)
 have HT0:=Lib.hid (show Touch [g] w (w.setCell ⟨g,o,none⟩ (.int .i64 4)) from Touch.setCells (Touch.of_below [g] (Below.refl _ _)) (by simp) o [.int .i64 4])
 have HT1:=Lib.hid (show TenAt (w.setCell ⟨g,o,none⟩ (.int .i64 4)) g o t.turT (.slice (some ⟨g0,o0,none⟩) t.subs.length cap) from TenAt.alike (u:=t.turT) (HTEN.out.withK HCEL.out 4) (by rw [Tr.turT_kind,hk];rfl) (by rw [Tr.turT_w0];rfl) (by rw [Tr.turT_w1];rfl) (by rw [Tr.turT_w2];rfl) (by rw [Tr.turT_w3];rfl) (by rw [Tr.turT_num];rfl) (by rw [Tr.turT_least];rfl) (by rw [Tr.turT_most];rfl) (by rw [Tr.turT_bare];rfl))
 have HGL:=HGL0;have HDJ:=HD0;have HLEN:=HLEN0;have IH:=HN
 have hlen9:t.subs.length ≤ 1466015503701:=by have:=HLEN.out;omega
 have f0:=frozen_of (o:=o) HCEL.out
 have c5b:=C5.out
 clear hslot hg0h
 go_enter Try.func15,Try.ntmps15
 go_wp2
 go_loopw [29] (fun iv wr=>∃ m:Nat,iv=.int .i64 (m:Int)∧m ≤ t.subs.length∧Hid (Touch (g0 :: (List.range t.subs.length).flatMap L) (w.setCell ⟨g,o,none⟩ (.int .i64 4)) wr)∧Hid (RowTo wr g0 o0 m t.subs S L)) (fun iv _=>t.subs.length - (intOf iv).toNat)
 case atStart=>exact ⟨0,rfl,Nat.zero_le _,Lib.hid (Touch.of_below _ (Below.refl _ _)),R1⟩
 case round =>
   obtain ⟨m,rfl,hm,HT,HR⟩:=hrel
   have wm:IntKind.i64.wrap ((m:Int)+1)=(m:Int)+1:=IntWalk.i64_in _ (by omega)
   have hgr:wr.heap[g]? = (w.setCell ⟨g,o,none⟩ (.int .i64 4)).heap[g]?:=HT.out.block g GW.out GO.out
   have c5r:wr.cell? ⟨g,o+5,none⟩=some (.slice (some ⟨g0,o0,none⟩) t.subs.length cap):=by
     have:=C5.out;unfold World.cell? at this ⊢;rw [hgr];exact this
   have HGR:=Lib.hid hgr
   clear hgr
   by_cases hlt:m < t.subs.length
   · obtain ⟨x,hx⟩:∃ x,t.subs[m]? = some x:=⟨_,List.getElem?_eq_getElem hlt⟩
     obtain ⟨q1,q2⟩:=HR.out.todo m x (Nat.le_refl _) hx
     have hcall:=IH.out x (List.mem_of_getElem? hx) wr g0 (o0+m * 10) (S m) (L m) ⟨q1,q2,HGL.out m hlt,HR.out.cel⟩
     have HCALL:=Lib.hid hcall;have HX:=Lib.hid hx
     have hd1:decide ((m:Int) < (t.subs.length:Int))=true:=decide_eq_true (by omega)
     clear q1 q2 hx hcall
     go_wp2_with fail
     refine HCALL.out.mono ?_
     intro e w2 he
     have HN:=Lib.hid (HR.out.next HX.out HGL.out HDJ.out he)
     obtain ⟨rfl,-,-,ht2,-⟩:=he
     have HT2:=Lib.hid (HT.out.trans (ht2.mono fun b hb=>by
       rcases List.mem_cons.1 hb with rfl | hb
       · exact List.mem_cons_self
       · exact List.mem_cons_of_mem _ (mem_range_flatMap.2 ⟨m,hlt,hb⟩)))
     clear ht2 HCALL
     go_wp2
     exact ⟨⟨m+1,by go_num,by omega,HT2,HN⟩,by simp [intOf];omega⟩
   · obtain rfl:m=t.subs.length:=by omega
     obtain ⟨F2,hF2,hF3⟩:=HR.out.all HLEN.out HGL.out HDJ.out cap
     have HF2:=Lib.hid hF2;have HF3:=Lib.hid hF3
     clear hF2 hF3 c5r
     go_wp2
     go_end0
     have hsub:t.turT.subs=t.subs.map Tr.turT:=by rw [Tr.turT_subs,Tr.rv_not (by omega)]
     refine ⟨rfl,HT1.out.keep HGR.out,⟨F2,by rw [hsub];exact HF2.out,HF3.out⟩, ?_,HBC.out.trans (ButCell.of_heap HGR.out)⟩
     refine (HT0.out.mono fun b hb=>?_).trans (HT.out.mono fun b hb=>List.mem_cons_of_mem _ hb)
     rw [List.mem_singleton] at hb;subst hb;exact List.mem_cons_self
theorem tuturn_fin (t:Tr) (hk:t.kind=4) (w:World) (g o g0 o0 cap:Nat) (S L) (hn:TurnsAll t.subs) (hten:TenAt w g o t (.slice (some ⟨g0,o0,none⟩) t.subs.length cap)) (hcel:∃ cs ty,w.heap[g]? = some (.cells cs ty (0,0))) (hlen:t.subs.length * 96 ≤ 140737488351232) (hrow:RowTo w g0 o0 0 t.subs S L) (hslc:∀ i,i < t.subs.length→∃ p l c,S i=.slice p l c)
   (hgL:∀ i,i < t.subs.length→g0 ∉ L i) (hd:∀ i j b,i < t.subs.length→j < t.subs.length→i ≠ j→b ∈ L i→b ∉ L j) (hout:g ∉ g0 :: (List.range t.subs.length).flatMap L) :
   Calls Try.prog 15 #[.pointer (some ⟨g,o,none⟩)] w (TurnEnd g o t (.slice (some ⟨g0,o0,none⟩) t.subs.length cap) (g0 :: (List.range t.subs.length).flatMap L) w):=by
 have hgw:g < w.heap.size:=hten.lt
 have hg0w:t.subs.length=0 ∨ g0 < w.heap.size:=by obtain ⟨cs,ty,h⟩:=hrow.cel;exact .inr (Array.getElem?_eq_some_iff.1 h).1
 have hgg:g ≠ g0:=fun e=>hout (e ▸ List.mem_cons_self)
 have hoL:∀ j b,j < t.subs.length→b ∈ L j→b ≠ g:=fun j b hj hb e=>hout (List.mem_cons_of_mem _ (mem_range_flatMap.2 ⟨j,hj,e ▸ hb⟩))
 have HTEN:=Lib.hid hten
 obtain ⟨c0,c1,c2,c3,c4,c5,c6,c7,c8,c9⟩:=HTEN.out
 rw [hk] at c0
 clear c1 c2 c3 c4 c6 c7 c8 c9
 have HN:=Lib.hid hn;have HROW:=Lib.hid hrow;have HGL0:=Lib.hid hgL;have HD0:=Lib.hid hd;have HLEN0:=Lib.hid hlen;have HOUT:=Lib.hid hout;have HOL:=Lib.hid hoL;have HSL:=Lib.hid hslc;have HCEL:=Lib.hid hcel;have HGG:=Lib.hid hgg;have HGW:=Lib.hid hgw
 clear hn hrow hgL hd hlen hout hoL hslc hten hcel hgg hgw hg0w
 have hslot:∀ j b,j < t.subs.length→b ∈ L j→(w.setCell ⟨g,o,none⟩ (.int .i64 3)).heap[b]? = w.heap[b]?:=fun j b hj hb=>(fun (e:_ ≠ g)=>Below.heap_setCell _ _ _ _ e) (HOL.out j b hj hb)
 have hg0h:(w.setCell ⟨g,o,none⟩ (.int .i64 3)).heap[g0]? = w.heap[g0]?:=(fun (e:_ ≠ g)=>Below.heap_setCell _ _ _ _ e) (Ne.symm HGG.out)
 have R1:=Lib.hid (show RowTo (w.setCell ⟨g,o,none⟩ (.int .i64 3)) g0 o0 0 t.subs S L from HROW.out.keep hg0h hslot)
 have C5:=Lib.hid (show (w.setCell ⟨g,o,none⟩ (.int .i64 3)).cell? ⟨g,o+5,none⟩=some (.slice (some ⟨g0,o0,none⟩) t.subs.length cap) from (tu_cell_out (by omega)).trans HTEN.out.c5)
 have GO:=HOUT
 have GW:=Lib.hid (show g < (w.setCell ⟨g,o,none⟩ (.int .i64 3)).heap.size from by simp [World.setCell];exact HGW.out)
 have HBC:=Lib.hid (show ButCell g o w (w.setCell ⟨g,o,none⟩ (.int .i64 3)) from ButCell.set g o w _)
 have HT0:=Lib.hid (show Touch [g] w (w.setCell ⟨g,o,none⟩ (.int .i64 3)) from Touch.setCells (Touch.of_below [g] (Below.refl _ _)) (by simp) o [.int .i64 3])
 have HT1:=Lib.hid (show TenAt (w.setCell ⟨g,o,none⟩ (.int .i64 3)) g o t.turT (.slice (some ⟨g0,o0,none⟩) t.subs.length cap) from TenAt.alike (u:=t.turT) (HTEN.out.withK HCEL.out 3) (by rw [Tr.turT_kind,hk];rfl) (by rw [Tr.turT_w0];rfl) (by rw [Tr.turT_w1];rfl) (by rw [Tr.turT_w2];rfl) (by rw [Tr.turT_w3];rfl) (by rw [Tr.turT_num];rfl) (by rw [Tr.turT_least];rfl) (by rw [Tr.turT_most];rfl) (by rw [Tr.turT_bare];rfl))
 have HGL:=HGL0;have HDJ:=HD0;have HLEN:=HLEN0;have IH:=HN
 have hlen9:t.subs.length ≤ 1466015503701:=by have:=HLEN.out;omega
 have f0:=frozen_of (o:=o) HCEL.out
 have c5b:=C5.out
 clear hslot hg0h
 go_enter Try.func15,Try.ntmps15
 go_wp2
 go_loopw [29] (fun iv wr=>∃ m:Nat,iv=.int .i64 (m:Int)∧m ≤ t.subs.length∧Hid (Touch (g0 :: (List.range t.subs.length).flatMap L) (w.setCell ⟨g,o,none⟩ (.int .i64 3)) wr)∧Hid (RowTo wr g0 o0 m t.subs S L)) (fun iv _=>t.subs.length - (intOf iv).toNat)
 case atStart=>exact ⟨0,rfl,Nat.zero_le _,Lib.hid (Touch.of_below _ (Below.refl _ _)),R1⟩
 case round =>
   obtain ⟨m,rfl,hm,HT,HR⟩:=hrel
   have wm:IntKind.i64.wrap ((m:Int)+1)=(m:Int)+1:=IntWalk.i64_in _ (by omega)
   have hgr:wr.heap[g]? = (w.setCell ⟨g,o,none⟩ (.int .i64 3)).heap[g]?:=HT.out.block g GW.out GO.out
   have c5r:wr.cell? ⟨g,o+5,none⟩=some (.slice (some ⟨g0,o0,none⟩) t.subs.length cap):=by
     have:=C5.out;unfold World.cell? at this ⊢;rw [hgr];exact this
   have HGR:=Lib.hid hgr
   clear hgr
   by_cases hlt:m < t.subs.length
   · obtain ⟨x,hx⟩:∃ x,t.subs[m]? = some x:=⟨_,List.getElem?_eq_getElem hlt⟩
     obtain ⟨q1,q2⟩:=HR.out.todo m x (Nat.le_refl _) hx
     have hcall:=IH.out x (List.mem_of_getElem? hx) wr g0 (o0+m * 10) (S m) (L m) ⟨q1,q2,HGL.out m hlt,HR.out.cel⟩
     have HCALL:=Lib.hid hcall;have HX:=Lib.hid hx
     have hd1:decide ((m:Int) < (t.subs.length:Int))=true:=decide_eq_true (by omega)
     clear q1 q2 hx hcall
     go_wp2_with fail
     refine HCALL.out.mono ?_
     intro e w2 he
     have HN:=Lib.hid (HR.out.next HX.out HGL.out HDJ.out he)
     obtain ⟨rfl,-,-,ht2,-⟩:=he
     have HT2:=Lib.hid (HT.out.trans (ht2.mono fun b hb=>by
       rcases List.mem_cons.1 hb with rfl | hb
       · exact List.mem_cons_self
       · exact List.mem_cons_of_mem _ (mem_range_flatMap.2 ⟨m,hlt,hb⟩)))
     clear ht2 HCALL
     go_wp2
     exact ⟨⟨m+1,by go_num,by omega,HT2,HN⟩,by simp [intOf];omega⟩
   · obtain rfl:m=t.subs.length:=by omega
     obtain ⟨F2,hF2,hF3⟩:=HR.out.all HLEN.out HGL.out HDJ.out cap
     have HF2:=Lib.hid hF2;have HF3:=Lib.hid hF3
     clear hF2 hF3 c5r
     go_wp2
     go_end0
     have hsub:t.turT.subs=t.subs.map Tr.turT:=by rw [Tr.turT_subs,Tr.rv_not (by omega)]
     refine ⟨rfl,HT1.out.keep HGR.out,⟨F2,by rw [hsub];exact HF2.out,HF3.out⟩, ?_,HBC.out.trans (ButCell.of_heap HGR.out)⟩
     refine (HT0.out.mono fun b hb=>?_).trans (HT.out.mono fun b hb=>List.mem_cons_of_mem _ hb)
     rw [List.mem_singleton] at hb;subst hb;exact List.mem_cons_self
theorem tuturn_other (t:Tr) (h5:t.kind ≠ 5) (h3:t.kind ≠ 3) (h4:t.kind ≠ 4) (w:World) (g o g0 o0 cap:Nat) (S L) (hn:TurnsAll t.subs) (hten:TenAt w g o t (.slice (some ⟨g0,o0,none⟩) t.subs.length cap)) (hcel:∃ cs ty,w.heap[g]? = some (.cells cs ty (0,0))) (hlen:t.subs.length * 96 ≤ 140737488351232) (hrow:RowTo w g0 o0 0 t.subs S L) (hslc:∀ i,i < t.subs.length→∃ p l c,S i=.slice p l c)
   (hgL:∀ i,i < t.subs.length→g0 ∉ L i) (hd:∀ i j b,i < t.subs.length→j < t.subs.length→i ≠ j→b ∈ L i→b ∉ L j) (hout:g ∉ g0 :: (List.range t.subs.length).flatMap L) :
   Calls Try.prog 15 #[.pointer (some ⟨g,o,none⟩)] w (TurnEnd g o t (.slice (some ⟨g0,o0,none⟩) t.subs.length cap) (g0 :: (List.range t.subs.length).flatMap L) w):=by
 have hgw:g < w.heap.size:=hten.lt
 have hg0w:t.subs.length=0 ∨ g0 < w.heap.size:=by obtain ⟨cs,ty,h⟩:=hrow.cel;exact .inr (Array.getElem?_eq_some_iff.1 h).1
 have hgg:g ≠ g0:=fun e=>hout (e ▸ List.mem_cons_self)
 have hoL:∀ j b,j < t.subs.length→b ∈ L j→b ≠ g:=fun j b hj hb e=>hout (List.mem_cons_of_mem _ (mem_range_flatMap.2 ⟨j,hj,e ▸ hb⟩))
 have HTEN:=Lib.hid hten
 obtain ⟨c0,c1,c2,c3,c4,c5,c6,c7,c8,c9⟩:=HTEN.out
 have e5:(t.kind == 5)=false:=by simpa using h5
 have e3:(t.kind == 3)=false:=by simpa using h3
 have e4:(t.kind == 4)=false:=by simpa using h4
 clear c1 c2 c3 c4 c6 c7 c8 c9
 have HN:=Lib.hid hn;have HROW:=Lib.hid hrow;have HGL0:=Lib.hid hgL;have HD0:=Lib.hid hd;have HLEN0:=Lib.hid hlen;have HOUT:=Lib.hid hout;have HOL:=Lib.hid hoL;have HSL:=Lib.hid hslc;have HCEL:=Lib.hid hcel;have HGG:=Lib.hid hgg;have HGW:=Lib.hid hgw
 clear hn hrow hgL hd hlen hout hoL hslc hten hcel hgg hgw hg0w
 have hslot:∀ j b,j < t.subs.length→b ∈ L j→w.heap[b]? = w.heap[b]?:=fun j b hj hb=>(fun (_:_ ≠ g)=>rfl) (HOL.out j b hj hb)
 have hg0h:w.heap[g0]? = w.heap[g0]?:=(fun (_:_ ≠ g)=>rfl) (Ne.symm HGG.out)
 have R1:=Lib.hid (show RowTo w g0 o0 0 t.subs S L from HROW.out.keep hg0h hslot)
 have C5:=Lib.hid (show w.cell? ⟨g,o+5,none⟩=some (.slice (some ⟨g0,o0,none⟩) t.subs.length cap) from HTEN.out.c5)
 have GO:=HOUT
 have GW:=Lib.hid (show g < w.heap.size from HGW.out)
 have HBC:=Lib.hid (show ButCell g o w w from ButCell.refl g o w)
 have HT0:=Lib.hid (show Touch [g] w w from Touch.of_below _ (Below.refl _ _))
 have HT1:=Lib.hid (show TenAt w g o t.turT (.slice (some ⟨g0,o0,none⟩) t.subs.length cap) from TenAt.alike (u:=t.turT) HTEN.out (by rw [Tr.turT_kind];unfold Tr.turK;rw [if_neg h3,if_neg h4]) (by rw [Tr.turT_w0]) (by rw [Tr.turT_w1]) (by rw [Tr.turT_w2]) (by rw [Tr.turT_w3]) (by rw [Tr.turT_num]) (by rw [Tr.turT_least]) (by rw [Tr.turT_most]) (by rw [Tr.turT_bare]))
 have HGL:=HGL0;have HDJ:=HD0;have HLEN:=HLEN0;have IH:=HN
 have hlen9:t.subs.length ≤ 1466015503701:=by have:=HLEN.out;omega
 have f0:=frozen_of (o:=o) HCEL.out
 have c5b:=C5.out
 clear hslot hg0h
 go_enter Try.func15,Try.ntmps15
 go_wp2
 go_loopw [29] (fun iv wr=>∃ m:Nat,iv=.int .i64 (m:Int)∧m ≤ t.subs.length∧Hid (Touch (g0 :: (List.range t.subs.length).flatMap L) w wr)∧Hid (RowTo wr g0 o0 m t.subs S L)) (fun iv _=>t.subs.length - (intOf iv).toNat)
 case atStart=>exact ⟨0,rfl,Nat.zero_le _,Lib.hid (Touch.of_below _ (Below.refl _ _)),R1⟩
 case round =>
   obtain ⟨m,rfl,hm,HT,HR⟩:=hrel
   have wm:IntKind.i64.wrap ((m:Int)+1)=(m:Int)+1:=IntWalk.i64_in _ (by omega)
   have hgr:wr.heap[g]? = w.heap[g]?:=HT.out.block g GW.out GO.out
   have c5r:wr.cell? ⟨g,o+5,none⟩=some (.slice (some ⟨g0,o0,none⟩) t.subs.length cap):=by
     have:=C5.out;unfold World.cell? at this ⊢;rw [hgr];exact this
   have HGR:=Lib.hid hgr
   clear hgr
   by_cases hlt:m < t.subs.length
   · obtain ⟨x,hx⟩:∃ x,t.subs[m]? = some x:=⟨_,List.getElem?_eq_getElem hlt⟩
     obtain ⟨q1,q2⟩:=HR.out.todo m x (Nat.le_refl _) hx
     have hcall:=IH.out x (List.mem_of_getElem? hx) wr g0 (o0+m * 10) (S m) (L m) ⟨q1,q2,HGL.out m hlt,HR.out.cel⟩
     have HCALL:=Lib.hid hcall;have HX:=Lib.hid hx
     have hd1:decide ((m:Int) < (t.subs.length:Int))=true:=decide_eq_true (by omega)
     clear q1 q2 hx hcall
     go_wp2_with fail
     refine HCALL.out.mono ?_
     intro e w2 he
     have HN:=Lib.hid (HR.out.next HX.out HGL.out HDJ.out he)
     obtain ⟨rfl,-,-,ht2,-⟩:=he
     have HT2:=Lib.hid (HT.out.trans (ht2.mono fun b hb=>by
       rcases List.mem_cons.1 hb with rfl | hb
       · exact List.mem_cons_self
       · exact List.mem_cons_of_mem _ (mem_range_flatMap.2 ⟨m,hlt,hb⟩)))
     clear ht2 HCALL
     go_wp2
     exact ⟨⟨m+1,by go_num,by omega,HT2,HN⟩,by simp [intOf];omega⟩
   · obtain rfl:m=t.subs.length:=by omega
     obtain ⟨F2,hF2,hF3⟩:=HR.out.all HLEN.out HGL.out HDJ.out cap
     have HF2:=Lib.hid hF2;have HF3:=Lib.hid hF3
     clear hF2 hF3 c5r
     go_wp2
     go_end0
     have hsub:t.turT.subs=t.subs.map Tr.turT:=by rw [Tr.turT_subs,Tr.rv_not (by omega)]
     refine ⟨rfl,HT1.out.keep HGR.out,⟨F2,by rw [hsub];exact HF2.out,HF3.out⟩, ?_,HBC.out.trans (ButCell.of_heap HGR.out)⟩
     refine (HT0.out.mono fun b hb=>?_).trans (HT.out.mono fun b hb=>List.mem_cons_of_mem _ hb)
     rw [List.mem_singleton] at hb;subst hb;exact List.mem_cons_self
end Go.Proofs.Ytedjkbmfpjmlpaa
namespace Go.Proofs.Ytedjkbmfpjmlpaa
open Go.RowKit
theorem turev_nil (p:Option Addr) (cap:Nat) (w:World):Calls Try.prog 20 #[.slice p 0 cap] w fun e w'=>e=.returned (.tuple #[])∧Below w.heap.size w w':=by
 go_enter Try.func20,Try.ntmps20
 go_wp2
 go_loopw [2,3] (fun iv jv wr=>iv=.int .i64 0∧jv=.int .i64 (-1)∧Hid (Below w.heap.size w wr)) (fun _ _ _=>0)
 case atStart=>exact ⟨rfl,rfl,Lib.hid (Below.refl _ _)⟩
 case round =>
   obtain ⟨rfl,rfl,HB⟩:=hrel
   go_wp2
   go_end0
   exact ⟨rfl,HB.out⟩
theorem tuturn_nil (t:Tr) (ht:t.subs=[]) (w:World) (g o cap:Nat) (p:Option Addr) (F:List Nat) (hten:TenAt w g o t (.slice p 0 cap)) (hcel:∃ cs ty,w.heap[g]? = some (.cells cs ty (0,0))) :
   Calls Try.prog 15 #[.pointer (some ⟨g,o,none⟩)] w (TurnEnd g o t (.slice p 0 cap) F w):=by
 have HTEN:=Lib.hid hten;have HCEL:=Lib.hid hcel
 have hgw:=hten.lt
 obtain ⟨c0,-,-,-,-,c5,-,-,-,-⟩:=hten
 have hsub:t.turT.subs=[]:=by rw [Tr.turT_subs,ht];unfold Tr.rv;split <;> rfl
 have hnil:∀ w9:World,∃ F',Owned w9 (.slice p 0 cap) t.turT.subs F'∧∀ b,b ∈ F'→b ∈ F:=fun w9=>⟨[],by rw [hsub];exact .nil _ _,fun b hb=>(by cases hb)⟩
 have HNIL:=Lib.hid hnil;have HGW:=Lib.hid hgw
 have HRV:=Lib.hid (turev_nil p cap)
 have f0:=frozen_of (o:=o) hcel
 clear hcel hsub hnil hgw
 by_cases h3:t.kind=3
 · rw [h3] at c0
   have c5b:(w.setCell ⟨g,o,none⟩ (.int .i64 4)).cell? ⟨g,o+5,none⟩=some (.slice p 0 cap):=(tu_cell_out (by omega)).trans c5
   go_enter Try.func15,Try.ntmps15
   go_wp2
   go_loopw [29] (fun iv wr=>iv=.int .i64 0∧Hid (Below (w.setCell ⟨g,o,none⟩ (.int .i64 4)).heap.size (w.setCell ⟨g,o,none⟩ (.int .i64 4)) wr)) (fun _ _=>0)
   case atStart=>exact ⟨rfl,Lib.hid (Below.refl _ _)⟩
   case round =>
     obtain ⟨rfl,HB⟩:=hrel
     go_wp2
     go_end0
     have hg:wr.heap[g]? = (w.setCell ⟨g,o,none⟩ (.int .i64 4)).heap[g]?:=HB.out.block g (by simp [World.setCell];exact HGW.out)
     refine ⟨rfl, ?_,HNIL.out _,(Touch.setCells (Touch.of_below (g :: F) (Below.refl _ _)) List.mem_cons_self o [.int .i64 4]).trans (Touch.of_below _ HB.out),(ButCell.set g o w _).trans (ButCell.of_heap hg)⟩
     exact TenAt.alike (u:=t.turT) ((HTEN.out.withK HCEL.out 4).keep hg) (by rw [Tr.turT_kind,h3];rfl) (by rw [Tr.turT_w0];rfl) (by rw [Tr.turT_w1];rfl) (by rw [Tr.turT_w2];rfl) (by rw [Tr.turT_w3];rfl) (by rw [Tr.turT_num];rfl) (by rw [Tr.turT_least];rfl) (by rw [Tr.turT_most];rfl) (by rw [Tr.turT_bare];rfl)
 by_cases h4:t.kind=4
 · rw [h4] at c0
   have c5b:(w.setCell ⟨g,o,none⟩ (.int .i64 3)).cell? ⟨g,o+5,none⟩=some (.slice p 0 cap):=(tu_cell_out (by omega)).trans c5
   go_enter Try.func15,Try.ntmps15
   go_wp2
   go_loopw [29] (fun iv wr=>iv=.int .i64 0∧Hid (Below (w.setCell ⟨g,o,none⟩ (.int .i64 3)).heap.size (w.setCell ⟨g,o,none⟩ (.int .i64 3)) wr)) (fun _ _=>0)
   case atStart=>exact ⟨rfl,Lib.hid (Below.refl _ _)⟩
   case round =>
     obtain ⟨rfl,HB⟩:=hrel
     go_wp2
     go_end0
     have hg:wr.heap[g]? = (w.setCell ⟨g,o,none⟩ (.int .i64 3)).heap[g]?:=HB.out.block g (by simp [World.setCell];exact HGW.out)
     refine ⟨rfl, ?_,HNIL.out _,(Touch.setCells (Touch.of_below (g :: F) (Below.refl _ _)) List.mem_cons_self o [.int .i64 3]).trans (Touch.of_below _ HB.out),(ButCell.set g o w _).trans (ButCell.of_heap hg)⟩
     exact TenAt.alike (u:=t.turT) ((HTEN.out.withK HCEL.out 3).keep hg) (by rw [Tr.turT_kind,h4];rfl) (by rw [Tr.turT_w0];rfl) (by rw [Tr.turT_w1];rfl) (by rw [Tr.turT_w2];rfl) (by rw [Tr.turT_w3];rfl) (by rw [Tr.turT_num];rfl) (by rw [Tr.turT_least];rfl) (by rw [Tr.turT_most];rfl) (by rw [Tr.turT_bare];rfl)
 have hkk:t.turT.kind=t.kind:=by rw [Tr.turT_kind];unfold Tr.turK;rw [if_neg h3,if_neg h4]
 have HKK:=Lib.hid hkk
 have e3:(t.kind == 3)=false:=by simpa using h3
 have e4:(t.kind == 4)=false:=by simpa using h4
 clear hkk h3 h4
 have fin:∀ wr,Below w.heap.size w wr→TurnEnd g o t (.slice p 0 cap) F w (.returned (.tuple #[])) wr:=fun wr hb=>by
   have hg:wr.heap[g]? = w.heap[g]?:=hb.block g HGW.out
   exact ⟨rfl,TenAt.alike (u:=t.turT) (HTEN.out.keep hg) HKK.out.symm (by rw [Tr.turT_w0]) (by rw [Tr.turT_w1]) (by rw [Tr.turT_w2]) (by rw [Tr.turT_w3]) (by rw [Tr.turT_num]) (by rw [Tr.turT_least]) (by rw [Tr.turT_most]) (by rw [Tr.turT_bare]),HNIL.out _,Touch.of_below _ hb,ButCell.of_heap hg⟩
 have FIN:=Lib.hid fin
 clear fin
 by_cases h5:t.kind=5
 · have e5:(t.kind == 5)=true:=by simpa using h5
   clear h5
   go_enter Try.func15,Try.ntmps15
   go_wp2_with fail
   clear c0 c5
   refine (HRV.out w).mono ?_
   rintro e w1 ⟨rfl,hb⟩
   have c5:w1.cell? ⟨g,o+5,none⟩=some (.slice p 0 cap):=by
     have:=HTEN.out.c5;unfold World.cell? at this ⊢;rw [hb.block g HGW.out];exact this
   have HB1:=Lib.hid hb
   clear hb
   go_wp2
   go_loopw [29] (fun iv wr=>iv=.int .i64 0∧Hid (Below w.heap.size w wr)) (fun _ _=>0)
   case atStart=>exact ⟨rfl,HB1⟩
   case round =>
     obtain ⟨rfl,HB⟩:=hrel
     go_wp2
     go_end0
     exact FIN.out _ HB.out
 · have e5:(t.kind == 5)=false:=by simpa using h5
   clear h5
   go_enter Try.func15,Try.ntmps15
   go_wp2
   go_loopw [29] (fun iv wr=>iv=.int .i64 0∧Hid (Below w.heap.size w wr)) (fun _ _=>0)
   case atStart=>exact ⟨rfl,Lib.hid (Below.refl _ _)⟩
   case round =>
     obtain ⟨rfl,HB⟩:=hrel
     go_wp2
     go_end0
     exact FIN.out _ HB.out
theorem tuturn_any (t:Tr):∀ (w:World) (g o:Nat) (s:Value) (F:List Nat),TreeIn w g o t s F→Calls Try.prog 15 #[.pointer (some ⟨g,o,none⟩)] w (TurnEnd g o t s F w):=by
 induction t using Tr.rec_subs with
 | h t ih =>
   intro w g o s F ⟨hten,hown,hout,hcel⟩
   generalize hts:t.subs=ts at hown
   cases hown with
   | nil p cap=>exact tuturn_nil t hts w g o cap p [] hten hcel
   | row g0 o0 cap _ S L hlen hf hc hs hgL hd =>
     subst hts
     have hslc:∀ i,i < t.subs.length→∃ p l c,S i=.slice p l c:=fun i hi=>by
       obtain ⟨q,c,e,-⟩:=(hs i _ (List.getElem?_eq_getElem hi)).slice
       exact ⟨_,_,_,e⟩
     have hrow:RowTo w g0 o0 0 t.subs S L:=⟨fun j u hj=>by omega,fun j u _ hu=>⟨hc j u hu,hs j u hu⟩,hf⟩
     by_cases h5:t.kind=5
     · exact tuturn_seq t h5 w g o g0 o0 cap S L ih hten hcel hlen hrow hslc hgL hd hout
     by_cases h3:t.kind=3
     · exact tuturn_beg t h3 w g o g0 o0 cap S L ih hten hcel hlen hrow hslc hgL hd hout
     by_cases h4:t.kind=4
     · exact tuturn_fin t h4 w g o g0 o0 cap S L ih hten hcel hlen hrow hslc hgL hd hout
     exact tuturn_other t h5 h3 h4 w g o g0 o0 cap S L ih hten hcel hlen hrow hslc hgL hd hout
end Go.Proofs.Ytedjkbmfpjmlpaa
namespace Go.Proofs.Ytedjkbmfpjmlpaa
open Go.RowKit
theorem part0 (a b c d:Value) (w:World):(Go.part 22 #[a,b,c,d] 0).run Try.prog w=.ok a w:=by kernel_rfl
theorem part1 (a b c d:Value) (w:World):(Go.part 22 #[a,b,c,d] 1).run Try.prog w=.ok b w:=by kernel_rfl
theorem part2 (a b c d:Value) (w:World):(Go.part 22 #[a,b,c,d] 2).run Try.prog w=.ok c w:=by kernel_rfl
theorem part3 (a b c d:Value) (w:World):(Go.part 22 #[a,b,c,d] 3).run Try.prog w=.ok d w:=by kernel_rfl
theorem eqi (a b:Int) (w:World):(Op.equalIn 9999 22 (.int .u64 a) (.int .u64 b)).run Try.prog w=.ok (a == b) w:=run_equalIn_int w 9998 22 .u64 .u64 a b Try.underlying22
theorem eq4 (a b c d a' b' c' d':Int) (w:World):(Op.equalIn 10000 24 (.agg #[.int .u64 a,.int .u64 b,.int .u64 c,.int .u64 d]) (.agg #[.int .u64 a',.int .u64 b',.int .u64 c',.int .u64 d'])).run Try.prog w=.ok (a == a' && (b == b' && (c == c' && d == d'))) w:=by
 have h0:=run_underlying (P:=Try.prog) (w:=w) Try.underlying24
 unfold Op.equalIn
 simp only [Sem.run_bind,h0,Result.andThen_ok]
 simp
 rw [show List.range' 0 4=[0,1,2,3] from rfl]
 simp only [List.forIn_cons,List.forIn_nil,Sem.run_bind,part0,eqi,Result.andThen_ok]
 by_cases h1:a=a'
 · by_cases h2:b=b'
   · by_cases h3:c=c'
     · by_cases h4:d=d' <;> simp [h1,h2,h3,h4,part1,part2,part3,eqi]
     · simp [h1,h2,h3,part1,part2,eqi]
   · simp [h1,h2,part1,eqi]
 · simp [h1]
end Go.Proofs.Ytedjkbmfpjmlpaa
namespace Go.Proofs.Ytedjkbmfpjmlpaa
open Go.RowKit
def SameEnd (t u:Tr) (w:World) (e:Ending) (w':World):Prop:=∃ b:Bool,e=.returned (.bool b)∧(b=true ↔ t=u)∧Below w.heap.size w w'
theorem sameEnd_no {t u:Tr} {w w':World} (h:t ≠ u) (hb:Below w.heap.size w w'):SameEnd t u w (.returned (.bool false)) w':=⟨false,rfl,⟨fun h=>(by cases h),fun e=>absurd e h⟩,hb⟩
theorem sameEnd_yes {t u:Tr} {w w':World} (h:t=u) (hb:Below w.heap.size w w'):SameEnd t u w (.returned (.bool true)) w':=⟨true,rfl,⟨fun _=>h,fun _=>rfl⟩,hb⟩
theorem SameEnd.yes {t u:Tr} {w w':World} {e:Ending} (h:SameEnd t u w e w') (ht:t=u):e=.returned (.bool true)∧Below w.heap.size w w':=by
 obtain ⟨b,rfl,hb,hw⟩:=h;rw [hb.2 ht];exact ⟨rfl,hw⟩
theorem SameEnd.no {t u:Tr} {w w':World} {e:Ending} (h:SameEnd t u w e w') (ht:t ≠ u):e=.returned (.bool false)∧Below w.heap.size w w':=by
 obtain ⟨b,rfl,hb,hw⟩:=h
 cases b with
 | false=>exact ⟨rfl,hw⟩
 | true=>exact absurd (hb.1 rfl) ht
theorem U_ne {a b c d a' b' c' d':BitVec 64} (h:¬ (a=a'∧b=b'∧c=c'∧d=d')):(Oc.U a == Oc.U a' && (Oc.U b == Oc.U b' && (Oc.U c == Oc.U c' && Oc.U d == Oc.U d')))=false:=by
 cases hb:(Oc.U a == Oc.U a' && (Oc.U b == Oc.U b' && (Oc.U c == Oc.U c' && Oc.U d == Oc.U d'))) with
 | false=>rfl
 | true =>
   simp only [Bool.and_eq_true,beq_iff_eq] at hb
   exact absurd ⟨Oc.U_inj hb.1,Oc.U_inj hb.2.1,Oc.U_inj hb.2.2.1,Oc.U_inj hb.2.2.2⟩ h
theorem field5 {w:World} {b:Nat} {x0 x1 x2 x3 x4 x5 x6 x7 x8 x9:Value} {t:TypeId} (h:w.heap[b]? = some (.cells #[x0,x1,x2,x3,x4,x5,x6,x7,x8,x9] t)):w.cell? ⟨b,5,none⟩=some x5:=by
 simp [World.cell?,h]
theorem samenodes_any:∀ t u:Tr,∀ (w:World) (B C:Nat→Prop) (va vb:Value),NodeV w B va t→NodeV w C vb u →
   Calls Try.prog 9 #[va,vb] w (SameEnd t u w):=by
 intro t
 induction t using Tr.rec_subs with
 | h t ih =>
   intro u w B C va vb ha hb
   obtain ⟨sa,rfl,hsa⟩:=ha
   obtain ⟨sb,rfl,hsb⟩:=hb
   obtain ⟨p,cap,rfl,hla⟩:=hsa.slice
   obtain ⟨q,cbp,rfl,hlb⟩:=hsb.slice
   have he:=eq4
   cases t with | node k a b c d ts n lo hi br =>
   cases u with | node k' a' b' c' d' us n' lo' hi' br' =>
   simp only [Tr.cells,Tr.kind,Tr.w0,Tr.w1,Tr.w2,Tr.w3,Tr.num,Tr.least,Tr.most,Tr.bare,Tr.subs] at *
   have IH:=Lib.hid ih
   clear ih
   by_cases hx:k=k'
   case neg =>
     have HN:=Lib.hid (show Tr.node k a b c d ts n lo hi br ≠ .node k' a' b' c' d' us n' lo' hi' br' from fun h=>by cases h;exact hx rfl)
     have e1:(k != k')=true:=by simpa using hx
     clear hx
     go_enter Try.func9,Try.ntmps9
     go_wp2
     go_ret
     exact sameEnd_no HN.out (by go_grown)
   obtain rfl:=hx
   by_cases hx:a=a'∧b=b'∧c=c'∧d=d'
   case neg =>
     have HN:=Lib.hid (show Tr.node k a b c d ts n lo hi br ≠ .node k a' b' c' d' us n' lo' hi' br' from fun h=>by cases h;exact hx ⟨rfl,rfl,rfl,rfl⟩)
     have e2:=U_ne hx
     clear hx
     go_enter Try.func9,Try.ntmps9
     go_wp2
     go_ret
     exact sameEnd_no HN.out (by go_grown)
   obtain ⟨rfl,rfl,rfl,rfl⟩:=hx
   by_cases hx:n=n'
   case neg =>
     have HN:=Lib.hid (show Tr.node k a b c d ts n lo hi br ≠ .node k a b c d us n' lo' hi' br' from fun h=>by cases h;exact hx rfl)
     have e1:(n != n')=true:=by simpa using hx
     clear hx
     go_enter Try.func9,Try.ntmps9
     go_wp2
     go_ret
     exact sameEnd_no HN.out (by go_grown)
   obtain rfl:=hx
   by_cases hx:lo=lo'
   case neg =>
     have HN:=Lib.hid (show Tr.node k a b c d ts n lo hi br ≠ .node k a b c d us n lo' hi' br' from fun h=>by cases h;exact hx rfl)
     have e1:(lo != lo')=true:=by simpa using hx
     clear hx
     go_enter Try.func9,Try.ntmps9
     go_wp2
     go_ret
     exact sameEnd_no HN.out (by go_grown)
   obtain rfl:=hx
   by_cases hx:hi=hi'
   case neg =>
     have HN:=Lib.hid (show Tr.node k a b c d ts n lo hi br ≠ .node k a b c d us n lo hi' br' from fun h=>by cases h;exact hx rfl)
     have e1:(hi != hi')=true:=by simpa using hx
     clear hx
     go_enter Try.func9,Try.ntmps9
     go_wp2
     go_ret
     exact sameEnd_no HN.out (by go_grown)
   obtain rfl:=hx
   by_cases hx:br=br'
   case neg =>
     have HN:=Lib.hid (show Tr.node k a b c d ts n lo hi br ≠ .node k a b c d us n lo hi br' from fun h=>by cases h;exact hx rfl)
     have hbb:(br=true∧br'=false) ∨ (br=false∧br'=true):=by cases br <;> cases br' <;> simp at hx ⊢
     clear hx
     rcases hbb with ⟨rfl,rfl⟩ | ⟨rfl,rfl⟩
     all_goals
       go_enter Try.func9,Try.ntmps9
       go_wp2
       go_ret
       exact sameEnd_no HN.out (by go_grown)
   obtain rfl:=hx
   by_cases hx:ts.length=us.length
   case neg =>
     have HN:=Lib.hid (show Tr.node k a b c d ts n lo hi br ≠ .node k a b c d us n lo hi br from fun h=>by cases h;exact hx rfl)
     have e1:((ts.length:Int) != (us.length:Int))=true:=by simp;omega
     have e2:(ts.length != us.length)=true:=by simpa using hx
     have e3:(ts.length == us.length)=false:=by simpa using hx
     clear hx
     go_enter Try.func9,Try.ntmps9
     go_wp2
     go_ret
     exact sameEnd_no HN.out (by go_grown)
   have hlen:us.length=ts.length:=hx.symm
   clear hx
   have HSA:=Lib.hid hsa;have HSB:=Lib.hid hsb
   clear hsa hsb
   rw [hlen] at HSB hlb ⊢
   go_enter Try.func9,Try.ntmps9
   go_wp2
   go_loopw [58] (fun iv wr=>∃ m:Nat,iv=.int .i64 m∧m ≤ ts.length∧Hid (∀ j,j < m→ts[j]? = us[j]?)∧Below w.heap.size w wr∧w.heap.size+1 < wr.heap.size ∧
     wr.heap[w.heap.size]? = some (.cells #[.int .i64 k,.int .u64 (Oc.U a),.int .u64 (Oc.U b),.int .u64 (Oc.U c),.int .u64 (Oc.U d),.slice p ts.length cap,.int .i64 n,.int .i64 lo,.int .i64 hi,.bool br] 27)∧wr.heap[w.heap.size+1]? = some (.cells #[.int .i64 k,.int .u64 (Oc.U a),.int .u64 (Oc.U b),.int .u64 (Oc.U c),.int .u64 (Oc.U d),.slice q ts.length cbp,.int .i64 n,.int .i64 lo,.int .i64 hi,.bool br] 27)) (fun iv _=>ts.length - (intOf iv).toNat)
   case atStart=>exact ⟨0,rfl,Nat.zero_le _,Lib.hid (fun j hj=>absurd hj (Nat.not_lt_zero _)),by go_grown,by simp,(two_new _ _ _).1,(two_new _ _ _).2⟩
   case round =>
     obtain ⟨m,rfl,hm,hall,hbel,hsz,z2,z3⟩:=hrel
     have Z2:=Lib.hid z2;have Z3:=Lib.hid z3;have HB:=Lib.hid hbel
     clear z2 z3 hbel
     have wm:IntKind.i64.wrap ((m:Int)+1)=(m:Int)+1:=IntWalk.i64_in _ (by omega)
     by_cases hlt:m < ts.length
     · obtain ⟨x,hx⟩:∃ x,ts[m]? = some x:=⟨_,List.getElem?_eq_getElem hlt⟩
       obtain ⟨y,hy⟩:∃ y,us[m]? = some y:=⟨_,List.getElem?_eq_getElem (by omega)⟩
       obtain ⟨b1,o1,s1,rfl,-,t1,sub1⟩:=HSA.out.get hx
       obtain ⟨b2,o2,s2,rfl,-,t2,sub2⟩:=HSB.out.get hy
       have T1:=Lib.hid t1;have T2:=Lib.hid t2
       have l1:=t1.lt;have l2:=t2.lt
       have HS:=Lib.hid (fun w9 (hb:Below wr.heap.size wr w9)=>IH.out x (List.mem_of_getElem? hx) y w9 B C (.agg #[.int .i64 x.kind,.int .u64 (Oc.U x.w0),.int .u64 (Oc.U x.w1),.int .u64 (Oc.U x.w2),.int .u64 (Oc.U x.w3),s1,.int .i64 x.num,.int .i64 x.least,.int .i64 x.most,.bool x.bare]) (.agg #[.int .i64 y.kind,.int .u64 (Oc.U y.w0),.int .u64 (Oc.U y.w1),.int .u64 (Oc.U y.w2),.int .u64 (Oc.U y.w3),s2,.int .i64 y.num,.int .i64 y.least,.int .i64 y.most,.bool y.bare]) ⟨s1,rfl,sub1.later (HB.out.trans (hb.mono HB.out.size))⟩ ⟨s2,rfl,sub2.later (HB.out.trans (hb.mono HB.out.size))⟩)
       clear t1 t2 sub1 sub2
       have HX:=Lib.hid hx;have HY:=Lib.hid hy
       clear hx hy
       by_cases heq:x=y
       · have HQ:=Lib.hid heq
         clear heq
         go_wp2
         refine Ri.wp_region_frame (by kernel_rfl) (by kernel_rfl) (by kernel_rfl) (by kernel_rfl)
           (fun L v w'=>Below wr.heap.size wr w'∧(L 0=true→v 0=.pointer (some ⟨w.heap.size,5,none⟩))∧(L 1=true→v 1=.slice (some ⟨b1,o1,none⟩) ts.length cap)∧(L 2=true→v 2=.int .i64 m)∧(L 3=true→v 3=.pointer (some ⟨b1,o1+m * 10,none⟩))∧(L 4=true→v 4=.agg #[.int .i64 x.kind,.int .u64 (Oc.U x.w0),.int .u64 (Oc.U x.w1),.int .u64 (Oc.U x.w2),.int .u64 (Oc.U x.w3),s1,.int .i64 x.num,.int .i64 x.least,.int .i64 x.most,.bool x.bare])∧(L 5=true→v 5=.pointer (some ⟨w.heap.size+1,5,none⟩))∧(L 6=true→v 6=.slice (some ⟨b2,o2,none⟩) ts.length cbp)∧(L 7=true→v 7=.int .i64 m)∧(L 8=true→v 8=.pointer (some ⟨b2,o2+m * 10,none⟩))∧(L 9=true→v 9=.agg #[.int .i64 y.kind,.int .u64 (Oc.U y.w0),.int .u64 (Oc.U y.w1),.int .u64 (Oc.U y.w2),.int .u64 (Oc.U y.w3),s2,.int .i64 y.num,.int .i64 y.least,.int .i64 y.most,.bool y.bare])∧(L 10=true→v 10=.bool true)∧(L 11=true→v 11=.bool false))
           ?_ ?_ ?_
         · exact ⟨(Below.refl _ _).drew,by simp,by simp,by simp,by simp,by simp,by simp,by simp,by simp,by simp,by simp,by simp,by simp⟩
         · intro i hi9 L v w9 xa hI hL hd hv ho
           have hi':i=0 ∨ i=1 ∨ i=2 ∨ i=3 ∨ i=4 ∨ i=5 ∨ i=6 ∨ i=7 ∨ i=8 ∨ i=9 ∨ i=10 ∨ i=11:=by simp at hi9;omega
           obtain ⟨hb,q0,q1,q2,q3,q4,q5,q6,q7,q8,q9,q10,q11⟩:=hI
           rcases hi' with rfl | rfl | rfl | rfl | rfl | rfl | rfl | rfl | rfl | rfl | rfl | rfl
           · have e2:xa.tmps.getD 2 undef=.pointer (some ⟨w.heap.size,0,none⟩):=ho 2 (by kernel_rfl)
             refine Ri.step_plain rfl rfl (fun K' hK=>?_)
             go_simp
             exact hK _ _ ⟨_,_,rfl,rfl,hb,fun _=>rfl,q1,q2,q3,q4,q5,q6,q7,q8,q9,q10,q11⟩
           · have l0:L 0=true:=by have:=hd _ rfl;simp [Region.binds] at this;simp [this]
             have f0:=(hv 0 61 rfl l0).trans (q0 l0)
             refine Ri.step_plain rfl rfl (fun K' hK=>?_)
             obtain c5:=field5 (keep_blk hb Z2.out)
             go_simp
             exact hK _ _ ⟨_,_,rfl,rfl,hb,q0,fun _=>rfl,q2,q3,q4,q5,q6,q7,q8,q9,q10,q11⟩
           · have e5:xa.tmps.getD 5 undef=.int .i64 m:=ho 5 (by kernel_rfl)
             refine Ri.step_plain rfl rfl (fun K' hK=>?_)
             go_simp
             exact hK _ _ ⟨_,_,rfl,rfl,hb,q0,q1,fun _=>rfl,q3,q4,q5,q6,q7,q8,q9,q10,q11⟩
           · have l0:L 1=true∧L 2=true:=by have:=hd _ rfl;simp [Region.binds] at this;simp [this]
             have f1:=(hv 1 62 rfl l0.1).trans (q1 l0.1)
             have f2:=(hv 2 63 rfl l0.2).trans (q2 l0.2)
             refine Ri.step_plain rfl rfl (fun K' hK=>?_)
             go_simp
             exact hK _ _ ⟨_,_,rfl,rfl,hb,q0,q1,q2,fun _=>rfl,q4,q5,q6,q7,q8,q9,q10,q11⟩
           · have l0:L 3=true:=by have:=hd _ rfl;simp [Region.binds] at this;simp [this]
             have f3:=(hv 3 64 rfl l0).trans (q3 l0)
             refine Ri.step_plain rfl rfl (fun K' hK=>?_)
             obtain ⟨d0,d1,d2,d3,d4,d5,d6,d7,d8,d9⟩:=(T1.out.keep ((HB.out.trans (hb.mono HB.out.size)).block _ l1))
             go_simp
             exact hK _ _ ⟨_,_,rfl,rfl,hb,q0,q1,q2,q3,fun _=>rfl,q5,q6,q7,q8,q9,q10,q11⟩
           · have e3:xa.tmps.getD 3 undef=.pointer (some ⟨w.heap.size+1,0,none⟩):=ho 3 (by kernel_rfl)
             refine Ri.step_plain rfl rfl (fun K' hK=>?_)
             go_simp
             exact hK _ _ ⟨_,_,rfl,rfl,hb,q0,q1,q2,q3,q4,fun _=>rfl,q6,q7,q8,q9,q10,q11⟩
           · have l0:L 5=true:=by have:=hd _ rfl;simp [Region.binds] at this;simp [this]
             have f5:=(hv 5 66 rfl l0).trans (q5 l0)
             refine Ri.step_plain rfl rfl (fun K' hK=>?_)
             obtain c5:=field5 (keep_blk hb Z3.out)
             go_simp
             exact hK _ _ ⟨_,_,rfl,rfl,hb,q0,q1,q2,q3,q4,q5,fun _=>rfl,q7,q8,q9,q10,q11⟩
           · have e5:xa.tmps.getD 5 undef=.int .i64 m:=ho 5 (by kernel_rfl)
             refine Ri.step_plain rfl rfl (fun K' hK=>?_)
             go_simp
             exact hK _ _ ⟨_,_,rfl,rfl,hb,q0,q1,q2,q3,q4,q5,q6,fun _=>rfl,q8,q9,q10,q11⟩
           · have l0:L 6=true∧L 7=true:=by have:=hd _ rfl;simp [Region.binds] at this;simp [this]
             have f6:=(hv 6 67 rfl l0.1).trans (q6 l0.1)
             have f7:=(hv 7 68 rfl l0.2).trans (q7 l0.2)
             refine Ri.step_plain rfl rfl (fun K' hK=>?_)
             go_simp
             exact hK _ _ ⟨_,_,rfl,rfl,hb,q0,q1,q2,q3,q4,q5,q6,q7,fun _=>rfl,q9,q10,q11⟩
           · have l0:L 8=true:=by have:=hd _ rfl;simp [Region.binds] at this;simp [this]
             have f8:=(hv 8 69 rfl l0).trans (q8 l0)
             refine Ri.step_plain rfl rfl (fun K' hK=>?_)
             obtain ⟨d0,d1,d2,d3,d4,d5,d6,d7,d8,d9⟩:=(T2.out.keep ((HB.out.trans (hb.mono HB.out.size)).block _ l2))
             go_simp
             exact hK _ _ ⟨_,_,rfl,rfl,hb,q0,q1,q2,q3,q4,q5,q6,q7,q8,fun _=>rfl,q10,q11⟩
           · have l0:L 4=true∧L 9=true:=by have:=hd _ rfl;simp [Region.binds] at this;simp [this]
             have f4:=(hv 4 65 rfl l0.1).trans (q4 l0.1)
             have f9:=(hv 9 70 rfl l0.2).trans (q9 l0.2)
             refine Ri.step_plain rfl rfl (fun K' hK=>?_)
             go_simp
             refine ((HS.out _ hb).mono fun _ _ h=>h.yes HQ.out).mono ?_
             rintro e w8 ⟨rfl,hb8⟩
             exact hK _ _ ⟨_,_,rfl,rfl,hb.trans (hb8.mono hb.size),q0,q1,q2,q3,q4,q5,q6,q7,q8,q9,fun _=>rfl,q11⟩
           · have l0:L 10=true:=by have:=hd _ rfl;simp [Region.binds] at this;simp [this]
             have f10:=(hv 10 71 rfl l0).trans (q10 l0)
             refine Ri.step_plain rfl rfl (fun K' hK=>?_)
             go_simp
             exact hK _ _ ⟨_,_,rfl,rfl,hb,q0,q1,q2,q3,q4,q5,q6,q7,q8,q9,q10,fun _=>rfl⟩
         · rintro v w9 ⟨hb,-,-,-,-,-,-,-,-,-,-,-,q11⟩
           have q11':v 11=.bool false:=q11 rfl
           simp only [Ri.frame,List.zipIdx,List.foldl_cons,List.foldl_nil,if_true,List.setIfInBounds_toArray,List.set_cons_zero,List.set_cons_succ,Nat.reduceAdd,q11']
           clear q11 q11'
           generalize v 0=y0;generalize v 1=y1;generalize v 2=y2;generalize v 3=y3;generalize v 4=y4;generalize v 5=y5;generalize v 6=y6;generalize v 7=y7;generalize v 8=y8;generalize v 9=y9;generalize v 10=y10
           have Y2:=keep_blk hb Z2.out;have Y3:=keep_blk hb Z3.out;have HB9:=HB.out.trans (hb.mono HB.out.size);have hz9:=hb.size
           have W2:=Lib.hid Y2;have W3:=Lib.hid Y3;have HB10:=Lib.hid HB9
           clear hb Y2 Y3 HB9
           go_wp2
           exact ⟨⟨m+1,by go_num,by omega,Lib.hid (fun j hj=>by
             by_cases hjm:j=m
             · rw [hjm,HX.out,HY.out,HQ.out]
             · exact hall.out j (by omega)),HB10.out,by omega,W2.out,W3.out⟩,by simp [intOf];omega⟩
       · have HQ:=Lib.hid heq
         clear heq
         go_wp2
         refine Ri.wp_region_frame (by kernel_rfl) (by kernel_rfl) (by kernel_rfl) (by kernel_rfl)
           (fun L v w'=>Below wr.heap.size wr w'∧(L 0=true→v 0=.pointer (some ⟨w.heap.size,5,none⟩))∧(L 1=true→v 1=.slice (some ⟨b1,o1,none⟩) ts.length cap)∧(L 2=true→v 2=.int .i64 m)∧(L 3=true→v 3=.pointer (some ⟨b1,o1+m * 10,none⟩))∧(L 4=true→v 4=.agg #[.int .i64 x.kind,.int .u64 (Oc.U x.w0),.int .u64 (Oc.U x.w1),.int .u64 (Oc.U x.w2),.int .u64 (Oc.U x.w3),s1,.int .i64 x.num,.int .i64 x.least,.int .i64 x.most,.bool x.bare])∧(L 5=true→v 5=.pointer (some ⟨w.heap.size+1,5,none⟩))∧(L 6=true→v 6=.slice (some ⟨b2,o2,none⟩) ts.length cbp)∧(L 7=true→v 7=.int .i64 m)∧(L 8=true→v 8=.pointer (some ⟨b2,o2+m * 10,none⟩))∧(L 9=true→v 9=.agg #[.int .i64 y.kind,.int .u64 (Oc.U y.w0),.int .u64 (Oc.U y.w1),.int .u64 (Oc.U y.w2),.int .u64 (Oc.U y.w3),s2,.int .i64 y.num,.int .i64 y.least,.int .i64 y.most,.bool y.bare])∧(L 10=true→v 10=.bool false)∧(L 11=true→v 11=.bool true))
           ?_ ?_ ?_
         · exact ⟨(Below.refl _ _).drew,by simp,by simp,by simp,by simp,by simp,by simp,by simp,by simp,by simp,by simp,by simp,by simp⟩
         · intro i hi9 L v w9 xa hI hL hd hv ho
           have hi':i=0 ∨ i=1 ∨ i=2 ∨ i=3 ∨ i=4 ∨ i=5 ∨ i=6 ∨ i=7 ∨ i=8 ∨ i=9 ∨ i=10 ∨ i=11:=by simp at hi9;omega
           obtain ⟨hb,q0,q1,q2,q3,q4,q5,q6,q7,q8,q9,q10,q11⟩:=hI
           rcases hi' with rfl | rfl | rfl | rfl | rfl | rfl | rfl | rfl | rfl | rfl | rfl | rfl
           · have e2:xa.tmps.getD 2 undef=.pointer (some ⟨w.heap.size,0,none⟩):=ho 2 (by kernel_rfl)
             refine Ri.step_plain rfl rfl (fun K' hK=>?_)
             go_simp
             exact hK _ _ ⟨_,_,rfl,rfl,hb,fun _=>rfl,q1,q2,q3,q4,q5,q6,q7,q8,q9,q10,q11⟩
           · have l0:L 0=true:=by have:=hd _ rfl;simp [Region.binds] at this;simp [this]
             have f0:=(hv 0 61 rfl l0).trans (q0 l0)
             refine Ri.step_plain rfl rfl (fun K' hK=>?_)
             obtain c5:=field5 (keep_blk hb Z2.out)
             go_simp
             exact hK _ _ ⟨_,_,rfl,rfl,hb,q0,fun _=>rfl,q2,q3,q4,q5,q6,q7,q8,q9,q10,q11⟩
           · have e5:xa.tmps.getD 5 undef=.int .i64 m:=ho 5 (by kernel_rfl)
             refine Ri.step_plain rfl rfl (fun K' hK=>?_)
             go_simp
             exact hK _ _ ⟨_,_,rfl,rfl,hb,q0,q1,fun _=>rfl,q3,q4,q5,q6,q7,q8,q9,q10,q11⟩
           · have l0:L 1=true∧L 2=true:=by have:=hd _ rfl;simp [Region.binds] at this;simp [this]
             have f1:=(hv 1 62 rfl l0.1).trans (q1 l0.1)
             have f2:=(hv 2 63 rfl l0.2).trans (q2 l0.2)
             refine Ri.step_plain rfl rfl (fun K' hK=>?_)
             go_simp
             exact hK _ _ ⟨_,_,rfl,rfl,hb,q0,q1,q2,fun _=>rfl,q4,q5,q6,q7,q8,q9,q10,q11⟩
           · have l0:L 3=true:=by have:=hd _ rfl;simp [Region.binds] at this;simp [this]
             have f3:=(hv 3 64 rfl l0).trans (q3 l0)
             refine Ri.step_plain rfl rfl (fun K' hK=>?_)
             obtain ⟨d0,d1,d2,d3,d4,d5,d6,d7,d8,d9⟩:=(T1.out.keep ((HB.out.trans (hb.mono HB.out.size)).block _ l1))
             go_simp
             exact hK _ _ ⟨_,_,rfl,rfl,hb,q0,q1,q2,q3,fun _=>rfl,q5,q6,q7,q8,q9,q10,q11⟩
           · have e3:xa.tmps.getD 3 undef=.pointer (some ⟨w.heap.size+1,0,none⟩):=ho 3 (by kernel_rfl)
             refine Ri.step_plain rfl rfl (fun K' hK=>?_)
             go_simp
             exact hK _ _ ⟨_,_,rfl,rfl,hb,q0,q1,q2,q3,q4,fun _=>rfl,q6,q7,q8,q9,q10,q11⟩
           · have l0:L 5=true:=by have:=hd _ rfl;simp [Region.binds] at this;simp [this]
             have f5:=(hv 5 66 rfl l0).trans (q5 l0)
             refine Ri.step_plain rfl rfl (fun K' hK=>?_)
             obtain c5:=field5 (keep_blk hb Z3.out)
             go_simp
             exact hK _ _ ⟨_,_,rfl,rfl,hb,q0,q1,q2,q3,q4,q5,fun _=>rfl,q7,q8,q9,q10,q11⟩
           · have e5:xa.tmps.getD 5 undef=.int .i64 m:=ho 5 (by kernel_rfl)
             refine Ri.step_plain rfl rfl (fun K' hK=>?_)
             go_simp
             exact hK _ _ ⟨_,_,rfl,rfl,hb,q0,q1,q2,q3,q4,q5,q6,fun _=>rfl,q8,q9,q10,q11⟩
           · have l0:L 6=true∧L 7=true:=by have:=hd _ rfl;simp [Region.binds] at this;simp [this]
             have f6:=(hv 6 67 rfl l0.1).trans (q6 l0.1)
             have f7:=(hv 7 68 rfl l0.2).trans (q7 l0.2)
             refine Ri.step_plain rfl rfl (fun K' hK=>?_)
             go_simp
             exact hK _ _ ⟨_,_,rfl,rfl,hb,q0,q1,q2,q3,q4,q5,q6,q7,fun _=>rfl,q9,q10,q11⟩
           · have l0:L 8=true:=by have:=hd _ rfl;simp [Region.binds] at this;simp [this]
             have f8:=(hv 8 69 rfl l0).trans (q8 l0)
             refine Ri.step_plain rfl rfl (fun K' hK=>?_)
             obtain ⟨d0,d1,d2,d3,d4,d5,d6,d7,d8,d9⟩:=(T2.out.keep ((HB.out.trans (hb.mono HB.out.size)).block _ l2))
             go_simp
             exact hK _ _ ⟨_,_,rfl,rfl,hb,q0,q1,q2,q3,q4,q5,q6,q7,q8,fun _=>rfl,q10,q11⟩
           · have l0:L 4=true∧L 9=true:=by have:=hd _ rfl;simp [Region.binds] at this;simp [this]
             have f4:=(hv 4 65 rfl l0.1).trans (q4 l0.1)
             have f9:=(hv 9 70 rfl l0.2).trans (q9 l0.2)
             refine Ri.step_plain rfl rfl (fun K' hK=>?_)
             go_simp
             refine ((HS.out _ hb).mono fun _ _ h=>h.no HQ.out).mono ?_
             rintro e w8 ⟨rfl,hb8⟩
             exact hK _ _ ⟨_,_,rfl,rfl,hb.trans (hb8.mono hb.size),q0,q1,q2,q3,q4,q5,q6,q7,q8,q9,fun _=>rfl,q11⟩
           · have l0:L 10=true:=by have:=hd _ rfl;simp [Region.binds] at this;simp [this]
             have f10:=(hv 10 71 rfl l0).trans (q10 l0)
             refine Ri.step_plain rfl rfl (fun K' hK=>?_)
             go_simp
             exact hK _ _ ⟨_,_,rfl,rfl,hb,q0,q1,q2,q3,q4,q5,q6,q7,q8,q9,q10,fun _=>rfl⟩
         · rintro v w9 ⟨hb,-,-,-,-,-,-,-,-,-,-,-,q11⟩
           have q11':v 11=.bool true:=q11 rfl
           simp only [Ri.frame,List.zipIdx,List.foldl_cons,List.foldl_nil,if_true,List.setIfInBounds_toArray,List.set_cons_zero,List.set_cons_succ,Nat.reduceAdd,q11']
           clear q11 q11'
           generalize v 0=y0;generalize v 1=y1;generalize v 2=y2;generalize v 3=y3;generalize v 4=y4;generalize v 5=y5;generalize v 6=y6;generalize v 7=y7;generalize v 8=y8;generalize v 9=y9;generalize v 10=y10
           have HB10:=Lib.hid (HB.out.trans (hb.mono HB.out.size))
           clear hb
           go_wp2
           go_ret
           refine sameEnd_no (fun h=>?_) HB10.out
           have hts:ts=us:=by injection h
           have:=HX.out
           rw [hts,HY.out] at this
           exact HQ.out (Option.some.inj this).symm
     · obtain rfl:m=ts.length:=by omega
       have hts:ts=us:=List.ext_getElem? fun j=>by
         by_cases hj:j < ts.length
         · exact hall.out j hj
         · rw [List.getElem?_eq_none (by omega),List.getElem?_eq_none (by omega)]
       have HTS:=Lib.hid hts
       clear hts hlt
       go_wp2
       go_ret
       exact sameEnd_yes (by rw [HTS.out]) HB.out
end Go.Proofs.Ytedjkbmfpjmlpaa
namespace Go.Proofs.Ytedjkbmfpjmlpaa
open Go.RowKit
theorem allTen {w:World} {b:Nat} {x0 x1 x2 x3 x4 x5 x6 x7 x8 x9:Value} {t:TypeId} (h:w.heap[b]? = some (.cells #[x0,x1,x2,x3,x4,x5,x6,x7,x8,x9] t)):w.cell? ⟨b,0,none⟩=some x0∧w.cell? ⟨b,1,none⟩=some x1∧w.cell? ⟨b,2,none⟩=some x2∧w.cell? ⟨b,3,none⟩=some x3∧w.cell? ⟨b,4,none⟩=some x4∧w.cell? ⟨b,5,none⟩=some x5∧w.cell? ⟨b,6,none⟩=some x6∧w.cell? ⟨b,7,none⟩=some x7∧w.cell? ⟨b,8,none⟩=some x8∧w.cell? ⟨b,9,none⟩=some x9:=by
 simp [World.cell?,h]
end Go.Proofs.Ytedjkbmfpjmlpaa
namespace Go.Proofs.Ytedjkbmfpjmlpaa
open Go.RowKit
namespace Tr
def leaf (k:Int):Tr:=.node k 0#64 0#64 0#64 0#64 [] 0 0 0 false
def bytes (P:Nat→Bool):Tr:=.node 2 (Oc.mk P 0) (Oc.mk P 1) (Oc.mk P 2) (Oc.mk P 3) [] 0 0 0 false
def many (k:Int) (l:List Tr):Tr:=.node k 0#64 0#64 0#64 0#64 l 0 0 0 false
def several (k:Int):List Tr→Tr
 | []=>leaf 1
 | [t]=>t
 | l=>many k l
end Tr
theorem u0:Oc.U 0#64=0:=by decide
abbrev noNode:Array Value:=#[.int .i64 0,.int .u64 0,.int .u64 0,.int .u64 0,.int .u64 0,.slice none 0 0,.int .i64 0,.int .i64 0,.int .i64 0,.bool false]
theorem joined_many (k:Int) (ts:List Tr) (h2:2 ≤ ts.length) (x:Tr) (w:World) (B:Nat→Prop) (v:Value) (hs:TreesAt w B v ts) :
   Calls Try.prog 16 #[.int .i64 k,v,.agg (x.cells (.slice none 0 0))] w (OwnEnd (.many k ts) w):=by
 obtain ⟨p,cap,rfl,hlen⟩:=hs.slice
 have e0:((ts.length:Int) == 0)=false:=by rw [beq_eq_false_iff_ne];omega
 have e1:((ts.length:Int) == 1)=false:=by rw [beq_eq_false_iff_ne];omega
 have HC:=Lib.hid (fun w9 (hb:Below w.heap.size w w9)=>copies_any ts w9 B _ (hs.later hb))
 unfold Tr.cells
 clear hs
 go_enter Try.func16,Try.ntmps16
 go_wp2_with fail
 generalize hw1:World.alloc (World.alloc w _) _=w1
 have hb1:Below w.heap.size w w1:=by rw [← hw1];go_grown
 have hs1:w1.heap.size=w.heap.size+2:=by rw [← hw1];simp
 have Z1:=Lib.hid (show w1.heap[w.heap.size+1]? = some (.cells noNode 27) by rw [← hw1];exact (two_new w _ _).2)
 have HB1:=Lib.hid hb1
 clear hw1 hb1
 refine (HC.out w1 HB1.out).mono ?_
 rintro e w2 ⟨s2,F,rfl,ho,hF,hb2⟩
 obtain ⟨p2,c2,rfl,hl2⟩:=ho.slice
 have HO:=Lib.hid ho;have HF:=Lib.hid hF
 have Y1:=Lib.hid (keep_blk hb2 Z1.out)
 have HB2:=Lib.hid (HB1.out.trans (hb2.mono HB1.out.size))
 clear ho hF hb2
 go_wp2_with (first
   | (refine wpList_store_row rfl 27 (.tmp 6) (.tmp 21) rfl (w.heap.size+1) #[.int .i64 k,.int .u64 0,.int .u64 0,.int .u64 0,.int .u64 0,.slice p2 ts.length c2,.int .i64 0,.int .i64 0,.int .i64 0,.bool false] rfl rfl 27 _ Y1.out (by kernel_rfl) rfl (by simp [Value.oneCell']) ?_)
   | fail)
 refine bodyPost_ret (results_cell_row rfl _ _ (w.heap.size+1) 27 #[.int .i64 k,.int .u64 0,.int .u64 0,.int .u64 0,.int .u64 0,.slice p2 ts.length c2,.int .i64 0,.int .i64 0,.int .i64 0,.bool false] (0,0) _ rfl (heap_setRow Y1.out) Try.underlying27 rfl (by kernel_rfl)) rfl ⟨.slice p2 ts.length c2,F,rfl, ?_, ?_, ?_⟩
 · exact HO.out.keep fun b hb=>by have:=HF.out b hb;rw [heap_setRow_other _ _ _ (by omega)]
 · intro b hb;have:=HF.out b hb;omega
 · exact below_setRow HB2.out (Nat.le_succ _) _
theorem joined_one (k:Int) (t x:Tr) (w:World) (B:Nat→Prop) (v:Value) (hs:TreesAt w B v [t]) :
   Calls Try.prog 16 #[.int .i64 k,v,.agg (x.cells (.slice none 0 0))] w (OwnEnd t w):=by
 obtain ⟨p,cap,rfl,hlen⟩:=hs.slice
 have hs:TreesAt w B (.slice p 1 cap) [t]:=hs
 obtain ⟨b1,o1,s1,rfl,-,t1,sub1⟩:=hs.get (i:=0) (t:=t) rfl
 have t1':TenAt w b1 o1 t s1:=by simpa using t1
 have HC:=Lib.hid (fun w9 (hb:Below w.heap.size w w9)=>copy_any t w9 B _ ⟨s1,rfl,sub1.later hb⟩)
 have hb0:Below w.heap.size w ((w.alloc (.cells (x.cells (.slice none 0 0)) 27)).alloc (.cells noNode 27)):=by go_grown
 have T1:=Lib.hid (t1'.keep (hb0.block _ t1'.lt))
 have hz1:=(two_new w (.cells (x.cells (.slice none 0 0)) 27) (.cells noNode 27)).2
 have Z1:=Lib.hid hz1;have HB1:=Lib.hid hb0
 have hs1:((w.alloc (.cells (x.cells (.slice none 0 0)) 27)).alloc (.cells noNode 27)).heap.size=w.heap.size+2:=by simp
 unfold Tr.cells at *
 simp only [List.length_singleton]
 obtain ⟨d0,d1,d2,d3,d4,d5,d6,d7,d8,d9⟩:=T1.out
 clear hs t1 t1' sub1 hlen hb0 hz1 hs1
 go_enter Try.func16,Try.ntmps16
 go_wp2_with fail
 clear d0 d1 d2 d3 d4 d5 d6 d7 d8 d9
 refine (HC.out _ HB1.out).mono ?_
 rintro e w2 ⟨s2,F,rfl,ho,hF,hb2⟩
 obtain ⟨p2,c2,rfl,hl2⟩:=ho.slice
 have HO:=Lib.hid ho;have HF:=Lib.hid hF
 have Y1:=Lib.hid (keep_blk hb2 Z1.out)
 have HB2:=Lib.hid (HB1.out.trans (hb2.mono HB1.out.size))
 clear ho hF hb2 Z1 HB1
 go_wp2_with (first
   | (refine wpList_store_row rfl 27 (.tmp 6) (.tmp 17) rfl (w.heap.size+1) #[.int .i64 t.kind,.int .u64 (Oc.U t.w0),.int .u64 (Oc.U t.w1),.int .u64 (Oc.U t.w2),.int .u64 (Oc.U t.w3),.slice p2 t.subs.length c2,.int .i64 t.num,.int .i64 t.least,.int .i64 t.most,.bool t.bare] rfl rfl 27 _ Y1.out (by kernel_rfl) rfl (by simp [Value.oneCell']) ?_)
   | fail)
 refine bodyPost_ret (results_cell_row rfl _ _ (w.heap.size+1) 27 #[.int .i64 t.kind,.int .u64 (Oc.U t.w0),.int .u64 (Oc.U t.w1),.int .u64 (Oc.U t.w2),.int .u64 (Oc.U t.w3),.slice p2 t.subs.length c2,.int .i64 t.num,.int .i64 t.least,.int .i64 t.most,.bool t.bare] (0,0) _ rfl (heap_setRow Y1.out) Try.underlying27 rfl (by kernel_rfl)) rfl ⟨.slice p2 t.subs.length c2,F,rfl, ?_, ?_, ?_⟩
 · exact HO.out.keep fun b hb=>by have:=HF.out b hb;rw [heap_setRow_other _ _ _ (by simp at this;omega)]
 · intro b hb;have:=HF.out b hb;simp at this;omega
 · exact below_setRow HB2.out (Nat.le_succ _) _
theorem joined_nil (k:Int) (x:Tr) (w:World) (p:Option Addr) (cap:Nat) (hx:x.subs=[]) :
   Calls Try.prog 16 #[.int .i64 k,.slice p 0 cap,.agg (x.cells (.slice none 0 0))] w (OwnEnd x w):=by
 have z0:=(two_new w (.cells (x.cells (.slice none 0 0)) 27) (.cells noNode 27)).1
 have z1:=(two_new w (.cells (x.cells (.slice none 0 0)) 27) (.cells noNode 27)).2
 have Z0:=Lib.hid z0;have Z1:=Lib.hid z1;have HX:=Lib.hid hx
 clear z0 z1 hx
 unfold Tr.cells at *
 go_enter Try.func16,Try.ntmps16
 go_wp2_with (first
   | (refine wpList_load_row rfl 27 (.tmp 5) rfl w.heap.size rfl 27 _ (0,0) _ Z0.out Try.underlying27 rfl (by kernel_rfl) ?_)
   | (refine wpList_store_row rfl 27 (.tmp 6) (.tmp 11) rfl (w.heap.size+1) #[.int .i64 x.kind,.int .u64 (Oc.U x.w0),.int .u64 (Oc.U x.w1),.int .u64 (Oc.U x.w2),.int .u64 (Oc.U x.w3),.slice none 0 0,.int .i64 x.num,.int .i64 x.least,.int .i64 x.most,.bool x.bare] rfl rfl 27 _ Z1.out (by kernel_rfl) rfl (by simp [Value.oneCell']) ?_)
   | fail)
 refine bodyPost_ret (results_cell_row rfl _ _ (w.heap.size+1) 27 #[.int .i64 x.kind,.int .u64 (Oc.U x.w0),.int .u64 (Oc.U x.w1),.int .u64 (Oc.U x.w2),.int .u64 (Oc.U x.w3),.slice none 0 0,.int .i64 x.num,.int .i64 x.least,.int .i64 x.most,.bool x.bare] (0,0) _ rfl (heap_setRow Z1.out) Try.underlying27 rfl (by kernel_rfl)) rfl ⟨.slice none 0 0,[],rfl, ?_, ?_, ?_⟩
 · rw [HX.out];exact .nil _ _
 · intro b hb;cases hb
 · exact below_setRow (by go_grown) (Nat.le_succ _) _
theorem joined_any (k:Int) (ts:List Tr) (x:Tr) (hx:x.subs=[]) (w:World) (B:Nat→Prop) (v:Value) (hs:TreesAt w B v ts) (h0:ts=[]→x=.leaf 1) :
   Calls Try.prog 16 #[.int .i64 k,v,.agg (x.cells (.slice none 0 0))] w (OwnEnd (.several k ts) w):=by
 match ts,hs,h0 with
 | [],hs,h0 =>
   obtain ⟨p,cap,rfl,-⟩:=hs.slice
   obtain rfl:=h0 rfl
   exact joined_nil k _ w p cap rfl
 | [t],hs,_=>exact joined_one k t x w B v hs
 | a :: b :: r,hs,_=>exact joined_many k (a :: b :: r) (by simp) x w B v hs
theorem seq_any (ts:List Tr) (w:World) (B:Nat→Prop) (v:Value) (hs:TreesAt w B v ts):Calls Try.prog 11 #[v] w (OwnEnd (.several 5 ts) w):=by
 have HC:=Lib.hid (fun w9 (hb:Below w.heap.size w w9)=>joined_any 5 ts (.leaf 1) rfl w9 B _ (hs.later hb) (fun _=>rfl))
 obtain ⟨p,cap,rfl,hlen⟩:=hs.slice
 simp only [Tr.leaf,Tr.cells,Tr.kind,Tr.w0,Tr.w1,Tr.w2,Tr.w3,Tr.num,Tr.least,Tr.most,Tr.bare,u0] at HC
 clear hs
 go_enter Try.func11,Try.ntmps11
 go_wp2_with fail
 have z0:=heap_alloc_new w (.cells noNode 27)
 have Z0:=Lib.hid z0
 clear z0
 refine (HC.out _ ((Below.refl _ _).alloc (Nat.le_refl _) _)).mono ?_
 rintro e w2 ⟨s2,F,rfl,ho,hF,hb2⟩
 obtain ⟨p2,c2,rfl,hl2⟩:=ho.slice
 have HO:=Lib.hid ho;have HF:=Lib.hid hF
 have Y0:=Lib.hid (keep_blk hb2 Z0.out)
 have HB2:=Lib.hid (((Below.refl w.heap.size w).alloc (Nat.le_refl _) (.cells noNode 27)).trans (hb2.mono (by simp)))
 generalize Tr.several 5 ts=t at *
 clear ho hF hb2
 unfold Tr.cells
 go_wp2_with (first
   | (refine wpList_store_row rfl 27 (.tmp 2) (.tmp 5) rfl w.heap.size #[.int .i64 t.kind,.int .u64 (Oc.U t.w0),.int .u64 (Oc.U t.w1),.int .u64 (Oc.U t.w2),.int .u64 (Oc.U t.w3),.slice p2 t.subs.length c2,.int .i64 t.num,.int .i64 t.least,.int .i64 t.most,.bool t.bare] rfl rfl 27 _ Y0.out (by kernel_rfl) rfl (by simp [Value.oneCell']) ?_)
   | fail)
 refine bodyPost_ret (results_cell_row rfl _ _ w.heap.size 27 #[.int .i64 t.kind,.int .u64 (Oc.U t.w0),.int .u64 (Oc.U t.w1),.int .u64 (Oc.U t.w2),.int .u64 (Oc.U t.w3),.slice p2 t.subs.length c2,.int .i64 t.num,.int .i64 t.least,.int .i64 t.most,.bool t.bare] (0,0) _ rfl (heap_setRow Y0.out) Try.underlying27 rfl (by kernel_rfl)) rfl ⟨.slice p2 t.subs.length c2,F,rfl, ?_, ?_, ?_⟩
 · exact HO.out.keep fun b hb=>by have:=HF.out b hb;rw [heap_setRow_other _ _ _ (by simp at this;omega)]
 · intro b hb;have:=HF.out b hb;simp at this;omega
 · exact below_setRow HB2.out (Nat.le_refl _) _
theorem bytes_is (a b c d:BitVec 64) (w:World):Calls Try.prog 17 #[(.agg #[.int .u64 (Oc.U a),.int .u64 (Oc.U b),.int .u64 (Oc.U c),.int .u64 (Oc.U d)])] w fun e w'=>e=.returned (.agg #[.int .i64 2,.int .u64 (Oc.U a),.int .u64 (Oc.U b),.int .u64 (Oc.U c),.int .u64 (Oc.U d),.slice none 0 0,.int .i64 0,.int .i64 0,.int .i64 0,.bool false])∧Below w.heap.size w w':=by
 have z0:=(two_new w (.cells #[.int .u64 (Oc.U a),.int .u64 (Oc.U b),.int .u64 (Oc.U c),.int .u64 (Oc.U d)] 24) (.cells noNode 27)).1
 have z1:=(two_new w (.cells #[.int .u64 (Oc.U a),.int .u64 (Oc.U b),.int .u64 (Oc.U c),.int .u64 (Oc.U d)] 24) (.cells noNode 27)).2
 have Z0:=Lib.hid z0;have Z1:=Lib.hid z1
 clear z0 z1
 go_enter Try.func17,Try.ntmps17
 go_wp2_with (first
   | (refine wpList_load_row rfl 24 (.tmp 1) rfl w.heap.size rfl 24 _ (0,0) _ Z0.out Try.underlying24 rfl (by kernel_rfl) ?_)
   | (refine wpList_store_row rfl 27 (.tmp 2) (.tmp 4) rfl (w.heap.size+1) #[.int .i64 2,.int .u64 (Oc.U a),.int .u64 (Oc.U b),.int .u64 (Oc.U c),.int .u64 (Oc.U d),.slice none 0 0,.int .i64 0,.int .i64 0,.int .i64 0,.bool false] rfl rfl 27 _ Z1.out (by kernel_rfl) rfl (by simp [Value.oneCell']) ?_)
   | fail)
 exact bodyPost_ret (results_cell_row rfl _ _ (w.heap.size+1) 27 #[.int .i64 2,.int .u64 (Oc.U a),.int .u64 (Oc.U b),.int .u64 (Oc.U c),.int .u64 (Oc.U d),.slice none 0 0,.int .i64 0,.int .i64 0,.int .i64 0,.bool false] (0,0) _ rfl (heap_setRow Z1.out) Try.underlying27 rfl (by kernel_rfl)) rfl ⟨rfl,below_setRow (by go_grown) (Nat.le_succ _) _⟩
theorem bytes_any (P:Nat→Bool) (w:World):Calls Try.prog 17 #[(.agg #[.int .u64 (Oc.U (Oc.mk P 0)),.int .u64 (Oc.U (Oc.mk P 1)),.int .u64 (Oc.U (Oc.mk P 2)),.int .u64 (Oc.U (Oc.mk P 3))])] w (OwnEnd (.bytes P) w):=by
 refine (bytes_is _ _ _ _ w).mono ?_
 rintro e w' ⟨rfl,hb⟩
 exact ⟨.slice none 0 0,[],rfl,.nil _ _,fun b hb=>(by cases hb),hb⟩
end Go.Proofs.Ytedjkbmfpjmlpaa
namespace Go.Proofs.Ytedjkbmfpjmlpaa
open Go.RowKit
theorem only_any (v:Nat) (hv:v < 256) (w:World):Calls Try.prog 18 #[.int .u8 (v:Int)] w fun e w'=>e=.returned (.agg #[.int .u64 (Oc.U (Oc.mk (fun x=>x == v) 0)),.int .u64 (Oc.U (Oc.mk (fun x=>x == v) 1)),.int .u64 (Oc.U (Oc.mk (fun x=>x == v) 2)),.int .u64 (Oc.U (Oc.mk (fun x=>x == v) 3))])∧Below w.heap.size w w':=by
 have ht:∀ j,(fun x=>x == v) j=((fun _=>false) j || j == v):=fun j=>by simp
 have e:∀ k,Oc.mk (fun x=>x == v) k=if v / 64=k then 1#64 <<< (v % 64) else 0#64:=by
   intro k
   by_cases h:v / 64=k
   · rw [if_pos h,Oc.mk_turn ht h,Oc.mk_none,BitVec.zero_or]
   · rw [if_neg h,Oc.mk_same ht h,Oc.mk_none]
 rw [e 0,e 1,e 2,e 3]
 clear e ht
 have hq:v / 64=0 ∨ v / 64=1 ∨ v / 64=2 ∨ v / 64=3:=by omega
 rcases hq with hq | hq | hq | hq
 all_goals
   rw [hq]
   simp (config:={ decide:=true }) only [if_true,if_false]
   have z:=u0
   go_enter Try.func18,Try.ntmps18
   go_wp2
   go_returns
   refine ⟨?_,by go_grown⟩
   rw [Oc.shlBit,z]
theorem treetext_any (s:ByteArray) (hs:s.size ≤ 1000000) (w:World):Calls Try.prog 12 #[.string s] w (OwnEnd (.several 5 (s.data.toList.map fun c=>Tr.bytes (fun x=>x == c.toNat))) w):=by
 obtain ⟨ts,hts⟩:∃ ts,(s.data.toList.map fun c=>Tr.bytes (fun x=>x == c.toNat))=ts:=⟨_,rfl⟩
 have hl:ts.length=s.size:=by rw [← hts];simp
 obtain ⟨CS,hCS,hmk⟩:=make_nodes ts.length (by omega)
 have HTS:=Lib.hid hts;have HCS:=Lib.hid hCS
 rw [hts]
 rw [hl] at hmk
 clear hts hCS
 have HO:=Lib.hid only_any;have HBY:=Lib.hid bytes_any;have HSQ:=Lib.hid seq_any
 go_enter Try.func12,Try.ntmps12
 go_wp2
 go_loopw [10] (fun iv wr=>∃ m:Nat,iv=.int .i64 m∧m ≤ ts.length∧Hid (Below w.heap.size w wr)∧w.heap.size+1 < wr.heap.size∧Hid (∃ C:Array Value,wr.heap[w.heap.size+1]? = some (.cells C 27)∧C.size=ts.length * 10)∧Hid (CopiedTo wr (w.heap.size+1) ts m)∧Hid (wr.heap[w.heap.size]? = some (.cells noNode 27))) (fun iv _=>ts.length - (intOf iv).toNat)
 case atStart=>exact ⟨0,rfl,Nat.zero_le _,Lib.hid (by go_grown),by simp,Lib.hid ⟨CS,(two_new _ _ _).2,HCS.out⟩,Lib.hid (CopiedTo.zero _ _ _),Lib.hid (two_new _ _ _).1⟩
 case round =>
   obtain ⟨m,rfl,hm,HB,hsz,HC,HD,Z0⟩:=hrel
   have wm:IntKind.i64.wrap ((m:Int)+1)=(m:Int)+1:=IntWalk.i64_in _ (by omega)
   by_cases hlt:m < ts.length
   · have hsm:m < s.size:=by omega
     have hx:ts[m]? = some (Tr.bytes (fun x=>x == s[m].toNat)):=by
       have:s.data.toList[m]? = some s[m]:=by
         rw [List.getElem?_eq_getElem (by simpa using hsm)];rfl
       rw [← HTS.out,List.getElem?_map,this];rfl
     have hd1:decide ((m:Int) < s.size)=true:=by simp;omega
     have hd1':decide (m < s.size)=true:=by simpa using hsm
     have hc:=s[m].toNat_lt
     have HX:=Lib.hid hx
     clear hx
     go_wp2_with fail
     generalize s[m].toNat=n at *
     refine (HO.out n hc wr).mono ?_
     rintro e w1 ⟨rfl,hb1⟩
     generalize hP:(fun x=>x == n)=P at *
     have HB1:=Lib.hid hb1
     clear hb1 hP
     go_wp2_with fail
     refine (HBY.out P w1).mono ?_
     rintro e w2 ⟨s2,F2,rfl,ho2,hF2,hb2⟩
     obtain ⟨p2,c2,rfl,hl2⟩:=ho2.slice
     have hb12:Below wr.heap.size wr w2:=HB1.out.trans (hb2.mono HB1.out.size)
     obtain ⟨C,hC1,hC2⟩:=HC.out
     have hC3:=keep_blk hb12 hC1
     have hth:w2.there (w.heap.size+1) (m * 10) 10:=there_row hC3 (by omega)
     have HTH:=Lib.hid hth
     generalize hxt:Tr.bytes P=x at *
     have HST:=Lib.hid (HD.out.step HX.out hb12 hsz ho2 (fun b hb=>Nat.le_trans HB1.out.size (hF2 b hb)) hth)
     have HB2:=Lib.hid (HB.out.trans (hb12.mono HB.out.size))
     have HC4:Hid (∃ C:Array Value,(w2.setCells (w.heap.size+1) (m * 10) (x.cells (.slice p2 x.subs.length c2)).toList).heap[w.heap.size+1]? = some (.cells C 27)∧C.size=ts.length * 10):=Lib.hid (row_setCells hC3 hC2)
     have Z4:Hid ((w2.setCells (w.heap.size+1) (m * 10) (x.cells (.slice p2 x.subs.length c2)).toList).heap[w.heap.size]? = some (.cells noNode 27)):=Lib.hid (by rw [heap_setCells_other (by omega)];exact keep_blk hb12 Z0.out)
     have hs2:w.heap.size+1 < w2.heap.size:=Nat.lt_of_lt_of_le hsz hb12.size
     clear hb2 hb12 ho2 hF2 hC1 hC2 hC3 hth hxt HBY HO
     go_wp2_with (first
       | (refine wpList_store_mid rfl 27 (.tmp 20) (.tmp 19) rfl (w.heap.size+1) (m * 10) (x.cells (.slice p2 x.subs.length c2)) rfl rfl HTH.out (by kernel_rfl) (nodeC_all _ _ _ _) ?_;generalize hw3:World.setCells w2 _ _ _=w3;have HW3:=Lib.hid hw3;clear hw3)
       | fail)
     rw [← HW3.out]
     exact ⟨⟨m+1,by go_num,by omega,Lib.hid (setCells_below HB2.out (by omega) _ _),by rw [size_setCells];exact hs2,HC4,HST,Z4⟩,by simp [intOf];omega⟩
   · obtain rfl:m=ts.length:=by omega
     obtain ⟨C,hC1,-⟩:=HC.out
     obtain ⟨F,hF,hF2⟩:=HD.out.owned (by omega) ⟨C,_,hC1⟩ ts.length
     have hcall:=HSQ.out ts wr (fun b=>b ∈ F) _ hF.trees
     rw [hl] at hcall
     have HCALL:=Lib.hid hcall
     clear hcall hC1 HC HD hF2
     go_wp2_with fail
     refine HCALL.out.mono ?_
     rintro e w2 ⟨s2,F2,rfl,ho2,hF2',hb2⟩
     obtain ⟨p2,c2,rfl,hl2⟩:=ho2.slice
     have HO2:=Lib.hid ho2;have HF2:=Lib.hid hF2'
     have Y0:=Lib.hid (keep_blk hb2 Z0.out)
     have HB2:=Lib.hid (HB.out.trans (hb2.mono HB.out.size))
     generalize Tr.several 5 ts=t at *
     clear ho2 hF2' hb2 HCALL
     unfold Tr.cells
     go_wp2_with (first
       | (refine wpList_store_row rfl 27 (.tmp 2) (.tmp 23) rfl w.heap.size #[.int .i64 t.kind,.int .u64 (Oc.U t.w0),.int .u64 (Oc.U t.w1),.int .u64 (Oc.U t.w2),.int .u64 (Oc.U t.w3),.slice p2 t.subs.length c2,.int .i64 t.num,.int .i64 t.least,.int .i64 t.most,.bool t.bare] rfl rfl 27 _ Y0.out (by kernel_rfl) rfl (by simp [Value.oneCell']) ?_)
       | fail)
     refine bodyPost_ret (results_cell_row rfl _ _ w.heap.size 27 #[.int .i64 t.kind,.int .u64 (Oc.U t.w0),.int .u64 (Oc.U t.w1),.int .u64 (Oc.U t.w2),.int .u64 (Oc.U t.w3),.slice p2 t.subs.length c2,.int .i64 t.num,.int .i64 t.least,.int .i64 t.most,.bool t.bare] (0,0) _ rfl (heap_setRow Y0.out) Try.underlying27 rfl (by kernel_rfl)) rfl ⟨.slice p2 t.subs.length c2,F2,rfl, ?_, ?_, ?_⟩
     · exact HO2.out.keep fun b hb=>by have:=HF2.out b hb;rw [heap_setRow_other _ _ _ (by omega)]
     · intro b hb;have:=HF2.out b hb;omega
     · exact below_setRow HB2.out (Nat.le_refl _) _
end Go.Proofs.Ytedjkbmfpjmlpaa
namespace Go.Proofs.Ytedjkbmfpjmlpaa
open Go.RowKit
theorem row_of_ten {w:World} {g:Nat} {cs:Array Value} {ty:TypeId} {u:Tr} {s:Value} (h:w.heap[g]? = some (.cells cs ty (0,0))) (hs:cs.size=10) (ht:TenAt w g 0 u s):w.heap[g]? = some (.cells (u.cells s) ty (0,0)):=by
 have e:∀ j v,w.cell? ⟨g,j,none⟩=some v→cs[j]? = some v:=fun j v hv=>by simpa [World.cell?,h] using hv
 have hcs:cs=u.cells s:=by
   apply Array.ext_getElem?
   intro i
   by_cases hi:i < 10
   · have:i=0 ∨ i=1 ∨ i=2 ∨ i=3 ∨ i=4 ∨ i=5 ∨ i=6 ∨ i=7 ∨ i=8 ∨ i=9:=by omega
     rcases this with rfl | rfl | rfl | rfl | rfl | rfl | rfl | rfl | rfl | rfl
     · exact e 0 _ ht.c0
     · exact e 1 _ ht.c1
     · exact e 2 _ ht.c2
     · exact e 3 _ ht.c3
     · exact e 4 _ ht.c4
     · exact e 5 _ ht.c5
     · exact e 6 _ ht.c6
     · exact e 7 _ ht.c7
     · exact e 8 _ ht.c8
     · exact e 9 _ ht.c9
   · rw [Array.getElem?_eq_none (by omega),Array.getElem?_eq_none (by simp [Tr.cells];omega)]
 rw [h,hcs]
theorem ten_of_row {w:World} {g:Nat} {u:Tr} {s:Value} {ty:TypeId} (h:w.heap[g]? = some (.cells (u.cells s) ty)):TenAt w g 0 u s:=by
 obtain ⟨q0,q1,q2,q3,q4,q5,q6,q7,q8,q9⟩:=allTen h
 exact ⟨q0,q1,q2,q3,q4,q5,q6,q7,q8,q9⟩
theorem tuapi_any (t:Tr) (w:World) (B:Nat→Prop) (v:Value) (hv:NodeV w B v t):Calls Try.prog 7 #[v] w (OwnEnd t.turT w):=by
 obtain ⟨s,rfl,hs⟩:=hv
 obtain ⟨p,cap,rfl,hlen⟩:=hs.slice
 have HC:=Lib.hid (fun w9 (hb:Below w.heap.size w w9)=>copy_any t w9 B (.agg (t.cells (.slice p t.subs.length cap))) ⟨_,rfl,hs.later hb⟩)
 obtain ⟨z0,z1⟩:=two_new w (.cells (t.cells (.slice p t.subs.length cap)) 27) (.cells noNode 27)
 have hb0:Below w.heap.size w ((w.alloc (.cells (t.cells (.slice p t.subs.length cap)) 27)).alloc (.cells noNode 27)):=by go_grown
 have hs0:((w.alloc (.cells (t.cells (.slice p t.subs.length cap)) 27)).alloc (.cells noNode 27)).heap.size=w.heap.size+2:=by simp
 have Z0:=Lib.hid z0;have Z1:=Lib.hid z1;have HB0:=Lib.hid hb0;have HS0:=Lib.hid hs0
 clear hs z0 z1 hb0 hs0 hlen
 obtain ⟨u,hu⟩:∃ u,u=t.turT:=⟨_,rfl⟩
 have HU:=Lib.hid hu
 rw [← hu]
 clear hu
 unfold Tr.cells at *
 unfold OwnEnd Tr.cells
 go_enter Try.func7,Try.ntmps7
 go_upto_region 1 with (fail)
 generalize (w.alloc _).alloc _=W0 at *
 go_wp2_with (first
   | (refine wpList_load_row rfl 27 (.tmp 1) rfl w.heap.size rfl 27 _ (0,0) _ Z0.out Try.underlying27 rfl (by kernel_rfl) ?_)
   | fail)
 refine (HC.out W0 HB0.out).mono ?_
 rintro e w2 ⟨s2,F,rfl,ho,hF,hb2⟩
 obtain ⟨p2,c2,rfl,hl2⟩:=ho.slice
 have hb3:Below w2.heap.size w2 (World.setRow (w2.alloc (.cells #[.int .i64 0,.int .u64 0,.int .u64 0,.int .u64 0,.int .u64 0,.slice none 0 0,.int .i64 0,.int .i64 0,.int .i64 0,.bool false] 27)) w2.heap.size #[.int .i64 t.kind,.int .u64 (Oc.U t.w0),.int .u64 (Oc.U t.w1),.int .u64 (Oc.U t.w2),.int .u64 (Oc.U t.w3),.slice p2 t.subs.length c2,.int .i64 t.num,.int .i64 t.least,.int .i64 t.most,.bool t.bare]):=below_setRow ((Below.refl _ _).alloc (Nat.le_refl _) _) (Nat.le_refl _) _
 have V1:=Lib.hid (keep_blk hb3 (keep_blk hb2 Z1.out))
 have V2:=Lib.hid (show (World.setRow (w2.alloc (.cells #[.int .i64 0,.int .u64 0,.int .u64 0,.int .u64 0,.int .u64 0,.slice none 0 0,.int .i64 0,.int .i64 0,.int .i64 0,.bool false] 27)) w2.heap.size #[.int .i64 t.kind,.int .u64 (Oc.U t.w0),.int .u64 (Oc.U t.w1),.int .u64 (Oc.U t.w2),.int .u64 (Oc.U t.w3),.slice p2 t.subs.length c2,.int .i64 t.num,.int .i64 t.least,.int .i64 t.most,.bool t.bare]).heap[w2.heap.size]? = some (.cells (t.cells (.slice p2 t.subs.length c2)) 27) from heap_setRow (heap_alloc_new _ _))
 have HZ3:=Lib.hid (show w2.heap.size+1 ≤ (World.setRow (w2.alloc (.cells #[.int .i64 0,.int .u64 0,.int .u64 0,.int .u64 0,.int .u64 0,.slice none 0 0,.int .i64 0,.int .i64 0,.int .i64 0,.bool false] 27)) w2.heap.size #[.int .i64 t.kind,.int .u64 (Oc.U t.w0),.int .u64 (Oc.U t.w1),.int .u64 (Oc.U t.w2),.int .u64 (Oc.U t.w3),.slice p2 t.subs.length c2,.int .i64 t.num,.int .i64 t.least,.int .i64 t.most,.bool t.bare]).heap.size from by rw [size_setRow];simp)
 have HO:=Lib.hid (ho.later hb3)
 have HF:=Lib.hid (show ∀ b,b ∈ F→w.heap.size+2 ≤ b∧b < w2.heap.size from fun b hb=>⟨by have:=hF b hb;have:=HS0.out;omega,ho.lt b hb⟩)
 have HSZ:=Lib.hid (show w.heap.size+2 ≤ w2.heap.size from by have:=hb2.size;have:=HS0.out;omega)
 have HB2:=Lib.hid ((HB0.out.trans (hb2.mono HB0.out.size)).trans (hb3.mono (HB0.out.trans (hb2.mono HB0.out.size)).size))
 clear ho hF hb2 hb3 HC Z0 Z1 HB0 HS0
 have hti:=TreeIn.mk (F:=F) (ten_of_row V2.out) HO.out (fun e=>by have:=(HF.out _ e).2;omega) ⟨_,_,V2.out⟩
 have HCALL:=Lib.hid (tuturn_any t _ w2.heap.size 0 _ F hti)
 clear hti
 unfold Tr.cells at V1 V2 HB2 HCALL HO
 go_upto_region 2 with (first
   | (refine wpList_store_row rfl 27 (.tmp 3) (.tmp 5) rfl w2.heap.size #[.int .i64 t.kind,.int .u64 (Oc.U t.w0),.int .u64 (Oc.U t.w1),.int .u64 (Oc.U t.w2),.int .u64 (Oc.U t.w3),.slice p2 t.subs.length c2,.int .i64 t.num,.int .i64 t.least,.int .i64 t.most,.bool t.bare] rfl rfl 27 _ (heap_alloc_new _ _) (by kernel_rfl) rfl (by simp [Value.oneCell']) ?_)
   | fail)
 try simp only [Act.put]
 generalize World.setRow (w2.alloc (.cells #[.int .i64 0,.int .u64 0,.int .u64 0,.int .u64 0,.int .u64 0,.slice none 0 0,.int .i64 0,.int .i64 0,.int .i64 0,.bool false] 27)) w2.heap.size #[.int .i64 t.kind,.int .u64 (Oc.U t.w0),.int .u64 (Oc.U t.w1),.int .u64 (Oc.U t.w2),.int .u64 (Oc.U t.w3),.slice p2 t.subs.length c2,.int .i64 t.num,.int .i64 t.least,.int .i64 t.most,.bool t.bare]=w3 at *
 go_wp2_with fail
 refine HCALL.out.mono ?_
 rintro e w4 ⟨rfl,ht4,⟨F',ho4,hF4⟩,htc,hbc⟩
 obtain ⟨cs,hcs,hcz⟩:=hbc.2 _ _ V2.out
 have X2:=Lib.hid (row_of_ten hcs (by rw [hcz];rfl) ht4)
 have X1:=Lib.hid ((htc.block (w.heap.size+1) (by have:=HSZ.out;have:=HZ3.out;omega) (fun e=>by
   rcases List.mem_cons.1 e with e | e
   · have:=HSZ.out;omega
   · have:=(HF.out _ e).1;omega)).trans V1.out)
 have HO4:=Lib.hid ho4
 have HF4:=Lib.hid (show ∀ b,b ∈ F'→w.heap.size+2 ≤ b from fun b hb=>(HF.out b (hF4 b hb)).1)
 have HB4:=Lib.hid (HB2.out.trans (htc.below (B:=w.heap.size) (fun k hk=>by
   rcases List.mem_cons.1 hk with e | e
   · have:=HSZ.out;omega
   · have:=(HF.out _ e).1;omega) HB2.out.size))
 clear ht4 ho4 hF4 htc hbc hcs hcz HCALL V1 V2 HB2 HO
 rw [← HU.out] at X2 HO4
 unfold Tr.cells at X2
 have hsl:=HO4.out.slice
 obtain ⟨p3,c3,e3,-⟩:=hsl
 rw [e3] at X2 HO4
 go_wp2_with (first
   | (refine wpList_load_row rfl 27 (.tmp 3) rfl w2.heap.size rfl 27 _ (0,0) _ X2.out Try.underlying27 rfl (by kernel_rfl) ?_)
   | (refine wpList_store_row rfl 27 (.tmp 2) (.tmp 7) rfl (w.heap.size+1) #[.int .i64 u.kind,.int .u64 (Oc.U u.w0),.int .u64 (Oc.U u.w1),.int .u64 (Oc.U u.w2),.int .u64 (Oc.U u.w3),.slice p3 u.subs.length c3,.int .i64 u.num,.int .i64 u.least,.int .i64 u.most,.bool u.bare] rfl rfl 27 _ X1.out (by kernel_rfl) rfl (by simp [Value.oneCell']) ?_)
   | fail)
 refine bodyPost_ret (results_cell_row rfl _ _ (w.heap.size+1) 27 #[.int .i64 u.kind,.int .u64 (Oc.U u.w0),.int .u64 (Oc.U u.w1),.int .u64 (Oc.U u.w2),.int .u64 (Oc.U u.w3),.slice p3 u.subs.length c3,.int .i64 u.num,.int .i64 u.least,.int .i64 u.most,.bool u.bare] (0,0) _ rfl (heap_setRow X1.out) Try.underlying27 rfl (by kernel_rfl)) rfl ⟨.slice p3 u.subs.length c3,F',rfl, ?_, ?_, ?_⟩
 · exact HO4.out.keep fun b hb=>by have:=HF4.out b hb;rw [heap_setRow_other _ _ _ (by omega)]
 · intro b hb;have:=HF4.out b hb;omega
 · exact below_setRow HB4.out (Nat.le_succ _) _
end Go.Proofs.Ytedjkbmfpjmlpaa
namespace Go.Proofs.Ytedjkbmfpjmlpaa
open Go.RowKit
def LsAt (w:World) (v:Value) (ts:List Tr):Prop:=TreesAt w (fun _=>True) v ts
theorem TreesAt.any {w:World} {B:Nat→Prop} {s:Value} {ts:List Tr} (h:TreesAt w B s ts):TreesAt w (fun _=>True) s ts:=h.mono fun _ _ _=>trivial
theorem twenty {w:World} {b:Nat} {x0 x1 x2 x3 x4 x5 x6 x7 x8 x9 y0 y1 y2 y3 y4 y5 y6 y7 y8 y9:Value} {t:TypeId} (h:w.heap[b]? = some (.cells #[x0,x1,x2,x3,x4,x5,x6,x7,x8,x9,y0,y1,y2,y3,y4,y5,y6,y7,y8,y9] t)) :
   (w.cell? ⟨b,0,none⟩=some x0∧w.cell? ⟨b,1,none⟩=some x1∧w.cell? ⟨b,2,none⟩=some x2∧w.cell? ⟨b,3,none⟩=some x3∧w.cell? ⟨b,4,none⟩=some x4∧w.cell? ⟨b,5,none⟩=some x5∧w.cell? ⟨b,6,none⟩=some x6∧w.cell? ⟨b,7,none⟩=some x7∧w.cell? ⟨b,8,none⟩=some x8∧w.cell? ⟨b,9,none⟩=some x9) ∧
   (w.cell? ⟨b,10,none⟩=some y0∧w.cell? ⟨b,11,none⟩=some y1∧w.cell? ⟨b,12,none⟩=some y2∧w.cell? ⟨b,13,none⟩=some y3∧w.cell? ⟨b,14,none⟩=some y4∧w.cell? ⟨b,15,none⟩=some y5∧w.cell? ⟨b,16,none⟩=some y6∧w.cell? ⟨b,17,none⟩=some y7∧w.cell? ⟨b,18,none⟩=some y8∧w.cell? ⟨b,19,none⟩=some y9):=by
 simp [World.cell?,h]
def cells2 (t u:Tr) (s r:Value):Array Value :=
 #[.int .i64 t.kind,.int .u64 (Oc.U t.w0),.int .u64 (Oc.U t.w1),.int .u64 (Oc.U t.w2),.int .u64 (Oc.U t.w3),s,.int .i64 t.num,.int .i64 t.least,.int .i64 t.most,.bool t.bare,
   .int .i64 u.kind,.int .u64 (Oc.U u.w0),.int .u64 (Oc.U u.w1),.int .u64 (Oc.U u.w2),.int .u64 (Oc.U u.w3),r,.int .i64 u.num,.int .i64 u.least,.int .i64 u.most,.bool u.bare]
theorem LsAt.two {w:World} {t u:Tr} {s r:Value} (h:TreesAt w (fun _=>True) s t.subs) (k:TreesAt w (fun _=>True) r u.subs):LsAt (w.alloc (.cells (cells2 t u s r) 27)) (.slice (some ⟨w.heap.size,0,none⟩) 2 2) [t,u]:=by
 have hb:Below w.heap.size w (w.alloc (.cells (cells2 t u s r) 27)):=(Below.refl _ _).alloc (Nat.le_refl _) _
 have two:∀ (i:Nat) (t':Tr),([t,u]:List Tr)[i]? = some t'→(i=0∧t'=t) ∨ (i=1∧t'=u):=fun i t' hi=>by
   match i,hi with
   | 0,hi=>exact .inl ⟨rfl,by simpa using hi.symm⟩
   | 1,hi=>exact .inr ⟨rfl,by simpa using hi.symm⟩
   | i+2,hi=>simp at hi
 refine TreesAt.mk (ts:=[t,u]) (some ⟨w.heap.size,0,none⟩) 2 (fun i=>if i=0 then s else r) (by simp) (fun i t' hi=>?_) (fun i t' hi=>?_)
 · obtain ⟨⟨d0,d1,d2,d3,d4,d5,d6,d7,d8,d9⟩,e0,e1,e2,e3,e4,e5,e6,e7,e8,e9⟩:=twenty (heap_alloc_new w (.cells (cells2 t u s r) 27))
   rcases two i t' hi with ⟨rfl,rfl⟩ | ⟨rfl,rfl⟩
   · exact ⟨_,0,rfl,trivial,d0,d1,d2,d3,d4,d5,d6,d7,d8,d9⟩
   · exact ⟨_,0,rfl,trivial,e0,e1,e2,e3,e4,e5,e6,e7,e8,e9⟩
 · rcases two i t' hi with ⟨rfl,rfl⟩ | ⟨rfl,rfl⟩
   · exact h.later hb
   · exact k.later hb
theorem wp_node1 {Q:Exit→Act→World→Prop} {o:Oper} {a:Act} {w:World} {K:Act→World→Prop} (x:Operand) (t:Tr) (p:Option Addr) (len cap:Nat) (ho:o.op=.buildSlice 25 1 #[(0,x)]) (hx:a.eval x=.agg (t.cells (.slice p len cap)))
   (h:K (a.put o.dst (.slice (some ⟨w.heap.size,0,none⟩) 1 1)) (w.alloc (.cells (t.cells (.slice p len cap)) 27))):Oper.wp Try.prog o a w K Q:=by
 obtain ⟨ie,hi,hz0,hz1,-⟩:=info_parts Try.infoNode
 refine wp_buildSlice 25 27 1 _ ho _ ie _ Try.underlying25 hi hz0 (by rw [hz1];decide) (by rw [hz1];decide) ?_ h
 rw [hz1]
 simp only [List.map_toArray,List.map_cons,List.map_nil,hx]
 kernel_rfl
theorem wp_node2 {Q:Exit→Act→World→Prop} {o:Oper} {a:Act} {w:World} {K:Act→World→Prop} (x y:Operand) (t u:Tr) (p:Option Addr) (len cap:Nat) (p':Option Addr) (len' cap':Nat) (ho:o.op=.buildSlice 25 2 #[(0,x),(1,y)]) (hx:a.eval x=.agg (t.cells (.slice p len cap))) (hy:a.eval y=.agg (u.cells (.slice p' len' cap')))
   (h:K (a.put o.dst (.slice (some ⟨w.heap.size,0,none⟩) 2 2)) (w.alloc (.cells (cells2 t u (.slice p len cap) (.slice p' len' cap')) 27))):Oper.wp Try.prog o a w K Q:=by
 obtain ⟨ie,hi,hz0,hz1,-⟩:=info_parts Try.infoNode
 refine wp_buildSlice 25 27 2 _ ho _ ie _ Try.underlying25 hi hz0 (by rw [hz1];decide) (by rw [hz1];decide) ?_ h
 rw [hz1]
 simp only [List.map_toArray,List.map_cons,List.map_nil,hx,hy]
 kernel_rfl
end Go.Proofs.Ytedjkbmfpjmlpaa
namespace Go.Proofs.Ytedjkbmfpjmlpaa
open Go.RowKit
def tuA:Tr:=.bytes fun x=>x == 97
def tuT:Tr:=.several 5 [.leaf 3,tuA]
theorem tuT_kind:tuT.turT.kind=5:=by rw [Tr.turT_kind];rfl
theorem tuT_subs:tuT.turT.subs=[tuA.turT,Tr.turT (.leaf 3)]:=by rw [Tr.turT_subs];rfl
theorem tuA_kind:tuA.turT.kind=2:=by rw [Tr.turT_kind];rfl
theorem tuB_kind:(Tr.turT (.leaf 3)).kind=4:=by rw [Tr.turT_kind];rfl
theorem tulives_any (w:World):Calls Try.prog 4 #[] w fun e w'=>e=.returned (.bool true)∧Below w.heap.size w w':=by
 have HT:=Lib.hid (show ∀ w,Calls Try.prog 12 #[.string ⟨#[97]⟩] w (OwnEnd tuA w) from fun w=>treetext_any ⟨#[97]⟩ (by decide) w)
 go_enter Try.func4,Try.ntmps4
 go_wp2_with fail
 refine (HT.out w).mono ?_
 rintro e w1 ⟨s1,F1,rfl,ho,-,hb1⟩
 obtain ⟨p1,c1,rfl,-⟩:=ho.slice
 have hls:=LsAt.two (t:=.leaf 3) (u:=tuA) (s:=.slice none 0 0) (r:=.slice p1 tuA.subs.length c1) (show TreesAt w1 (fun _=>True) (.slice none 0 0) (Tr.leaf 3).subs from TreesAt.nil) ho.trees.any
 have HLS:=Lib.hid hls
 have hba:Below w1.heap.size w1 (w1.alloc (.cells (cells2 (.leaf 3) tuA (.slice none 0 0) (.slice p1 tuA.subs.length c1)) 27)):=(Below.refl _ _).alloc (Nat.le_refl _) _
 have HB1:=Lib.hid (hb1.trans (hba.mono hb1.size))
 clear ho hb1 hls hba HT
 have hlf:(Tr.leaf 3).cells (.slice none 0 0)=#[.int .i64 3,.int .u64 0,.int .u64 0,.int .u64 0,.int .u64 0,.slice none 0 0,.int .i64 0,.int .i64 0,.int .i64 0,.bool false]:=by
   unfold Tr.leaf Tr.cells
   simp only [Tr.kind,Tr.w0,Tr.w1,Tr.w2,Tr.w3,Tr.num,Tr.least,Tr.most,Tr.bare,u0]
 have HLF:=Lib.hid hlf
 clear hlf
 obtain ⟨A1,hA1⟩:∃ A1,A1=tuA.cells (.slice p1 tuA.subs.length c1):=⟨_,rfl⟩
 rw [← hA1]
 have HA1:=Lib.hid hA1
 clear hA1
 go_wp2_with (first
   | (refine wpList_plain rfl fun _ hK=>wp_node2 (.tmp 2) (.tmp 3) (.leaf 3) tuA none 0 0 p1 tuA.subs.length c1 rfl (congrArg Value.agg HLF.out.symm) (congrArg Value.agg HA1.out) (hK _ _ ?_))
   | fail)
 generalize w1.alloc _=w2 at *
 refine (seq_any [.leaf 3,tuA] w2 _ _ HLS.out).mono ?_
 rintro e w3 ⟨s3,F3,rfl,ho,-,hb3⟩
 have HV3:=Lib.hid (show NodeV w3 (fun b=>b ∈ F3) (.agg (tuT.cells s3)) tuT from ⟨s3,rfl,ho.trees⟩)
 have HB3:=Lib.hid (HB1.out.trans (hb3.mono HB1.out.size))
 have hcc:(Tr.several 5 [.leaf 3,tuA]).cells s3=tuT.cells s3:=rfl
 rw [hcc]
 clear ho hb3 hcc HB1 HLS HLF HA1
 generalize tuT.cells s3=C3 at *
 go_wp2_with fail
 refine (tuapi_any tuT w3 _ _ HV3.out).mono ?_
 rintro e w4 ⟨s4,F4,rfl,ho,-,hb4⟩
 obtain ⟨p4,c4,rfl,-⟩:=ho.slice
 have HB4:=Lib.hid (HB3.out.trans (hb4.mono HB3.out.size))
 have htr:=ho.trees
 have hl2:tuT.turT.subs.length=2:=by rw [tuT_subs];rfl
 rw [hl2,tuT_subs] at htr
 have hba:Below w4.heap.size w4 (w4.alloc (.cells (tuT.turT.cells (.slice p4 tuT.turT.subs.length c4)) 27)):=(Below.refl _ _).alloc (Nat.le_refl _) _
 have HTR:=Lib.hid (htr.later hba)
 have HB5:=Lib.hid (HB4.out.trans (hba.mono HB4.out.size))
 have X4:=Lib.hid (heap_alloc_new w4 (.cells (tuT.turT.cells (.slice p4 tuT.turT.subs.length c4)) 27))
 clear ho hb4 htr hba HB3 HV3 HB4
 rw [hl2] at HTR X4 HB5 ⊢
 clear hl2
 unfold Tr.cells at X4 HB5 HTR ⊢
 rw [tuT_kind] at X4 HB5 HTR ⊢
 generalize tuT.turT=U at *
 go_upto_region 2 with (fail)
 generalize w4.alloc _=w5 at *
 obtain ⟨b2,o2,s5,rfl,-,t2,-⟩:=HTR.out.get (i:=0) (t:=tuA.turT) rfl
 obtain ⟨b3,o3,s6,e3,-,t3,-⟩:=HTR.out.get (i:=1) (t:=Tr.turT (.leaf 3)) rfl
 obtain ⟨rfl,rfl⟩:b2=b3∧o2=o3:=by simpa using e3
 have d0:=t2.c0;have g0:=t3.c0
 rw [tuA_kind] at d0;rw [tuB_kind] at g0
 rw [show o2+0 * 10=o2 by omega] at d0
 clear t2 t3 e3
 obtain ⟨q0,q1,q2,q3,q4,q5,q6,q7,q8,q9⟩:=allTen X4.out
 clear q1 q2 q3 q4 q6 q7 q8 q9
 go_wp2_with fail
 go_ret
 exact ⟨rfl,HB5.out⟩
end Go.Proofs.Ytedjkbmfpjmlpaa
namespace Go.Proofs.Ytedjkbmfpjmlpaa
open Go.RowKit
theorem news_one (w:World) (x:Tr) (p:Option Addr) (l c:Nat) (ty:TypeId):∀ (j:Nat) (u:Value),(x.cells (.slice p l c)).toList[j]? = some u→(w.alloc (.cells (x.cells (.slice p l c)) ty)).cell? ((⟨w.heap.size,0,none⟩:Addr).add j)=some u:=fun j u hu=>by
 have ea:(⟨w.heap.size,0,none⟩:Addr).add j=⟨w.heap.size,j,none⟩:=by unfold Addr.add;split <;> simp_all
 rw [ea,cell_new];simpa using hu
def RowLo (lo base:Nat) (w:World) (v:Value) (ps:List (Tr × Value)):Prop :=
 w.ownsRow base 27 10 v ps.length (rowOf ps)∧∀ (i:Nat) (t:Tr) (s:Value),ps[i]? = some (t,s)→TreesAt w (fun b=>lo ≤ b∧v.ownBlock ≠ some b) s t.subs
theorem RowLo.nil (lo base:Nat) (w:World):RowLo lo base w (.slice none 0 0) []:=⟨World.ownsRow_nil _ _ _ _,fun i t s h=>by simp at h⟩
theorem RowLo.lt {lo base:Nat} {w:World} {v:Value} {ps:List (Tr × Value)} (h:RowLo lo base w v ps):∀ k,v.ownBlock=some k→base ≤ k∧k < w.heap.size:=h.1.lt
theorem RowLo.below {lo base:Nat} {w w':World} {v:Value} {ps:List (Tr × Value)} (h:RowLo lo base w v ps) (hb:Below w.heap.size w w'):RowLo lo base w' v ps:=by
 refine ⟨h.1.kept (w':=w') (row:=none) ⟨hb.os,hb.tape,hb.output,hb.size,fun k hk _=>hb.block k hk⟩ ?_,fun i t s hi=>(h.2 i t s hi).later hb⟩
 cases h:Value.ownBlock v with
 | none=>exact .inl rfl
 | some g=>exact .inr (by simp)
theorem RowLo.trees {lo base:Nat} {w:World} {v:Value} {ps:List (Tr × Value)} (h:RowLo lo base w v ps) (hlo:lo ≤ base) (hn:ps.length * 96 ≤ 140737488351232):TreesAt w (fun b=>lo ≤ b) v (ps.map (·.1)) :=
 trees_of_row (B':=fun b=>lo ≤ b) h.1 hn (fun i t s hi=>h.2 i t s hi) (fun _ hb=>hb.1) (fun g hg=>Nat.le_trans hlo (h.1.lt g hg).1)
theorem RowLo.step {lo base:Nat} {w3 w4:World} {v v':Value} {ps:List (Tr × Value)} {x:Tr} {s:Value} (h3:RowLo lo base w3 v ps) (hx:TreesAt w3 (fun b=>lo ≤ b∧v.ownBlock ≠ some b) s x.subs)
   (hown:w4.ownsRow base 27 10 v' (ps.length+1) (rowOf ps ++ (x.cells s).toList)) (hg:w3.grownBy w4 v.ownBlock) (hw:v'.ownBlock=v.ownBlock ∨ v'.ownBlock=some w3.heap.size):RowLo lo base w4 v' (ps ++ [(x,s)]):=by
 refine ⟨by rw [rowOf_snoc,List.length_append];exact hown,fun i t r hi=>?_⟩
 by_cases hip:i < ps.length
 · rw [List.getElem?_append_left hip] at hi
   exact subs_step (h3.2 i t r hi) hg hw
 · rw [List.getElem?_append_right (by omega)] at hi
   have hi0:i - ps.length=0:=by
     by_cases h0:i - ps.length=0
     · exact h0
     · rw [List.getElem?_eq_none (by simp;omega)] at hi;cases hi
   rw [hi0] at hi
   simp only [List.getElem?_cons_zero,Option.some.injEq,Prod.mk.injEq] at hi
   obtain ⟨rfl,rfl⟩:=hi
   exact subs_step hx hg hw
theorem RowLo.setCell {base:Nat} {w:World} {v:Value} {ps:List (Tr × Value)} (h:RowLo base base w v ps) {b:Nat} (hb:b < base) (o:Nat) (u:Value):RowLo base base (w.setCell ⟨b,o,none⟩ u) v ps :=
 ⟨ownsRow_setCell_below h.1 hb u,fun i t s hi=>(h.2 i t s hi).keep fun k _ hk=>Below.heap_setCell _ _ _ _ (by have:=hk.1;show k ≠ b;omega)⟩
theorem RowLo.slice {lo base:Nat} {w:World} {v:Value} {ps:List (Tr × Value)} (h:RowLo lo base w v ps):∃ q l c,v=.slice q l c:=by
 rcases h.1.2 with ⟨rfl,_⟩ | ⟨g,cap,_,rfl,_⟩
 · exact ⟨_,_,_,rfl⟩
 · exact ⟨_,_,_,rfl⟩
theorem wp_append_node {P:Program} (w:World) {Q:Exit→Act→World→Prop} {K:Act→World→Prop} {o:Oper} {a:Act} (s x:Operand) (t:TypeId)
   (ho:o.op=.call { callee:=.builtin .append,args:=#[s,x],argTypes:=#[t,t] })
   (base:Nat) (e:TypeId) (i:TypeInfo) (z:Value) (size bytes:Nat) (ht:P.underlying t=some (.slice e)) (hi:P.info? e=some i) (hz:i.zero=some z)
   (hsize:i.size=size) (hby:i.bytes=bytes) (hzs:z.cells.size=size) (hsz:0 < size)
   (v:Value) (n:Nat) (xs:List Value) (hs:a.eval s=v) (hown:w.ownsRow base e size v n xs)
   (ad:Addr) (m c:Nat) (news:List Value) (hx:a.eval x=.slice (some ad) m c) (hl:news.length=m * size) (hnews:∀ j u,news[j]? = some u→w.cell? (ad.add j)=some u) (h1:∀ u ∈ news,u.oneCell'=true) (hm:0 < m)
   (h63:n+m ≤ maxLen) (hbytes:(n+m) * bytes ≤ 140737488355328) (hbase:base ≤ w.heap.size)
   (h:∀ v' w',w'.ownsRow base e size v' (n+m) (xs ++ news)→w.grownBy w' v.ownBlock→(v'.ownBlock=v.ownBlock ∨ v'.ownBlock=some w.heap.size)→K (a.put o.dst v') w'):Oper.wp P o a w K Q:=by
 obtain ⟨v',w',hr,h2,h3,-⟩:=run_append_own (P:=P) w base t o.type e i z size bytes ht hi hz hsize hby hzs hsz v n xs hown ad m c news hl hnews h1 h63 hbytes hbase
 have h4:=append_block base t o.type e i z size bytes ht hi hz hsize hby v v' n xs hown ad m c news hl hnews h1 hm h63 hbytes hr
 unfold Oper.wp execOp
 simp only [ho,resolve,invoke,builtin,Sem.run_bind,Sem.run_pure,Result.andThen_ok,List.map_toArray,List.map_cons,List.map_nil,hs,hx,hr]
 exact h v' w' h2 h3 h4
def OneAt (w:World) (lo:Nat) (y:Tr) (v:Value):Prop:=∃ p2 c2 g,v=.slice (some ⟨g,0,none⟩) 1 1∧TreesAt w (fun b=>lo ≤ b) (.slice p2 y.subs.length c2) y.subs∧(∀ (j:Nat) (u:Value),(y.cells (.slice p2 y.subs.length c2)).toList[j]? = some u→w.cell? ((⟨g,0,none⟩:Addr).add j)=some u)
theorem OneAt.below {w w':World} {lo:Nat} {y:Tr} {v:Value} (h:OneAt w lo y v) (hb:Below w.heap.size w w'):OneAt w' lo y v:=by
 obtain ⟨p2,c2,g,h1,h2,h3⟩:=h
 refine ⟨p2,c2,g,h1,h2.later hb,fun j u hu=>?_⟩
 have h9:=h3 j u hu
 have ea:(⟨g,0,none⟩:Addr).add j=⟨g,0+j,none⟩:=by (unfold Addr.add;split <;> simp_all)
 rw [ea] at h9 ⊢
 rw [World.cell?,hb.block g (block_lt_of_cell h9)];exact h9
theorem OneAt.new {w:World} {lo:Nat} {y:Tr} {p2:Option Addr} {c2:Nat} (ty:TypeId) (h:TreesAt w (fun b=>lo ≤ b) (.slice p2 y.subs.length c2) y.subs):OneAt (w.alloc (.cells (y.cells (.slice p2 y.subs.length c2)) ty)) lo y (.slice (some ⟨w.heap.size,0,none⟩) 1 1) :=
 ⟨p2,c2,w.heap.size,rfl,h.later ((Below.refl _ _).alloc (Nat.le_refl _) _),news_one w y p2 y.subs.length c2 ty⟩
end Go.Proofs.Ytedjkbmfpjmlpaa
namespace Go.Proofs.Ytedjkbmfpjmlpaa
open Go.RowKit
namespace Ri
variable {P:Program} {ops:Array Oper} {Q:Exit→Act→World→Prop}
def Fa (K:Nat→World→Value→Prop) (W:World) (L:Nat→Bool) (v:Nat→Value) (w:World):Prop:=Below W.heap.size W w∧∀ k,L k=true→K k w (v k)
theorem Fa.step {K:Nat→World→Value→Prop} (hK:∀ k w v w',K k w v→Below w.heap.size w w'→K k w' v) {W:World} {L:Nat→Bool} {v:Nat→Value} {w w':World} {i:Nat} {u:Value} (h:Fa K W L v w) (hb:Below w.heap.size w w') (hu:K i w' u):Fa K W (up L i true) (up v i u) w':=by
 refine ⟨h.1.trans (hb.mono h.1.size),fun k hk=>?_⟩
 by_cases e:k=i
 · subst e;rw [up_same];exact hu
 · rw [up_other _ _ _ _ e] at hk ⊢
   exact hK k w _ w' (h.2 k hk) hb
end Ri
end Go.Proofs.Ytedjkbmfpjmlpaa
namespace Go.Proofs.Ytedjkbmfpjmlpaa
open Go.RowKit
namespace Ri
variable {P:Program} {ops:Array Oper} {Q:Exit→Act→World→Prop}
def deps (ops:Array Oper) (i:Nat):List Nat:=match ops[i]? with
 | some o=>o.after.toList.filterMap fun e=>if Region.binds .any e then some e.on else none
 | none=>[]
def reach (ops:Array Oper):Nat→List Nat→List Nat
 | 0,l=>l
 | n+1,l=>l ++ reach ops n (l.flatMap (deps ops))
def waitsT (ops:Array Oper) (last:Nat):Bool:=(List.range last).all fun k=>(reach ops last (deps ops last)).contains k
def Closed (ops:Array Oper) (L:Nat→Bool):Prop:=∀ k,L k=true→∀ j,j ∈ deps ops k→L j=true
theorem Closed.deps {L:Nat→Bool} {i:Nat} (hd:∀ o,ops[i]? = some o→∀ e ∈ o.after,Region.binds .any e=true→L e.on=true) {j:Nat} (hj:j ∈ Ri.deps ops i):L j=true:=by
 unfold Ri.deps at hj
 cases ho:ops[i]? with
 | none=>rw [ho] at hj;cases hj
 | some o =>
   rw [ho] at hj
   obtain ⟨e,he,h2⟩:=List.mem_filterMap.1 hj
   split at h2
   · rename_i hb
     injection h2 with h2
     rw [← h2]
     exact hd o ho e (Array.mem_toList_iff.1 he) hb
   · cases h2
theorem Closed.step {L:Nat→Bool} (h:Closed ops L) {i:Nat} (hd:∀ o,ops[i]? = some o→∀ e ∈ o.after,Region.binds .any e=true→L e.on=true):Closed ops (up L i true):=by
 intro k hk j hj
 have hj2:L j=true:=by
   by_cases e:k=i
   · subst e;exact Closed.deps hd hj
   · rw [up_other _ _ _ _ e] at hk;exact h k hk j hj
 by_cases e:j=i
 · subst e;rw [up_same]
 · rw [up_other _ _ _ _ e];exact hj2
theorem Closed.reach {L:Nat→Bool} (h:Closed ops L) {n:Nat} {l:List Nat} (hl:∀ j,j ∈ l→L j=true) {k:Nat} (hk:k ∈ Ri.reach ops n l):L k=true:=by
 induction n generalizing l with
 | zero=>rw [Ri.reach] at hk;exact hl k hk
 | succ n ih =>
   rw [Ri.reach,List.mem_append] at hk
   rcases hk with hk | hk
   · exact hl k hk
   · refine ih (fun j hj=>?_) hk
     obtain ⟨a,ha,hja⟩:=List.mem_flatMap.1 hj
     exact h a (hl a ha) j hja
end Ri
end Go.Proofs.Ytedjkbmfpjmlpaa
namespace Go.Proofs.Ytedjkbmfpjmlpaa
open Go.RowKit
namespace Ri
variable {P:Program} {ops:Array Oper} {Q:Exit→Act→World→Prop}
def midst (ops:Array Oper) (p last:Nat) (free:Nat→Bool):Bool:=(List.range last).all fun k=>k == p || free k || (reach ops last (deps ops p)).contains k
theorem wp_region_app {id:Nat} {a:Act} {w:World} (hm:P.follows .mixedOrders=true) (hb:backward ops=true) (hap:apart ops=true) (hsz0:(ops.toList.all fun o=>o.dst.all fun d=>decide (d < a.tmps.size))=true)
   (last p:Nat) (hn:ops.size=last+1) (hp:p < last) (free:Nat→Bool) (hw:waitsT ops last=true) (hwp:midst ops p last free=true)
   (K:Nat→World→Value→Prop) (KF:Value→Nat→Value→Prop) (Mid:Value→World→Prop) (Fin:(Nat→Value)→World→Prop)
   (hK:∀ k w v w',K k w v→Below w.heap.size w w'→K k w' v) (hKF:∀ k w v x,K k w v→KF x k v)
   (step:∀ i,i < last→i ≠ p→∀ (L:Nat→Bool) (v:Nat→Value) (w':World) (a':Act),Fa K w L v w'→L i=false→L p=false→(∀ o,ops[i]? = some o→∀ e ∈ o.after,Region.binds .any e=true→L e.on=true) →
     (∀ j d:Nat,(ops[j]?).bind (·.dst)=some d→L j=true→a'.tmps.getD d undef=v j)→(∀ d,ops.toList.all (fun o=>o.dst != some d)=true→a'.tmps.getD d undef=a.tmps.getD d undef) →
     wpOp P ops Q i (fun b w''=>∃ (o:Oper) (u:Value),ops[i]? = some o∧b=a'.put o.dst u∧Below w'.heap.size w' w''∧K i w'' u) a' w')
   (stepF:∀ i,i < last→free i=true→∀ (L:Nat→Bool) (v:Nat→Value) (w':World) (a':Act),Mid (v p) w'→(∀ k,k < last→k ≠ p→L k=true→KF (v p) k (v k))→L i=false→L p=true→(∀ o,ops[i]? = some o→∀ e ∈ o.after,Region.binds .any e=true→L e.on=true) →
     (∀ j d:Nat,(ops[j]?).bind (·.dst)=some d→L j=true→a'.tmps.getD d undef=v j)→(∀ d,ops.toList.all (fun o=>o.dst != some d)=true→a'.tmps.getD d undef=a.tmps.getD d undef) →
     wpOp P ops Q i (fun b w''=>∃ (o:Oper) (u:Value),ops[i]? = some o∧b=a'.put o.dst u∧w''=w'∧KF (v p) i u) a' w')
   (app:∀ (L:Nat→Bool) (v:Nat→Value) (w':World) (a':Act),Fa K w L v w'→(∀ k,k < last→k ≠ p→free k=false→L k=true) →
     (∀ j d:Nat,(ops[j]?).bind (·.dst)=some d→L j=true→a'.tmps.getD d undef=v j)→(∀ d,ops.toList.all (fun o=>o.dst != some d)=true→a'.tmps.getD d undef=a.tmps.getD d undef) →
     wpOp P ops Q p (fun b w''=>∃ (o:Oper) (u:Value),ops[p]? = some o∧b=a'.put o.dst u∧Mid u w'') a' w')
   (put:∀ (L:Nat→Bool) (v:Nat→Value) (w':World) (a':Act),Mid (v p) w'→(∀ k,k < last→L k=true)→(∀ k,k < last→k ≠ p→KF (v p) k (v k)) →
     (∀ j d:Nat,(ops[j]?).bind (·.dst)=some d→L j=true→a'.tmps.getD d undef=v j)→(∀ d,ops.toList.all (fun o=>o.dst != some d)=true→a'.tmps.getD d undef=a.tmps.getD d undef) →
     wpOp P ops Q last (fun b w''=>∃ (o:Oper) (u:Value),ops[last]? = some o∧b=a'.put o.dst u∧Fin (up v last u) w'') a' w')
   (fin:∀ v w',Fin v w'→Q .normal (frame ops a (fun _=>true) v) w'):(Code.region id ops true).wp P Q a w:=by
 refine wp_region_frame hm hb hap hsz0 (fun L v w'=>(L p=false→Fa K w L v w'∧L last=false)∧(L p=true→L last=false→Mid (v p) w'∧∀ k,k < last→k ≠ p→L k=true→KF (v p) k (v k)) ∧
   (L p=true→∀ k,k < last→k ≠ p→free k=false→L k=true)∧(L last=true→Fin v w'∧∀ k,k < last→L k=true)∧Closed ops L) ⟨fun _=>⟨⟨(Below.refl _ _).drew,fun k h=>by cases h⟩,rfl⟩,(fun h=>by cases h),(fun h=>by cases h),(fun h=>by cases h),fun k h=>by cases h⟩ ?_ ?_
 · intro i hi L v w' a' hI hL hd hv ho
   rw [hn] at hi
   obtain ⟨h1,h2,h3,h4,h5⟩:=hI
   by_cases e:i=last
   · subst e
     have hall:∀ k,k < i→L k=true:=fun k hk=>by
       unfold waitsT at hw
       have h1:=List.all_eq_true.1 hw k (List.mem_range.2 hk)
       rw [List.contains_eq_mem,decide_eq_true_eq] at h1
       exact h5.reach (fun j hj=>Closed.deps hd hj) h1
     have hLp:=hall p hp
     obtain ⟨m1,m2⟩:=h2 hLp hL
     refine wpOp_mono ?_ (put L v w' a' m1 hall (fun k hk hf=>m2 k hk hf (hall k hk)) hv ho)
     rintro b w'' ⟨o,u,g1,g2,g3⟩
     refine ⟨o,u,g1,g2,(fun h=>?_),(fun _ h=>(by rw [up_same] at h;cases h)),(fun _ k hk hkp hf=>?_),(fun _=>⟨g3,fun k hk=>?_⟩),h5.step hd⟩
     · rw [up_other _ _ _ _ (by omega),hLp] at h;cases h
     · rw [up_other _ _ _ _ (by omega)];exact hall k hk
     · rw [up_other _ _ _ _ (by omega)];exact hall k hk
   · have hl:L last=false:=by
       cases h:L last with
       | false=>rfl
       | true=>have:=(h4 h).2 i (by omega);rw [hL] at this;cases this
     by_cases ep:i=p
     · subst ep
       have hall:∀ k,k < last→k ≠ i→free k=false→L k=true:=fun k hk hki hf=>by
         unfold midst at hwp
         have h1:=List.all_eq_true.1 hwp k (List.mem_range.2 hk)
         rw [hf,List.contains_eq_mem] at h1
         simp only [Bool.or_false,Bool.or_eq_true,beq_iff_eq,decide_eq_true_eq] at h1
         rcases h1 with h1 | h1
         · exact absurd h1 hki
         · exact h5.reach (fun j hj=>Closed.deps hd hj) h1
       have hF:=(h1 hL).1
       refine wpOp_mono ?_ (app L v w' a' hF hall hv ho)
       rintro b w'' ⟨o,u,g1,g2,g3⟩
       refine ⟨o,u,g1,g2,(fun h=>(by rw [up_same] at h;cases h)),(fun _ _=>⟨by rw [up_same];exact g3,fun k hk hki hk2=>?_⟩),(fun _ k hk hki hf=>?_),(fun h=>?_),h5.step hd⟩
       · rw [up_same,up_other _ _ _ _ hki]
         rw [up_other _ _ _ _ hki] at hk2
         exact hKF k _ _ _ (hF.2 k hk2)
       · rw [up_other _ _ _ _ hki];exact hall k hk hki hf
       · rw [up_other _ _ _ _ (by omega),hl] at h;cases h
     · cases hLp:L p with
       | false =>
         refine wpOp_mono ?_ (step i (by omega) ep L v w' a' (h1 hLp).1 hL hLp hd hv ho)
         rintro b w'' ⟨o,u,g1,g2,g3,g4⟩
         refine ⟨o,u,g1,g2,(fun _=>⟨(h1 hLp).1.step hK g3 g4,by rw [up_other _ _ _ _ (Ne.symm e)];exact hl⟩),(fun h=>?_),(fun h=>?_),(fun h=>?_),h5.step hd⟩
         · rw [up_other _ _ _ _ (Ne.symm ep),hLp] at h;cases h
         · rw [up_other _ _ _ _ (Ne.symm ep),hLp] at h;cases h
         · rw [up_other _ _ _ _ (Ne.symm e),hl] at h;cases h
       | true =>
         have hf:free i=true:=by
           cases h:free i with
           | true=>rfl
           | false=>have:=h3 hLp i (by omega) ep h;rw [hL] at this;cases this
         obtain ⟨m1,m2⟩:=h2 hLp hl
         refine wpOp_mono ?_ (stepF i (by omega) hf L v w' a' m1 m2 hL hLp hd hv ho)
         rintro b w'' ⟨o,u,g1,g2,rfl,g4⟩
         refine ⟨o,u,g1,g2,(fun h=>?_),(fun _ _=>⟨by rw [up_other _ _ _ _ (Ne.symm ep)];exact m1,fun k hk hkp hk2=>?_⟩),(fun _ k hk hkp hfk=>?_),(fun h=>?_),h5.step hd⟩
         · rw [up_other _ _ _ _ (Ne.symm ep),hLp] at h;cases h
         · rw [up_other _ _ _ _ (Ne.symm ep)]
           by_cases ek:k=i
           · subst ek;rw [up_same];exact g4
           · rw [up_other _ _ _ _ ek] at hk2 ⊢;exact m2 k hk hkp hk2
         · by_cases ek:k=i
           · subst ek;rw [up_same]
           · rw [up_other _ _ _ _ ek];exact h3 hLp k hk hkp hfk
         · rw [up_other _ _ _ _ (Ne.symm e),hl] at h;cases h
 · intro v w' hI
   exact fin v w' (hI.2.2.2.1 (by rw [hn];simp)).1
end Ri
end Go.Proofs.Ytedjkbmfpjmlpaa
namespace Go.Proofs.Ytedjkbmfpjmlpaa
open Go.RowKit
theorem set0 {w:World} {b:Nat} {x0 x1 x2 x3 x4 x5 x6 x7 x8 x9 y:Value} {t:TypeId} (h:w.heap[b]? = some (.cells #[x0,x1,x2,x3,x4,x5,x6,x7,x8,x9] t)):(w.setCell ⟨b,0,none⟩ y).heap[b]? = some (.cells #[y,x1,x2,x3,x4,x5,x6,x7,x8,x9] t):=by
 simp [World.setCell,Array.getElem?_modify,h]
theorem tu_at0 {w:World} {b:Nat} {x0 x1 x2 x3 x4 x5 x6 x7 x8 x9:Value} {t:TypeId} (h:w.heap[b]? = some (.cells #[x0,x1,x2,x3,x4,x5,x6,x7,x8,x9] t)):w.cell? ⟨b,0,none⟩=some x0∧w.frozen? ⟨b,0,none⟩=false:=by
 simp [World.cell?,World.frozen?,h]
theorem turef_seq (k:Int) (a b c d:BitVec 64) (ts:List Tr) (n lo hi:Int) (br:Bool) (hk:k=5) (w:World) (Bb:Nat→Prop) (s:Value) (ih:∀ u,u ∈ ts→∀ (w:World) (B:Nat→Prop) (v:Value),NodeV w B v u→Calls Try.prog 8 #[v] w (NewEnd u.turT w)) (hs:TreesAt w Bb s ts) :
   Calls Try.prog 8 #[.agg #[.int .i64 k,.int .u64 (Oc.U a),.int .u64 (Oc.U b),.int .u64 (Oc.U c),.int .u64 (Oc.U d),s,.int .i64 n,.int .i64 lo,.int .i64 hi,.bool br]] w (NewEnd (Tr.turT (.node k a b c d ts n lo hi br)) w):=by
 obtain ⟨p,cap,rfl,hlen⟩:=hs.slice
 have IH:=Lib.hid ih;have HS:=Lib.hid hs;have HKV:=Lib.hid hk
 clear hk
 obtain ⟨ie,hi0,hz0,hz1,hz2⟩:=info_parts Try.infoNode
 have HI:=Lib.hid hi0;have HZ0:=Lib.hid hz0;have HZ1:=Lib.hid hz1;have HZ2:=Lib.hid hz2
 obtain ⟨ts1,hts1⟩:∃ ts1,ts1=Tr.rv k ts:=⟨_,rfl⟩
 have hln:ts1.length=ts.length:=by rw [hts1,Tr.rv_length]
 have HTS:=Lib.hid hts1
 obtain ⟨z0,z1,z2⟩:=three_new w (.cells #[.int .i64 k,.int .u64 (Oc.U a),.int .u64 (Oc.U b),.int .u64 (Oc.U c),.int .u64 (Oc.U d),.slice p ts.length cap,.int .i64 n,.int .i64 lo,.int .i64 hi,.bool br] 27) (.cells noNode 27) (.cells #[.int .i64 k,.int .u64 (Oc.U a),.int .u64 (Oc.U b),.int .u64 (Oc.U c),.int .u64 (Oc.U d),.slice none 0 0,.int .i64 n,.int .i64 lo,.int .i64 hi,.bool br] 27)
 have hb0:Below w.heap.size w (((w.alloc (.cells #[.int .i64 k,.int .u64 (Oc.U a),.int .u64 (Oc.U b),.int .u64 (Oc.U c),.int .u64 (Oc.U d),.slice p ts.length cap,.int .i64 n,.int .i64 lo,.int .i64 hi,.bool br] 27)).alloc (.cells noNode 27)).alloc (.cells #[.int .i64 k,.int .u64 (Oc.U a),.int .u64 (Oc.U b),.int .u64 (Oc.U c),.int .u64 (Oc.U d),.slice none 0 0,.int .i64 n,.int .i64 lo,.int .i64 hi,.bool br] 27)):=by go_grown
 have hs0:(((w.alloc (.cells #[.int .i64 k,.int .u64 (Oc.U a),.int .u64 (Oc.U b),.int .u64 (Oc.U c),.int .u64 (Oc.U d),.slice p ts.length cap,.int .i64 n,.int .i64 lo,.int .i64 hi,.bool br] 27)).alloc (.cells noNode 27)).alloc (.cells #[.int .i64 k,.int .u64 (Oc.U a),.int .u64 (Oc.U b),.int .u64 (Oc.U c),.int .u64 (Oc.U d),.slice none 0 0,.int .i64 n,.int .i64 lo,.int .i64 hi,.bool br] 27)).heap.size=w.heap.size+3:=by simp
 have Z0:=Lib.hid z0;have Z1:=Lib.hid z1;have Z2:=Lib.hid z2;have HB0:=Lib.hid hb0;have HS0:=Lib.hid hs0
 clear ih hs hi0 hz0 hz1 hz2 z0 z1 z2 hb0 hs0
 go_enter Try.func8,Try.ntmps8
 go_upto_region 3 with (fail)
 generalize ((w.alloc _).alloc _).alloc _=W0 at *
 obtain ⟨f5,-⟩:=at5 Z0.out
 go_wp2
 clear f5
 go_loopw [5] (fun iv wr=>∃ (m:Nat) (ps:List (Tr × Value)) (sv:Value),iv=.int .i64 (m:Int)∧m ≤ ts.length∧ps.length=m∧Hid (ps.map (·.1)=(ts1.take m).map Tr.turT)∧Hid (RowLo (w.heap.size+3) (w.heap.size+3) wr sv ps)∧Hid (Below w.heap.size w wr)∧w.heap.size+3 ≤ wr.heap.size ∧
     Hid (wr.heap[w.heap.size]? = some (.cells #[.int .i64 k,.int .u64 (Oc.U a),.int .u64 (Oc.U b),.int .u64 (Oc.U c),.int .u64 (Oc.U d),.slice p ts.length cap,.int .i64 n,.int .i64 lo,.int .i64 hi,.bool br] 27))∧Hid (wr.heap[w.heap.size+1]? = some (.cells noNode 27))∧Hid (wr.heap[w.heap.size+2]? = some (.cells #[.int .i64 k,.int .u64 (Oc.U a),.int .u64 (Oc.U b),.int .u64 (Oc.U c),.int .u64 (Oc.U d),sv,.int .i64 n,.int .i64 lo,.int .i64 hi,.bool br] 27))) (fun iv _=>ts.length - (intOf iv).toNat)
 case atStart=>exact ⟨0,[],_,rfl,Nat.zero_le _,rfl,Lib.hid (by simp),Lib.hid (RowLo.nil _ _ _),HB0,Nat.le_of_eq HS0.out.symm,Z0,Z1,Z2⟩
 case round =>
   clear Z0 Z1 Z2 HB0 HS0
   obtain ⟨m,ps,sv,rfl,hm,hpl,HMP,HR,HB,hsz,X0,X1,X2⟩:=hrel
   have wm:IntKind.i64.wrap ((m:Int)+1)=(m:Int)+1:=IntWalk.i64_in _ (by omega)
   by_cases hlt:m < ts.length
   · obtain ⟨x,hx⟩:∃ x,ts1[m]? = some x:=⟨_,List.getElem?_eq_getElem (by omega)⟩
     have e5:(k == 5)=true:=by simpa using HKV.out
     have wa:IntKind.i64.wrap ((ts.length:Int) - 1)=(ts.length:Int) - 1:=IntWalk.i64_in _ (by omega)
     have wb:IntKind.i64.wrap ((ts.length:Int) - 1 - (m:Int))=(ts.length:Int) - 1 - (m:Int):=IntWalk.i64_in _ (by omega)
     obtain ⟨ix,hkn⟩:∃ ix,ix=ts.length - 1 - m:=⟨_,rfl⟩
     have hkk:(ts.length:Int) - 1 - (m:Int)=(ix:Int):=by omega
     have HKK:=Lib.hid hkk
     have hkl:ix < ts.length:=by omega
     have hx1:ts[ix]? = some x:=by
       have:=hx
       rw [hts1] at this
       unfold Tr.rv at this
       rw [if_pos HKV.out,List.getElem?_reverse hlt] at this
       rw [hkn];exact this
     clear hkn hkk
     obtain ⟨b1,o1,s1,rfl,-,t1,sub1⟩:=HS.out.get hx1
     obtain ⟨p1,c1,rfl,hl1⟩:=sub1.slice
     have T1:=Lib.hid (fun w9 (hb9:Below wr.heap.size wr w9)=>t1.keep ((HB.out.trans (hb9.mono HB.out.size)).block _ t1.lt))
     have HCALL:=Lib.hid (fun w9 (hb9:Below wr.heap.size wr w9)=>IH.out x (List.mem_of_getElem? hx1) w9 Bb (.agg (x.cells (.slice p1 x.subs.length c1))) ⟨_,rfl,sub1.later (HB.out.trans (hb9.mono HB.out.size))⟩)
     have HMY:=Lib.hid (show (ts1.take (m+1)).map Tr.turT=(ts1.take m).map Tr.turT ++ [x.turT] by rw [List.take_add_one,hx,List.map_append];rfl)
     clear t1 sub1 hx hx1 hts1
     generalize x.turT=y at *
     unfold Tr.cells at HCALL
     obtain ⟨f0,-⟩:=tu_at0 X0.out
     have hdl:decide ((m:Int) < (ts.length:Int))=true:=decide_eq_true (by omega)
     go_upto_region 10 with (fail)
     clear f0
     refine Ri.wp_region_app (by kernel_rfl) (by kernel_rfl) (by kernel_rfl) (by kernel_rfl) 11 9 (by kernel_rfl) (by omega) (fun kk=>kk == 10) (by kernel_rfl) (by kernel_rfl) (fun kk ww vv=>match kk with | 0=>vv=.pointer (some ⟨w.heap.size+1+1,5,none⟩) | 1=>vv=sv | 2=>vv=.pointer (some ⟨w.heap.size,5,none⟩) | 3=>vv=.slice (some ⟨b1,o1,none⟩) ts.length cap | 4=>vv=.int .i64 (ix:Int) | 5=>vv=.pointer (some ⟨b1,o1+ix * 10,none⟩) | 6=>vv=.agg #[.int .i64 x.kind,.int .u64 (Oc.U x.w0),.int .u64 (Oc.U x.w1),.int .u64 (Oc.U x.w2),.int .u64 (Oc.U x.w3),.slice p1 x.subs.length c1,.int .i64 x.num,.int .i64 x.least,.int .i64 x.most,.bool x.bare] | 7=>∃ s2,vv=.agg (y.cells s2)∧TreesAt ww (fun b=>wr.heap.size ≤ b) s2 y.subs | 8=>OneAt ww wr.heap.size y vv | 10=>vv=.pointer (some ⟨w.heap.size+1+1,5,none⟩) | _=>True) (fun _ kk vv=>match kk with | 0=>vv=.pointer (some ⟨w.heap.size+1+1,5,none⟩) | 1=>vv=sv | 2=>vv=.pointer (some ⟨w.heap.size,5,none⟩) | 3=>vv=.slice (some ⟨b1,o1,none⟩) ts.length cap | 4=>vv=.int .i64 (ix:Int) | 5=>vv=.pointer (some ⟨b1,o1+ix * 10,none⟩) | 6=>vv=.agg #[.int .i64 x.kind,.int .u64 (Oc.U x.w0),.int .u64 (Oc.U x.w1),.int .u64 (Oc.U x.w2),.int .u64 (Oc.U x.w3),.slice p1 x.subs.length c1,.int .i64 x.num,.int .i64 x.least,.int .i64 x.most,.bool x.bare] | 10=>vv=.pointer (some ⟨w.heap.size+1+1,5,none⟩) | _=>True) (fun uu ww=>∃ p2 c2,RowLo (w.heap.size+3) (w.heap.size+3) ww uu (ps ++ [(y,.slice p2 y.subs.length c2)])∧Below (w.heap.size+3) wr ww) (fun vv ww=>∃ U p2 c2,ww.heap[w.heap.size+2]? = some (.cells #[.int .i64 k,.int .u64 (Oc.U a),.int .u64 (Oc.U b),.int .u64 (Oc.U c),.int .u64 (Oc.U d),U,.int .i64 n,.int .i64 lo,.int .i64 hi,.bool br] 27)∧RowLo (w.heap.size+3) (w.heap.size+3) ww U (ps ++ [(y,.slice p2 y.subs.length c2)])∧Below (w.heap.size+2) wr ww) (fun kk ww vv w8 h hb=>by
               match kk,h with
               | 0,h=>exact h
               | 1,h=>exact h
               | 2,h=>exact h
               | 3,h=>exact h
               | 4,h=>exact h
               | 5,h=>exact h
               | 6,h=>exact h
               | 7,h=>exact h.imp fun s2 h=>⟨h.1,h.2.later hb⟩
               | 8,h=>exact h.below hb
               | 9,h=>exact trivial
               | 10,h=>exact h
               | _+11,_=>trivial) (fun kk ww vv xx h=>by
               match kk,h with
               | 0,h=>exact h
               | 1,h=>exact h
               | 2,h=>exact h
               | 3,h=>exact h
               | 4,h=>exact h
               | 5,h=>exact h
               | 6,h=>exact h
               | 7,h=>exact trivial
               | 8,h=>exact trivial
               | 9,h=>exact trivial
               | 10,h=>exact h
               | _+11,_=>trivial) ?_ ?_ ?_ ?_ ?_
     · intro i hi9 hip L v w9 xa hF9 hL hLp hd hv ho
       obtain ⟨hb,hk⟩:=hF9
       have hi':i=0 ∨ i=1 ∨ i=2 ∨ i=3 ∨ i=4 ∨ i=5 ∨ i=6 ∨ i=7 ∨ i=8 ∨ i=10:=by omega
       rcases hi' with rfl | rfl | rfl | rfl | rfl | rfl | rfl | rfl | rfl | rfl
       · have e3:xa.tmps.getD 3 undef=.pointer (some ⟨w.heap.size+1+1,0,none⟩):=ho 3 (by kernel_rfl)
         refine Ri.step_plain rfl rfl (fun K' hK'=>?_)
         go_simp
         exact hK' _ _ ⟨_,_,rfl,rfl,(Below.refl _ _),rfl⟩
       · have j0:L 0=true:=by have:=hd _ rfl;simp [Region.binds] at this;simp [this]
         have f0:=(hv 0 25 rfl j0).trans (hk 0 j0)
         refine Ri.step_plain rfl rfl (fun K' hK'=>?_)
         obtain ⟨h5,-⟩:=at5 (keep_blk hb X2.out)
         go_simp
         exact hK' _ _ ⟨_,_,rfl,rfl,(Below.refl _ _),rfl⟩
       · have e1:xa.tmps.getD 1 undef=.pointer (some ⟨w.heap.size,0,none⟩):=ho 1 (by kernel_rfl)
         refine Ri.step_plain rfl rfl (fun K' hK'=>?_)
         go_simp
         exact hK' _ _ ⟨_,_,rfl,rfl,(Below.refl _ _),rfl⟩
       · have j2:L 2=true:=by have:=hd _ rfl;simp [Region.binds] at this;simp [this]
         have f2:=(hv 2 27 rfl j2).trans (hk 2 j2)
         refine Ri.step_plain rfl rfl (fun K' hK'=>?_)
         obtain ⟨h5,-⟩:=at5 (keep_blk hb X0.out)
         go_simp
         exact hK' _ _ ⟨_,_,rfl,rfl,(Below.refl _ _),rfl⟩
       · have e6:xa.tmps.getD 6 undef=.int .i64 ((ts.length:Int) - 1 - (m:Int)):=ho 6 (by kernel_rfl)
         refine Ri.step_plain rfl rfl (fun K' hK'=>?_)
         go_simp
         exact hK' _ _ ⟨_,_,rfl,rfl,(Below.refl _ _),(congrArg (Value.int .i64) HKK.out)⟩
       · obtain ⟨j3,j4⟩:L 3=true∧L 4=true:=by have:=hd _ rfl;simp [Region.binds] at this;simp [this]
         have f3:=(hv 3 28 rfl j3).trans (hk 3 j3)
         have f4:=(hv 4 29 rfl j4).trans (hk 4 j4)
         refine Ri.step_plain rfl rfl (fun K' hK'=>?_)
         go_simp
         exact hK' _ _ ⟨_,_,rfl,rfl,(Below.refl _ _),rfl⟩
       · have j5:L 5=true:=by have:=hd _ rfl;simp [Region.binds] at this;simp [this]
         have f5:=(hv 5 30 rfl j5).trans (hk 5 j5)
         refine Ri.step_plain rfl rfl (fun K' hK'=>?_)
         obtain ⟨d0,d1,d2,d3,d4,d5,d6,d7,d8,d9⟩:=T1.out w9 hb
         go_simp
         exact hK' _ _ ⟨_,_,rfl,rfl,(Below.refl _ _),rfl⟩
       · have j6:L 6=true:=by have:=hd _ rfl;simp [Region.binds] at this;simp [this]
         have f6:=(hv 6 31 rfl j6).trans (hk 6 j6)
         refine Ri.step_plain rfl rfl (fun K' hK'=>?_)
         go_simp
         refine (HCALL.out w9 hb).mono ?_
         intro e w8 he
         obtain ⟨s2,rfl,ht8,hb8⟩:=he.of
         exact hK' _ _ ⟨_,_,rfl,rfl,hb8,⟨s2,rfl,ht8.mono fun b _ hb9=>Nat.le_trans hb.size hb9⟩⟩
       · have j7:L 7=true:=by have:=hd _ rfl;simp [Region.binds] at this;simp [this]
         have k7:∃ s2,(v 7)=.agg (y.cells s2)∧TreesAt w9 (fun b=>wr.heap.size ≤ b) s2 y.subs:=hk 7 j7
         have f7:=hv 7 32 rfl j7
         refine Ri.step_plain rfl rfl (fun K' hK'=>?_)
         obtain ⟨s2,e8,ht8⟩:=k7
         obtain ⟨p2,c2,rfl,-⟩:=ht8.slice
         replace f7:=f7.trans e8
         refine wp_node1 (.tmp 32) y p2 y.subs.length c2 rfl f7 ?_
         exact hK' _ _ ⟨_,_,rfl,rfl,((Below.refl _ _).alloc (Nat.le_refl _) _),OneAt.new _ ht8⟩
       · have e3:xa.tmps.getD 3 undef=.pointer (some ⟨w.heap.size+1+1,0,none⟩):=ho 3 (by kernel_rfl)
         refine Ri.step_plain rfl rfl (fun K' hK'=>?_)
         go_simp
         exact hK' _ _ ⟨_,_,rfl,rfl,(Below.refl _ _),rfl⟩
     · intro i hi9 hfr L v w9 xa hM hk hL hLp hd hv ho
       have hi':i=10:=by (simp at hfr;omega)
       rcases hi' with rfl
       · have e3:xa.tmps.getD 3 undef=.pointer (some ⟨w.heap.size+1+1,0,none⟩):=ho 3 (by kernel_rfl)
         refine Ri.step_plain rfl rfl (fun K' hK'=>?_)
         go_simp
         exact hK' _ _ ⟨_,_,rfl,rfl,rfl,rfl⟩
     · intro L v w9 xa hF9 hall hv ho
       obtain ⟨hb,hk⟩:=hF9
       have j0:=hall 0 (by omega) (by omega) rfl
       have f0:=(hv 0 25 rfl j0).trans (hk 0 j0)
       have j1:=hall 1 (by omega) (by omega) rfl
       have f1:=(hv 1 26 rfl j1).trans (hk 1 j1)
       have j2:=hall 2 (by omega) (by omega) rfl
       have f2:=(hv 2 27 rfl j2).trans (hk 2 j2)
       have j3:=hall 3 (by omega) (by omega) rfl
       have f3:=(hv 3 28 rfl j3).trans (hk 3 j3)
       have j4:=hall 4 (by omega) (by omega) rfl
       have f4:=(hv 4 29 rfl j4).trans (hk 4 j4)
       have j5:=hall 5 (by omega) (by omega) rfl
       have f5:=(hv 5 30 rfl j5).trans (hk 5 j5)
       have j6:=hall 6 (by omega) (by omega) rfl
       have f6:=(hv 6 31 rfl j6).trans (hk 6 j6)
       have j7:=hall 7 (by omega) (by omega) rfl
       have k7:∃ s2,(v 7)=.agg (y.cells s2)∧TreesAt w9 (fun b=>wr.heap.size ≤ b) s2 y.subs:=hk 7 j7
       have f7:=hv 7 32 rfl j7
       have j8:=hall 8 (by omega) (by omega) rfl
       have k8:OneAt w9 wr.heap.size y (v 8):=hk 8 j8
       have f8:=hv 8 33 rfl j8
       refine Ri.step_plain rfl rfl (fun K' hK'=>?_)
       have hrow:=HR.out.below hb
       have hbz:=hb.size;have hsz9:=hsz
       obtain ⟨p2,c2,g,e8,ht8,hc8⟩:=k8
       replace f8:=f8.trans e8
       clear e8
       have hml:ps.length+1 ≤ maxLen:=by unfold maxLen;omega
       have hbyt:(ps.length+1) * 96 ≤ 140737488355328:=by omega
       have hba:w.heap.size+3 ≤ w9.heap.size:=by omega
       refine wp_append_node _ (.tmp 26) (.tmp 33) 25 rfl (w.heap.size+3) 27 ie _ 10 96 Try.underlying25 HI.out HZ0.out HZ1.out HZ2.out rfl (by decide) sv ps.length (rowOf ps) f1 hrow.1 ⟨g,0,none⟩ 1 1 (y.cells (.slice p2 y.subs.length c2)).toList f8 rfl hc8 (nodeC_one _ _ _ _) (by decide) hml hbyt hba ?_
       intro v' w4 hown4 hgrow4 hwhere
       exact hK' _ _ ⟨_,_,rfl,rfl,⟨p2,c2,hrow.step (ht8.mono fun b _ hb9=>⟨by omega,fun e=>by have:=(HR.out.lt b e).2;omega⟩) hown4 hgrow4 hwhere,((hb.mono hsz).grown hgrow4 (by omega) (fun k e=>(HR.out.lt k e).1))⟩⟩
     · intro L v w9 xa hM hall hk hv ho
       have f0:=(hv 0 25 rfl (hall 0 (by omega))).trans (hk 0 (by omega) (by omega))
       have f1:=(hv 1 26 rfl (hall 1 (by omega))).trans (hk 1 (by omega) (by omega))
       have f2:=(hv 2 27 rfl (hall 2 (by omega))).trans (hk 2 (by omega) (by omega))
       have f3:=(hv 3 28 rfl (hall 3 (by omega))).trans (hk 3 (by omega) (by omega))
       have f4:=(hv 4 29 rfl (hall 4 (by omega))).trans (hk 4 (by omega) (by omega))
       have f5:=(hv 5 30 rfl (hall 5 (by omega))).trans (hk 5 (by omega) (by omega))
       have f6:=(hv 6 31 rfl (hall 6 (by omega))).trans (hk 6 (by omega) (by omega))
       have f7:=hv 7 32 rfl (hall 7 (by omega))
       have f8:=hv 8 33 rfl (hall 8 (by omega))
       have f9:=hv 9 34 rfl (hall 9 (by omega))
       have f10:=(hv 10 35 rfl (hall 10 (by omega))).trans (hk 10 (by omega) (by omega))
       refine Ri.step_plain rfl rfl (fun K' hK'=>?_)
       obtain ⟨p2,c2,hr4,hb4⟩:=hM
       obtain ⟨q4,l4,c4,e4⟩:=hr4.slice
       have hx2:=(hb4.block (w.heap.size+2) (by omega)).trans X2.out
       obtain ⟨h5,g5⟩:=at5 hx2
       rw [e4] at f9 hr4
       clear e4
       go_simp
       exact hK' _ _ ⟨_,undef,rfl,rfl,⟨.slice q4 l4 c4,p2,c2,set5 hx2,hr4.setCell (by omega) _ _,(hb4.mono (by omega)).trans ((Below.refl (w.heap.size+2) w9).setCell (show w.heap.size+2 ≤ w.heap.size+1+1 from Nat.le_refl _) _)⟩⟩
     · intro v w9 hfin
       obtain ⟨U,p2,c2,hx2,hr4,hb4⟩:=hfin
       simp only [Ri.frame,List.zipIdx,List.foldl_cons,List.foldl_nil,if_true,List.setIfInBounds_toArray,List.set_cons_zero,List.set_cons_succ,Nat.reduceAdd]
       generalize v 0=z0;generalize v 1=z1;generalize v 2=z2;generalize v 3=z3;generalize v 4=z4;generalize v 5=z5;generalize v 6=z6;generalize v 7=z7;generalize v 8=z8;generalize v 9=z9;generalize v 10=z10
       have X0n:=Lib.hid ((hb4.block _ (by omega)).trans X0.out);have X1n:=Lib.hid ((hb4.block _ (by omega)).trans X1.out);have X2n:=Lib.hid hx2
       have HRn:=Lib.hid hr4
       have HBn:=Lib.hid (HB.out.trans (hb4.mono (by omega)))
       have hsn:w.heap.size+3 ≤ w9.heap.size:=by have:=hb4.size;omega
       clear hx2 hr4 hb4
       go_wp2
       exact ⟨⟨m+1,_,U,by go_num,by omega,by rw [List.length_append,hpl];rfl,Lib.hid (by rw [List.map_append,HMP.out,HMY.out];rfl),HRn,HBn,hsn,X0n,X1n,X2n⟩,by simp [intOf];omega⟩
   · obtain rfl:m=ts.length:=by omega
     have htr:=HR.out.trees (Nat.le_refl _) (by omega)
     rw [HMP.out,List.take_of_length_le (by omega)] at htr
     have HTR:=Lib.hid htr
     clear htr hts1
     obtain ⟨q4,l4,c4,rfl⟩:=HR.out.slice
     have hk:=HKV.out
     subst hk
     have HSH:=Lib.hid (show Tr.turT (.node 5 a b c d ts n lo hi br)=.node 5 a b c d (Tr.rv 5 (ts.map Tr.turT)) n lo hi br by rw [Tr.turT_node];rfl)
     have HSB:=Lib.hid (show (Tr.turT (.node 5 a b c d ts n lo hi br)).subs=ts1.map Tr.turT by rw [HSH.out,HTS.out,Tr.rv_map];rfl)
     obtain ⟨f0,g0⟩:=tu_at0 X0.out
     go_wp2_with (first
       | (refine wpList_load_row rfl 27 (.tmp 3) rfl (w.heap.size+1+1) rfl 27 _ (0,0) _ X2.out Try.underlying27 rfl (by kernel_rfl) ?_)
       | (refine wpList_store_row rfl 27 (.tmp 2) (.tmp 44) rfl (w.heap.size+1) #[.int .i64 5,.int .u64 (Oc.U a),.int .u64 (Oc.U b),.int .u64 (Oc.U c),.int .u64 (Oc.U d),.slice q4 l4 c4,.int .i64 n,.int .i64 lo,.int .i64 hi,.bool br] rfl rfl 27 _ X1.out (by kernel_rfl) rfl (by simp [Value.oneCell']) ?_)
       | fail)
     refine bodyPost_ret (results_cell_row rfl _ _ (w.heap.size+1) 27 #[.int .i64 5,.int .u64 (Oc.U a),.int .u64 (Oc.U b),.int .u64 (Oc.U c),.int .u64 (Oc.U d),.slice q4 l4 c4,.int .i64 n,.int .i64 lo,.int .i64 hi,.bool br] (0,0) _ rfl (heap_setRow X1.out) Try.underlying27 rfl (by kernel_rfl)) rfl ⟨_,rfl,⟨.slice q4 l4 c4,by rw [HSH.out];rfl, ?_⟩, ?_⟩
     · rw [HSB.out];exact (HTR.out.keep fun b _ hb=>by rw [heap_setRow_other _ _ _ (by omega)]).mono fun b _ hb=>by omega
     · exact below_setRow HB.out (Nat.le_succ _) _
theorem turef_other (k:Int) (a b c d:BitVec 64) (ts:List Tr) (n lo hi:Int) (br:Bool) (hk:k ≠ 5) (w:World) (Bb:Nat→Prop) (s:Value) (ih:∀ u,u ∈ ts→∀ (w:World) (B:Nat→Prop) (v:Value),NodeV w B v u→Calls Try.prog 8 #[v] w (NewEnd u.turT w)) (hs:TreesAt w Bb s ts) :
   Calls Try.prog 8 #[.agg #[.int .i64 k,.int .u64 (Oc.U a),.int .u64 (Oc.U b),.int .u64 (Oc.U c),.int .u64 (Oc.U d),s,.int .i64 n,.int .i64 lo,.int .i64 hi,.bool br]] w (NewEnd (Tr.turT (.node k a b c d ts n lo hi br)) w):=by
 obtain ⟨p,cap,rfl,hlen⟩:=hs.slice
 have IH:=Lib.hid ih;have HS:=Lib.hid hs;have HKV:=Lib.hid hk
 clear hk
 obtain ⟨ie,hi0,hz0,hz1,hz2⟩:=info_parts Try.infoNode
 have HI:=Lib.hid hi0;have HZ0:=Lib.hid hz0;have HZ1:=Lib.hid hz1;have HZ2:=Lib.hid hz2
 obtain ⟨ts1,hts1⟩:∃ ts1,ts1=Tr.rv k ts:=⟨_,rfl⟩
 have hln:ts1.length=ts.length:=by rw [hts1,Tr.rv_length]
 have HTS:=Lib.hid hts1
 obtain ⟨z0,z1,z2⟩:=three_new w (.cells #[.int .i64 k,.int .u64 (Oc.U a),.int .u64 (Oc.U b),.int .u64 (Oc.U c),.int .u64 (Oc.U d),.slice p ts.length cap,.int .i64 n,.int .i64 lo,.int .i64 hi,.bool br] 27) (.cells noNode 27) (.cells #[.int .i64 k,.int .u64 (Oc.U a),.int .u64 (Oc.U b),.int .u64 (Oc.U c),.int .u64 (Oc.U d),.slice none 0 0,.int .i64 n,.int .i64 lo,.int .i64 hi,.bool br] 27)
 have hb0:Below w.heap.size w (((w.alloc (.cells #[.int .i64 k,.int .u64 (Oc.U a),.int .u64 (Oc.U b),.int .u64 (Oc.U c),.int .u64 (Oc.U d),.slice p ts.length cap,.int .i64 n,.int .i64 lo,.int .i64 hi,.bool br] 27)).alloc (.cells noNode 27)).alloc (.cells #[.int .i64 k,.int .u64 (Oc.U a),.int .u64 (Oc.U b),.int .u64 (Oc.U c),.int .u64 (Oc.U d),.slice none 0 0,.int .i64 n,.int .i64 lo,.int .i64 hi,.bool br] 27)):=by go_grown
 have hs0:(((w.alloc (.cells #[.int .i64 k,.int .u64 (Oc.U a),.int .u64 (Oc.U b),.int .u64 (Oc.U c),.int .u64 (Oc.U d),.slice p ts.length cap,.int .i64 n,.int .i64 lo,.int .i64 hi,.bool br] 27)).alloc (.cells noNode 27)).alloc (.cells #[.int .i64 k,.int .u64 (Oc.U a),.int .u64 (Oc.U b),.int .u64 (Oc.U c),.int .u64 (Oc.U d),.slice none 0 0,.int .i64 n,.int .i64 lo,.int .i64 hi,.bool br] 27)).heap.size=w.heap.size+3:=by simp
 have Z0:=Lib.hid z0;have Z1:=Lib.hid z1;have Z2:=Lib.hid z2;have HB0:=Lib.hid hb0;have HS0:=Lib.hid hs0
 clear ih hs hi0 hz0 hz1 hz2 z0 z1 z2 hb0 hs0
 go_enter Try.func8,Try.ntmps8
 go_upto_region 3 with (fail)
 generalize ((w.alloc _).alloc _).alloc _=W0 at *
 obtain ⟨f5,-⟩:=at5 Z0.out
 go_wp2
 clear f5
 go_loopw [5] (fun iv wr=>∃ (m:Nat) (ps:List (Tr × Value)) (sv:Value),iv=.int .i64 (m:Int)∧m ≤ ts.length∧ps.length=m∧Hid (ps.map (·.1)=(ts1.take m).map Tr.turT)∧Hid (RowLo (w.heap.size+3) (w.heap.size+3) wr sv ps)∧Hid (Below w.heap.size w wr)∧w.heap.size+3 ≤ wr.heap.size ∧
     Hid (wr.heap[w.heap.size]? = some (.cells #[.int .i64 k,.int .u64 (Oc.U a),.int .u64 (Oc.U b),.int .u64 (Oc.U c),.int .u64 (Oc.U d),.slice p ts.length cap,.int .i64 n,.int .i64 lo,.int .i64 hi,.bool br] 27))∧Hid (wr.heap[w.heap.size+1]? = some (.cells noNode 27))∧Hid (wr.heap[w.heap.size+2]? = some (.cells #[.int .i64 k,.int .u64 (Oc.U a),.int .u64 (Oc.U b),.int .u64 (Oc.U c),.int .u64 (Oc.U d),sv,.int .i64 n,.int .i64 lo,.int .i64 hi,.bool br] 27))) (fun iv _=>ts.length - (intOf iv).toNat)
 case atStart=>exact ⟨0,[],_,rfl,Nat.zero_le _,rfl,Lib.hid (by simp),Lib.hid (RowLo.nil _ _ _),HB0,Nat.le_of_eq HS0.out.symm,Z0,Z1,Z2⟩
 case round =>
   clear Z0 Z1 Z2 HB0 HS0
   obtain ⟨m,ps,sv,rfl,hm,hpl,HMP,HR,HB,hsz,X0,X1,X2⟩:=hrel
   have wm:IntKind.i64.wrap ((m:Int)+1)=(m:Int)+1:=IntWalk.i64_in _ (by omega)
   by_cases hlt:m < ts.length
   · obtain ⟨x,hx⟩:∃ x,ts1[m]? = some x:=⟨_,List.getElem?_eq_getElem (by omega)⟩
     have e5:(k == 5)=false:=by simpa using HKV.out
     have hx1:ts[m]? = some x:=by
       have:=hx
       rw [hts1] at this
       rw [Tr.rv_not HKV.out] at this
       exact this
     obtain ⟨b1,o1,s1,rfl,-,t1,sub1⟩:=HS.out.get hx1
     obtain ⟨p1,c1,rfl,hl1⟩:=sub1.slice
     have T1:=Lib.hid (fun w9 (hb9:Below wr.heap.size wr w9)=>t1.keep ((HB.out.trans (hb9.mono HB.out.size)).block _ t1.lt))
     have HCALL:=Lib.hid (fun w9 (hb9:Below wr.heap.size wr w9)=>IH.out x (List.mem_of_getElem? hx1) w9 Bb (.agg (x.cells (.slice p1 x.subs.length c1))) ⟨_,rfl,sub1.later (HB.out.trans (hb9.mono HB.out.size))⟩)
     have HMY:=Lib.hid (show (ts1.take (m+1)).map Tr.turT=(ts1.take m).map Tr.turT ++ [x.turT] by rw [List.take_add_one,hx,List.map_append];rfl)
     clear t1 sub1 hx hx1 hts1
     generalize x.turT=y at *
     unfold Tr.cells at HCALL
     obtain ⟨f0,-⟩:=tu_at0 X0.out
     have hdl:decide ((m:Int) < (ts.length:Int))=true:=decide_eq_true (by omega)
     go_upto_region 10 with (fail)
     clear f0
     refine Ri.wp_region_app (by kernel_rfl) (by kernel_rfl) (by kernel_rfl) (by kernel_rfl) 11 9 (by kernel_rfl) (by omega) (fun kk=>kk == 10) (by kernel_rfl) (by kernel_rfl) (fun kk ww vv=>match kk with | 0=>vv=.pointer (some ⟨w.heap.size+1+1,5,none⟩) | 1=>vv=sv | 2=>vv=.pointer (some ⟨w.heap.size,5,none⟩) | 3=>vv=.slice (some ⟨b1,o1,none⟩) ts.length cap | 4=>vv=.int .i64 (m:Int) | 5=>vv=.pointer (some ⟨b1,o1+m * 10,none⟩) | 6=>vv=.agg #[.int .i64 x.kind,.int .u64 (Oc.U x.w0),.int .u64 (Oc.U x.w1),.int .u64 (Oc.U x.w2),.int .u64 (Oc.U x.w3),.slice p1 x.subs.length c1,.int .i64 x.num,.int .i64 x.least,.int .i64 x.most,.bool x.bare] | 7=>∃ s2,vv=.agg (y.cells s2)∧TreesAt ww (fun b=>wr.heap.size ≤ b) s2 y.subs | 8=>OneAt ww wr.heap.size y vv | 10=>vv=.pointer (some ⟨w.heap.size+1+1,5,none⟩) | _=>True) (fun _ kk vv=>match kk with | 0=>vv=.pointer (some ⟨w.heap.size+1+1,5,none⟩) | 1=>vv=sv | 2=>vv=.pointer (some ⟨w.heap.size,5,none⟩) | 3=>vv=.slice (some ⟨b1,o1,none⟩) ts.length cap | 4=>vv=.int .i64 (m:Int) | 5=>vv=.pointer (some ⟨b1,o1+m * 10,none⟩) | 6=>vv=.agg #[.int .i64 x.kind,.int .u64 (Oc.U x.w0),.int .u64 (Oc.U x.w1),.int .u64 (Oc.U x.w2),.int .u64 (Oc.U x.w3),.slice p1 x.subs.length c1,.int .i64 x.num,.int .i64 x.least,.int .i64 x.most,.bool x.bare] | 10=>vv=.pointer (some ⟨w.heap.size+1+1,5,none⟩) | _=>True) (fun uu ww=>∃ p2 c2,RowLo (w.heap.size+3) (w.heap.size+3) ww uu (ps ++ [(y,.slice p2 y.subs.length c2)])∧Below (w.heap.size+3) wr ww) (fun vv ww=>∃ U p2 c2,ww.heap[w.heap.size+2]? = some (.cells #[.int .i64 k,.int .u64 (Oc.U a),.int .u64 (Oc.U b),.int .u64 (Oc.U c),.int .u64 (Oc.U d),U,.int .i64 n,.int .i64 lo,.int .i64 hi,.bool br] 27)∧RowLo (w.heap.size+3) (w.heap.size+3) ww U (ps ++ [(y,.slice p2 y.subs.length c2)])∧Below (w.heap.size+2) wr ww) (fun kk ww vv w8 h hb=>by
               match kk,h with
               | 0,h=>exact h
               | 1,h=>exact h
               | 2,h=>exact h
               | 3,h=>exact h
               | 4,h=>exact h
               | 5,h=>exact h
               | 6,h=>exact h
               | 7,h=>exact h.imp fun s2 h=>⟨h.1,h.2.later hb⟩
               | 8,h=>exact h.below hb
               | 9,h=>exact trivial
               | 10,h=>exact h
               | _+11,_=>trivial) (fun kk ww vv xx h=>by
               match kk,h with
               | 0,h=>exact h
               | 1,h=>exact h
               | 2,h=>exact h
               | 3,h=>exact h
               | 4,h=>exact h
               | 5,h=>exact h
               | 6,h=>exact h
               | 7,h=>exact trivial
               | 8,h=>exact trivial
               | 9,h=>exact trivial
               | 10,h=>exact h
               | _+11,_=>trivial) ?_ ?_ ?_ ?_ ?_
     · intro i hi9 hip L v w9 xa hF9 hL hLp hd hv ho
       obtain ⟨hb,hk⟩:=hF9
       have hi':i=0 ∨ i=1 ∨ i=2 ∨ i=3 ∨ i=4 ∨ i=5 ∨ i=6 ∨ i=7 ∨ i=8 ∨ i=10:=by omega
       rcases hi' with rfl | rfl | rfl | rfl | rfl | rfl | rfl | rfl | rfl | rfl
       · have e3:xa.tmps.getD 3 undef=.pointer (some ⟨w.heap.size+1+1,0,none⟩):=ho 3 (by kernel_rfl)
         refine Ri.step_plain rfl rfl (fun K' hK'=>?_)
         go_simp
         exact hK' _ _ ⟨_,_,rfl,rfl,(Below.refl _ _),rfl⟩
       · have j0:L 0=true:=by have:=hd _ rfl;simp [Region.binds] at this;simp [this]
         have f0:=(hv 0 25 rfl j0).trans (hk 0 j0)
         refine Ri.step_plain rfl rfl (fun K' hK'=>?_)
         obtain ⟨h5,-⟩:=at5 (keep_blk hb X2.out)
         go_simp
         exact hK' _ _ ⟨_,_,rfl,rfl,(Below.refl _ _),rfl⟩
       · have e1:xa.tmps.getD 1 undef=.pointer (some ⟨w.heap.size,0,none⟩):=ho 1 (by kernel_rfl)
         refine Ri.step_plain rfl rfl (fun K' hK'=>?_)
         go_simp
         exact hK' _ _ ⟨_,_,rfl,rfl,(Below.refl _ _),rfl⟩
       · have j2:L 2=true:=by have:=hd _ rfl;simp [Region.binds] at this;simp [this]
         have f2:=(hv 2 27 rfl j2).trans (hk 2 j2)
         refine Ri.step_plain rfl rfl (fun K' hK'=>?_)
         obtain ⟨h5,-⟩:=at5 (keep_blk hb X0.out)
         go_simp
         exact hK' _ _ ⟨_,_,rfl,rfl,(Below.refl _ _),rfl⟩
       · have e6:xa.tmps.getD 6 undef=.int .i64 (m:Int):=ho 6 (by kernel_rfl)
         refine Ri.step_plain rfl rfl (fun K' hK'=>?_)
         go_simp
         exact hK' _ _ ⟨_,_,rfl,rfl,(Below.refl _ _),rfl⟩
       · obtain ⟨j3,j4⟩:L 3=true∧L 4=true:=by have:=hd _ rfl;simp [Region.binds] at this;simp [this]
         have f3:=(hv 3 28 rfl j3).trans (hk 3 j3)
         have f4:=(hv 4 29 rfl j4).trans (hk 4 j4)
         refine Ri.step_plain rfl rfl (fun K' hK'=>?_)
         go_simp
         exact hK' _ _ ⟨_,_,rfl,rfl,(Below.refl _ _),rfl⟩
       · have j5:L 5=true:=by have:=hd _ rfl;simp [Region.binds] at this;simp [this]
         have f5:=(hv 5 30 rfl j5).trans (hk 5 j5)
         refine Ri.step_plain rfl rfl (fun K' hK'=>?_)
         obtain ⟨d0,d1,d2,d3,d4,d5,d6,d7,d8,d9⟩:=T1.out w9 hb
         go_simp
         exact hK' _ _ ⟨_,_,rfl,rfl,(Below.refl _ _),rfl⟩
       · have j6:L 6=true:=by have:=hd _ rfl;simp [Region.binds] at this;simp [this]
         have f6:=(hv 6 31 rfl j6).trans (hk 6 j6)
         refine Ri.step_plain rfl rfl (fun K' hK'=>?_)
         go_simp
         refine (HCALL.out w9 hb).mono ?_
         intro e w8 he
         obtain ⟨s2,rfl,ht8,hb8⟩:=he.of
         exact hK' _ _ ⟨_,_,rfl,rfl,hb8,⟨s2,rfl,ht8.mono fun b _ hb9=>Nat.le_trans hb.size hb9⟩⟩
       · have j7:L 7=true:=by have:=hd _ rfl;simp [Region.binds] at this;simp [this]
         have k7:∃ s2,(v 7)=.agg (y.cells s2)∧TreesAt w9 (fun b=>wr.heap.size ≤ b) s2 y.subs:=hk 7 j7
         have f7:=hv 7 32 rfl j7
         refine Ri.step_plain rfl rfl (fun K' hK'=>?_)
         obtain ⟨s2,e8,ht8⟩:=k7
         obtain ⟨p2,c2,rfl,-⟩:=ht8.slice
         replace f7:=f7.trans e8
         refine wp_node1 (.tmp 32) y p2 y.subs.length c2 rfl f7 ?_
         exact hK' _ _ ⟨_,_,rfl,rfl,((Below.refl _ _).alloc (Nat.le_refl _) _),OneAt.new _ ht8⟩
       · have e3:xa.tmps.getD 3 undef=.pointer (some ⟨w.heap.size+1+1,0,none⟩):=ho 3 (by kernel_rfl)
         refine Ri.step_plain rfl rfl (fun K' hK'=>?_)
         go_simp
         exact hK' _ _ ⟨_,_,rfl,rfl,(Below.refl _ _),rfl⟩
     · intro i hi9 hfr L v w9 xa hM hk hL hLp hd hv ho
       have hi':i=10:=by (simp at hfr;omega)
       rcases hi' with rfl
       · have e3:xa.tmps.getD 3 undef=.pointer (some ⟨w.heap.size+1+1,0,none⟩):=ho 3 (by kernel_rfl)
         refine Ri.step_plain rfl rfl (fun K' hK'=>?_)
         go_simp
         exact hK' _ _ ⟨_,_,rfl,rfl,rfl,rfl⟩
     · intro L v w9 xa hF9 hall hv ho
       obtain ⟨hb,hk⟩:=hF9
       have j0:=hall 0 (by omega) (by omega) rfl
       have f0:=(hv 0 25 rfl j0).trans (hk 0 j0)
       have j1:=hall 1 (by omega) (by omega) rfl
       have f1:=(hv 1 26 rfl j1).trans (hk 1 j1)
       have j2:=hall 2 (by omega) (by omega) rfl
       have f2:=(hv 2 27 rfl j2).trans (hk 2 j2)
       have j3:=hall 3 (by omega) (by omega) rfl
       have f3:=(hv 3 28 rfl j3).trans (hk 3 j3)
       have j4:=hall 4 (by omega) (by omega) rfl
       have f4:=(hv 4 29 rfl j4).trans (hk 4 j4)
       have j5:=hall 5 (by omega) (by omega) rfl
       have f5:=(hv 5 30 rfl j5).trans (hk 5 j5)
       have j6:=hall 6 (by omega) (by omega) rfl
       have f6:=(hv 6 31 rfl j6).trans (hk 6 j6)
       have j7:=hall 7 (by omega) (by omega) rfl
       have k7:∃ s2,(v 7)=.agg (y.cells s2)∧TreesAt w9 (fun b=>wr.heap.size ≤ b) s2 y.subs:=hk 7 j7
       have f7:=hv 7 32 rfl j7
       have j8:=hall 8 (by omega) (by omega) rfl
       have k8:OneAt w9 wr.heap.size y (v 8):=hk 8 j8
       have f8:=hv 8 33 rfl j8
       refine Ri.step_plain rfl rfl (fun K' hK'=>?_)
       have hrow:=HR.out.below hb
       have hbz:=hb.size;have hsz9:=hsz
       obtain ⟨p2,c2,g,e8,ht8,hc8⟩:=k8
       replace f8:=f8.trans e8
       clear e8
       have hml:ps.length+1 ≤ maxLen:=by unfold maxLen;omega
       have hbyt:(ps.length+1) * 96 ≤ 140737488355328:=by omega
       have hba:w.heap.size+3 ≤ w9.heap.size:=by omega
       refine wp_append_node _ (.tmp 26) (.tmp 33) 25 rfl (w.heap.size+3) 27 ie _ 10 96 Try.underlying25 HI.out HZ0.out HZ1.out HZ2.out rfl (by decide) sv ps.length (rowOf ps) f1 hrow.1 ⟨g,0,none⟩ 1 1 (y.cells (.slice p2 y.subs.length c2)).toList f8 rfl hc8 (nodeC_one _ _ _ _) (by decide) hml hbyt hba ?_
       intro v' w4 hown4 hgrow4 hwhere
       exact hK' _ _ ⟨_,_,rfl,rfl,⟨p2,c2,hrow.step (ht8.mono fun b _ hb9=>⟨by omega,fun e=>by have:=(HR.out.lt b e).2;omega⟩) hown4 hgrow4 hwhere,((hb.mono hsz).grown hgrow4 (by omega) (fun k e=>(HR.out.lt k e).1))⟩⟩
     · intro L v w9 xa hM hall hk hv ho
       have f0:=(hv 0 25 rfl (hall 0 (by omega))).trans (hk 0 (by omega) (by omega))
       have f1:=(hv 1 26 rfl (hall 1 (by omega))).trans (hk 1 (by omega) (by omega))
       have f2:=(hv 2 27 rfl (hall 2 (by omega))).trans (hk 2 (by omega) (by omega))
       have f3:=(hv 3 28 rfl (hall 3 (by omega))).trans (hk 3 (by omega) (by omega))
       have f4:=(hv 4 29 rfl (hall 4 (by omega))).trans (hk 4 (by omega) (by omega))
       have f5:=(hv 5 30 rfl (hall 5 (by omega))).trans (hk 5 (by omega) (by omega))
       have f6:=(hv 6 31 rfl (hall 6 (by omega))).trans (hk 6 (by omega) (by omega))
       have f7:=hv 7 32 rfl (hall 7 (by omega))
       have f8:=hv 8 33 rfl (hall 8 (by omega))
       have f9:=hv 9 34 rfl (hall 9 (by omega))
       have f10:=(hv 10 35 rfl (hall 10 (by omega))).trans (hk 10 (by omega) (by omega))
       refine Ri.step_plain rfl rfl (fun K' hK'=>?_)
       obtain ⟨p2,c2,hr4,hb4⟩:=hM
       obtain ⟨q4,l4,c4,e4⟩:=hr4.slice
       have hx2:=(hb4.block (w.heap.size+2) (by omega)).trans X2.out
       obtain ⟨h5,g5⟩:=at5 hx2
       rw [e4] at f9 hr4
       clear e4
       go_simp
       exact hK' _ _ ⟨_,undef,rfl,rfl,⟨.slice q4 l4 c4,p2,c2,set5 hx2,hr4.setCell (by omega) _ _,(hb4.mono (by omega)).trans ((Below.refl (w.heap.size+2) w9).setCell (show w.heap.size+2 ≤ w.heap.size+1+1 from Nat.le_refl _) _)⟩⟩
     · intro v w9 hfin
       obtain ⟨U,p2,c2,hx2,hr4,hb4⟩:=hfin
       simp only [Ri.frame,List.zipIdx,List.foldl_cons,List.foldl_nil,if_true,List.setIfInBounds_toArray,List.set_cons_zero,List.set_cons_succ,Nat.reduceAdd]
       generalize v 0=z0;generalize v 1=z1;generalize v 2=z2;generalize v 3=z3;generalize v 4=z4;generalize v 5=z5;generalize v 6=z6;generalize v 7=z7;generalize v 8=z8;generalize v 9=z9;generalize v 10=z10
       have X0n:=Lib.hid ((hb4.block _ (by omega)).trans X0.out);have X1n:=Lib.hid ((hb4.block _ (by omega)).trans X1.out);have X2n:=Lib.hid hx2
       have HRn:=Lib.hid hr4
       have HBn:=Lib.hid (HB.out.trans (hb4.mono (by omega)))
       have hsn:w.heap.size+3 ≤ w9.heap.size:=by have:=hb4.size;omega
       clear hx2 hr4 hb4
       go_wp2
       exact ⟨⟨m+1,_,U,by go_num,by omega,by rw [List.length_append,hpl];rfl,Lib.hid (by rw [List.map_append,HMP.out,HMY.out];rfl),HRn,HBn,hsn,X0n,X1n,X2n⟩,by simp [intOf];omega⟩
   · obtain rfl:m=ts.length:=by omega
     have htr:=HR.out.trees (Nat.le_refl _) (by omega)
     rw [HMP.out,List.take_of_length_le (by omega)] at htr
     have HTR:=Lib.hid htr
     clear htr hts1
     obtain ⟨q4,l4,c4,rfl⟩:=HR.out.slice
     by_cases h3:k=3
     · subst h3
       have HSH:=Lib.hid (show Tr.turT (.node 3 a b c d ts n lo hi br)=.node 4 a b c d (Tr.rv 3 (ts.map Tr.turT)) n lo hi br by rw [Tr.turT_node];rfl)
       have HSB:=Lib.hid (show (Tr.turT (.node 3 a b c d ts n lo hi br)).subs=ts1.map Tr.turT by rw [HSH.out,HTS.out,Tr.rv_map];rfl)
       have x2n:=set0 (y:=.int .i64 4) X2.out
       have x1n:=(Below.heap_setCell wr ⟨w.heap.size+2,0,none⟩ (.int .i64 4) (w.heap.size+1) (by simp)).trans X1.out
       have x0n:=(Below.heap_setCell wr ⟨w.heap.size+2,0,none⟩ (.int .i64 4) w.heap.size (by simp)).trans X0.out
       have htn:Hid (TreesAt (wr.setCell ⟨w.heap.size+2,0,none⟩ (.int .i64 4)) (fun b=>w.heap.size+3 ≤ b) (.slice q4 l4 c4) (ts1.map Tr.turT)):=Lib.hid (HTR.out.keep fun b _ hb=>Below.heap_setCell _ _ _ _ (by show b ≠ w.heap.size+2;omega))
       have hbn:Hid (Below w.heap.size w (wr.setCell ⟨w.heap.size+2,0,none⟩ (.int .i64 4))):=Lib.hid (HB.out.setCell (by show w.heap.size ≤ w.heap.size+2;omega) _)
       obtain ⟨f0,g0⟩:=tu_at0 X0.out
       obtain ⟨f2,g2⟩:=tu_at0 X2.out
       obtain ⟨f0n,-⟩:=tu_at0 x0n
       have X2n:=Lib.hid x2n;have X1n:=Lib.hid x1n
       clear x2n x1n x0n HTR HB
       have HTR:=htn;have HB:=hbn;have X2o:=X2;have X1o:=X1
       clear htn hbn X2 X1
       have X2:=X2n;have X1:=X1n
       clear X2n X1n X2o X1o
       go_wp2_with (first
         | (refine wpList_load_row rfl 27 (.tmp 3) rfl (w.heap.size+1+1) rfl 27 _ (0,0) _ X2.out Try.underlying27 rfl (by kernel_rfl) ?_)
         | (refine wpList_store_row rfl 27 (.tmp 2) (.tmp 44) rfl (w.heap.size+1) #[.int .i64 4,.int .u64 (Oc.U a),.int .u64 (Oc.U b),.int .u64 (Oc.U c),.int .u64 (Oc.U d),.slice q4 l4 c4,.int .i64 n,.int .i64 lo,.int .i64 hi,.bool br] rfl rfl 27 _ X1.out (by kernel_rfl) rfl (by simp [Value.oneCell']) ?_)
         | fail)
       refine bodyPost_ret (results_cell_row rfl _ _ (w.heap.size+1) 27 #[.int .i64 4,.int .u64 (Oc.U a),.int .u64 (Oc.U b),.int .u64 (Oc.U c),.int .u64 (Oc.U d),.slice q4 l4 c4,.int .i64 n,.int .i64 lo,.int .i64 hi,.bool br] (0,0) _ rfl (heap_setRow X1.out) Try.underlying27 rfl (by kernel_rfl)) rfl ⟨_,rfl,⟨.slice q4 l4 c4,by rw [HSH.out];rfl, ?_⟩, ?_⟩
       · rw [HSB.out];exact (HTR.out.keep fun b _ hb=>by rw [heap_setRow_other _ _ _ (by omega)]).mono fun b _ hb=>by omega
       · exact below_setRow HB.out (Nat.le_succ _) _
     by_cases h4:k=4
     · subst h4
       have HSH:=Lib.hid (show Tr.turT (.node 4 a b c d ts n lo hi br)=.node 3 a b c d (Tr.rv 4 (ts.map Tr.turT)) n lo hi br by rw [Tr.turT_node];rfl)
       have HSB:=Lib.hid (show (Tr.turT (.node 4 a b c d ts n lo hi br)).subs=ts1.map Tr.turT by rw [HSH.out,HTS.out,Tr.rv_map];rfl)
       have x2n:=set0 (y:=.int .i64 3) X2.out
       have x1n:=(Below.heap_setCell wr ⟨w.heap.size+2,0,none⟩ (.int .i64 3) (w.heap.size+1) (by simp)).trans X1.out
       have x0n:=(Below.heap_setCell wr ⟨w.heap.size+2,0,none⟩ (.int .i64 3) w.heap.size (by simp)).trans X0.out
       have htn:Hid (TreesAt (wr.setCell ⟨w.heap.size+2,0,none⟩ (.int .i64 3)) (fun b=>w.heap.size+3 ≤ b) (.slice q4 l4 c4) (ts1.map Tr.turT)):=Lib.hid (HTR.out.keep fun b _ hb=>Below.heap_setCell _ _ _ _ (by show b ≠ w.heap.size+2;omega))
       have hbn:Hid (Below w.heap.size w (wr.setCell ⟨w.heap.size+2,0,none⟩ (.int .i64 3))):=Lib.hid (HB.out.setCell (by show w.heap.size ≤ w.heap.size+2;omega) _)
       obtain ⟨f0,g0⟩:=tu_at0 X0.out
       obtain ⟨f2,g2⟩:=tu_at0 X2.out
       obtain ⟨f0n,-⟩:=tu_at0 x0n
       have X2n:=Lib.hid x2n;have X1n:=Lib.hid x1n
       clear x2n x1n x0n HTR HB
       have HTR:=htn;have HB:=hbn;have X2o:=X2;have X1o:=X1
       clear htn hbn X2 X1
       have X2:=X2n;have X1:=X1n
       clear X2n X1n X2o X1o
       go_wp2_with (first
         | (refine wpList_load_row rfl 27 (.tmp 3) rfl (w.heap.size+1+1) rfl 27 _ (0,0) _ X2.out Try.underlying27 rfl (by kernel_rfl) ?_)
         | (refine wpList_store_row rfl 27 (.tmp 2) (.tmp 44) rfl (w.heap.size+1) #[.int .i64 3,.int .u64 (Oc.U a),.int .u64 (Oc.U b),.int .u64 (Oc.U c),.int .u64 (Oc.U d),.slice q4 l4 c4,.int .i64 n,.int .i64 lo,.int .i64 hi,.bool br] rfl rfl 27 _ X1.out (by kernel_rfl) rfl (by simp [Value.oneCell']) ?_)
         | fail)
       refine bodyPost_ret (results_cell_row rfl _ _ (w.heap.size+1) 27 #[.int .i64 3,.int .u64 (Oc.U a),.int .u64 (Oc.U b),.int .u64 (Oc.U c),.int .u64 (Oc.U d),.slice q4 l4 c4,.int .i64 n,.int .i64 lo,.int .i64 hi,.bool br] (0,0) _ rfl (heap_setRow X1.out) Try.underlying27 rfl (by kernel_rfl)) rfl ⟨_,rfl,⟨.slice q4 l4 c4,by rw [HSH.out];rfl, ?_⟩, ?_⟩
       · rw [HSB.out];exact (HTR.out.keep fun b _ hb=>by rw [heap_setRow_other _ _ _ (by omega)]).mono fun b _ hb=>by omega
       · exact below_setRow HB.out (Nat.le_succ _) _
     have e3:(k == 3)=false:=by simpa using h3
     have e4:(k == 4)=false:=by simpa using h4
     have HSH:=Lib.hid (show Tr.turT (.node k a b c d ts n lo hi br)=.node k a b c d (Tr.rv k (ts.map Tr.turT)) n lo hi br by rw [Tr.turT_node];unfold Tr.turK;rw [if_neg h3,if_neg h4])
     have HSB:=Lib.hid (show (Tr.turT (.node k a b c d ts n lo hi br)).subs=ts1.map Tr.turT by rw [HSH.out,HTS.out,Tr.rv_map];rfl)
     clear h3 h4
     obtain ⟨f0,g0⟩:=tu_at0 X0.out
     go_wp2_with (first
       | (refine wpList_load_row rfl 27 (.tmp 3) rfl (w.heap.size+1+1) rfl 27 _ (0,0) _ X2.out Try.underlying27 rfl (by kernel_rfl) ?_)
       | (refine wpList_store_row rfl 27 (.tmp 2) (.tmp 44) rfl (w.heap.size+1) #[.int .i64 k,.int .u64 (Oc.U a),.int .u64 (Oc.U b),.int .u64 (Oc.U c),.int .u64 (Oc.U d),.slice q4 l4 c4,.int .i64 n,.int .i64 lo,.int .i64 hi,.bool br] rfl rfl 27 _ X1.out (by kernel_rfl) rfl (by simp [Value.oneCell']) ?_)
       | fail)
     refine bodyPost_ret (results_cell_row rfl _ _ (w.heap.size+1) 27 #[.int .i64 k,.int .u64 (Oc.U a),.int .u64 (Oc.U b),.int .u64 (Oc.U c),.int .u64 (Oc.U d),.slice q4 l4 c4,.int .i64 n,.int .i64 lo,.int .i64 hi,.bool br] (0,0) _ rfl (heap_setRow X1.out) Try.underlying27 rfl (by kernel_rfl)) rfl ⟨_,rfl,⟨.slice q4 l4 c4,by rw [HSH.out];rfl, ?_⟩, ?_⟩
     · rw [HSB.out];exact (HTR.out.keep fun b _ hb=>by rw [heap_setRow_other _ _ _ (by omega)]).mono fun b _ hb=>by omega
     · exact below_setRow HB.out (Nat.le_succ _) _
theorem turef_any (t:Tr):∀ (w:World) (B:Nat→Prop) (v:Value),NodeV w B v t→Calls Try.prog 8 #[v] w (NewEnd t.turT w):=by
 induction t using Tr.rec_subs with
 | h t ih =>
   intro w B v hv
   obtain ⟨s,rfl,hs⟩:=hv
   cases t with | node k a b c d ts n lo hi br =>
   by_cases hk:k=5
   · exact turef_seq k a b c d ts n lo hi br hk w B s ih hs
   · exact turef_other k a b c d ts n lo hi br hk w B s ih hs
end Go.Proofs.Ytedjkbmfpjmlpaa
namespace Go.Proofs.Ytedjkbmfpjmlpaa
open Go.RowKit
namespace Tr
mutual
def ndT:Tr→Nat
 | .node _ _ _ _ _ s _ _ _ _=>1+ndS s
def ndS:List Tr→Nat
 | []=>0
 | t :: l=>ndT t+ndS l
end
theorem ndT_eq (t:Tr):t.ndT=1+ndS t.subs:=by cases t;rw [ndT];rfl
mutual
def leftT:Tr→Int→Int
 | .node _ _ _ _ _ s _ _ _ _,m=>leftS s (m - 1)
def leftS:List Tr→Int→Int
 | [],m=>m
 | t :: l,m=>if 0 ≤ m then leftS l (leftT t m) else m
end
theorem leftT_eq (t:Tr) (m:Int):t.leftT m=leftS t.subs (m - 1):=by cases t;rw [leftT];rfl
theorem leftS_neg (l:List Tr) {m:Int} (h:m < 0):leftS l m=m:=by
 cases l with
 | nil=>rfl
 | cons t l=>rw [leftS,if_neg (by omega)]
theorem leftS_spec:∀ (l:List Tr),(∀ t,t ∈ l→∀ m,0 ≤ m→t.leftT m ≤ m∧-1 ≤ t.leftT m∧(0 ≤ t.leftT m→t.leftT m=m - t.ndT)∧((t.ndT:Int) ≤ m→0 ≤ t.leftT m))→∀ m,-1 ≤ m→leftS l m ≤ m∧-1 ≤ leftS l m∧(0 ≤ leftS l m→leftS l m=m - ndS l)∧(0 ≤ m→(ndS l:Int) ≤ m→0 ≤ leftS l m)
 | [],_,m,hm=>by rw [leftS,ndS];exact ⟨Int.le_refl _,hm,fun _=>by omega,fun h _=>h⟩
 | t :: l,ih,m,hm=>by
   rw [leftS,ndS]
   split
   · rename_i h0
     obtain ⟨h1,h2,h3,h4⟩:=ih t List.mem_cons_self m h0
     obtain ⟨k1,k2,k3,k4⟩:=leftS_spec l (fun u hu=>ih u (List.mem_cons_of_mem _ hu)) (t.leftT m) h2
     refine ⟨by omega,k2,fun h=>?_,fun _ h=>?_⟩
     · have:=h3 (by omega)
       have:=k3 h
       omega
     · have a:=h4 (by omega)
       have b:=h3 a
       exact k4 a (by omega)
   · rename_i h0
     exact ⟨Int.le_refl _,hm,fun h=>absurd h h0,fun h=>absurd h h0⟩
theorem leftT_spec:∀ (t:Tr) (m:Int),0 ≤ m→t.leftT m ≤ m∧-1 ≤ t.leftT m∧(0 ≤ t.leftT m→t.leftT m=m - t.ndT)∧((t.ndT:Int) ≤ m→0 ≤ t.leftT m):=by
 intro t
 induction t using Tr.rec_subs with
 | h t ih =>
   intro m hm
   rw [leftT_eq,ndT_eq]
   obtain ⟨k1,k2,k3,k4⟩:=leftS_spec t.subs (fun u hu=>ih u hu) (m - 1) (by omega)
   exact ⟨by omega,k2,fun h=>by have:=k3 h;omega,fun h=>k4 (by omega) (by omega)⟩
end Tr
theorem numleft_any:∀ t:Tr,∀ m0:Nat,m0 ≤ 1000000→∀ (w:World) (B:Nat→Prop) (v:Value),NodeV w B v t→Calls Try.prog 13 #[v,.int .i64 m0] w fun e w'=>e=.returned (.int .i64 (t.leftT m0))∧Below w.heap.size w w':=by
 intro t
 induction t using Tr.rec_subs with
 | h t ih =>
   intro m0 hm0 w B v hv
   obtain ⟨s,rfl,hs⟩:=hv
   obtain ⟨p,cap,rfl,hlen⟩:=hs.slice
   have hsp:=Tr.leftS_spec t.subs (fun u _=>Tr.leftT_spec u)
   rw [Tr.leftT_eq]
   generalize hts:t.subs=ts at *
   have IH:=Lib.hid ih;have HS:=Lib.hid hs;have HSP:=Lib.hid hsp
   clear ih hs hts hsp
   unfold Tr.cells at *
   obtain ⟨R,hR⟩:∃ R,Tr.leftS ts ((m0:Int) - 1)=R:=⟨_,rfl⟩
   rw [hR]
   have HR:=Lib.hid hR
   clear hR
   have w0:IntKind.i64.wrap ((m0:Int) - 1)=(m0:Int) - 1:=IntWalk.i64_in _ (by omega)
   have Z0:=Lib.hid (heap_alloc_new w (.cells #[.int .i64 t.kind,.int .u64 (Oc.U t.w0),.int .u64 (Oc.U t.w1),.int .u64 (Oc.U t.w2),.int .u64 (Oc.U t.w3),.slice p ts.length cap,.int .i64 t.num,.int .i64 t.least,.int .i64 t.most,.bool t.bare] 27))
   have HW:=Lib.hid (show Below w.heap.size w (w.alloc (.cells #[.int .i64 t.kind,.int .u64 (Oc.U t.w0),.int .u64 (Oc.U t.w1),.int .u64 (Oc.U t.w2),.int .u64 (Oc.U t.w3),.slice p ts.length cap,.int .i64 t.num,.int .i64 t.least,.int .i64 t.most,.bool t.bare] 27)) from (Below.refl _ _).alloc (Nat.le_refl _) _)
   go_enter Try.func13,Try.ntmps13
   go_wp2
   generalize w.alloc (.cells #[.int .i64 t.kind,.int .u64 (Oc.U t.w0),.int .u64 (Oc.U t.w1),.int .u64 (Oc.U t.w2),.int .u64 (Oc.U t.w3),.slice p ts.length cap,.int .i64 t.num,.int .i64 t.least,.int .i64 t.most,.bool t.bare] 27)=W0 at *
   go_loopw [1,5] (fun mv iv wr=>∃ (i:Nat) (m:Int),iv=.int .i64 i∧mv=.int .i64 m∧i ≤ ts.length∧-1 ≤ m∧m ≤ 1000000∧Hid (Tr.leftS (ts.drop i) m=R)∧Hid (Below W0.heap.size W0 wr)) (fun _ iv _=>ts.length - (intOf iv).toNat)
   case atStart=>exact ⟨0,(m0:Int) - 1,rfl,rfl,Nat.zero_le _,by omega,by omega,by rw [List.drop_zero];exact HR,Lib.hid (Below.refl _ _)⟩
   case round =>
     obtain ⟨i,m,rfl,rfl,hi,hm1,hm2,HL,HB⟩:=hrel
     have wi:IntKind.i64.wrap ((i:Int)+1)=(i:Int)+1:=IntWalk.i64_in _ (by omega)
     have HBW:=Lib.hid (HW.out.trans (HB.out.mono HW.out.size))
     have Z1:=Lib.hid (keep_blk (HB.out.mono (Nat.le_refl _)) Z0.out)
     obtain ⟨d0,d1,d2,d3,d4,d5,d6,d7,d8,d9⟩:=allTen Z1.out
     by_cases hlt:i < ts.length
     · by_cases hmz:0 ≤ m
       · obtain ⟨mn,rfl⟩:∃ mn:Nat,m=mn:=⟨m.toNat,by omega⟩
         have gm:decide ((0:Int) ≤ (mn:Int))=true:=by simp
         obtain ⟨x,hx⟩:∃ x,ts[i]? = some x:=⟨_,List.getElem?_eq_getElem hlt⟩
         obtain ⟨b1,o1,s1,rfl,-,t1,sub1⟩:=HS.out.get hx
         obtain ⟨e0,e1,e2,e3,e4,e5,e6,e7,e8,e9⟩:=t1.keep (HBW.out.block _ t1.lt)
         have hmem:=List.mem_of_getElem? hx
         obtain ⟨p1,c1,rfl,hl1⟩:=sub1.slice
         have HC:=Lib.hid (IH.out x hmem mn (by omega) wr B (.agg (x.cells (.slice p1 x.subs.length c1))) ⟨_,rfl,sub1.later HBW.out⟩)
         have hdr:ts.drop i=x :: ts.drop (i+1):=by
           rw [List.drop_eq_getElem_cons hlt,(List.getElem?_eq_some_iff.1 hx).2]
         have hl:=HL.out
         rw [hdr,Tr.leftS,if_pos (by omega)] at hl
         have HL2:=Lib.hid hl
         obtain ⟨k1,k2,-,-⟩:=Tr.leftT_spec x mn (by omega)
         clear t1 sub1 hmem hx hdr hl HL
         unfold Tr.cells at HC
         go_wp2_with fail
         refine HC.out.mono ?_
         rintro e w2 ⟨rfl,hb2⟩
         have HB2:=Lib.hid (HB.out.trans (hb2.mono HB.out.size))
         generalize x.leftT mn=mm at *
         clear e0 e1 e2 e3 e4 e5 e6 e7 e8 e9 hb2 HC d0 d1 d2 d3 d4 d5 d6 d7 d8 d9
         go_wp2
         exact ⟨⟨i+1,mm,by go_num,rfl,by omega,k2,by omega,HL2,HB2⟩,by simp [intOf];omega⟩
       · have gm:decide ((0:Int) ≤ m)=false:=by simp;omega
         have hl:=HL.out
         rw [Tr.leftS_neg _ (by omega)] at hl
         have HL2:=Lib.hid hl
         clear hl HL hmz
         go_wp2
         go_ret
         exact ⟨ret_int HL2.out,HBW.out⟩
     · obtain rfl:i=ts.length:=by omega
       have hl:=HL.out
       rw [List.drop_length,Tr.leftS] at hl
       have HL2:=Lib.hid hl
       clear hl HL
       go_wp2
       go_ret
       exact ⟨ret_int HL2.out,HBW.out⟩
theorem few_any (t:Tr) (m:Nat) (hm:m ≤ 1000000) (w:World) (B:Nat→Prop) (v:Value) (hv:NodeV w B v t) :
   Calls Try.prog 5 #[v,.int .i64 m] w fun e w'=>e=.returned (.bool (decide (t.ndT ≤ m)))∧Below w.heap.size w w':=by
 obtain ⟨s,rfl,hs⟩:=hv
 have H1:=Lib.hid (fun w' (hb:Below w.heap.size w w')=>numleft_any t m hm w' B (.agg (t.cells s)) ⟨s,rfl,TreesAt.later (w':=w') hs hb⟩)
 obtain ⟨p,cap,rfl,hlen⟩:=hs.slice
 have hsp:=Tr.leftT_spec t m (by omega)
 have hdec:decide ((0:Int) ≤ t.leftT m)=decide (t.ndT ≤ m):=by
   by_cases h:t.ndT ≤ m
   · rw [decide_eq_true h,decide_eq_true (hsp.2.2.2 (by omega))]
   · rw [decide_eq_false h,decide_eq_false (fun h2=>h (by have:=hsp.2.2.1 h2;omega))]
 have HD:=Lib.hid hdec
 have Z0:=Lib.hid (heap_alloc_new w (.cells (t.cells (.slice p t.subs.length cap)) 27))
 have HW:=Lib.hid (show Below w.heap.size w (w.alloc (.cells (t.cells (.slice p t.subs.length cap)) 27)) from (Below.refl _ _).alloc (Nat.le_refl _) _)
 clear hs hsp hdec
 unfold Tr.cells at *
 go_enter Try.func5,Try.ntmps5
 go_wp2_with (first
   | (refine wpList_load_row rfl 27 (.tmp 2) rfl w.heap.size rfl 27 _ (0,0) _ Z0.out Try.underlying27 rfl (by kernel_rfl) ?_)
   | fail)
 refine (H1.out _ HW.out).mono ?_
 rintro e w1 ⟨rfl,hb1⟩
 have HB1:=Lib.hid (HW.out.trans (hb1.mono HW.out.size))
 clear hb1
 generalize t.leftT m=mm at *
 go_wp2
 go_ret
 exact ⟨ret_bool HD.out,HB1.out⟩
end Go.Proofs.Ytedjkbmfpjmlpaa
namespace Go.Proofs.Ytedjkbmfpjmlpaa
open Go.RowKit
def MemsAt (w:World) (base:Nat) (v:Value) (ps:List (Tr × Value)):Prop :=
 ∃ L:Nat→List Nat,(∀ (i:Nat) (t:Tr) (s:Value),ps[i]? = some (t,s)→Owned w s t.subs (L i))∧(∀ i b,i < ps.length→b ∈ L i→base ≤ b∧v.ownBlock ≠ some b)∧(∀ i j b,i < ps.length→j < ps.length→i ≠ j→b ∈ L i→b ∉ L j)
theorem MemsAt.nil (w:World) (base:Nat) (v:Value):MemsAt w base v []:=⟨fun _=>[],fun i t s h=>by simp at h,fun i b h=>by simp at h,fun i j b h=>by simp at h⟩
theorem MemsAt.step {wr w3 w4:World} {base:Nat} {v v':Value} {ps:List (Tr × Value)} {x:Tr} {s:Value} {F:List Nat} (h:MemsAt wr base v ps) (hb:Below wr.heap.size wr w3) (ho:Owned w3 s x.subs F) (hF:∀ b,b ∈ F→wr.heap.size ≤ b) (hbase:base ≤ wr.heap.size)
   (hv:∀ g,v.ownBlock=some g→g < wr.heap.size) (hg:w3.grownBy w4 v.ownBlock) (hw:v'.ownBlock=v.ownBlock ∨ v'.ownBlock=some w3.heap.size):MemsAt w4 base v' (ps ++ [(x,s)]):=by
 obtain ⟨L,h1,h2,h3⟩:=h
 have hlt:∀ i b,i < ps.length→b ∈ L i→b < wr.heap.size:=fun i b hi hb'=>(h1 i ps[i].1 ps[i].2 (List.getElem?_eq_getElem hi)).lt b hb'
 have hnew:∀ b,b < w3.heap.size→v.ownBlock ≠ some b→v'.ownBlock ≠ some b:=fun b hb' hne=>by
   rcases hw with e | e
   · rw [e];exact hne
   · rw [e];intro h;have:=Option.some.inj h;omega
 have hFv:∀ b,b ∈ F→v.ownBlock ≠ some b:=fun b hb' e=>by have:=hv b e;have:=hF b hb';omega
 refine ⟨pick L ps.length F,fun i t s' hi=>?_,fun i b hi hbL=>?_,fun i j b hi hj hij h5 h6=>?_⟩
 · by_cases hip:i < ps.length
   · rw [List.getElem?_append_left hip] at hi
     rw [pick_ne _ _ _ (by omega)]
     exact ((h1 i t s' hi).later hb).keep fun b hb'=>hg.block b (Nat.lt_of_lt_of_le (hlt i b hip hb') hb.size) (fun e=>(h2 i b hip hb').2 e.symm)
   · rw [List.getElem?_append_right (by omega)] at hi
     have hi0:i - ps.length=0:=by
       by_cases h0:i - ps.length=0
       · exact h0
       · rw [List.getElem?_eq_none (by simp;omega)] at hi;cases hi
     rw [hi0] at hi
     simp only [List.getElem?_cons_zero,Option.some.injEq,Prod.mk.injEq] at hi
     obtain ⟨rfl,rfl⟩:=hi
     obtain rfl:i=ps.length:=by omega
     rw [pick_eq]
     exact ho.keep fun b hb'=>hg.block b (ho.lt b hb') (fun e=>hFv b hb' e.symm)
 · rw [List.length_append] at hi
   by_cases e:i=ps.length
   · subst e;rw [pick_eq] at hbL
     exact ⟨by have:=hF b hbL;omega,hnew b (ho.lt b hbL) (hFv b hbL)⟩
   · rw [pick_ne _ _ _ e] at hbL
     have hip:i < ps.length:=by simp at hi;omega
     exact ⟨(h2 i b hip hbL).1,hnew b (Nat.lt_of_lt_of_le (hlt i b hip hbL) hb.size) (h2 i b hip hbL).2⟩
 · rw [List.length_append] at hi hj
   simp only [List.length_cons,List.length_nil] at hi hj
   by_cases e:i=ps.length
   · subst e
     rw [pick_eq] at h5;rw [pick_ne _ _ _ (Ne.symm hij)] at h6
     have:=hF b h5;have:=hlt j b (by omega) h6;omega
   · rw [pick_ne _ _ _ e] at h5
     by_cases e2:j=ps.length
     · subst e2;rw [pick_eq] at h6
       have:=hF b h6;have:=hlt i b (by omega) h5;omega
     · rw [pick_ne _ _ _ e2] at h6;exact h3 i j b (by omega) (by omega) hij h5 h6
theorem owned_of_row {w:World} {base:Nat} {v:Value} {n:Nat} {ps:List (Tr × Value)} (h:w.ownsRow base 27 10 v n (rowOf ps)) (hn:ps.length * 96 ≤ 140737488351232) (hm:MemsAt w base v ps) :
   ∃ F,Owned w v (ps.map (·.1)) F∧∀ b,b ∈ F→base ≤ b:=by
 obtain ⟨L,h1,h2,h3⟩:=hm
 have hlen:ps.length=n:=by have:=h.1;rw [rowOf_length] at this;omega
 have hcells:=fun g hv=>World.ownsRow.cells h (g:=g) hv
 rcases h.2 with ⟨rfl,hn0⟩ | ⟨g,cap,cur,rfl,hbg,hheap,-⟩
 · have:ps=[]:=List.length_eq_zero_iff.1 (by omega)
   subst this
   exact ⟨[],Owned.nil _ _,fun b hb=>by cases hb⟩
 · have hc:=hcells g rfl
   have key:∀ (i:Nat) (t:Tr) (s:Value),ps[i]? = some (t,s)→TenAt w g (0+i * 10) t s:=by
     intro i t s hi
     have get:∀ j u,j < 10→(t.cells s)[j]? = some u→w.cell? ⟨g,0+i * 10+j,none⟩=some u:=by
       intro j u hj hu
       have:=hc (i * 10+j) u (by rw [rowOf_get ps i t s hi j hj];exact hu)
       have ea:(⟨g,0,none⟩:Addr).add (i * 10+j)=⟨g,0+i * 10+j,none⟩:=by unfold Addr.add;split <;> simp_all <;> omega
       rw [ea] at this;exact this
     exact ⟨get 0 _ (by omega) rfl,get 1 _ (by omega) rfl,get 2 _ (by omega) rfl,get 3 _ (by omega) rfl,get 4 _ (by omega) rfl,get 5 _ (by omega) rfl,get 6 _ (by omega) rfl,get 7 _ (by omega) rfl,get 8 _ (by omega) rfl,get 9 _ (by omega) rfl⟩
   have hl2:n=(ps.map (·.1)).length:=by rw [List.length_map];omega
   rw [hl2]
   have split:∀ (i:Nat) (t:Tr),(ps.map (·.1))[i]? = some t→∃ s,ps[i]? = some (t,s):=by
     intro i t hi
     rw [List.getElem?_map] at hi
     cases hx:ps[i]? with
     | none=>rw [hx] at hi;cases hi
     | some x=>rw [hx] at hi;cases x with | mk a b=>simp only [Option.map_some,Option.some.injEq] at hi;subst hi;exact ⟨b,rfl⟩
   refine ⟨_,.row g 0 cap (ps.map (·.1)) (fun i=>((ps[i]?).map (·.2)).getD undef) L (by rw [List.length_map];exact hn) ⟨_,_,hheap⟩ (fun i t hi=>?_) (fun i t hi=>?_) (fun i hi hgL=>?_) (fun i j b hi hj=>?_),fun b hb=>?_⟩
   · obtain ⟨s,hs'⟩:=split i t hi
     simp only [hs',Option.map_some,Option.getD_some];exact key i t s hs'
   · obtain ⟨s,hs'⟩:=split i t hi
     simp only [hs',Option.map_some,Option.getD_some]
     exact h1 i t s hs'
   · rw [List.length_map] at hi;exact (h2 i g hi hgL).2 rfl
   · rw [List.length_map] at hi hj;exact h3 i j b hi hj
   · rcases List.mem_cons.1 hb with rfl | hb
     · exact hbg
     · obtain ⟨i,hi,hb⟩:=mem_range_flatMap.1 hb
       rw [List.length_map] at hi;exact (h2 i b hi hb).1
theorem copynode_own:∀ t:Tr,∀ (w:World) (B:Nat→Prop) (v:Value),NodeV w B v t→Calls Try.prog 6 #[v] w (OwnEnd t w):=by
 intro t
 induction t using Tr.rec_subs with
 | h t ih =>
   intro w B v hv
   obtain ⟨s,rfl,hs⟩:=hv
   obtain ⟨p,cap,rfl,hlen⟩:=hs.slice
   cases t with | node k a b c d ts n lo hi br =>
   simp only [Tr.cells,Tr.kind,Tr.w0,Tr.w1,Tr.w2,Tr.w3,Tr.num,Tr.least,Tr.most,Tr.bare,Tr.subs] at *
   have IH:=Lib.hid ih
   have HS:=Lib.hid hs
   clear ih hs
   go_enter Try.func6,Try.ntmps6
   obtain ⟨ie,hi0,hz0,hz1,hz2⟩:=info_parts Try.infoNode
   have HI:=Lib.hid hi0;have HZ0:=Lib.hid hz0;have HZ1:=Lib.hid hz1;have HZ2:=Lib.hid hz2
   clear hi0 hz0 hz1 hz2
   go_wp2
   go_loopw [9,3] (fun iv sv wr=>∃ ps:List (Tr × Value),iv=.int .i64 ps.length∧ps.length ≤ ts.length∧Hid (ps.map (·.1)=ts.take ps.length)∧Hid (wr.ownsRow (w.heap.size+2) 27 10 sv ps.length (rowOf ps)) ∧
     Hid (MemsAt wr (w.heap.size+2) sv ps)∧Hid (Below w.heap.size w wr)∧w.heap.size+1 < wr.heap.size ∧
     Hid (wr.heap[w.heap.size]? = some (.cells #[.int .i64 k,.int .u64 (Oc.U a),.int .u64 (Oc.U b),.int .u64 (Oc.U c),.int .u64 (Oc.U d),.slice p ts.length cap,.int .i64 n,.int .i64 lo,.int .i64 hi,.bool br] 27))∧Hid (wr.heap[w.heap.size+1]? = some (.cells #[.int .i64 0,.int .u64 0,.int .u64 0,.int .u64 0,.int .u64 0,.slice none 0 0,.int .i64 0,.int .i64 0,.int .i64 0,.bool false] 27))) (fun iv _ _=>ts.length - (intOf iv).toNat)
   case atStart =>
     exact ⟨[],rfl,Nat.zero_le _,Lib.hid (by simp),Lib.hid (World.ownsRow_nil _ _ _ _),Lib.hid (MemsAt.nil _ _ _),Lib.hid (by go_grown),by simp,Lib.hid (two_new _ _ _).1,Lib.hid (two_new _ _ _).2⟩
   case round =>
     obtain ⟨ps,rfl,hm,hmap,hown,hsubs,HB,hsz,Z0,Z1⟩:=hrel
     have wm:IntKind.i64.wrap ((ps.length:Int)+1)=(ps.length:Int)+1:=IntWalk.i64_in _ (by omega)
     by_cases hlt:ps.length < ts.length
     · obtain ⟨x,hx⟩:∃ x,ts[ps.length]? = some x:=⟨_,List.getElem?_eq_getElem hlt⟩
       obtain ⟨b1,o1,s1,rfl,-,t1,sub1⟩:=HS.out.get hx
       obtain ⟨d0,d1,d2,d3,d4,d5,d6,d7,d8,d9⟩:=t1.keep (HB.out.block _ t1.lt)
       obtain ⟨p1,c1,rfl,hl1⟩:=sub1.slice
       have HC:=Lib.hid (fun w9 hb=>IH.out x (List.mem_of_getElem? hx) w9 B (.agg (x.cells (.slice p1 x.subs.length c1))) ⟨_,rfl,sub1.later hb⟩)
       have HX:=Lib.hid hx
       clear t1 sub1 hx
       go_wp2_with fail
       generalize hw1:World.alloc wr _=w1
       have hb1:Below wr.heap.size wr w1:=by rw [← hw1];exact (Below.refl _ _).alloc (Nat.le_refl _) _
       have hs1:w1.heap.size=wr.heap.size+1:=by rw [← hw1];simp
       clear hw1
       refine (HC.out w1 (HB.out.trans (hb1.mono HB.out.size))).mono ?_
       intro e w2 he2
       obtain ⟨s2,F2,rfl,hsub2,hF2,hb2⟩:=he2
       obtain ⟨p2,c2,rfl,hl2⟩:=hsub2.slice
       have hb12:Below wr.heap.size wr w2:=hb1.trans (hb2.mono hb1.size)
       have HB2:=Lib.hid (HB.out.trans (hb12.mono HB.out.size))
       have HB12:=Lib.hid hb12
       have hs2:w1.heap.size ≤ w2.heap.size:=hb2.size
       have hown2:=(hown.out.kept (w':=w2) (row:=none) ⟨hb12.os,hb12.tape,hb12.output,hb12.size,fun k hk _=>hb12.block k hk⟩ (by
         cases h:Value.ownBlock u3 with
         | none=>exact .inl rfl
         | some g=>exact .inr (by simp)))
       have hlt3:=hown.out.lt
       have HOWN2:=Lib.hid (hown2.alloc (.cells (x.cells (.slice p2 x.subs.length c2)) 27))
       have HSUB2:=Lib.hid hsub2;have HF2:=Lib.hid (fun b hb=>Nat.le_trans (show wr.heap.size ≤ w1.heap.size by omega) (hF2 b hb));have HLT3:=Lib.hid hlt3
       have ND:=Lib.hid (heap_alloc_new w2 (.cells (x.cells (.slice p2 x.subs.length c2)) 27))
       clear hown2 hsub2 hF2 hb1 hb2 hb12 hlt3
       have HNW:Hid (∀ (j:Nat) (u:Value),(x.cells (.slice p2 x.subs.length c2)).toList[j]? = some u→(w2.alloc (.cells (x.cells (.slice p2 x.subs.length c2)) 27)).cell? ((⟨w2.heap.size,0,none⟩:Addr).add j)=some u):=Lib.hid (fun j u hu=>by
         have ea:(⟨w2.heap.size,0,none⟩:Addr).add j=⟨w2.heap.size,j,none⟩:=by unfold Addr.add;split <;> simp_all
         rw [ea,cell_new];simpa using hu)
       have HBA:Hid (w.heap.size+2 ≤ (w2.alloc (.cells (x.cells (.slice p2 x.subs.length c2)) 27)).heap.size):=Lib.hid (by simp;omega)
       have hml:ps.length+1 ≤ maxLen:=by unfold maxLen;omega
       have hbyt:(ps.length+1) * 96 ≤ 140737488355328:=by omega
       go_wp2_with (first
         | (refine wpList_node1 rfl (.tmp 15) x p2 x.subs.length c2 rfl rfl ?_)
         | (refine wpList_append_fresh _ rfl (.tmp 13) (.tmp 16) 25 rfl (w.heap.size+2) 27 ie _ 10 96 Try.underlying25 HI.out HZ0.out HZ1.out HZ2.out rfl (by decide) _ _ _ rfl HOWN2.out ⟨w2.heap.size,0,none⟩ 1 1 (x.cells (.slice p2 x.subs.length c2)).toList rfl rfl HNW.out (nodeC_one _ _ _ _) (by decide) hml hbyt HBA.out ?_;intro v' w4 hown4 hgrow4 hwhere)
         | fail)
       have HG4:=Lib.hid hgrow4;have HW4:=Lib.hid hwhere
       have hb3:Below wr.heap.size wr (w2.alloc (.cells (x.cells (.slice p2 x.subs.length c2)) 27)):=HB12.out.alloc HB12.out.size _
       have key:∀ k,k < wr.heap.size→k < w.heap.size+2→w4.heap[k]? = wr.heap[k]?:=fun k hk hk2 =>
         (HG4.out.block k (Nat.lt_of_lt_of_le hk hb3.size) (fun e=>by have:=(HLT3.out k e.symm).1;omega)).trans (hb3.block k hk)
       refine ⟨⟨ps ++ [(x,.slice p2 x.subs.length c2)],by simp,by simp;omega,Lib.hid ?_,Lib.hid ?_,Lib.hid ?_,Lib.hid ?_, ?_,Lib.hid ((key _ (by omega) (by omega)).trans Z0.out),Lib.hid ((key _ hsz (by omega)).trans Z1.out)⟩,by simp [intOf];omega⟩
       · rw [List.map_append,hmap.out,List.length_append]
         show List.take ps.length ts ++ [x]=List.take (ps.length+1) ts
         rw [List.take_add_one,HX.out];rfl
       · rw [rowOf_snoc,List.length_append];exact hown4
       · exact hsubs.out.step hb3 (HSUB2.out.later ((Below.refl _ _).alloc (Nat.le_refl _) _)) HF2.out (by omega) (fun g hg=>(HLT3.out g hg).2) HG4.out HW4.out
       · exact (HB2.out.alloc HB2.out.size _).grown HG4.out (by have:=HB2.out.size;simp;omega) (fun k e=>by have:=(HLT3.out k e).1;omega)
       · have:=HG4.out.size;have h3:=hb3.size;omega
     · have hlen2:ps.length=ts.length:=by omega
       have hmap2:ps.map (·.1)=ts:=by rw [hmap.out,hlen2,List.take_length]
       have hlt3:=hown.out.lt
       obtain ⟨F,htr,hF⟩:=owned_of_row hown.out (by omega) hsubs.out
       rw [hmap2] at htr
       have HTR:=Lib.hid htr;have HFB:=Lib.hid hF
       obtain ⟨f5,g5⟩:=at5 Z0.out
       have Z0s:=Lib.hid (set5 (y:=u3) Z0.out)
       have Z1s:Hid ((wr.setCell ⟨w.heap.size,5,none⟩ u3).heap[w.heap.size+1]? = some (.cells #[.int .i64 0,.int .u64 0,.int .u64 0,.int .u64 0,.int .u64 0,.slice none 0 0,.int .i64 0,.int .i64 0,.int .i64 0,.bool false] 27)):=Lib.hid (by rw [Below.heap_setCell _ _ _ _ (by simp)];exact Z1.out)
       clear htr hlt3 hmap2 hF
       obtain ⟨q3,l3,c3,rfl⟩:∃ q l c,u3=.slice q l c:=by
         obtain ⟨q,c,e,-⟩:=HTR.out.slice;exact ⟨_,_,_,e⟩
       go_wp2_with (first
         | (refine wpList_load_row rfl 27 (.tmp 1) rfl w.heap.size rfl 27 _ (0,0) _ Z0s.out Try.underlying27 rfl (by kernel_rfl) ?_)
         | (refine wpList_store_row rfl 27 (.tmp 2) (.tmp 21) rfl (w.heap.size+1) #[.int .i64 k,.int .u64 (Oc.U a),.int .u64 (Oc.U b),.int .u64 (Oc.U c),.int .u64 (Oc.U d),.slice q3 l3 c3,.int .i64 n,.int .i64 lo,.int .i64 hi,.bool br] rfl rfl 27 _ Z1s.out (by kernel_rfl) rfl (by simp [Value.oneCell']) ?_)
         | fail)
       refine bodyPost_ret (results_cell_row rfl _ _ (w.heap.size+1) 27 #[.int .i64 k,.int .u64 (Oc.U a),.int .u64 (Oc.U b),.int .u64 (Oc.U c),.int .u64 (Oc.U d),.slice q3 l3 c3,.int .i64 n,.int .i64 lo,.int .i64 hi,.bool br] (0,0) _ rfl (heap_setRow Z1s.out) Try.underlying27 rfl (by kernel_rfl)) rfl ⟨_,F,rfl, ?_,(fun b hb=>by have:=HFB.out b hb;omega), ?_⟩
       · exact HTR.out.keep fun b hb=>by
           have:=HFB.out b hb
           rw [heap_setRow_other _ _ _ (by omega),Below.heap_setCell _ _ _ _ (by simp;omega)]
       · exact below_setRow (HB.out.setCell (Nat.le_refl _) _) (Nat.le_succ _) _
end Go.Proofs.Ytedjkbmfpjmlpaa
