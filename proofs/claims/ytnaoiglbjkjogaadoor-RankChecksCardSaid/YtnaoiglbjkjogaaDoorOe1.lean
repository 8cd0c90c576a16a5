/- Part 1 of what these proofs need. -/
import Derived.WalkKit
import Derived.WalkSpells
import Derived.WalkLawsBesides
import Derived.Handy
import Derived.Lib.Hide
import Derived.Test.YtnaoiglbjkjogaaDoorChecked
import Derived.BigFrame
import Derived.BigQuiet
import Derived.Test.YtnaoiglbjkjogaaDoorRows
import Derived.Laws.AppendOwn
import Derived.Great.BuildSlice
import Derived.Deep.MidRow
import Derived.Laws.MakeOwn
import Derived.Deep.RegionWith
import Derived.Deep.RegionHeld3
import Derived.StillTailTactics
import Derived.Deep.QuietTactic
import Derived.RegionTactic
import Derived.Shelf.Spec.TrailingZeros
import Derived.Laws.AppendOwnNone
import Derived.Lib.UnsafeStr
import Derived.Laws.BytesArg
import Derived.Laws.IdiomStrings
import Derived.Deep.DeepCutAuto
import Derived.OwnWalk
import Derived.Deep.CutBlock
set_option maxRecDepth 100000
set_option maxHeartbeats 16000000
namespace Go.Proofs.YtnaoiglbjkjogaaDoor
open Go.RowKit
theorem ret_int {k:IntKind} {a b:Int} (h:a=b):Ending.returned (.int k a)=.returned (.int k b):=by rw [h]
theorem ret_bool {a b:Bool} (h:a=b):Ending.returned (.bool a)=.returned (.bool b):=by rw [h]
theorem four {w:World} {b:Nat} {x0 x1 x2 x3:Value} {t:TypeId} (h:w.heap[b]? = some (.cells #[x0,x1,x2,x3] t)) :
   w.cell? ⟨b,0,none⟩=some x0∧w.cell? ⟨b,1,none⟩=some x1∧w.cell? ⟨b,2,none⟩=some x2∧w.cell? ⟨b,3,none⟩=some x3 ∧
   w.frozen? ⟨b,0,none⟩=false∧w.frozen? ⟨b,1,none⟩=false∧w.frozen? ⟨b,2,none⟩=false∧w.frozen? ⟨b,3,none⟩=false:=by
 simp [World.cell?,World.frozen?,h]
theorem heap_alloc_lt {w:World} {b:Nat} {o x:Obj} (h:w.heap[b]? = some x):(w.alloc o).heap[b]? = some x:=by
 rw [Below.heap_alloc _ _ _ (by have:=Array.getElem?_eq_some_iff.1 h;exact this.1)];exact h
theorem two_new (w:World) (x y:Obj):((w.alloc x).alloc y).heap[w.heap.size]? = some x∧((w.alloc x).alloc y).heap[w.heap.size+1]? = some y:=by
 show ((w.heap.push x).push y)[w.heap.size]? = _∧((w.heap.push x).push y)[w.heap.size+1]? = _
 constructor
 · simp [Array.getElem?_push]
 · rw [Array.getElem?_push,if_pos (by simp)]
theorem cell_new (w:World) (cs:Array Value) (t:TypeId) (j:Nat):(w.alloc (.cells cs t)).cell? ⟨w.heap.size,j,none⟩=cs[j]?:=by
 have e:(w.alloc (.cells cs t)).heap[w.heap.size]? = some (.cells cs t):=by show (w.heap.push _)[w.heap.size]? = _;simp
 unfold World.cell?;rw [e];rfl
theorem three_new (w:World) (x y z:Obj):(((w.alloc x).alloc y).alloc z).heap[w.heap.size]? = some x∧(((w.alloc x).alloc y).alloc z).heap[w.heap.size+1]? = some y∧(((w.alloc x).alloc y).alloc z).heap[w.heap.size+1+1]? = some z:=by
 show (((w.heap.push x).push y).push z)[w.heap.size]? = _∧(((w.heap.push x).push y).push z)[w.heap.size+1]? = _∧(((w.heap.push x).push y).push z)[w.heap.size+1+1]? = _
 refine ⟨?_, ?_, ?_⟩
 · simp [Array.getElem?_push];omega
 · rw [Array.getElem?_push,if_neg (by simp),Array.getElem?_push,if_pos (by simp)]
 · rw [Array.getElem?_push,if_pos (by simp)]
theorem below_setRow {B g:Nat} {a w:World} (h:Below B a w) (hg:B ≤ g) (cs:Array Value):Below B a (w.setRow g cs) :=
 h.trans ⟨rfl,rfl,rfl,by simp,fun k hk=>by simp only [World.setRow,Array.getElem?_modify];rw [if_neg (by omega)]⟩
theorem heap_setRow {w:World} {g:Nat} {old cs:Array Value} {t:TypeId} (h:w.heap[g]? = some (.cells old t)):(w.setRow g cs).heap[g]? = some (.cells cs t):=by
 simp [World.setRow,Array.getElem?_modify,h]
theorem keep_blk {w w':World} {g:Nat} {x:Obj} (hb:Below w.heap.size w w') (h:w.heap[g]? = some x):w'.heap[g]? = some x :=
 (hb.block g (Array.getElem?_eq_some_iff.1 h).1).trans h
theorem heap_setRow_other (w:World) (g:Nat) (cs:Array Value) {k:Nat} (h:k ≠ g):(w.setRow g cs).heap[k]? = w.heap[k]?:=by
 simp only [World.setRow,Array.getElem?_modify];rw [if_neg (Ne.symm h)]
end Go.Proofs.YtnaoiglbjkjogaaDoor
namespace Go.Proofs.YtnaoiglbjkjogaaDoor
open Go.RowKit
inductive Pa
 | node (lo hi pick:Int) (subs:List Pa)
namespace Pa
def lo:Pa→Int | .node k _ _ _=>k
def hi:Pa→Int | .node _ a _ _=>a
def pick:Pa→Int | .node _ _ b _=>b
def subs:Pa→List Pa | .node _ _ _ s=>s
theorem size_sub {t u:Pa} (h:u ∈ t.subs):SizeOf.sizeOf u < SizeOf.sizeOf t:=by
 cases t with
 | node k a b s =>
   have:=List.sizeOf_lt_of_mem h
   simp only [subs] at this
   simp only [node.sizeOf_spec]
   omega
theorem rec_subs {P:Pa→Prop} (h:∀ t,(∀ u,u ∈ t.subs→P u)→P t) (t:Pa):P t:=by
 induction hn:SizeOf.sizeOf t using Nat.strongRecOn generalizing t with
 | _ n ih=>exact h t fun u hu=>ih _ (by have:=size_sub hu;omega) u rfl
def cells (t:Pa) (s:Value):Array Value:=#[.int .i64 t.lo,.int .i64 t.hi,.int .i64 t.pick,s]
end Pa
structure FourAt (w:World) (b o:Nat) (t:Pa) (s:Value):Prop where
 c0:w.cell? ⟨b,o,none⟩=some (.int .i64 t.lo)
 c1:w.cell? ⟨b,o+1,none⟩=some (.int .i64 t.hi)
 c2:w.cell? ⟨b,o+2,none⟩=some (.int .i64 t.pick)
 c3:w.cell? ⟨b,o+3,none⟩=some s
inductive PasAt (w:World) (B:Nat→Prop):Value→List Pa→Prop
 | mk (p:Option Addr) (cap:Nat) (ts:List Pa) (S:Nat→Value) (hlen:ts.length * 48 ≤ 140737488351232) (hcap:ts.length ≤ cap)
     (hc:∀ i t,ts[i]? = some t→∃ b o,p=some ⟨b,o,none⟩∧B b∧FourAt w b (o+i * 4) t (S i))
     (hs:∀ i t,ts[i]? = some t→PasAt w B (S i) t.subs):PasAt w B (.slice p ts.length cap) ts
def PaV (w:World) (B:Nat→Prop) (v:Value) (t:Pa):Prop:=∃ s,v=.agg (t.cells s)∧PasAt w B s t.subs
theorem FourAt.keep {w w':World} {b o:Nat} {t:Pa} {s:Value} (h:FourAt w b o t s) (hk:w'.heap[b]? = w.heap[b]?):FourAt w' b o t s:=by
 have e:∀ k,w'.cell? ⟨b,k,none⟩=w.cell? ⟨b,k,none⟩:=fun k=>by unfold World.cell?;rw [hk]
 exact ⟨(e _).trans h.c0,(e _).trans h.c1,(e _).trans h.c2,(e _).trans h.c3⟩
theorem FourAt.lt {w:World} {b o:Nat} {t:Pa} {s:Value} (h:FourAt w b o t s):b < w.heap.size:=block_lt_of_cell h.c0
theorem PasAt.keep {w w':World} {B:Nat→Prop} {s:Value} {ts:List Pa} (h:PasAt w B s ts) (hk:∀ b,b < w.heap.size→B b→w'.heap[b]? = w.heap[b]?):PasAt w' B s ts:=by
 induction h with
 | mk p cap ts S hlen hcap hc hs ih =>
   refine .mk p cap ts S hlen hcap (fun i t hi=>?_) (fun i t hi=>ih i t hi)
   obtain ⟨b,o,hp,hB,h10⟩:=hc i t hi
   exact ⟨b,o,hp,hB,h10.keep (hk b h10.lt hB)⟩
theorem PasAt.later {w w':World} {B:Nat→Prop} {s:Value} {ts:List Pa} (h:PasAt w B s ts) (hb:Below w.heap.size w w'):PasAt w' B s ts :=
 h.keep fun b hb' _=>hb.block b hb'
theorem PasAt.mono {w:World} {B B':Nat→Prop} {s:Value} {ts:List Pa} (h:PasAt w B s ts) (hB:∀ b,b < w.heap.size→B b→B' b):PasAt w B' s ts:=by
 induction h with
 | mk p cap ts S hlen hcap hc hs ih =>
   refine .mk p cap ts S hlen hcap (fun i t hi=>?_) (fun i t hi=>ih i t hi)
   obtain ⟨b,o,hp,hb,h10⟩:=hc i t hi
   exact ⟨b,o,hp,hB b h10.lt hb,h10⟩
theorem PaV.later {w w':World} {B:Nat→Prop} {v:Value} {t:Pa} (h:PaV w B v t) (hb:Below w.heap.size w w'):PaV w' B v t:=by
 obtain ⟨s,e,hs⟩:=h;exact ⟨s,e,hs.later hb⟩
theorem PasAt.nil {w:World} {B:Nat→Prop} {p:Option Addr} {cap:Nat} : PasAt w B (.slice p 0 cap) [] :=
 .mk p cap [] (fun _=>.nilIface) (by simp) (by simp) (fun i t h=>by simp at h) (fun i t h=>by simp at h)
theorem PasAt.slice {w:World} {B:Nat→Prop} {s:Value} {ts:List Pa} (h:PasAt w B s ts):∃ p cap,s=.slice p ts.length cap∧ts.length * 48 ≤ 140737488351232:=by
 cases h with | mk p cap _ S hlen hcap hc hs=>exact ⟨p,cap,rfl,hlen⟩
theorem PasAt.get {w:World} {B:Nat→Prop} {p:Option Addr} {len cap:Nat} {ts:List Pa} (h:PasAt w B (.slice p len cap) ts) {i:Nat} {t:Pa} (hi:ts[i]? = some t) :
   ∃ b o s,p=some ⟨b,o,none⟩∧B b∧FourAt w b (o+i * 4) t s∧PasAt w B s t.subs:=by
 cases h with
 | mk _ _ _ S hlen hcap hc hs =>
   obtain ⟨b,o,hp,hB,h10⟩:=hc i t hi
   exact ⟨b,o,S i,hp,hB,h10,hs i t hi⟩
theorem PasAt.len {w:World} {B:Nat→Prop} {p:Option Addr} {len cap:Nat} {ts:List Pa} (h:PasAt w B (.slice p len cap) ts):len=ts.length:=by
 cases h with | mk=>rfl
theorem PasAt.cap {w:World} {B:Nat→Prop} {p:Option Addr} {len cap:Nat} {ts:List Pa} (h:PasAt w B (.slice p len cap) ts):len ≤ cap:=by
 cases h with | mk _ _ _ S hlen hcap hc hs=>exact hcap
theorem PasAt.drop {w:World} {B:Nat→Prop} {p:Option Addr} {len cap:Nat} {ts:List Pa} (h:PasAt w B (.slice p len cap) ts) {m:Nat} (hm:m ≤ ts.length) (p':Option Addr) (hp:m < ts.length→∀ b o,p=some ⟨b,o,none⟩→p'=some ⟨b,o+m * 4,none⟩) :
   PasAt w B (.slice p' (ts.length - m) (cap - m)) (ts.drop m):=by
 cases h with
 | mk _ _ _ S hlen hcap hc hs =>
   have hl:(ts.drop m).length=ts.length - m:=List.length_drop
   have:=PasAt.mk (w:=w) (B:=B) p' (cap - m) (ts.drop m) (fun i=>S (m+i)) (by rw [hl];omega) (by rw [hl];omega)
     (fun i t hi=>by
       rw [List.getElem?_drop] at hi
       obtain ⟨b,o,e,hB,h4⟩:=hc _ t hi
       have hlt:m+i < ts.length:=(List.getElem?_eq_some_iff.1 hi).1
       refine ⟨b,o+m * 4,hp (by omega) b o e,hB, ?_⟩
       rw [show o+m * 4+i * 4=o+(m+i) * 4 by omega]
       exact h4)
     (fun i t hi=>by rw [List.getElem?_drop] at hi;exact hs _ t hi)
   rw [hl] at this
   exact this
end Go.Proofs.YtnaoiglbjkjogaaDoor
namespace Go.Proofs.YtnaoiglbjkjogaaDoor
open Go.RowKit
def cb (s:ByteArray) (i:Nat):Nat:=if h:i < s.size then s[i].toNat else 256
theorem cb_in {s:ByteArray} {i:Nat} (h:i < s.size):s[i].toNat=cb s i:=by unfold cb;rw [dif_pos h]
theorem cb_out {s:ByteArray} {i:Nat} (h:s.size ≤ i):cb s i=256:=by unfold cb;rw [dif_neg (by omega)]
theorem cb_lt {s:ByteArray} {i:Nat} (h:i < s.size):cb s i < 256:=by rw [← cb_in h];exact UInt8.toNat_lt _
structure Sc where
 t:ByteArray
 nl:Bool
 hd:Bool
 tl:Bool
namespace Sc
def inn (x:Sc) (i:Int):Bool:=decide (0 ≤ i) && decide (i < x.t.size)
def byt (x:Sc) (i:Int):Int:=if x.inn i then (cb x.t i.toNat:Int) else 0
def nlAt (x:Sc) (i:Int):Bool:=x.inn i && (x.nl && cb x.t i.toNat == 10)
def beg (x:Sc) (i:Int):Bool:=(x.hd && i == 0) || x.nlAt (i - 1)
def fin (x:Sc) (i:Int):Bool:=(x.tl && i == x.t.size) || x.nlAt i
theorem inn_nat (x:Sc) (k:Nat):x.inn (k:Int)=decide (k < x.t.size):=by
 unfold inn;simp
theorem inn_neg (x:Sc) {i:Int} (h:i < 0):x.inn i=false:=by
 unfold inn;rw [decide_eq_false (by omega)];rfl
theorem inn_big (x:Sc) {i:Int} (h:(x.t.size:Int) ≤ i):x.inn i=false:=by
 unfold inn;rw [show decide (i < (x.t.size:Int))=false from decide_eq_false (by omega),Bool.and_false]
theorem nlAt_out (x:Sc) {i:Int} (h:x.inn i=false):x.nlAt i=false:=by unfold nlAt;rw [h];rfl
theorem nlAt_neg (x:Sc) {i:Int} (h:i < 0):x.nlAt i=false:=x.nlAt_out (x.inn_neg h)
theorem nlAt_big (x:Sc) {i:Int} (h:(x.t.size:Int) ≤ i):x.nlAt i=false:=x.nlAt_out (x.inn_big h)
theorem nlAt_in (x:Sc) {k:Nat} (h:k < x.t.size):x.nlAt (k:Int)=(x.nl && cb x.t k == 10):=by
 unfold nlAt;rw [inn_nat,decide_eq_true h,Bool.true_and];rfl
def new (s:ByteArray) (c e:Int):Sc:=⟨s,bits .and .i64 c 4 != 0,bits .and .i64 e 1 == 0,bits .and .i64 e 2 == 0⟩
def rev (s:ByteArray):ByteArray:=⟨s.data.toList.reverse.toArray⟩
theorem rev_size (s:ByteArray):(rev s).size=s.size:=by
 show s.data.toList.reverse.toArray.size=s.data.size
 rw [List.size_toArray,List.length_reverse,Array.length_toList]
def turned (x:Sc):Sc:=⟨rev x.t,x.nl,x.tl,x.hd⟩
end Sc
def ScAt (w:World) (b:Nat) (x:Sc):Prop:=w.heap[b]? = some (.cells #[.string x.t,.bool x.nl,.bool x.hd,.bool x.tl] 89)
theorem ScAt.below {w w':World} {b:Nat} {x:Sc} (h:ScAt w b x) (hb:Below w.heap.size w w'):ScAt w' b x:=keep_blk hb h
theorem ScAt.alloc {w:World} {b:Nat} {x:Sc} (h:ScAt w b x) (o:Obj):ScAt (w.alloc o) b x:=heap_alloc_lt h
theorem scbyte_any (x:Sc) (b:Nat) (i:Int) (w:World) (h:ScAt w b x) :
   Calls Tryd.prog 109 #[.pointer (some ⟨b,0,none⟩),.int .i64 i] w fun e w'=>e=.returned (.tuple #[.int .u8 (x.byt i),.bool (x.inn i)])∧w'=w:=by
 obtain ⟨c0,-,-,-,-⟩:=four h
 by_cases h0:i < 0
 · have hd:decide (i < 0)=true:=by simpa using h0
   rw [show x.byt i=0 by unfold Sc.byt;rw [x.inn_neg h0];rfl,x.inn_neg h0]
   go_enter Tryd.func109,Tryd.ntmps109
   go_wp2
   go_ret2
   exact ⟨rfl,rfl⟩
 · obtain ⟨k,rfl⟩:∃ k:Nat,i=k:=⟨i.toNat,by omega⟩
   have hd:decide ((k:Int) < 0)=false:=by simp
   by_cases h1:k < x.t.size
   · have hd1:decide ((x.t.size:Int) ≤ k)=false:=by simp;omega
     have hd2:decide (x.t.size ≤ k)=false:=by simp;omega
     have he:=cb_in h1
     rw [show x.byt (k:Int)=(cb x.t k:Int) by unfold Sc.byt;rw [x.inn_nat,decide_eq_true h1];rfl,x.inn_nat,decide_eq_true h1]
     go_enter Tryd.func109,Tryd.ntmps109
     go_wp2
     go_ret2
     exact ⟨rfl,rfl⟩
   · have hd1:decide ((x.t.size:Int) ≤ k)=true:=by simp;omega
     have hd2:decide (x.t.size ≤ k)=true:=by simp;omega
     rw [show x.byt (k:Int)=0 by unfold Sc.byt;rw [x.inn_nat,decide_eq_false h1];rfl,x.inn_nat,decide_eq_false h1]
     go_enter Tryd.func109,Tryd.ntmps109
     go_wp2
     go_ret2
     exact ⟨rfl,rfl⟩
theorem scnl_any (x:Sc) (b:Nat) (i:Int) (w:World) (h:ScAt w b x) :
   Calls Tryd.prog 111 #[.pointer (some ⟨b,0,none⟩),.int .i64 i] w fun e w'=>e=.returned (.bool (x.nlAt i))∧w'=w:=by
 have HB:=Lib.hid (scbyte_any x b i w h)
 obtain ⟨-,c1,-,-,-⟩:=four h
 clear h
 have hn:x.nlAt i=(x.inn i && (x.nl && x.byt i == 10)):=by
   unfold Sc.nlAt Sc.byt
   cases x.inn i with
   | false=>rfl
   | true=>simp only [Bool.true_and,if_true];congr 1;rw [Bool.eq_iff_iff];simp only [beq_iff_eq];omega
 rw [hn]
 clear hn
 generalize x.byt i=y at *
 generalize x.inn i=t at *
 generalize x.nl=n at *
 cases t <;> cases n <;> cases hy:(y == 10)
 all_goals
   go_enter Tryd.func111,Tryd.ntmps111
   go_wp2_with fail
   refine HB.out.mono ?_
   rintro e w' ⟨rfl,rfl⟩
   go_wp2
   go_ret
   exact ⟨rfl,rfl⟩
theorem Sc.nlAt_wrap (x:Sc) (i:Int) (hi : -9223372036854775808 ≤ i∧i ≤ 9223372036854775807) (ht:x.t.size ≤ 4611686018427387904):x.nlAt (wrap64 (i - 1))=x.nlAt (i - 1):=by
 by_cases hm:i = -9223372036854775808
 · have hw:wrap64 (i - 1)=9223372036854775807:=by unfold wrap64;omega
   rw [x.nlAt_neg (by omega:i - 1 < 0),x.nlAt_big (by omega)]
 · rw [show wrap64 (i - 1)=i - 1 by unfold wrap64;omega]
theorem scbeg_any (x:Sc) (b:Nat) (i:Int) (w:World) (h:ScAt w b x) (hi : -9223372036854775808 ≤ i∧i ≤ 9223372036854775807) (ht:x.t.size ≤ 4611686018427387904) :
   Calls Tryd.prog 86 #[.pointer (some ⟨b,0,none⟩),.int .i64 i] w fun e w'=>e=.returned (.bool (x.beg i))∧w'=w:=by
 have hn:=x.nlAt_wrap i hi ht
 have HN:=Lib.hid (scnl_any x b (wrap64 (i - 1)) w h)
 obtain ⟨-,-,c2,-,-⟩:=four h
 clear h hi ht
 unfold Sc.beg
 rw [← hn]
 clear hn
 generalize x.nlAt (wrap64 (i - 1))=y at *
 generalize x.hd=d at *
 cases d <;> cases hy:(i == 0)
 all_goals
   go_enter Tryd.func86,Tryd.ntmps86
   go_wp2_with fail
   first
     | (go_ret;exact ⟨rfl,rfl⟩)
     | (refine HN.out.mono ?_;rintro e w' ⟨rfl,rfl⟩;go_wp2;go_ret;exact ⟨rfl,rfl⟩)
theorem scfin_any (x:Sc) (b:Nat) (i:Int) (w:World) (h:ScAt w b x) :
   Calls Tryd.prog 87 #[.pointer (some ⟨b,0,none⟩),.int .i64 i] w fun e w'=>e=.returned (.bool (x.fin i))∧w'=w:=by
 have HN:=Lib.hid (scnl_any x b i w h)
 obtain ⟨c0,-,-,c3,-⟩:=four h
 clear h
 unfold Sc.fin
 generalize x.nlAt i=y at *
 generalize x.tl=d at *
 cases d <;> cases hy:(i == (x.t.size:Int))
 all_goals
   go_enter Tryd.func87,Tryd.ntmps87
   go_wp2_with fail
   first
     | (go_ret;exact ⟨rfl,rfl⟩)
     | (refine HN.out.mono ?_;rintro e w' ⟨rfl,rfl⟩;go_wp2;go_ret;exact ⟨rfl,rfl⟩)
theorem sclen_any (x:Sc) (b:Nat) (w:World) (h:ScAt w b x) :
   Calls Tryd.prog 81 #[.pointer (some ⟨b,0,none⟩)] w fun e w'=>e=.returned (.int .i64 x.t.size)∧w'=w:=by
 obtain ⟨c0,-,-,-,-⟩:=four h
 go_enter Tryd.func81,Tryd.ntmps81
 go_wp2
 go_ret
 exact ⟨rfl,rfl⟩
theorem scnew_any (s:ByteArray) (c e0:Int) (w:World) :
   Calls Tryd.prog 24 #[.string s,.int .i64 c,.int .i64 e0] w fun e w'=>e=.returned (.pointer (some ⟨w.heap.size,0,none⟩))∧ScAt w' w.heap.size (Sc.new s c e0)∧Below w.heap.size w w'∧w'.heap.size=w.heap.size+1:=by
 go_enter Tryd.func24,Tryd.ntmps24
 go_wp2
 go_ret
 refine ⟨rfl,heap_alloc_new _ _,(Below.refl _ _).alloc (Nat.le_refl _) _,by simp⟩
end Go.Proofs.YtnaoiglbjkjogaaDoor
namespace Go.Proofs.YtnaoiglbjkjogaaDoor
namespace Oc
def U (x:BitVec 64):Int:=x.toNat
theorem U_nonneg (x:BitVec 64):0 ≤ U x:=by unfold U;omega
theorem U_inj {x y:BitVec 64} (h:U x=U y):x=y:=by
 unfold U at h;exact BitVec.eq_of_toNat_eq (by omega)
theorem ofInt_U (x:BitVec 64):BitVec.ofInt 64 (U x)=x:=by
 unfold U;rw [BitVec.ofInt_natCast];exact BitVec.eq_of_toNat_eq (by rw [BitVec.toNat_ofNat];exact Nat.mod_eq_of_lt x.isLt)
theorem wrapU (n:Int):IntKind.u64.wrap n=U (BitVec.ofInt 64 n):=by
 rw [IntKind.wrap_u64];unfold U;rw [BitVec.toNat_ofInt];omega
theorem andU (x y:BitVec 64):bits .and .u64 (U x) (U y)=U (x &&& y):=by
 show IntKind.u64.wrap ((BitVec.ofInt 64 (U x) &&& BitVec.ofInt 64 (U y)).toNat:Int)=_
 rw [ofInt_U,ofInt_U,wrapU];exact congrArg U (ofInt_U (x &&& y))
theorem shrU (x:BitVec 64) (n:Nat):U x / ((2 ^ n:Nat):Int)=U (x >>> n):=by
 unfold U;rw [BitVec.toNat_ushiftRight,Nat.shiftRight_eq_div_pow];simp
theorem hasBit (x:BitVec 64) (k:Nat):(bits .and .u64 (U x / (2:Int) ^ k) 1 == 1)=x.getLsbD k:=by
 have e:U x / (2:Int) ^ k=U (x >>> k):=by
   rw [← shrU];congr 1
 have e1:(1:Int)=U 1#64:=by decide
 rw [e]
 show (bits .and .u64 (U (x >>> k)) (U 1#64) == U 1#64)=_
 rw [andU]
 have hb:(x >>> k &&& 1#64)=if x.getLsbD k then 1#64 else 0#64:=by
   apply BitVec.eq_of_getLsbD_eq;intro i hi
   by_cases h:i=0
   · subst h;cases hx:x.getLsbD k <;> simp [hx]
   · cases hx:x.getLsbD k <;> simp [h]
 rw [hb]
 cases x.getLsbD k <;> decide
def cnt (p:Nat→Bool):Nat→Nat
 | 0=>0
 | n+1=>cnt p n+(p n).toNat
theorem cnt_le (p:Nat→Bool):∀ n,cnt p n ≤ n
 | 0=>Nat.le_refl _
 | n+1=>by have:=cnt_le p n;have:=(p n).toNat_le;simp only [cnt];omega
def w4 (a b c d:BitVec 64) (k:Nat):BitVec 64:=if k=0 then a else if k=1 then b else if k=2 then c else d
def mem (a b c d:BitVec 64) (i:Nat):Bool:=(w4 a b c d (i / 64)).getLsbD (i % 64)
end Oc
end Go.Proofs.YtnaoiglbjkjogaaDoor
namespace Go.Proofs.YtnaoiglbjkjogaaDoor
open Go.RowKit
inductive Tr
 | node (kind:Int) (a b c d:BitVec 64) (subs:List Tr) (num least most:Int) (bare:Bool)
namespace Tr
def kind:Tr→Int | .node k _ _ _ _ _ _ _ _ _=>k
def w0:Tr→BitVec 64 | .node _ a _ _ _ _ _ _ _ _=>a
def w1:Tr→BitVec 64 | .node _ _ b _ _ _ _ _ _ _=>b
def w2:Tr→BitVec 64 | .node _ _ _ c _ _ _ _ _ _=>c
def w3:Tr→BitVec 64 | .node _ _ _ _ d _ _ _ _ _=>d
def subs:Tr→List Tr | .node _ _ _ _ _ s _ _ _ _=>s
def num:Tr→Int | .node _ _ _ _ _ _ n _ _ _=>n
def least:Tr→Int | .node _ _ _ _ _ _ _ m _ _=>m
def most:Tr→Int | .node _ _ _ _ _ _ _ _ m _=>m
def bare:Tr→Bool | .node _ _ _ _ _ _ _ _ _ b=>b
theorem size_sub {t u:Tr} (h:u ∈ t.subs):SizeOf.sizeOf u < SizeOf.sizeOf t:=by
 cases t with
 | node k a b c d s n lo hi br =>
   have:=List.sizeOf_lt_of_mem h
   simp only [subs] at this
   simp only [node.sizeOf_spec]
   omega
theorem rec_subs {P:Tr→Prop} (h:∀ t,(∀ u,u ∈ t.subs→P u)→P t) (t:Tr):P t:=by
 induction hn:SizeOf.sizeOf t using Nat.strongRecOn generalizing t with
 | _ n ih=>exact h t fun u hu=>ih _ (by have:=size_sub hu;omega) u rfl
theorem eta:∀ t:Tr,t=.node t.kind t.w0 t.w1 t.w2 t.w3 t.subs t.num t.least t.most t.bare
 | .node _ _ _ _ _ _ _ _ _ _=>rfl
def cells (t:Tr) (s:Value):Array Value :=
 #[.int .i64 t.kind,.int .u64 (Oc.U t.w0),.int .u64 (Oc.U t.w1),.int .u64 (Oc.U t.w2),.int .u64 (Oc.U t.w3),s,.int .i64 t.num,.int .i64 t.least,.int .i64 t.most,.bool t.bare]
end Tr
structure TenAt (w:World) (b o:Nat) (t:Tr) (s:Value):Prop where
 c0:w.cell? ⟨b,o,none⟩=some (.int .i64 t.kind)
 c1:w.cell? ⟨b,o+1,none⟩=some (.int .u64 (Oc.U t.w0))
 c2:w.cell? ⟨b,o+2,none⟩=some (.int .u64 (Oc.U t.w1))
 c3:w.cell? ⟨b,o+3,none⟩=some (.int .u64 (Oc.U t.w2))
 c4:w.cell? ⟨b,o+4,none⟩=some (.int .u64 (Oc.U t.w3))
 c5:w.cell? ⟨b,o+5,none⟩=some s
 c6:w.cell? ⟨b,o+6,none⟩=some (.int .i64 t.num)
 c7:w.cell? ⟨b,o+7,none⟩=some (.int .i64 t.least)
 c8:w.cell? ⟨b,o+8,none⟩=some (.int .i64 t.most)
 c9:w.cell? ⟨b,o+9,none⟩=some (.bool t.bare)
inductive TreesAt (w:World) (B:Nat→Prop):Value→List Tr→Prop
 | mk (p:Option Addr) (cap:Nat) (ts:List Tr) (S:Nat→Value) (hlen:ts.length * 96 ≤ 140737488351232)
     (hc:∀ i t,ts[i]? = some t→∃ b o,p=some ⟨b,o,none⟩∧B b∧TenAt w b (o+i * 10) t (S i))
     (hs:∀ i t,ts[i]? = some t→TreesAt w B (S i) t.subs):TreesAt w B (.slice p ts.length cap) ts
def NodeV (w:World) (B:Nat→Prop) (v:Value) (t:Tr):Prop:=∃ s,v=.agg (t.cells s)∧TreesAt w B s t.subs
theorem TenAt.keep {w w':World} {b o:Nat} {t:Tr} {s:Value} (h:TenAt w b o t s) (hk:w'.heap[b]? = w.heap[b]?):TenAt w' b o t s:=by
 have e:∀ k,w'.cell? ⟨b,k,none⟩=w.cell? ⟨b,k,none⟩:=fun k=>by unfold World.cell?;rw [hk]
 exact ⟨(e _).trans h.c0,(e _).trans h.c1,(e _).trans h.c2,(e _).trans h.c3,(e _).trans h.c4,(e _).trans h.c5,(e _).trans h.c6,(e _).trans h.c7,(e _).trans h.c8,(e _).trans h.c9⟩
theorem TenAt.lt {w:World} {b o:Nat} {t:Tr} {s:Value} (h:TenAt w b o t s):b < w.heap.size:=block_lt_of_cell h.c0
theorem TreesAt.keep {w w':World} {B:Nat→Prop} {s:Value} {ts:List Tr} (h:TreesAt w B s ts) (hk:∀ b,b < w.heap.size→B b→w'.heap[b]? = w.heap[b]?):TreesAt w' B s ts:=by
 induction h with
 | mk p cap ts S hlen hc hs ih =>
   refine .mk p cap ts S hlen (fun i t hi=>?_) (fun i t hi=>ih i t hi)
   obtain ⟨b,o,hp,hB,h10⟩:=hc i t hi
   exact ⟨b,o,hp,hB,h10.keep (hk b h10.lt hB)⟩
theorem TreesAt.later {w w':World} {B:Nat→Prop} {s:Value} {ts:List Tr} (h:TreesAt w B s ts) (hb:Below w.heap.size w w'):TreesAt w' B s ts :=
 h.keep fun b hb' _=>hb.block b hb'
theorem TreesAt.mono {w:World} {B B':Nat→Prop} {s:Value} {ts:List Tr} (h:TreesAt w B s ts) (hB:∀ b,b < w.heap.size→B b→B' b):TreesAt w B' s ts:=by
 induction h with
 | mk p cap ts S hlen hc hs ih =>
   refine .mk p cap ts S hlen (fun i t hi=>?_) (fun i t hi=>ih i t hi)
   obtain ⟨b,o,hp,hb,h10⟩:=hc i t hi
   exact ⟨b,o,hp,hB b h10.lt hb,h10⟩
theorem NodeV.later {w w':World} {B:Nat→Prop} {v:Value} {t:Tr} (h:NodeV w B v t) (hb:Below w.heap.size w w'):NodeV w' B v t:=by
 obtain ⟨s,e,hs⟩:=h;exact ⟨s,e,hs.later hb⟩
theorem TreesAt.nil {w:World} {B:Nat→Prop} {p:Option Addr} {cap:Nat} : TreesAt w B (.slice p 0 cap) [] :=
 .mk p cap [] (fun _=>.nilIface) (by simp) (fun i t h=>by simp at h) (fun i t h=>by simp at h)
theorem TreesAt.slice {w:World} {B:Nat→Prop} {s:Value} {ts:List Tr} (h:TreesAt w B s ts):∃ p cap,s=.slice p ts.length cap∧ts.length * 96 ≤ 140737488351232:=by
 cases h with | mk p cap _ S hlen hc hs=>exact ⟨p,cap,rfl,hlen⟩
theorem TreesAt.get {w:World} {B:Nat→Prop} {p:Option Addr} {len cap:Nat} {ts:List Tr} (h:TreesAt w B (.slice p len cap) ts) {i:Nat} {t:Tr} (hi:ts[i]? = some t) :
   ∃ b o s,p=some ⟨b,o,none⟩∧B b∧TenAt w b (o+i * 10) t s∧TreesAt w B s t.subs:=by
 cases h with
 | mk _ _ _ S hlen hc hs =>
   obtain ⟨b,o,hp,hB,h10⟩:=hc i t hi
   exact ⟨b,o,S i,hp,hB,h10,hs i t hi⟩
end Go.Proofs.YtnaoiglbjkjogaaDoor
namespace Go.Proofs.YtnaoiglbjkjogaaDoor
open Go.RowKit
theorem has_any (a b c d:BitVec 64) (n:Nat) (hn:n < 256) (w:World) :
   Calls Tryd.prog 14 #[(.agg #[.int .u64 (Oc.U a),.int .u64 (Oc.U b),.int .u64 (Oc.U c),.int .u64 (Oc.U d)]),.int .u8 n] w fun e w'=>e=.returned (.bool (Oc.mem a b c d n))∧Below w.heap.size w w':=by
 have ha:=Oc.U_nonneg a;have hb:=Oc.U_nonneg b;have hc:=Oc.U_nonneg c;have hd:=Oc.U_nonneg d
 have hq:n / 64=0 ∨ n / 64=1 ∨ n / 64=2 ∨ n / 64=3:=by omega
 rcases hq with hq | hq | hq | hq
 all_goals
   go_enter Tryd.func14,Tryd.ntmps14
   go_wp2
   go_returns
   refine ⟨ret_bool ?_,by go_grown⟩
   rw [Oc.hasBit]
   unfold Oc.mem Oc.w4
   rw [hq]
   rfl
end Go.Proofs.YtnaoiglbjkjogaaDoor
namespace Go.Proofs.YtnaoiglbjkjogaaDoor
open Go.RowKit
namespace Tr
def fieldsOk (t:Tr):Prop :=
 ((t.kind=1 ∨ t.kind=3 ∨ t.kind=4)∧t.w0=0#64∧t.w1=0#64∧t.w2=0#64∧t.w3=0#64∧t.subs=[]∧t.num=0∧t.least=0∧t.most=0∧t.bare=false) ∨
 (t.kind=2∧t.subs=[]∧t.num=0∧t.least=0∧t.most=0∧t.bare=false) ∨
 ((t.kind=5 ∨ t.kind=6)∧t.w0=0#64∧t.w1=0#64∧t.w2=0#64∧t.w3=0#64∧2 ≤ t.subs.length∧t.num=0∧t.least=0∧t.most=0∧t.bare=false) ∨
 (t.kind=7∧t.w0=0#64∧t.w1=0#64∧t.w2=0#64∧t.w3=0#64∧t.subs.length=1∧1 ≤ t.num∧t.num ≤ 999∧t.least=0∧t.most=0∧t.bare=false) ∨
 (t.kind=8∧t.w0=0#64∧t.w1=0#64∧t.w2=0#64∧t.w3=0#64∧t.subs.length=1∧t.num=0∧0 ≤ t.least∧t.least ≤ 255∧(t.most = -1 ∨ (t.least ≤ t.most∧t.most ≤ 255))∧(t.bare=true→t.least=0))
inductive InForm:Tr→Prop
 | mk (t:Tr) (h:fieldsOk t) (hs:∀ u,u ∈ t.subs→InForm u):InForm t
theorem InForm.fields {t:Tr} (h:InForm t):fieldsOk t:=by cases h;assumption
theorem InForm.sub {t u:Tr} (h:InForm t) (hu:u ∈ t.subs):InForm u:=by cases h with | mk _ _ hs=>exact hs u hu
def sat (n:Nat):Nat:=min 2001 n
theorem sat_sat (a b:Nat):sat (sat a+b)=sat (a+b):=by unfold sat;omega
theorem sat_le (a:Nat):sat a ≤ 2001:=by unfold sat;omega
def repSz (lo hi:Int) (n:Nat):Nat :=
 if hi=0 then 1
 else if lo=1∧hi=1 then n
 else if lo=0∧(hi=1 ∨ hi = -1) then sat (1+n)
 else if hi = -1 then sat (1+lo.toNat * n+(1+n))
 else sat (1+lo.toNat * n+(hi - lo).toNat * (1+n))
mutual
def szT:Tr→Nat
 | .node k _ _ _ _ s _ lo hi _=>if k=8 then repSz lo hi (szH s) else sat (1+szS s)
def szS:List Tr→Nat
 | []=>0
 | t :: l=>szT t+szS l
def szH:List Tr→Nat
 | []=>0
 | t :: _=>szT t
end
theorem repSz_le {lo hi:Int} {n:Nat} (h:n ≤ 2001):repSz lo hi n ≤ 2001:=by
 unfold repSz
 split
 · omega
 split
 · exact h
 split
 · exact sat_le _
 split <;> exact sat_le _
theorem szT_le:∀ t:Tr,szT t ≤ 2001:=by
 intro t
 induction t using Tr.rec_subs with
 | h t ih =>
   cases t with
   | node k a b c d s n lo hi br =>
     rw [szT]
     split
     · refine repSz_le ?_
       cases s with
       | nil=>simp [szH]
       | cons x l=>rw [szH];exact ih x (by simp [subs])
     · exact sat_le _
theorem szS_append:∀ (l m:List Tr),szS (l ++ m)=szS l+szS m
 | [],m=>by simp [szS]
 | t :: l,m=>by rw [List.cons_append,szS,szS,szS_append l m];omega
theorem szS_take (l:List Tr) (m:Nat) (x:Tr) (h:l[m]? = some x):szS (l.take (m+1))=szS (l.take m)+szT x:=by
 rw [List.take_add_one,h,Option.toList_some,szS_append,szS,szS];rfl
end Tr
theorem trcount_any (a b:Nat) (ha:a ≤ 2001) (hb:b ≤ 2002) (x y:Int) (hx:x=a) (hy:y=b) (w:World):Calls Tryd.prog 107 #[.int .i64 x,.int .i64 y] w fun e w'=>e=.returned (.int .i64 (Tr.sat (a+b):Nat))∧w=w':=by
 subst hx hy
 have hw:IntKind.i64.wrap ((a:Int)+b)=(a:Int)+b:=IntWalk.i64_in _ (by omega)
 go_enter Tryd.func107,Tryd.ntmps107
 go_wp2
 all_goals
   go_ret
   exact ⟨ret_int (by unfold Tr.sat;omega),rfl⟩
theorem box5 {w:World} {b:Nat} {t:Tr} {s:Value} {ty:TypeId} (h:w.heap[b]? = some (.cells (t.cells s) ty)) :
   w.cell? ⟨b,0,none⟩=some (.int .i64 t.kind)∧w.cell? ⟨b,4+1,none⟩=some s∧w.cell? ⟨b,5,none⟩=some s∧w.cell? ⟨b,7,none⟩=some (.int .i64 t.least)∧w.cell? ⟨b,8,none⟩=some (.int .i64 t.most):=by
 simp [World.cell?,h,Tr.cells]
def SizeEnd (n:Nat) (w:World) (e:Ending) (w':World):Prop:=e=.returned (.int .i64 n)∧Below w.heap.size w w'
theorem refsize_seq (t:Tr) (ih:∀ u,u ∈ t.subs→u.InForm→∀ (w:World) (B:Nat→Prop) (v:Value),NodeV w B v u→Calls Tryd.prog 76 #[v] w (SizeEnd u.szT w)) (hf:t.InForm) (hk:t.kind ≠ 8)
   (w:World) (B:Nat→Prop) (v:Value) (hv:NodeV w B v t):Calls Tryd.prog 76 #[v] w (SizeEnd t.szT w):=by
 obtain ⟨s,rfl,hs⟩:=hv
 obtain ⟨p,cap,rfl,hlen⟩:=hs.slice
 have HE:=Lib.hid (show t.szT=Tr.sat (1+Tr.szS t.subs) by cases t;rw [Tr.szT];simp only [Tr.kind] at hk;rw [if_neg hk];rfl)
 have HF:=Lib.hid hf
 generalize hts:t.subs=ts at *
 have HTS:=Lib.hid hts;have IH:=Lib.hid ih;have HS:=Lib.hid hs
 have e8:(t.kind != 8)=true:=by simpa using hk
 clear ih hs hf hk hts
 unfold Tr.cells
 go_enter Tryd.func76,Tryd.ntmps76
 go_wp2
 go_loopw [3,4] (fun nv iv wr=>∃ m:Nat,iv=.int .i64 m∧m ≤ ts.length∧nv=.int .i64 (Tr.sat (1+Tr.szS (ts.take m)):Nat)∧Hid (Below w.heap.size w wr)∧w.heap.size < wr.heap.size∧Hid (wr.heap[w.heap.size]? = some (.cells (t.cells (.slice p ts.length cap)) 37))) (fun _ iv _=>ts.length - (intOf iv).toNat)
 case atStart=>exact ⟨0,rfl,Nat.zero_le _,rfl,Lib.hid (by go_grown),by simp,Lib.hid (heap_alloc_new _ _)⟩
 case round =>
   obtain ⟨m,rfl,hm,rfl,HB,hsz,Z0⟩:=hrel
   have wm:IntKind.i64.wrap ((m:Int)+1)=(m:Int)+1:=IntWalk.i64_in _ (by omega)
   obtain ⟨-,-,f5,-,-⟩:=box5 Z0.out
   by_cases hlt:m < ts.length
   · obtain ⟨x,hx⟩:∃ x,ts[m]? = some x:=⟨_,List.getElem?_eq_getElem hlt⟩
     obtain ⟨b1,o1,s1,rfl,-,t1,sub1⟩:=HS.out.get hx
     obtain ⟨d0,d1,d2,d3,d4,d5,d6,d7,d8,d9⟩:=t1.keep (HB.out.block _ t1.lt)
     have hmem:=List.mem_of_getElem? hx
     have HC:=Lib.hid (IH.out x hmem (HF.out.sub (by rw [HTS.out];exact hmem)) wr B (.agg (x.cells s1)) ⟨_,rfl,sub1.later HB.out⟩)
     have hle:=Tr.sat_le (1+Tr.szS (ts.take m));have hlx:=Tr.szT_le x
     have HST:=Lib.hid (Tr.szS_take ts m x hx)
     clear t1 sub1 hmem hx
     generalize hn:Tr.sat (1+Tr.szS (ts.take m))=n at *
     have HN:=Lib.hid hn
     clear hn
     unfold Tr.cells at HC
     go_wp2_with fail
     refine HC.out.mono ?_
     rintro e w2 ⟨rfl,hb2⟩
     have HB2:=Lib.hid (HB.out.trans (hb2.mono HB.out.size));have Z2:=Lib.hid (keep_blk hb2 Z0.out)
     have hsz2:w.heap.size < w2.heap.size:=Nat.lt_of_lt_of_le hsz hb2.size
     clear d0 d1 d2 d3 d4 d5 d6 d7 d8 d9 f5 hb2 HC
     go_wp2_with fail
     refine (trcount_any n x.szT hle (by omega) _ _ rfl rfl _).mono ?_
     rintro e w3 ⟨rfl,rfl⟩
     have hsum:Tr.sat (n+x.szT)=Tr.sat (1+Tr.szS (ts.take (m+1))):=by rw [← HN.out,Tr.sat_sat,HST.out];congr 1;omega
     rw [hsum]
     clear hsum
     go_wp2
     exact ⟨⟨m+1,by go_num,by omega,rfl,HB2,hsz2,Z2⟩,by simp [intOf];omega⟩
   · obtain rfl:m=ts.length:=by omega
     have HX:=Lib.hid (show Tr.sat (1+Tr.szS (ts.take ts.length))=t.szT by rw [List.take_length,HE.out])
     go_wp2
     go_ret
     exact ⟨ret_int (by rw [HX.out]),HB.out⟩
theorem refsize_rep (t x:Tr) (ih:∀ (w:World) (B:Nat→Prop) (v:Value),NodeV w B v x→Calls Tryd.prog 76 #[v] w (SizeEnd x.szT w)) (hsub:t.subs=[x]) (hk:t.kind=8) (h0:0 ≤ t.least) (h1:t.least ≤ 255) (h2:t.most = -1 ∨ (t.least ≤ t.most∧t.most ≤ 255))
   (w:World) (B:Nat→Prop) (v:Value) (hv:NodeV w B v t):Calls Tryd.prog 76 #[v] w (SizeEnd t.szT w):=by
 obtain ⟨s,rfl,hs⟩:=hv
 have hsz0:t.szT=Tr.repSz t.least t.most x.szT:=by
   cases t;simp only [Tr.kind,Tr.subs] at hk hsub;subst hk hsub;rw [Tr.szT,if_pos rfl,Tr.szH];rfl
 rw [hsub] at hs
 obtain ⟨p,cap,rfl,hlen⟩:=hs.slice
 have hs:TreesAt w B (.slice p 1 cap) [x]:=hs
 obtain ⟨b1,o1,s1,rfl,-,t1,sub1⟩:=hs.get (i:=0) (t:=x) rfl
 have HE:=Lib.hid hsz0
 have HC:=Lib.hid ih
 have t1':TenAt w b1 o1 x s1:=by simpa using t1
 have T1:=Lib.hid t1';have SUB:=Lib.hid sub1
 have e8:(t.kind != 8)=false:=by simpa using hk
 have hN:=Tr.szT_le x
 clear ih hs hk hsub hsz0 t1 t1' sub1 hlen
 obtain ⟨lo,hlo⟩:∃ lo:Nat,t.least=lo:=⟨t.least.toNat,by omega⟩
 rw [hlo] at h0 h1 h2
 by_cases hm0:t.most=0
 · have HX:=Lib.hid (show t.szT=1 by rw [HE.out];unfold Tr.repSz;rw [if_pos hm0])
   unfold Tr.cells
   rw [hm0]
   clear hlo hm0
   go_enter Tryd.func76,Tryd.ntmps76
   go_wp2
   go_ret
   exact ⟨ret_int (by rw [HX.out];rfl),by go_grown⟩
 · have em0:(t.most == 0)=false:=by simpa using hm0
   have HM:=Lib.hid hm0;have HLO:=Lib.hid hlo
   unfold Tr.cells
   clear hm0 hlo
   go_enter Tryd.func76,Tryd.ntmps76
   have d:=fun (o:Obj)=>T1.out.keep (w':=w.alloc o) (Below.heap_alloc w o b1 T1.out.lt)
   have e0:=fun o=>(d o).c0;have e1:=fun o=>(d o).c1;have e2:=fun o=>(d o).c2;have e3:=fun o=>(d o).c3;have e4:=fun o=>(d o).c4
   have e5:=fun o=>(d o).c5;have e6:=fun o=>(d o).c6;have e7:=fun o=>(d o).c7;have e8':=fun o=>(d o).c8;have e9:=fun o=>(d o).c9
   clear d
   go_wp2_with fail
   generalize hw1:World.alloc w _=w1
   have hb1:Below w.heap.size w w1:=by rw [← hw1];exact (Below.refl _ _).alloc (Nat.le_refl _) _
   have Z1:Hid (w1.heap[w.heap.size]? = some (.cells (t.cells (.slice (some ⟨b1,o1,none⟩) 1 cap)) 37)):=Lib.hid (by rw [← hw1];exact heap_alloc_new _ _)
   have hs1:w.heap.size < w1.heap.size:=by rw [← hw1];simp
   have hcall:=HC.out w1 B (.agg (x.cells s1)) ⟨_,rfl,SUB.out.later hb1⟩
   unfold Tr.cells at hcall
   have HB1:=Lib.hid hb1
   clear hw1 e0 e1 e2 e3 e4 e5 e6 e7 e8' e9 hb1
   refine hcall.mono ?_
   rintro e w2 ⟨rfl,hb2⟩
   have HB2:=Lib.hid (HB1.out.trans (hb2.mono HB1.out.size));have Z2:=Lib.hid (keep_blk hb2 Z1.out)
   have hs2:w.heap.size < w2.heap.size:=Nat.lt_of_lt_of_le hs1 hb2.size
   clear hb2 hcall HB1 Z1
   generalize hNe:x.szT=N at *
   clear hNe
   have hlo255:lo ≤ 255:=by omega
   go_wp2
   go_loopw [6,7,8] (fun pv nv iv wr=>∃ m:Nat,iv=.int .i64 m∧pv=.int .i64 m∧m ≤ lo∧nv=.int .i64 (Tr.sat (m * N):Nat)∧wr=w2) (fun _ _ iv _=>lo - (intOf iv).toNat)
   case atStart=>exact ⟨0,rfl,rfl,Nat.zero_le _,by simp [Tr.sat],rfl⟩
   case round =>
     obtain ⟨m,rfl,rfl,hm,rfl,rfl⟩:=hrel
     have wm:IntKind.i64.wrap ((m:Int)+1)=(m:Int)+1:=IntWalk.i64_in _ (by omega)
     obtain ⟨-,-,-,f7,f8⟩:=box5 Z2.out
     rw [HLO.out] at f7
     by_cases hlt:m < lo
     · have hsat:=Tr.sat_le (m * N)
       have HS:=Lib.hid (show Tr.sat (Tr.sat (m * N)+N)=Tr.sat ((m+1) * N) by rw [Tr.sat_sat,Nat.succ_mul])
       generalize Tr.sat (m * N)=n at *
       go_wp2_with fail
       refine (trcount_any n N hsat (by omega) _ _ rfl rfl _).mono ?_
       rintro e w3 ⟨rfl,rfl⟩
       rw [HS.out]
       go_wp2
       exact ⟨⟨m+1,by go_num,by go_num,by omega,rfl,trivial⟩,by simp [intOf];omega⟩
     · obtain rfl:m=lo:=by omega
       have hsat0:=Tr.sat_le (m * N)
       generalize hA:m * N=A at *
       have HA:=Lib.hid hA
       clear hA
       generalize hhi:t.most=hi at *
       have HHI:=Lib.hid hhi
       clear hhi
       obtain ⟨J,hJ⟩:∃ J:Nat,J=(hi - m).toNat:=⟨_,rfl⟩
       have HJ:=Lib.hid hJ
       have hJ2:J ≤ 255:=by omega
       clear hJ
       go_wp2
       go_loopw [6,7,9] (fun pv nv iv wz=>∃ j:Nat,iv=.int .i64 ((m+j:Nat):Int)∧pv=.int .i64 ((m+j:Nat):Int)∧j ≤ J∧nv=.int .i64 (Tr.sat (A+j * (N+1)):Nat)∧wz=wr) (fun _ _ iv _=>(m+J) - (intOf iv).toNat)
       case atStart=>exact ⟨0,rfl,rfl,Nat.zero_le _,by simp,rfl⟩
       case round =>
         obtain ⟨j,rfl,rfl,hj,rfl,rfl⟩:=hrel
         have wj:IntKind.i64.wrap (((m+j:Nat):Int)+1)=((m+j:Nat):Int)+1:=IntWalk.i64_in _ (by omega)
         have wj2:IntKind.i64.wrap ((m:Int)+j+1)=(m:Int)+j+1:=IntWalk.i64_in _ (by omega)
         obtain ⟨-,-,-,f7,f8⟩:=box5 Z2.out
         rw [HHI.out] at f8
         by_cases hjJ:j < J
         · have hd:decide (((m+j:Nat):Int) < hi)=true:=by have:=HJ.out;simp;omega
           have hd2:decide ((m:Int)+j < hi)=true:=by have:=HJ.out;simp;omega
           have hsat:=Tr.sat_le (A+j * (N+1))
           have HS:=Lib.hid (show Tr.sat (Tr.sat (Tr.sat (A+j * (N+1))+N)+1)=Tr.sat (A+(j+1) * (N+1)) by rw [Tr.sat_sat,show Tr.sat (A+j * (N+1))+N+1=Tr.sat (A+j * (N+1))+(N+1) by omega,Tr.sat_sat,Nat.succ_mul,Nat.add_assoc])
           generalize Tr.sat (A+j * (N+1))=n at *
           go_wp2_with fail
           refine (trcount_any n N hsat (by omega) _ _ rfl rfl _).mono ?_
           rintro e w3 ⟨rfl,rfl⟩
           have hs2':=Tr.sat_le (n+N)
           generalize Tr.sat (n+N)=n2 at *
           go_wp2_with fail
           refine (trcount_any n2 1 hs2' (by omega) _ _ rfl rfl _).mono ?_
           rintro e w3 ⟨rfl,rfl⟩
           rw [HS.out]
           go_wp2
           exact ⟨⟨j+1,by go_num,by go_num,by omega,rfl,trivial⟩,by simp [intOf];omega⟩
         · obtain rfl:j=J:=by omega
           have hd:decide (((m+j:Nat):Int) < hi)=false:=by have:=HJ.out;simp;omega
           have hd2:decide ((m:Int)+j < hi)=false:=by have:=HJ.out;simp;omega
           have hsat:=Tr.sat_le (A+j * (N+1))
           by_cases hend:hi = -1
           · have hj0:j=0:=by have:=HJ.out;omega
             subst hj0
             have eend:(hi == -1)=true:=by simpa using hend
             have HS:=Lib.hid (show Tr.sat (Tr.sat (Tr.sat (A+0 * (N+1))+N)+1)=Tr.sat (A+N+1) by rw [Tr.sat_sat,show Tr.sat (A+0 * (N+1))+N+1=Tr.sat (A+0 * (N+1))+(N+1) by omega,Tr.sat_sat];congr 1;omega)
             generalize Tr.sat (A+0 * (N+1))=n at *
             go_wp2_with fail
             refine (trcount_any n N hsat (by omega) _ _ rfl rfl _).mono ?_
             rintro e w3 ⟨rfl,rfl⟩
             have hs2':=Tr.sat_le (n+N)
             generalize Tr.sat (n+N)=n2 at *
             go_wp2_with fail
             refine (trcount_any n2 1 hs2' (by omega) _ _ rfl rfl _).mono ?_
             rintro e w3 ⟨rfl,rfl⟩
             rw [HS.out]
             by_cases hm1:m=0
             · subst hm1
               have HX:=Lib.hid (show Tr.sat (A+N+1)=t.szT by
                 rw [HE.out,HLO.out];unfold Tr.repSz;rw [if_neg (by omega),if_neg (by omega),if_pos ⟨rfl,.inr hend⟩]
                 have:=HA.out;congr 1;omega)
               go_wp2
               go_ret
               exact ⟨ret_int (by rw [HX.out]),HB2.out⟩
             · have HX:=Lib.hid (show Tr.sat (Tr.sat (A+N+1)+1)=t.szT by
                 rw [HE.out,HLO.out];unfold Tr.repSz;rw [if_neg (by omega),if_neg (by omega),if_neg (by omega),if_pos hend,Tr.sat_sat]
                 have:=HA.out;congr 1;simp;omega)
               have hgt:decide ((1:Int) < (m:Int)+1)=true:=by simp;omega
               have hgt2:decide ((0:Int) < (m:Int))=true:=by simp;omega
               have hs3:=Tr.sat_le (A+N+1)
               generalize Tr.sat (A+N+1)=n3 at *
               go_wp2_with fail
               refine (trcount_any n3 1 hs3 (by omega) _ _ rfl rfl _).mono ?_
               rintro e w3 ⟨rfl,rfl⟩
               rw [HX.out]
               go_wp2
               go_ret
               exact ⟨rfl,HB2.out⟩
           · have eend:(hi == -1)=false:=by simpa using hend
             have hhim:(m:Int) ≤ hi:=by omega
             have hJm:((m+j:Nat):Int)=hi:=by have:=HJ.out;omega
             have hpos:1 ≤ m+j:=by have:=HM.out;omega
             by_cases h1':m+j=1
             · have HX:=Lib.hid (show Tr.sat (A+j * (N+1))=t.szT by
                 rw [HE.out,HLO.out];unfold Tr.repSz;rw [if_neg (by omega)]
                 have hA:=HA.out
                 by_cases hm1:m=1
                 · rw [if_pos ⟨by omega,by omega⟩]
                   have:j=0:=by omega
                   subst this hm1
                   unfold Tr.sat;omega
                 · have:m=0:=by omega
                   have:j=1:=by omega
                   subst this;subst m
                   rw [if_neg (by omega),if_pos ⟨rfl,.inl (by omega)⟩];congr 1;omega)
               have hgt:decide ((1:Int) < ((m+j:Nat):Int))=false:=by simp;omega
               have hgt2:decide ((1:Int) < (m:Int)+j)=false:=by simp;omega
               rw [HX.out]
               go_wp2
               go_ret
               exact ⟨rfl,HB2.out⟩
             · have HX:=Lib.hid (show Tr.sat (Tr.sat (A+j * (N+1))+1)=t.szT by
                 rw [HE.out,HLO.out];unfold Tr.repSz;rw [if_neg (by omega),if_neg (by omega),if_neg (by omega),if_neg (by omega),Tr.sat_sat]
                 have hA:=HA.out
                 have hjj:(hi - (m:Int)).toNat=j:=by omega
                 rw [hjj]
                 congr 1
                 rw [show ((m:Int)).toNat=m by simp,hA,Nat.add_comm 1 N]
                 omega)
               have hgt:decide ((1:Int) < ((m+j:Nat):Int))=true:=by simp;omega
               have hgt2:decide ((1:Int) < (m:Int)+j)=true:=by simp;omega
               generalize Tr.sat (A+j * (N+1))=n3 at *
               go_wp2_with fail
               refine (trcount_any n3 1 hsat (by omega) _ _ rfl rfl _).mono ?_
               rintro e w3 ⟨rfl,rfl⟩
               rw [HX.out]
               go_wp2
               go_ret
               exact ⟨rfl,HB2.out⟩
theorem refsize_any:∀ t:Tr,t.InForm→∀ (w:World) (B:Nat→Prop) (v:Value),NodeV w B v t→Calls Tryd.prog 76 #[v] w (SizeEnd t.szT w):=by
 intro t
 induction t using Tr.rec_subs with
 | h t ih =>
   intro hf w B v hv
   by_cases hk:t.kind=8
   · have hfl:=hf.fields
     unfold Tr.fieldsOk at hfl
     obtain ⟨-,-,-,-,-,hl,-,h0,h1,h2,-⟩:t.kind=8∧t.w0=0#64∧t.w1=0#64∧t.w2=0#64∧t.w3=0#64∧t.subs.length=1∧t.num=0∧0 ≤ t.least∧t.least ≤ 255∧(t.most = -1 ∨ (t.least ≤ t.most∧t.most ≤ 255))∧(t.bare=true→t.least=0):=by
       rcases hfl with h | h | h | h | h
       · omega
       · omega
       · omega
       · omega
       · exact h
     obtain ⟨x,hx⟩:=List.length_eq_one_iff.1 hl
     have hmem:x ∈ t.subs:=by rw [hx];exact List.mem_cons_self
     exact refsize_rep t x (fun w B v hv=>ih x hmem (hf.sub hmem) w B v hv) hx hk h0 h1 h2 w B v hv
   · exact refsize_seq t ih hf hk w B v hv
end Go.Proofs.YtnaoiglbjkjogaaDoor
namespace Go.Proofs.YtnaoiglbjkjogaaDoor
open Go.RowKit
namespace Tk
def pow (R:Nat→Nat→Prop):Nat→Nat→Nat→Prop
 | 0=>fun i j=>i=j
 | n+1=>fun i j=>∃ m,R i m∧pow R n m j
def rounds (R:Nat→Nat→Prop) (lo hi:Int) (i j:Nat):Prop:=∃ n:Nat,lo ≤ (n:Int)∧(hi = -1 ∨ (n:Int) ≤ hi)∧pow R n i j
end Tk
namespace Tr
mutual
def tk (x:Sc):Tr→Nat→Nat→Prop
 | .node k a b c d s _ lo hi _=>fun i j =>
   if k=2 then (i < x.t.size∧Oc.mem a b c d (cb x.t i)=true)∧j=i+1
   else if k=3 then x.beg i=true∧i=j
   else if k=4 then x.fin i=true∧i=j
   else if k=5 then tkSeq x s i j
   else if k=6 then tkAlt x s i j
   else if k=7 then tkHead x s i j
   else if k=8 then Tk.rounds (tkHead x s) lo hi i j
   else i=j
def tkSeq (x:Sc):List Tr→Nat→Nat→Prop
 | []=>fun i j=>i=j
 | t :: l=>fun i j=>∃ m,tk x t i m∧tkSeq x l m j
def tkAlt (x:Sc):List Tr→Nat→Nat→Prop
 | []=>fun _ _=>False
 | t :: l=>fun i j=>tk x t i j ∨ tkAlt x l i j
def tkHead (x:Sc):List Tr→Nat→Nat→Prop
 | []=>fun _ _=>False
 | t :: _=>fun i j=>tk x t i j
end
theorem tk_eq (x:Sc) (t:Tr) (i j:Nat):tk x t i j =
   if t.kind=2 then (i < x.t.size∧Oc.mem t.w0 t.w1 t.w2 t.w3 (cb x.t i)=true)∧j=i+1
   else if t.kind=3 then x.beg i=true∧i=j
   else if t.kind=4 then x.fin i=true∧i=j
   else if t.kind=5 then tkSeq x t.subs i j
   else if t.kind=6 then tkAlt x t.subs i j
   else if t.kind=7 then tkHead x t.subs i j
   else if t.kind=8 then Tk.rounds (tkHead x t.subs) t.least t.most i j
   else i=j:=by
 cases t;rw [tk];rfl
theorem tk_bytes {x:Sc} {t:Tr} (h:t.kind=2) (i j:Nat):tk x t i j ↔ (i < x.t.size∧Oc.mem t.w0 t.w1 t.w2 t.w3 (cb x.t i)=true)∧j=i+1:=by rw [tk_eq,if_pos h]
theorem tk_beg {x:Sc} {t:Tr} (h:t.kind=3) (i j:Nat):tk x t i j ↔ x.beg i=true∧i=j:=by rw [tk_eq,h];simp
theorem tk_fin {x:Sc} {t:Tr} (h:t.kind=4) (i j:Nat):tk x t i j ↔ x.fin i=true∧i=j:=by rw [tk_eq,h];simp
theorem tk_seq {x:Sc} {t:Tr} (h:t.kind=5) (i j:Nat):tk x t i j ↔ tkSeq x t.subs i j:=by rw [tk_eq,h];simp
theorem tk_alt {x:Sc} {t:Tr} (h:t.kind=6) (i j:Nat):tk x t i j ↔ tkAlt x t.subs i j:=by rw [tk_eq,h];simp
theorem tk_grp {x:Sc} {t u:Tr} (h:t.kind=7) (hs:t.subs=[u]) (i j:Nat):tk x t i j ↔ tk x u i j:=by rw [tk_eq,h,hs];simp [tkHead]
theorem tkHead_one (x:Sc) (u:Tr):tkHead x [u]=tk x u:=by funext i j;rw [tkHead]
theorem tk_rep {x:Sc} {t u:Tr} (h:t.kind=8) (hs:t.subs=[u]) (i j:Nat):tk x t i j ↔ Tk.rounds (tk x u) t.least t.most i j:=by
 rw [tk_eq,h,hs,tkHead_one];simp
theorem tk_empty {x:Sc} {t:Tr} (h:t.kind=1) (i j:Nat):tk x t i j ↔ i=j:=by rw [tk_eq,h];simp
theorem tkSeq_append (x:Sc):∀ (a b:List Tr) (i j:Nat),tkSeq x (a ++ b) i j ↔ ∃ m,tkSeq x a i m∧tkSeq x b m j
 | [],b,i,j=>by simp [tkSeq]
 | t :: a,b,i,j=>by
   simp only [List.cons_append,tkSeq]
   constructor
   · rintro ⟨m,h1,h2⟩
     obtain ⟨m2,h3,h4⟩:=(tkSeq_append x a b m j).1 h2
     exact ⟨m2,⟨m,h1,h3⟩,h4⟩
   · rintro ⟨m2,⟨m,h1,h3⟩,h4⟩
     exact ⟨m,h1,(tkSeq_append x a b m j).2 ⟨m2,h3,h4⟩⟩
theorem tkSeq_one (x:Sc) (t:Tr) (i j:Nat):tkSeq x [t] i j ↔ tk x t i j:=by simp [tkSeq]
theorem tkSeq_take (x:Sc) (l:List Tr) (m:Nat) (t:Tr) (h:l[m]? = some t) (i j:Nat):tkSeq x (l.take (m+1)) i j ↔ ∃ k,tkSeq x (l.take m) i k∧tk x t k j:=by
 rw [List.take_add_one,h,Option.toList_some,tkSeq_append]
 simp only [tkSeq_one]
theorem tkAlt_iff (x:Sc):∀ (l:List Tr) (i j:Nat),tkAlt x l i j ↔ ∃ t,t ∈ l∧tk x t i j
 | [],i,j=>by simp [tkAlt]
 | t :: l,i,j=>by simp [tkAlt,tkAlt_iff x l i j]
theorem tkAlt_take (x:Sc) (l:List Tr) (m:Nat) (t:Tr) (h:l[m]? = some t) (i j:Nat):tkAlt x (l.take (m+1)) i j ↔ tkAlt x (l.take m) i j ∨ tk x t i j:=by
 rw [List.take_add_one,h,Option.toList_some]
 simp only [tkAlt_iff,List.mem_append,List.mem_singleton]
 constructor
 · rintro ⟨u,hu | rfl,h2⟩
   · exact .inl ⟨u,hu,h2⟩
   · exact .inr h2
 · rintro (⟨u,hu,h2⟩ | h2)
   · exact ⟨u,.inl hu,h2⟩
   · exact ⟨t,.inr rfl,h2⟩
end Tr
namespace Tk
def On (n:Nat) (R:Nat→Nat→Prop):Prop:=∀ i j,i ≤ n→R i j→i ≤ j∧j ≤ n
theorem pow_on {n:Nat} {R:Nat→Nat→Prop} (h:On n R):∀ k,On n (pow R k)
 | 0,i,j,hi,e=>by simp only [pow] at e;omega
 | k+1,i,j,hi,e=>by
   obtain ⟨m,h1,h2⟩:=e
   have a:=h i m hi h1
   have b:=pow_on h k m j a.2 h2
   omega
theorem rounds_on {n:Nat} {R:Nat→Nat→Prop} (h:On n R) (lo hi:Int):On n (rounds R lo hi):=by
 rintro i j hi ⟨k,-,-,hp⟩;exact pow_on h k i j hi hp
theorem pow_add (R:Nat→Nat→Prop):∀ (a b:Nat) (i j:Nat),pow R (a+b) i j ↔ ∃ m,pow R a i m∧pow R b m j
 | 0,b,i,j=>by simp [pow]
 | a+1,b,i,j=>by
   rw [show a+1+b=(a+b)+1 by omega]
   simp only [pow]
   constructor
   · rintro ⟨m,h1,h2⟩
     obtain ⟨m2,h3,h4⟩:=(pow_add R a b m j).1 h2
     exact ⟨m2,⟨m,h1,h3⟩,h4⟩
   · rintro ⟨m2,⟨m,h1,h3⟩,h4⟩
     exact ⟨m,h1,(pow_add R a b m j).2 ⟨m2,h3,h4⟩⟩
theorem pow_one (R:Nat→Nat→Prop) (i j:Nat):pow R 1 i j ↔ R i j:=by simp [pow]
theorem pow_last (R:Nat→Nat→Prop) (n i j:Nat):pow R (n+1) i j ↔ ∃ m,pow R n i m∧R m j:=by
 rw [pow_add];simp only [pow_one]
end Tk
namespace Tr
theorem tkSeq_on {x:Sc} : ∀ {l:List Tr},(∀ t,t ∈ l→Tk.On x.t.size (tk x t))→Tk.On x.t.size (tkSeq x l)
 | [],_,i,j,hi,e=>by simp only [tkSeq] at e;omega
 | t :: l,h,i,j,hi,e=>by
   simp only [tkSeq] at e
   obtain ⟨m,h1,h2⟩:=e
   have a:=h t (by simp) i m hi h1
   have b:=tkSeq_on (fun u hu=>h u (by simp [hu])) m j a.2 h2
   omega
theorem tkHead_on {x:Sc} : ∀ {l:List Tr},(∀ t,t ∈ l→Tk.On x.t.size (tk x t))→Tk.On x.t.size (tkHead x l)
 | [],_,i,j,_,e=>by simp [tkHead] at e
 | t :: l,h,i,j,hi,e=>by
   simp only [tkHead] at e
   exact h t (by simp) i j hi e
theorem tk_on (x:Sc) (t:Tr):Tk.On x.t.size (tk x t):=by
 induction t using Tr.rec_subs with
 | h t ih =>
   intro i j hi h
   rw [tk_eq] at h
   split at h
   · omega
   split at h
   · omega
   split at h
   · omega
   split at h
   · exact tkSeq_on ih i j hi h
   split at h
   · obtain ⟨u,hu,h2⟩:=(tkAlt_iff x _ i j).1 h
     exact ih u hu i j hi h2
   split at h
   · exact tkHead_on ih i j hi h
   split at h
   · exact Tk.rounds_on (tkHead_on ih) _ _ i j hi h
   · omega
end Tr
end Go.Proofs.YtnaoiglbjkjogaaDoor
namespace Go.Proofs.YtnaoiglbjkjogaaDoor
namespace Rk
def taker (k pk:Int) (i:Nat):Int:=if k=5 then i else if k=6 then pk else 0
def inOrd:List Pa→Int→Int→Bool
 | [],a,b=>a == b
 | q :: l,a,b=>q.lo == a && inOrd l q.hi b
def full (q:Pa):Bool:=!(q.lo == q.hi)
def admits (lo hi:Int) (bare:Bool) (p:Pa):Bool :=
 if (p.subs.length:Int) < lo ∨ (hi < (p.subs.length:Int)∧hi ≠ -1) then false
 else if p.subs.length=1∧lo=0∧bare=false∧p.lo=p.hi then true
 else (p.subs.drop lo.toNat).all full
def inSc (x:Sc) (p:Pa):Bool:=decide (0 ≤ p.lo) && (decide (p.lo ≤ p.hi) && decide (p.hi ≤ (x.t.size:Int)))
def fitK (x:Sc) (t:Tr) (p:Pa):Bool :=
 if t.kind=1 then decide (p.subs=[]) && p.lo == p.hi
 else if t.kind=2 then decide (p.subs=[]) && (x.inn p.lo && (p.hi == p.lo+1 && Oc.mem t.w0 t.w1 t.w2 t.w3 (cb x.t p.lo.toNat)))
 else if t.kind=3 then decide (p.subs=[]) && (p.lo == p.hi && x.beg p.lo)
 else if t.kind=4 then decide (p.subs=[]) && (p.lo == p.hi && x.fin p.lo)
 else if t.kind=5 then decide (p.subs.length=t.subs.length) && inOrd p.subs p.lo p.hi
 else if t.kind=6 then decide (p.subs.length=1) && (decide (0 ≤ p.pick) && (decide (p.pick < (t.subs.length:Int)) && inOrd p.subs p.lo p.hi))
 else if t.kind=7 then decide (p.subs.length=1) && inOrd p.subs p.lo p.hi
 else if t.kind=8 then inOrd p.subs p.lo p.hi && admits t.least t.most t.bare p
 else false
def fits (x:Sc) (t:Tr) (p:Pa):Bool:=inSc x p && ((p.pick == 0 || t.kind == 6) && fitK x t p)
def at? (ts:List Tr) (i:Int):Option Tr:=if 0 ≤ i then ts[i.toNat]? else none
theorem at_nat (ts:List Tr) (i:Nat):at? ts (i:Int)=ts[i]?:=by unfold at?;rw [if_pos (by omega)];rfl
mutual
def okT (x:Sc):Pa→Tr→Bool
 | .node lo hi pk s,t=>fits x t (.node lo hi pk s) && okS x s t pk 0
def okS (x:Sc):List Pa→Tr→Int→Nat→Bool
 | [],_,_,_=>true
 | q :: l,t,pk,i=>(match at? t.subs (taker t.kind pk i) with
   | some u=>okT x q u
   | none=>false) && okS x l t pk (i+1)
end
theorem okT_eq (x:Sc) (p:Pa) (t:Tr):okT x p t=(fits x t p && okS x p.subs t p.pick 0):=by cases p;rw [okT];rfl
theorem okS_nil (x:Sc) (t:Tr) (pk:Int) (i:Nat):okS x [] t pk i=true:=by rw [okS]
theorem okS_cons (x:Sc) (q:Pa) (l:List Pa) (t:Tr) (pk:Int) (i:Nat) {u:Tr} (h:at? t.subs (taker t.kind pk i)=some u):okS x (q :: l) t pk i=(okT x q u && okS x l t pk (i+1)):=by
 rw [okS,h]
theorem okS_get {x:Sc} : ∀ {l:List Pa} {t:Tr} {pk:Int} {k:Nat},okS x l t pk k=true→∀ {i:Nat} {y:Pa} {u:Tr},l[i]? = some y→at? t.subs (taker t.kind pk (k+i))=some u→okT x y u=true
 | [],_,_,_,_,i,y,u,hy,_=>by simp at hy
 | q :: l,t,pk,k,h,0,y,u,hy,hu=>by
   simp only [List.getElem?_cons_zero,Option.some.injEq] at hy
   subst hy
   rw [Nat.add_zero] at hu
   rw [okS_cons x q l t pk k hu,Bool.and_eq_true] at h
   exact h.1
 | q :: l,t,pk,k,h,i+1,y,u,hy,hu=>by
   rw [okS,Bool.and_eq_true] at h
   refine okS_get h.2 (i:=i) (by simpa using hy) ?_
   rw [show k+1+i=k+(i+1) by omega];exact hu
theorem fits_at {x:Sc} {t:Tr} {p:Pa} (hf:t.InForm) (h:fits x t p=true) {i:Nat} (hi:i < p.subs.length):∃ u,at? t.subs (taker t.kind p.pick i)=some u∧u ∈ t.subs:=by
 unfold fits at h
 simp only [Bool.and_eq_true] at h
 obtain ⟨-,-,h⟩:=h
 have hk:=hf.fields
 unfold Tr.fieldsOk at hk
 have key:∀ j:Int,0 ≤ j→j < (t.subs.length:Int)→∃ u,at? t.subs j=some u∧u ∈ t.subs:=fun j h0 h1=>by
   refine ⟨t.subs[j.toNat]'(by omega), ?_,List.getElem_mem _⟩
   unfold at?;rw [if_pos h0,List.getElem?_eq_getElem]
 have hne:p.subs ≠ []:=fun e=>by rw [e] at hi;simp at hi
 unfold fitK at h
 unfold taker
 rcases hk with ⟨k,-⟩ | ⟨k,-⟩ | ⟨k,-,-,-,-,hl,-⟩ | ⟨k,-,-,-,-,hl,-⟩ | ⟨k,-,-,-,-,hl,-⟩
 · rcases k with k | k | k <;> simp [k,hne] at h
 · simp [k,hne] at h
 · rcases k with k | k
   · simp only [k] at h
     simp at h
     rw [if_pos k]
     exact key _ (by omega) (by omega)
   · simp only [k] at h
     simp at h
     rw [if_neg (by omega),if_pos k]
     exact key _ h.2.1 h.2.2.1
 · simp only [k] at h
   rw [if_neg (by omega),if_neg (by omega)]
   exact key 0 (by omega) (by omega)
 · rw [if_neg (by omega),if_neg (by omega)]
   exact key 0 (by omega) (by omega)
mutual
def nums:Tr→List Int
 | .node k _ _ _ _ s n _ _ _=>if k=7 then n :: numsS s else numsS s
def numsS:List Tr→List Int
 | []=>[]
 | t :: l=>nums t ++ numsS l
end
theorem nums_eq (t:Tr):nums t=if t.kind=7 then t.num :: numsS t.subs else numsS t.subs:=by cases t;rw [nums];rfl
theorem nums_sub {t:Tr} {n:Int} (h:n ∈ numsS t.subs):n ∈ nums t:=by rw [nums_eq];split;exact List.mem_cons_of_mem _ h;exact h
theorem numsS_mem {u:Tr} {n:Int} : ∀ {l:List Tr},u ∈ l→n ∈ nums u→n ∈ numsS l
 | [],h,_=>by cases h
 | t :: l,h,hn=>by
   rw [numsS]
   rcases List.mem_cons.1 h with rfl | h
   · exact List.mem_append_left _ hn
   · exact List.mem_append_right _ (numsS_mem h hn)
theorem numsS_append (a b:List Tr):numsS (a ++ b)=numsS a ++ numsS b:=by
 induction a with
 | nil=>simp [numsS]
 | cons t a ih=>rw [List.cons_append,numsS,numsS,ih,List.append_assoc]
abbrev Told:=Int→Option (Int × Int)
def tell (σ:Told) (n:Int) (s:Int × Int):Told:=fun m=>if m=n∧(σ m).isNone then some s else σ m
def tellAll (σ:Told) (ns:List Int):Told:=fun m=>if m ∈ ns∧(σ m).isNone then some (-1,-1) else σ m
mutual
def bk:Pa→Tr→Told→Told
 | .node lo hi pk s,t,σ=>if t.kind=7 then tellAll (tell (bkS s t pk 0 σ) t.num (lo,hi)) (numsS t.subs) else bkS s t pk 0 σ
def bkS:List Pa→Tr→Int→Nat→Told→Told
 | [],_,_,_,σ=>σ
 | q :: l,t,pk,i,σ=>match at? t.subs (taker t.kind pk i) with
   | some u=>bk q u (bkS l t pk (i+1) σ)
   | none=>bkS l t pk (i+1) σ
end
theorem bk_eq (p:Pa) (t:Tr) (σ:Told):bk p t σ=if t.kind=7 then tellAll (tell (bkS p.subs t p.pick 0 σ) t.num (p.lo,p.hi)) (numsS t.subs) else bkS p.subs t p.pick 0 σ:=by cases p;rw [bk];rfl
theorem bkS_nil (t:Tr) (pk:Int) (i:Nat) (σ:Told):bkS [] t pk i σ=σ:=by rw [bkS]
theorem bkS_cons (q:Pa) (l:List Pa) (t:Tr) (pk:Int) (i:Nat) (σ:Told) {u:Tr} (h:at? t.subs (taker t.kind pk i)=some u):bkS (q :: l) t pk i σ=bk q u (bkS l t pk (i+1) σ):=by
 rw [bkS,h]
def Le (σ τ:Told):Prop:=∀ n,(σ n).isSome→τ n=σ n
theorem Le.refl (σ:Told):Le σ σ:=fun _ _=>rfl
theorem Le.trans {a b c:Told} (h:Le a b) (g:Le b c):Le a c:=fun n hn=>(g n (by rw [h n hn];exact hn)).trans (h n hn)
theorem Le.some {σ τ:Told} (h:Le σ τ) {n:Int} (hn:(σ n).isSome):(τ n).isSome:=by rw [h n hn];exact hn
theorem le_tell (σ:Told) (n:Int) (s:Int × Int):Le σ (tell σ n s):=fun m hm=>by
 unfold tell;rw [if_neg (by rintro ⟨-,h⟩;cases hσ:σ m <;> simp [hσ] at h hm)]
theorem le_tellAll (σ:Told) (ns:List Int):Le σ (tellAll σ ns):=fun m hm=>by
 unfold tellAll;rw [if_neg (by rintro ⟨-,h⟩;cases hσ:σ m <;> simp [hσ] at h hm)]
theorem tell_told (σ:Told) (n:Int) (s:Int × Int):(tell σ n s n).isSome:=by
 unfold tell;cases σ n <;> simp
theorem tellAll_told (σ:Told) {ns:List Int} {n:Int} (hn:n ∈ ns):(tellAll σ ns n).isSome:=by
 unfold tellAll;cases σ n <;> simp [hn]
theorem tell_id {σ:Told} {n:Int} (s:Int × Int) (h:(σ n).isSome):tell σ n s=σ:=by
 funext m;unfold tell
 rw [if_neg];rintro ⟨rfl,h2⟩;cases hσ:σ m <;> simp [hσ] at h h2
theorem tellAll_id {σ:Told} {ns:List Int} (h:∀ n,n ∈ ns→(σ n).isSome):tellAll σ ns=σ:=by
 funext m;unfold tellAll
 rw [if_neg];rintro ⟨h1,h2⟩;have:=h m h1;cases hσ:σ m <;> simp [hσ] at this h2
theorem tellAll_append (σ:Told) (a b:List Int):tellAll (tellAll σ a) b=tellAll σ (a ++ b):=by
 funext m;unfold tellAll
 by_cases h1:m ∈ a <;> by_cases h2:m ∈ b <;> cases σ m <;> simp [h1,h2]
theorem tellAll_nil (σ:Told):tellAll σ []=σ:=tellAll_id (by simp)
theorem tellAll_cons (σ:Told) (n:Int) (ns:List Int):tellAll (tell σ n (-1,-1)) ns=tellAll σ (n :: ns):=by
 funext m;unfold tellAll tell
 by_cases h1:m=n <;> by_cases h2:m ∈ ns <;> cases hσ:σ m <;> simp [h1,h2]
 all_goals (subst h1;simp [hσ])
theorem bkS_id:∀ (l:List Pa),(∀ q,q ∈ l→∀ (u:Tr) (σ:Told),(∀ n,n ∈ nums u→(σ n).isSome)→bk q u σ=σ)→∀ (t:Tr) (pk:Int) (i:Nat) (σ:Told),(∀ n,n ∈ numsS t.subs→(σ n).isSome)→bkS l t pk i σ=σ
 | [],_,t,pk,i,σ,_=>bkS_nil t pk i σ
 | q :: l,h,t,pk,i,σ,hσ=>by
   have e:=bkS_id l (fun r hr=>h r (List.mem_cons_of_mem _ hr)) t pk (i+1) σ hσ
   rw [bkS]
   split
   · rename_i u hu
     rw [e]
     refine h q List.mem_cons_self u σ fun n hn=>hσ n ?_
     have hm:u ∈ t.subs:=by
       unfold at? at hu;split at hu
       · exact List.mem_of_getElem? hu
       · cases hu
     exact numsS_mem hm hn
   · exact e
theorem bk_id (p:Pa):∀ (t:Tr) (σ:Told),(∀ n,n ∈ nums t→(σ n).isSome)→bk p t σ=σ:=by
 induction p using Pa.rec_subs with
 | h p ih =>
   intro t σ h
   have e:=bkS_id p.subs ih t p.pick 0 σ (fun n hn=>h n (nums_sub hn))
   rw [bk_eq,e]
   split
   · rename_i hk
     rw [nums_eq,if_pos hk] at h
     rw [tell_id _ (h _ List.mem_cons_self),tellAll_id fun n hn=>h n (List.mem_cons_of_mem _ hn)]
   · rfl
theorem bkS_le:∀ (l:List Pa),(∀ q,q ∈ l→∀ (u:Tr) (σ:Told),Le σ (bk q u σ))→∀ (t:Tr) (pk:Int) (i:Nat) (σ:Told),Le σ (bkS l t pk i σ)
 | [],_,t,pk,i,σ=>by rw [bkS_nil];exact Le.refl _
 | q :: l,h,t,pk,i,σ=>by
   have e:=bkS_le l (fun r hr=>h r (List.mem_cons_of_mem _ hr)) t pk (i+1) σ
   rw [bkS]
   split
   · exact e.trans (h q List.mem_cons_self _ _)
   · exact e
theorem bk_le (p:Pa):∀ (t:Tr) (σ:Told),Le σ (bk p t σ):=by
 induction p using Pa.rec_subs with
 | h p ih =>
   intro t σ
   rw [bk_eq]
   have e:=bkS_le p.subs ih t p.pick 0 σ
   split
   · exact (e.trans (le_tell _ _ _)).trans (le_tellAll _ _)
   · exact e
end Rk
end Go.Proofs.YtnaoiglbjkjogaaDoor
namespace Go.Proofs.YtnaoiglbjkjogaaDoor
open Go.RowKit
def rowOf (ps:List (Tr × Value)):List Value:=ps.flatMap fun x=>(x.1.cells x.2).toList
theorem rowOf_snoc (ps:List (Tr × Value)) (t:Tr) (s:Value):rowOf (ps ++ [(t,s)])=rowOf ps ++ (t.cells s).toList:=by
 unfold rowOf;simp
theorem rowOf_length (ps:List (Tr × Value)):(rowOf ps).length=ps.length * 10:=by
 unfold rowOf
 induction ps with
 | nil=>rfl
 | cons x ps ih=>rw [List.flatMap_cons,List.length_append,ih];simp [Tr.cells];omega
theorem rowOf_get:∀ (ps:List (Tr × Value)) (i:Nat) (t:Tr) (s:Value),ps[i]? = some (t,s)→∀ j,j < 10→(rowOf ps)[i * 10+j]? = (t.cells s)[j]?
 | [],i,t,s,h,_,_=>by simp at h
 | x :: ps,0,t,s,h,j,hj=>by
   simp only [List.getElem?_cons_zero,Option.some.injEq] at h
   subst h
   unfold rowOf
   rw [List.flatMap_cons,Nat.zero_mul,Nat.zero_add,List.getElem?_append_left (by simp [Tr.cells];omega)]
   simp
 | x :: ps,i+1,t,s,h,j,hj=>by
   have ih:=rowOf_get ps i t s (by simpa using h) j hj
   unfold rowOf at ih ⊢
   rw [List.flatMap_cons,List.getElem?_append_right (by simp [Tr.cells];omega)]
   rw [← ih]
   congr 1
   simp [Tr.cells];omega
theorem trees_of_row {w:World} {base:Nat} {B B':Nat→Prop} {v:Value} {n:Nat} {ps:List (Tr × Value)} (h:w.ownsRow base 37 10 v n (rowOf ps)) (hn:ps.length * 96 ≤ 140737488351232)
   (hs:∀ (i:Nat) (t:Tr) (s:Value),ps[i]? = some (t,s)→TreesAt w B s t.subs) (hB:∀ b,B b→B' b) (hg:∀ g,v.ownBlock=some g→B' g):TreesAt w B' v (ps.map (·.1)):=by
 have hlen:ps.length=n:=by have:=h.1;rw [rowOf_length] at this;omega
 have hcells:=fun g hv=>World.ownsRow.cells h (g:=g) hv
 rcases h.2 with ⟨rfl,hn0⟩ | ⟨g,cap,cur,rfl,hbg,hheap,-⟩
 · have:ps=[]:=List.length_eq_zero_iff.1 (by omega)
   subst this
   exact TreesAt.nil
 · have hc:=hcells g rfl
   have key:∀ (i:Nat) (t:Tr) (s:Value),ps[i]? = some (t,s)→TenAt w g (0+i * 10) t s:=by
     intro i t s hi
     have get:∀ j u,j < 10→(t.cells s)[j]? = some u→w.cell? ⟨g,0+i * 10+j,none⟩=some u:=by
       intro j u hj hu
       have:=hc (i * 10+j) u (by rw [rowOf_get ps i t s hi j hj];exact hu)
       have ea:(⟨g,0,none⟩:Addr).add (i * 10+j)=⟨g,0+i * 10+j,none⟩:=by unfold Addr.add;split <;> simp_all <;> omega
       rw [ea] at this;exact this
     exact ⟨get 0 _ (by omega) rfl,get 1 _ (by omega) rfl,get 2 _ (by omega) rfl,get 3 _ (by omega) rfl,get 4 _ (by omega) rfl,get 5 _ (by omega) rfl,get 6 _ (by omega) rfl,get 7 _ (by omega) rfl,get 8 _ (by omega) rfl,get 9 _ (by omega) rfl⟩
   have hl2:n=(ps.map (·.1)).length:=by rw [List.length_map];omega
   rw [hl2]
   have split:∀ (i:Nat) (t:Tr),(ps.map (·.1))[i]? = some t→∃ s,ps[i]? = some (t,s):=by
     intro i t hi
     rw [List.getElem?_map] at hi
     cases hx:ps[i]? with
     | none=>rw [hx] at hi;cases hi
     | some x=>rw [hx] at hi;cases x with | mk a b=>simp only [Option.map_some,Option.some.injEq] at hi;subst hi;exact ⟨b,rfl⟩
   refine .mk (some ⟨g,0,none⟩) cap (ps.map (·.1)) (fun i=>((ps[i]?).map (·.2)).getD undef) (by rw [List.length_map];exact hn) (fun i t hi=>?_) (fun i t hi=>?_)
   · obtain ⟨s,hs'⟩:=split i t hi
     exact ⟨g,0,rfl,hg g rfl,by simp only [hs',Option.map_some,Option.getD_some];exact key i t s hs'⟩
   · obtain ⟨s,hs'⟩:=split i t hi
     simp only [hs',Option.map_some,Option.getD_some]
     exact (hs i t s hs').mono fun b _ hb=>hB b hb
end Go.Proofs.YtnaoiglbjkjogaaDoor
namespace Go.Proofs.YtnaoiglbjkjogaaDoor
open Go.RowKit
theorem append_block {P:Program} {w w':World} (base:Nat) (t ty e:TypeId) (i:TypeInfo) (z:Value) (size bytes:Nat) (ht:P.underlying t=some (.slice e)) (hi:P.info? e=some i) (hz:i.zero=some z)
   (hsize:i.size=size) (hby:i.bytes=bytes) (v v':Value) (n:Nat) (xs:List Value) (hown:w.ownsRow base e size v n xs)
   (a:Addr) (m c:Nat) (news:List Value) (hl:news.length=m * size) (hnews:∀ j u,news[j]? = some u→w.cell? (a.add j)=some u) (h1:∀ u ∈ news,u.oneCell'=true) (hm:0 < m)
   (h63:n+m ≤ maxLen) (hbytes:(n+m) * bytes ≤ 140737488355328) (hr:(Builtin.append_ #[t,t] ty #[v,.slice (some a) m c]).run P w=.ok v' w') :
   v'.ownBlock=v.ownBlock ∨ v'.ownBlock=some w.heap.size:=by
 subst hsize hby
 unfold maxLen at h63
 have hxl:=hown.1
 have hcells:=fun g hg=>World.ownsRow.cells hown (g:=g) hg
 rcases hown.2 with ⟨rfl,rfl⟩ | ⟨g,cap,cur,rfl,-,hg,hnc,hcm,hcs,-⟩
 · rw [run_append_nil (P:=P) w t ty e i z ht hi hz a m c news hl hnews hm (by omega) (by rw [Nat.zero_add] at hbytes;omega)] at hr
   injection hr with h2 h3
   right;rw [← h2];rfl
 · by_cases hroom:n+m ≤ cap
   · rw [run_append_room (P:=P) w t ty e i ht hi g n cap cur hg a m c news hl hnews h1 hroom (by rw [hl,hcs,← Nat.add_mul];exact Nat.mul_le_mul_right _ hroom)] at hr
     injection hr with h2 h3
     left;rw [← h2];rfl
   · rw [run_append_grow (P:=P) w t ty e i z ht hi hz ⟨g,0,none⟩ n cap xs hxl (hcells g rfl) a m c news hl hnews (by omega) (by omega) (growslice_fits (by omega) hbytes)] at hr
     injection hr with h2 h3
     right;rw [← h2];rfl
theorem wpList_append_fresh {P:Program} (w:World) {ops:Array Oper} {rest:List Oper} {o:Oper} {a:Act} {Q:Exit→Act→World→Prop} (hgd:o.guard=none) (s x:Operand) (t:TypeId)
   (ho:o.op=.call { callee:=.builtin .append,args:=#[s,x],argTypes:=#[t,t] })
   (base:Nat) (e:TypeId) (i:TypeInfo) (z:Value) (size bytes:Nat) (ht:P.underlying t=some (.slice e)) (hi:P.info? e=some i) (hz:i.zero=some z)
   (hsize:i.size=size) (hby:i.bytes=bytes) (hzs:z.cells.size=size) (hsz:0 < size)
   (v:Value) (n:Nat) (xs:List Value) (hs:a.eval s=v) (hown:w.ownsRow base e size v n xs)
   (ad:Addr) (m c:Nat) (news:List Value) (hx:a.eval x=.slice (some ad) m c) (hl:news.length=m * size) (hnews:∀ j u,news[j]? = some u→w.cell? (ad.add j)=some u) (h1:∀ u ∈ news,u.oneCell'=true) (hm:0 < m)
   (h63:n+m ≤ maxLen) (hbytes:(n+m) * bytes ≤ 140737488355328) (hbase:base ≤ w.heap.size)
   (h:∀ v' w',w'.ownsRow base e size v' (n+m) (xs ++ news)→w.grownBy w' v.ownBlock→(v'.ownBlock=v.ownBlock ∨ v'.ownBlock=some w.heap.size)→wpList P ops Q rest (a.put o.dst v') w'):wpList P ops Q (o :: rest) a w:=by
 refine wpList_plain hgd fun K hK=>?_
 obtain ⟨v',w',hr,h2,h3,-⟩:=run_append_own (P:=P) w base t o.type e i z size bytes ht hi hz hsize hby hzs hsz v n xs hown ad m c news hl hnews h1 h63 hbytes hbase
 have h4:=append_block base t o.type e i z size bytes ht hi hz hsize hby v v' n xs hown ad m c news hl hnews h1 hm h63 hbytes hr
 unfold Oper.wp execOp
 simp only [ho,resolve,invoke,builtin,Sem.run_bind,Sem.run_pure,Result.andThen_ok,List.map_toArray,List.map_cons,List.map_nil,hs,hx,hr]
 exact hK _ _ (h v' w' h2 h3 h4)
end Go.Proofs.YtnaoiglbjkjogaaDoor
namespace Go.Proofs.YtnaoiglbjkjogaaDoor
open Go.RowKit
theorem Tryd.infoNode:(Tryd.prog.info? 37).map (fun i=>(i.zero,i.size,i.bytes))=some (some (.agg #[.int .i64 0,.int .u64 0,.int .u64 0,.int .u64 0,.int .u64 0,.slice none 0 0,.int .i64 0,.int .i64 0,.int .i64 0,.bool false]),10,96):=by kernel_rfl
theorem nodeC_one (x:Tr) (p:Option Addr) (l c:Nat):∀ u ∈ (x.cells (.slice p l c)).toList,u.oneCell'=true:=by simp [Tr.cells,Value.oneCell']
theorem wpList_node1 {ops:Array Oper} {rest:List Oper} {o:Oper} {a:Act} {w:World} {Q:Exit→Act→World→Prop} (hgd:o.guard=none) (x:Operand) (t:Tr) (p:Option Addr) (len cap:Nat) (ho:o.op=.buildSlice 35 1 #[(0,x)]) (hx:a.eval x=.agg (t.cells (.slice p len cap)))
   (h:wpList Tryd.prog ops Q rest (a.put o.dst (.slice (some ⟨w.heap.size,0,none⟩) 1 1)) (w.alloc (.cells (t.cells (.slice p len cap)) 37))):wpList Tryd.prog ops Q (o :: rest) a w:=by
 refine wpList_plain hgd fun K hK=>?_
 obtain ⟨ie,hi,hz0,hz1,-⟩:=info_parts Tryd.infoNode
 refine wp_buildSlice 35 37 1 _ ho _ ie _ Tryd.underlying35 hi hz0 (by rw [hz1];decide) (by rw [hz1];decide) ?_ (hK _ _ h)
 rw [hz1]
 simp only [List.map_toArray,List.map_cons,List.map_nil,hx]
 kernel_rfl
end Go.Proofs.YtnaoiglbjkjogaaDoor
namespace Go.Proofs.YtnaoiglbjkjogaaDoor
open Go.RowKit
structure Touch (F:List Nat) (w w':World):Prop where
 os:w'.os=w.os
 tape:w'.tape=w.tape
 output:w'.output=w.output
 size:w.heap.size ≤ w'.heap.size
 block:∀ k,k < w.heap.size→k ∉ F→w'.heap[k]? = w.heap[k]?
theorem Touch.of_below {w w':World} (F:List Nat) (h:Below w.heap.size w w'):Touch F w w':=⟨h.os,h.tape,h.output,h.size,fun k hk _=>h.block k hk⟩
theorem Touch.trans {F:List Nat} {a b c:World} (h:Touch F a b) (k:Touch F b c):Touch F a c :=
 ⟨k.os.trans h.os,k.tape.trans h.tape,k.output.trans h.output,Nat.le_trans h.size k.size,fun i hi hn=>(k.block i (Nat.lt_of_lt_of_le hi h.size) hn).trans (h.block i hi hn)⟩
theorem Touch.below {F:List Nat} {a b:World} {B:Nat} (h:Touch F a b) (hB:∀ k,k ∈ F→B ≤ k) (hs:B ≤ a.heap.size):Below B a b :=
 ⟨h.os,h.tape,h.output,h.size,fun k hk=>h.block k (by omega) fun hm=>by have:=hB k hm;omega⟩
theorem heap_setCells_other {b k:Nat} (hk:k ≠ b):∀ (vs:List Value) (o:Nat) (w:World),(w.setCells b o vs).heap[k]? = w.heap[k]?
 | [],_,_=>rfl
 | v :: r,o,w=>by rw [World.setCells,heap_setCells_other hk r (o+1) _,Below.heap_setCell _ _ _ _ hk]
theorem size_setCells (b:Nat):∀ (vs:List Value) (o:Nat) (w:World),(w.setCells b o vs).heap.size=w.heap.size
 | [],_,_=>rfl
 | v :: r,o,w=>by rw [World.setCells,size_setCells b r (o+1) _];simp [World.setCell]
theorem streams_setCells (b:Nat):∀ (vs:List Value) (o:Nat) (w:World),(w.setCells b o vs).os=w.os∧(w.setCells b o vs).tape=w.tape∧(w.setCells b o vs).output=w.output
 | [],_,_=>⟨rfl,rfl,rfl⟩
 | v :: r,o,w=>by rw [World.setCells];exact streams_setCells b r (o+1) _
theorem Touch.setCells {F:List Nat} {a w:World} {b:Nat} (h:Touch F a w) (hb:b ∈ F) (o:Nat) (vs:List Value):Touch F a (w.setCells b o vs):=by
 obtain ⟨h1,h2,h3⟩:=streams_setCells b vs o w
 exact ⟨h1.trans h.os,h2.trans h.tape,h3.trans h.output,by rw [size_setCells];exact h.size,fun k hk hn=>by
   rw [heap_setCells_other (k:=k) (b:=b) (fun e=>by subst e;exact hn hb)];exact h.block k hk hn⟩
end Go.Proofs.YtnaoiglbjkjogaaDoor
namespace Go.Proofs.YtnaoiglbjkjogaaDoor
open Go.RowKit
theorem frozen_of {w:World} {g o:Nat} (h:∃ cs ty,w.heap[g]? = some (.cells cs ty (0,0))):w.frozen? ⟨g,o,none⟩=false:=by
 obtain ⟨cs,ty,h⟩:=h;simp [World.frozen?,h]
end Go.Proofs.YtnaoiglbjkjogaaDoor
namespace Go.Proofs.YtnaoiglbjkjogaaDoor
open Go.RowKit
theorem stays_is (t:Tr) (s:Value) (hs:∃ p l c,s=.slice p l c) (b:Bool) (hb:b=decide (t.least=0∧(t.most=1 ∨ t.most = -1))) (w:World):Calls Tryd.prog 78 #[.agg (t.cells s)] w fun e w'=>e=.returned (.bool b)∧Below w.heap.size w w':=by
 obtain ⟨p,l,c,rfl⟩:=hs
 unfold Tr.cells
 by_cases h0:t.least=0
 · by_cases h1:t.most=1
   · have hb1:b=true:=by rw [hb];simp [h0,h1]
     subst hb1
     rw [h0,h1]
     clear hb
     go_enter Tryd.func78,Tryd.ntmps78
     go_wp2
     go_ret
     exact ⟨rfl,by go_grown⟩
   · by_cases h2:t.most = -1
     · have hb1:b=true:=by rw [hb];simp [h0,h2]
       subst hb1
       rw [h0,h2]
       clear hb
       go_enter Tryd.func78,Tryd.ntmps78
       go_wp2
       go_ret
       exact ⟨rfl,by go_grown⟩
     · have hb1:b=false:=by rw [hb];simp [h1,h2]
       subst hb1
       rw [h0]
       have e1:(t.most == 1)=false:=by simpa using h1
       have e2:(t.most == -1)=false:=by simpa using h2
       clear hb h1 h2
       go_enter Tryd.func78,Tryd.ntmps78
       go_wp2
       go_ret
       exact ⟨rfl,by go_grown⟩
 · have hb1:b=false:=by rw [hb];simp [h0]
   subst hb1
   have e1:(t.least == 0)=false:=by simpa using h0
   clear hb h0
   go_enter Tryd.func78,Tryd.ntmps78
   go_wp2
   go_ret
   exact ⟨rfl,by go_grown⟩
theorem treerep (t x:Tr) (ih:∀ (w:World) (B:Nat→Prop) (v:Value),NodeV w B v x→Calls Tryd.prog 48 #[v] w (SizeEnd x.szT w)) (hsub:t.subs=[x]) (h0:0 ≤ t.least) (h1:t.least ≤ 255) (h2:t.most = -1 ∨ (t.least ≤ t.most∧t.most ≤ 255))
   (w:World) (B:Nat→Prop) (v:Value) (hv:NodeV w B v t):Calls Tryd.prog 79 #[v] w (SizeEnd (Tr.repSz t.least t.most x.szT) w):=by
 obtain ⟨s,rfl,hs⟩:=hv
 rw [hsub] at hs
 obtain ⟨p,cap,rfl,hlen⟩:=hs.slice
 have hs:TreesAt w B (.slice p 1 cap) [x]:=hs
 obtain ⟨b1,o1,s1,rfl,-,t1,sub1⟩:=hs.get (i:=0) (t:=x) rfl
 have t1':TenAt w b1 o1 x s1:=by simpa using t1
 have HC:=Lib.hid ih
 have T1:=Lib.hid t1';have SUB:=Lib.hid sub1
 have hN:=Tr.szT_le x
 have HST:=Lib.hid (fun b hb=>stays_is t (.slice (some ⟨b1,o1,none⟩) 1 cap) ⟨_,_,_,rfl⟩ b hb)
 clear ih hs hsub t1 t1' sub1 hlen
 obtain ⟨m,hm⟩:∃ m:Nat,t.least=m:=⟨t.least.toNat,by omega⟩
 have HM:=Lib.hid hm
 rw [hm] at h0 h1 h2
 have hm255:m ≤ 255:=by omega
 have hmul:m * x.szT ≤ 510255:=Nat.le_trans (Nat.mul_le_mul hm255 hN) (by omega)
 have wmul:IntKind.i64.wrap ((m:Int) * (x.szT:Int))=((m * x.szT:Nat):Int):=by rw [← Int.natCast_mul];exact IntWalk.i64_in _ (by omega)
 generalize hhi:t.most=hi at *
 have HHI:=Lib.hid hhi
 unfold Tr.cells
 rw [hm,hhi]
 clear hm hhi
 go_enter Tryd.func79,Tryd.ntmps79
 have d:=fun (o:Obj)=>T1.out.keep (w':=w.alloc o) (Below.heap_alloc w o b1 T1.out.lt)
 have e0:=fun o=>(d o).c0;have e1:=fun o=>(d o).c1;have e2:=fun o=>(d o).c2;have e3:=fun o=>(d o).c3;have e4:=fun o=>(d o).c4
 have e5:=fun o=>(d o).c5;have e6:=fun o=>(d o).c6;have e7:=fun o=>(d o).c7;have e8:=fun o=>(d o).c8;have e9:=fun o=>(d o).c9
 clear d
 go_wp2_with fail
 generalize hw1:World.alloc w _=w1
 have hb1:Below w.heap.size w w1:=by rw [← hw1];exact (Below.refl _ _).alloc (Nat.le_refl _) _
 have Z1:Hid (w1.heap[w.heap.size]? = some (.cells (t.cells (.slice (some ⟨b1,o1,none⟩) 1 cap)) 37)):=Lib.hid (by rw [← hw1,heap_alloc_new];unfold Tr.cells;rw [HM.out,HHI.out])
 have hs1:w.heap.size < w1.heap.size:=by rw [← hw1];simp
 have hcall:=HC.out w1 B (.agg (x.cells s1)) ⟨_,rfl,SUB.out.later hb1⟩
 unfold Tr.cells at hcall
 have HB1:=Lib.hid hb1
 clear hw1 e0 e1 e2 e3 e4 e5 e6 e7 e8 e9 hb1
 refine hcall.mono ?_
 rintro e w2 ⟨rfl,hb2⟩
 have HB2:=Lib.hid (HB1.out.trans (hb2.mono HB1.out.size));have Z2:=Lib.hid (keep_blk hb2 Z1.out)
 have hs2:w.heap.size < w2.heap.size:=Nat.lt_of_lt_of_le hs1 hb2.size
 clear hb2 hcall HB1 Z1
 generalize hNe:x.szT=N at *
 clear hNe
 obtain ⟨-,-,f5,f7,f8⟩:=box5 Z2.out
 rw [HM.out] at f7
 rw [HHI.out] at f8
 generalize hA:m * N=A at *
 have HA:=Lib.hid hA
 clear hA
 by_cases h11:m=1∧hi=1
 · obtain ⟨rfl,rfl⟩:=h11
   go_wp2
   go_ret
   exact ⟨ret_int (by unfold Tr.repSz;simp),HB2.out⟩
 · have H11:=Lib.hid h11
   clear h11 f5 f7 f8
   obtain ⟨-,-,f5,f7,f8⟩:=box5 Z2.out
   rw [HM.out] at f7
   rw [HHI.out] at f8
   by_cases hst:m=0∧(hi=1 ∨ hi = -1)
   · have HX:=Lib.hid (show Tr.repSz m hi N=Tr.sat (1+N) by unfold Tr.repSz;rw [if_neg (by omega),if_neg (by omega),if_pos ⟨by omega,hst.2⟩])
     obtain ⟨rfl,hst2⟩:=hst
     have HS2:=Lib.hid hst2
     have w1n:IntKind.i64.wrap (1+(N:Int))=1+(N:Int):=IntWalk.i64_in _ (by omega)
     clear hst2
     go_wp2_with (first
       | (refine wpList_load_row rfl 37 (.tmp 1) rfl w.heap.size rfl 37 _ (0,0) _ Z2.out Tryd.underlying37 rfl (by kernel_rfl) ?_)
       | fail)
     refine (HST.out true (by rw [HM.out];have:=HS2.out;simp [this]) _).mono ?_
     rintro e w3 ⟨rfl,hb3⟩
     obtain ⟨-,-,f5,f7,f8⟩:=box5 (keep_blk hb3 Z2.out)
     rw [HM.out] at f7
     rw [HHI.out] at f8
     have HB3:=Lib.hid (HB2.out.trans (hb3.mono HB2.out.size))
     clear hb3
     go_wp2
     all_goals
       go_ret
       exact ⟨ret_int (by have h:=HX.out;(first | rw [h] | (push_cast at h;rw [h]));unfold Tr.sat;have ha:=HA.out;(try simp only [Nat.zero_mul] at ha);omega),HB3.out⟩
   · by_cases hend:hi = -1
     · have hmpos:1 ≤ m:=by omega
       subst hend
       have HX:=Lib.hid (show Tr.repSz m (-1) N=Tr.sat (1+A+(1+N)) by unfold Tr.repSz;rw [if_neg (by omega),if_neg (by omega),if_neg (by omega),if_pos rfl];have:=HA.out;simp [this])
       have HS2:=Lib.hid hst
       have w1n:IntKind.i64.wrap (1+(N:Int))=1+(N:Int):=IntWalk.i64_in _ (by omega)
       have w1a:IntKind.i64.wrap (1+(A:Int))=1+(A:Int):=IntWalk.i64_in _ (by omega)
       have w1s:IntKind.i64.wrap (1+(A:Int)+(1+(N:Int)))=1+(A:Int)+(1+(N:Int)):=IntWalk.i64_in _ (by omega)
       clear hst
       by_cases hm1:m=1
       · subst hm1
         go_wp2_with (first
           | (refine wpList_load_row rfl 37 (.tmp 1) rfl w.heap.size rfl 37 _ (0,0) _ Z2.out Tryd.underlying37 rfl (by kernel_rfl) ?_)
           | fail)
         refine (HST.out false (by rw [HM.out];have:=HS2.out;first | (simp;done) | (simp;omega)) _).mono ?_
         rintro e w3 ⟨rfl,hb3⟩
         obtain ⟨-,-,f5,f7,f8⟩:=box5 (keep_blk hb3 Z2.out)
         rw [HM.out] at f7
         rw [HHI.out] at f8
         have HB3:=Lib.hid (HB2.out.trans (hb3.mono HB2.out.size))
         clear hb3
         go_wp2
         all_goals
           go_ret
           exact ⟨ret_int (by have h:=HX.out;(first | rw [h] | (push_cast at h;rw [h]));unfold Tr.sat;have ha:=HA.out;(try simp only [Nat.one_mul] at ha);omega),HB3.out⟩
       · have g1:((m:Int) == 1)=false:=by simp;omega
         clear hm1
         go_wp2_with (first
           | (refine wpList_load_row rfl 37 (.tmp 1) rfl w.heap.size rfl 37 _ (0,0) _ Z2.out Tryd.underlying37 rfl (by kernel_rfl) ?_)
           | fail)
         refine (HST.out false (by rw [HM.out];have:=HS2.out;first | (simp;done) | (simp;omega)) _).mono ?_
         rintro e w3 ⟨rfl,hb3⟩
         obtain ⟨-,-,f5,f7,f8⟩:=box5 (keep_blk hb3 Z2.out)
         rw [HM.out] at f7
         rw [HHI.out] at f8
         have HB3:=Lib.hid (HB2.out.trans (hb3.mono HB2.out.size))
         clear hb3
         go_wp2
         all_goals
           go_ret
           exact ⟨ret_int (by have h:=HX.out;(first | rw [h] | (push_cast at h;rw [h]));unfold Tr.sat;have ha:=HA.out;(try simp only [Nat.one_mul,Nat.zero_mul] at ha);omega),HB3.out⟩
     · obtain ⟨d,hd⟩:∃ d:Nat,hi=(m:Int)+d:=⟨(hi - m).toNat,by omega⟩
       have hdm:d * (1+N) ≤ 510510:=Nat.le_trans (Nat.mul_le_mul (show d ≤ 255 by omega) (show 1+N ≤ 2002 by omega)) (by omega)
       obtain ⟨B2,hB⟩:∃ B2,d * (1+N)=B2:=⟨_,rfl⟩
       have HX:=Lib.hid (show Tr.repSz m hi N=Tr.sat (1+A+B2) by
         rw [← hB]
         unfold Tr.repSz
         by_cases hz:hi=0
         · rw [if_pos hz]
           have hm0:m=0:=by omega
           have hd0:d=0:=by omega
           have:=HA.out
           subst hm0 hd0
           simp at this
           subst this
           simp [Tr.sat]
         · rw [if_neg hz,if_neg (by have:=H11.out;omega),if_neg (by omega),if_neg hend]
           have:=HA.out
           have hdd:(hi - (m:Int)).toNat=d:=by omega
           rw [hdd];simp [this])
       have HS2:=Lib.hid hst
       have eend:(hi == -1)=false:=by simpa using hend
       have w1n:IntKind.i64.wrap (1+(N:Int))=1+(N:Int):=IntWalk.i64_in _ (by omega)
       have w1a:IntKind.i64.wrap (1+(A:Int))=1+(A:Int):=IntWalk.i64_in _ (by omega)
       have wsub:IntKind.i64.wrap (hi - (m:Int))=(d:Int):=by rw [hd,show (m:Int)+d - m=d by omega];exact IntWalk.i64_in _ (by omega)
       have wmul2:IntKind.i64.wrap ((d:Int) * (1+(N:Int)))=((d * (1+N):Nat):Int):=by
         rw [show (d:Int) * (1+(N:Int))=((d * (1+N):Nat):Int) by push_cast;rfl];exact IntWalk.i64_in _ (by omega)
       have HD:=Lib.hid hd
       rw [hB] at hdm wmul2
       have w1s:IntKind.i64.wrap (1+(A:Int)+(B2:Int))=1+(A:Int)+(B2:Int):=IntWalk.i64_in _ (by omega)
       clear hst hd hB
       by_cases hm1:m=1
       · subst hm1
         have g2:(hi == 1)=false:=by have:=H11.out;simp;omega
         have wsub':IntKind.i64.wrap (hi - 1)=(d:Int):=by simpa using wsub
         have w1s':IntKind.i64.wrap (1+(N:Int)+(B2:Int))=1+(N:Int)+(B2:Int):=IntWalk.i64_in _ (by omega)
         clear wsub w1s w1a wmul
         go_wp2_with (first
           | (refine wpList_load_row rfl 37 (.tmp 1) rfl w.heap.size rfl 37 _ (0,0) _ Z2.out Tryd.underlying37 rfl (by kernel_rfl) ?_)
           | fail)
         refine (HST.out false (by rw [HM.out];have:=HS2.out;first | (simp;done) | (simp;omega)) _).mono ?_
         rintro e w3 ⟨rfl,hb3⟩
         obtain ⟨-,-,f5,f7,f8⟩:=box5 (keep_blk hb3 Z2.out)
         rw [HM.out] at f7
         rw [HHI.out] at f8
         have HB3:=Lib.hid (HB2.out.trans (hb3.mono HB2.out.size))
         clear hb3
         go_wp2
         all_goals
           go_ret
           exact ⟨ret_int (by have h:=HX.out;(first | rw [h] | (push_cast at h;rw [h]));unfold Tr.sat;have ha:=HA.out;(try simp only [Nat.one_mul] at ha);omega),HB3.out⟩
       · have g1:((m:Int) == 1)=false:=by simp;omega
         clear hm1
         go_wp2_with (first
           | (refine wpList_load_row rfl 37 (.tmp 1) rfl w.heap.size rfl 37 _ (0,0) _ Z2.out Tryd.underlying37 rfl (by kernel_rfl) ?_)
           | fail)
         refine (HST.out false (by rw [HM.out];have:=HS2.out;first | (simp;done) | (simp;omega)) _).mono ?_
         rintro e w3 ⟨rfl,hb3⟩
         obtain ⟨-,-,f5,f7,f8⟩:=box5 (keep_blk hb3 Z2.out)
         rw [HM.out] at f7
         rw [HHI.out] at f8
         have HB3:=Lib.hid (HB2.out.trans (hb3.mono HB2.out.size))
         clear hb3
         go_wp2
         all_goals
           go_ret
           exact ⟨ret_int (by have h:=HX.out;(first | rw [h] | (push_cast at h;rw [h]));unfold Tr.sat;have ha:=HA.out;(try simp only [Nat.one_mul,Nat.zero_mul] at ha);omega),HB3.out⟩
end Go.Proofs.YtnaoiglbjkjogaaDoor
namespace Go.Proofs.YtnaoiglbjkjogaaDoor
open Go.RowKit
def pick {α:Type} (f:Nat→α) (m:Nat) (x:α) (i:Nat):α:=if i=m then x else f i
end Go.Proofs.YtnaoiglbjkjogaaDoor
namespace Go.Proofs.YtnaoiglbjkjogaaDoor
open Go.RowKit
theorem part0 (a b c d:Value) (w:World):(Go.part 22 #[a,b,c,d] 0).run Tryd.prog w=.ok a w:=by kernel_rfl
theorem part1 (a b c d:Value) (w:World):(Go.part 22 #[a,b,c,d] 1).run Tryd.prog w=.ok b w:=by kernel_rfl
theorem part2 (a b c d:Value) (w:World):(Go.part 22 #[a,b,c,d] 2).run Tryd.prog w=.ok c w:=by kernel_rfl
theorem part3 (a b c d:Value) (w:World):(Go.part 22 #[a,b,c,d] 3).run Tryd.prog w=.ok d w:=by kernel_rfl
theorem eqi (a b:Int) (w:World):(Op.equalIn 9999 22 (.int .u64 a) (.int .u64 b)).run Tryd.prog w=.ok (a == b) w:=run_equalIn_int w 9998 22 .u64 .u64 a b Tryd.underlying22
theorem eq4 (a b c d a' b' c' d':Int) (w:World):(Op.equalIn 10000 24 (.agg #[.int .u64 a,.int .u64 b,.int .u64 c,.int .u64 d]) (.agg #[.int .u64 a',.int .u64 b',.int .u64 c',.int .u64 d'])).run Tryd.prog w=.ok (a == a' && (b == b' && (c == c' && d == d'))) w:=by
 have h0:=run_underlying (P:=Tryd.prog) (w:=w) Tryd.underlying24
 unfold Op.equalIn
 simp only [Sem.run_bind,h0,Result.andThen_ok]
 simp
 rw [show List.range' 0 4=[0,1,2,3] from rfl]
 simp only [List.forIn_cons,List.forIn_nil,Sem.run_bind,part0,eqi,Result.andThen_ok]
 by_cases h1:a=a'
 · by_cases h2:b=b'
   · by_cases h3:c=c'
     · by_cases h4:d=d' <;> simp [h1,h2,h3,h4,part1,part2,part3,eqi]
     · simp [h1,h2,h3,part1,part2,eqi]
   · simp [h1,h2,part1,eqi]
 · simp [h1]
end Go.Proofs.YtnaoiglbjkjogaaDoor
namespace Go.Proofs.YtnaoiglbjkjogaaDoor
open Go.RowKit
namespace Ri
def up {T:Type} (f:Nat→T) (i:Nat) (x:T):Nat→T:=fun j=>if j=i then x else f j
theorem up_same {T:Type} (f:Nat→T) (i:Nat) (x:T):up f i x i=x:=by simp [up]
theorem up_other {T:Type} (f:Nat→T) (i:Nat) (x:T) (j:Nat) (h:j ≠ i):up f i x j=f j:=by simp [up,h]
def backward (ops:Array Oper):Bool:=(List.range ops.size).all fun i=>((ops[i]?).map fun o=>o.after.all fun e=>!Region.binds .any e || decide (e.on < i)).getD true
variable {P:Program} {ops:Array Oper} {Q:Exit→Act→World→Prop}
theorem all_listed (hb:backward ops=true) {listed:Array Bool} (hr:Region.ready .any ops listed=[]) (hs:listed.size=ops.size):∀ i,i < ops.size→listed.getD i false=true:=by
 intro i
 induction i using Nat.strongRecOn with
 | _ i ih =>
   intro hi
   cases hl:listed.getD i false with
   | true=>rfl
   | false =>
     exfalso
     have hmem:i ∈ Region.ready .any ops listed:=by
       unfold Region.ready
       refine List.mem_filter.2 ⟨List.mem_range.2 hi, ?_⟩
       have h1:listed.getD i true=false:=by
         have:i < listed.size:=by omega
         simp only [Array.getD,this,dif_pos] at hl ⊢
         exact hl
       have ho:ops[i]? = some ops[i]:=Array.getElem?_eq_getElem hi
       rw [h1,ho]
       simp only [Bool.not_false,Bool.true_and,Option.map_some,Option.getD_some]
       rw [Array.all_eq_true_iff_forall_mem]
       intro e he
       cases hbi:Region.binds .any e with
       | false=>rfl
       | true =>
         have hlt:e.on < i:=by
           have h2:=List.all_eq_true.1 hb i (List.mem_range.2 hi)
           rw [ho] at h2
           simp only [Option.map_some,Option.getD_some] at h2
           have h3:=(Array.all_eq_true_iff_forall_mem.1 h2) e he
           rw [hbi] at h3
           simpa using h3
         simp [ih e.on hlt (by omega)]
     rw [hr] at hmem
     cases hmem
theorem wpAny_inv (hb:backward ops=true) (I:(Nat→Bool)→(Nat→Value)→World→Prop) (A:(Nat→Bool)→(Nat→Value)→Act)
   (step:∀ i,i < ops.size→∀ L v w,I L v w→L i=false→(∀ o,ops[i]? = some o→∀ e ∈ o.after,Region.binds .any e=true→L e.on=true) →
     wpOp P ops Q i (fun a' w'=>∃ u,a'=A (up L i true) (up v i u)∧I (up L i true) (up v i u) w') (A L v) w)
   (fin:∀ L v w,(∀ i,i < ops.size→L i=true)→I L v w→Q .normal (A L v) w) :
   ∀ (fuel:Nat) (U:List Nat) (listed:Array Bool) (v:Nat→Value) (w:World),listed.size=ops.size→U.length ≤ fuel→(∀ i,i < ops.size→listed.getD i false=false→i ∈ U) →
     I (fun i=>listed.getD i false) v w→wpAny P .any ops Q fuel listed (A (fun i=>listed.getD i false) v) w:=by
 intro fuel
 induction fuel with
 | zero =>
   intro U listed v w hs hU hin hI
   have hnil:U=[]:=List.eq_nil_of_length_eq_zero (by omega)
   subst hnil
   have hall:∀ i,i < ops.size→listed.getD i false=true:=fun i hi=>by
     cases h:listed.getD i false with
     | true=>rfl
     | false=>exact absurd (hin i hi h) (by simp)
   refine ⟨?_,fin _ v w hall hI⟩
   unfold Region.ready
   rw [List.filter_eq_nil_iff]
   intro i hi
   have hi':=List.mem_range.1 hi
   have h1:listed.getD i true=true:=by
     have h0:=hall i hi'
     have:i < listed.size:=by omega
     simp only [Array.getD,this,dif_pos] at h0 ⊢
     exact h0
   simp [h1]
 | succ fuel ih =>
   intro U listed v w hs hU hin hI
   refine ⟨fun hr=>fin _ v w (all_listed hb hr hs) hI,fun i hi=>?_⟩
   unfold Region.ready at hi
   obtain ⟨hir,hcond⟩:=List.mem_filter.1 hi
   have hin':=List.mem_range.1 hir
   have ho:ops[i]? = some ops[i]:=Array.getElem?_eq_getElem hin'
   rw [ho] at hcond
   simp only [Bool.and_eq_true,Option.map_some,Option.getD_some] at hcond
   obtain ⟨hl,hafter⟩:=hcond
   have hlf:listed.getD i false=false:=by
     have:i < listed.size:=by omega
     simp only [Array.getD,this,dif_pos] at hl ⊢
     simpa using hl
   have hst:=step i hin' (fun j=>listed.getD j false) v w hI hlf (fun o hoo e he hbi=>by
     rw [ho] at hoo;cases hoo
     have h3:=(Array.all_eq_true_iff_forall_mem.1 hafter) e he
     rw [hbi] at h3
     simpa using h3)
   refine wpOp_mono (fun a' w' h=>?_) hst
   obtain ⟨u,rfl,hI'⟩:=h
   have hup:(fun j=>(listed.setIfInBounds i true).getD j false)=up (fun j=>listed.getD j false) i true:=by
     funext j
     unfold up
     by_cases e:j=i
     · subst e
       have:j < (listed.setIfInBounds j true).size:=by simp;omega
       simp [Array.getD];omega
     · rw [if_neg e]
       simp only [Array.getD,Array.size_setIfInBounds]
       split
       · rename_i h;exact Array.getElem_setIfInBounds_ne h (Ne.symm e)
       · rfl
   have hmemU:i ∈ U:=hin i hin' hlf
   have:=ih (U.erase i) (listed.setIfInBounds i true) (up v i u) w' (by simpa using hs) (by rw [List.length_erase_of_mem hmemU];have:=List.length_pos_of_mem hmemU;omega)
     (fun j hj hjl=>by
       have hj2:(up (fun j=>listed.getD j false) i true) j=false:=by rw [← hup];exact hjl
       by_cases e:j=i
       · subst e;rw [up_same] at hj2;cases hj2
       · rw [up_other _ _ _ _ e] at hj2
         exact (List.mem_erase_of_ne e).2 (hin j hj hj2))
     (by rw [hup];exact hI')
   rw [hup] at this
   exact this
theorem wp_region_inv {id:Nat} {a:Act} {w:World} (hm:P.follows .mixedOrders=true) (hb:backward ops=true) (I:(Nat→Bool)→(Nat→Value)→World→Prop) (A:(Nat→Bool)→(Nat→Value)→Act)
   (ha:a=A (fun _=>false) (fun _=>undef)) (hi:I (fun _=>false) (fun _=>undef) w.drew)
   (step:∀ i,i < ops.size→∀ L v w,I L v w→L i=false→(∀ o,ops[i]? = some o→∀ e ∈ o.after,Region.binds .any e=true→L e.on=true) →
     wpOp P ops Q i (fun a' w'=>∃ u,a'=A (up L i true) (up v i u)∧I (up L i true) (up v i u) w') (A L v) w)
   (fin:∀ L v w,(∀ i,i < ops.size→L i=true)→I L v w→Q .normal (A L v) w) :
   (Code.region id ops true).wp P Q a w:=by
 refine wp_region_any hm ?_
 have hz:(fun i=>(Array.replicate ops.size false).getD i false)=fun _=>false:=by
   funext i;simp only [Array.getD,Array.size_replicate];split <;> simp
 have:=wpAny_inv (P:=P) hb I A step fin ops.size (List.range ops.size) (Array.replicate ops.size false) (fun _=>undef) w.drew (by simp) (by simp) (fun i hi _=>List.mem_range.2 hi) (by rw [hz];exact hi)
 rw [hz,← ha] at this
 exact this
def frame (ops:Array Oper) (a:Act) (L:Nat→Bool) (v:Nat→Value):Act :=
 { a with tmps:=ops.toList.zipIdx.foldl (fun t p=>match p.1.dst with | some d=>if L p.2 then t.setIfInBounds d (v p.2) else t | none=>t) a.tmps }
def apart (ops:Array Oper):Bool:=(ops.toList.filterMap (·.dst)).eraseDups.length == (ops.toList.filterMap (·.dst)).length && ops.toList.zipIdx.all fun p=>ops.toList.zipIdx.all fun q=>p.2 == q.2 || p.1.dst == none || p.1.dst != q.1.dst
theorem fold_size (L:Nat→Bool) (v:Nat→Value):∀ (l:List (Oper × Nat)) (t:Array Value),
   (l.foldl (fun t p=>match p.1.dst with | some d=>if L p.2 then t.setIfInBounds d (v p.2) else t | none=>t) t).size=t.size:=by
 intro l
 induction l with
 | nil=>intro t;rfl
 | cons p l ih =>
   intro t
   rw [List.foldl_cons,ih]
   split
   · split <;> simp
   · rfl
theorem fold_other (L:Nat→Bool) (v:Nat→Value) (s:Nat):∀ (l:List (Oper × Nat)) (t:Array Value),(∀ p ∈ l,p.1.dst ≠ some s) →
   (l.foldl (fun t p=>match p.1.dst with | some d=>if L p.2 then t.setIfInBounds d (v p.2) else t | none=>t) t)[s]? = t[s]?:=by
 intro l
 induction l with
 | nil=>intro t _;rfl
 | cons p l ih =>
   intro t h
   rw [List.foldl_cons,ih _ (fun q hq=>h q (List.mem_cons_of_mem _ hq))]
   have hp:=h p (List.mem_cons_self ..)
   split
   · rename_i d hd
     split
     · rw [Array.getElem?_setIfInBounds_ne];intro e;subst e;exact hp hd
     · rfl
   · rfl
theorem fold_own (L:Nat→Bool) (v:Nat→Value) (s:Nat) (i:Nat):∀ (l:List (Oper × Nat)) (t:Array Value),s < t.size→(∃ p ∈ l,p.1.dst=some s∧p.2=i)→(∀ p ∈ l,p.1.dst=some s→p.2=i) →
   (l.foldl (fun t p=>match p.1.dst with | some d=>if L p.2 then t.setIfInBounds d (v p.2) else t | none=>t) t)[s]? = if L i then some (v i) else t[s]?:=by
 intro l
 induction l with
 | nil=>rintro t _ ⟨p,hp,_⟩ _;cases hp
 | cons p l ih =>
   intro t hs hex hun
   rw [List.foldl_cons]
   by_cases hp:p.1.dst=some s
   · have hi:=hun p (List.mem_cons_self ..) hp
     rw [hp,hi]
     simp only []
     by_cases hl:∃ q ∈ l,q.1.dst=some s∧q.2=i
     · rw [ih _ (by split <;> simpa using hs) hl (fun q hq=>hun q (List.mem_cons_of_mem _ hq))]
       cases L i <;> simp
     · rw [fold_other L v s l _ (fun q hq e=>hl ⟨q,hq,e,hun q (List.mem_cons_of_mem _ hq) e⟩)]
       cases L i <;> simp [hs]
   · obtain ⟨q,hq,hqd,hqi⟩:=hex
     rcases List.mem_cons.1 hq with rfl | hq
     · exact absurd hqd hp
     · have hne:∀ d,p.1.dst=some d→d ≠ s:=fun d hd e=>hp (by rw [hd,e])
       rw [ih _ (by split <;> (try split) <;> simpa using hs) ⟨q,hq,hqd,hqi⟩ (fun q hq=>hun q (List.mem_cons_of_mem _ hq))]
       congr 1
       split
       · rename_i d hd
         split
         · rw [Array.getElem?_setIfInBounds_ne (hne d hd)]
         · rfl
       · rfl
theorem mem_zip {ops:Array Oper} {p:Oper × Nat} (h:p ∈ ops.toList.zipIdx):ops[p.2]? = some p.1:=by
 obtain ⟨_,_,h3⟩:=List.mem_zipIdx (x:=p.1) (i:=p.2) (k:=0) h
 rw [Array.getElem?_eq_some_iff]
 exact ⟨by rename_i h2;simpa using h2,by rw [h3];simp⟩
theorem zip_mem {ops:Array Oper} {i:Nat} {o:Oper} (h:ops[i]? = some o):(o,i) ∈ ops.toList.zipIdx:=by
 rw [List.mem_zipIdx_iff_getElem?]
 simpa using h
theorem apart_un (hap:apart ops=true) {i j:Nat} {o o':Oper} {d:Nat} (hi:ops[i]? = some o) (hj:ops[j]? = some o') (h1:o.dst=some d) (h2:o'.dst=some d):i=j:=by
 unfold apart at hap
 rw [Bool.and_eq_true] at hap
 have h3:=List.all_eq_true.1 (List.all_eq_true.1 hap.2 _ (zip_mem hi)) _ (zip_mem hj)
 simpa [h1,h2] using h3
theorem frame_size (a:Act) (L:Nat→Bool) (v:Nat→Value):(frame ops a L v).tmps.size=a.tmps.size:=fold_size L v _ _
theorem frame_own (hap:apart ops=true) (a:Act) (L:Nat→Bool) (v:Nat→Value) {i d:Nat} {o:Oper} (ho:ops[i]? = some o) (hd:o.dst=some d) (hs:d < a.tmps.size) :
   (frame ops a L v).tmps[d]? = if L i then some (v i) else a.tmps[d]? :=
 fold_own L v d i _ _ hs ⟨_,zip_mem ho,hd,rfl⟩ (fun _ hp e=>(apart_un hap ho (mem_zip hp) hd e).symm)
theorem frame_other (a:Act) (L:Nat→Bool) (v:Nat→Value) {d:Nat} (h:∀ (i:Nat) (o:Oper),ops[i]? = some o→o.dst ≠ some d):(frame ops a L v).tmps[d]? = a.tmps[d]? :=
 fold_other L v d _ _ (fun p hp=>h p.2 p.1 (mem_zip hp))
theorem frame_put (hap:apart ops=true) (a:Act) (L:Nat→Bool) (v:Nat→Value) {i:Nat} {o:Oper} (ho:ops[i]? = some o) (u:Value) :
   (frame ops a L v).put o.dst u=frame ops a (up L i true) (up v i u):=by
 have key:∀ s:Nat,((frame ops a L v).put o.dst u).tmps[s]? = (frame ops a (up L i true) (up v i u)).tmps[s]?:=by
   intro s
   by_cases hs:s < a.tmps.size
   · by_cases hex:∃ (j:Nat) (o':Oper),ops[j]? = some o'∧o'.dst=some s
     · obtain ⟨j,o',hj,hd⟩:=hex
       rw [frame_own hap a _ _ hj hd hs]
       by_cases e:j=i
       · subst e
         rw [ho] at hj;cases hj
         rw [hd,up_same,up_same]
         simp only [Act.put,if_true]
         rw [Array.getElem?_setIfInBounds_self,if_pos (by rw [frame_size];exact hs)]
       · rw [up_other _ _ _ _ e,up_other _ _ _ _ e,← frame_own hap a L v hj hd hs]
         cases hod:o.dst with
         | none=>rfl
         | some d =>
           simp only [Act.put]
           rw [Array.getElem?_setIfInBounds_ne]
           intro e';subst e';exact e (apart_un hap hj ho hd hod)
     · have hno:∀ (j:Nat) (o':Oper),ops[j]? = some o'→o'.dst ≠ some s:=fun j o' h1 h2=>hex ⟨j,o',h1,h2⟩
       rw [frame_other a _ _ hno,← frame_other a L v hno]
       cases hod:o.dst with
       | none=>rfl
       | some d =>
         simp only [Act.put]
         rw [Array.getElem?_setIfInBounds_ne]
         intro e';subst e';exact hno i o ho hod
   · have h1:(frame ops a (up L i true) (up v i u)).tmps[s]? = none:=Array.getElem?_eq_none (by rw [frame_size];omega)
     have h2:((frame ops a L v).put o.dst u).tmps[s]? = none:=by
       refine Array.getElem?_eq_none ?_
       cases o.dst <;> simp [Act.put,frame_size] <;> omega
     rw [h1,h2]
 have ht:((frame ops a L v).put o.dst u).tmps=(frame ops a (up L i true) (up v i u)).tmps:=Array.ext_getElem? key
 have hd:((frame ops a L v).put o.dst u).defers=(frame ops a (up L i true) (up v i u)).defers:=by cases o.dst <;> rfl
 generalize (frame ops a L v).put o.dst u=x at *
 generalize frame ops a (up L i true) (up v i u)=y at *
 cases x;cases y;simp_all
theorem fold_none (v:Nat→Value):∀ (l:List (Oper × Nat)) (t:Array Value),
   l.foldl (fun t p=>match p.1.dst with | some d=>if (fun _:Nat=>false) p.2 then t.setIfInBounds d (v p.2) else t | none=>t) t=t:=by
 intro l
 induction l with
 | nil=>intro t;rfl
 | cons p l ih=>intro t;rw [List.foldl_cons];cases p.1.dst <;> exact ih t
theorem wp_region_frame {id:Nat} {a:Act} {w:World} (hm:P.follows .mixedOrders=true) (hb:backward ops=true) (hap:apart ops=true) (hsz0:(ops.toList.all fun o=>o.dst.all fun d=>decide (d < a.tmps.size))=true)
   (I:(Nat→Bool)→(Nat→Value)→World→Prop)
   (hi:I (fun _=>false) (fun _=>undef) w.drew)
   (step:∀ i,i < ops.size→∀ L v w (a':Act),I L v w→L i=false→(∀ o,ops[i]? = some o→∀ e ∈ o.after,Region.binds .any e=true→L e.on=true) →
     (∀ j d:Nat,(ops[j]?).bind (·.dst)=some d→L j=true→a'.tmps.getD d undef=v j)→(∀ d,ops.toList.all (fun o=>o.dst != some d)=true→a'.tmps.getD d undef=a.tmps.getD d undef) →
     wpOp P ops Q i (fun b w'=>∃ (o:Oper) (u:Value),ops[i]? = some o∧b=a'.put o.dst u∧I (up L i true) (up v i u) w') a' w)
   (fin:∀ v w,I (fun i=>decide (i < ops.size)) v w→Q .normal (frame ops a (fun _=>true) v) w) :
   (Code.region id ops true).wp P Q a w:=by
 have hsz:∀ (i:Nat) (o:Oper) (d:Nat),ops[i]? = some o→o.dst=some d→d < a.tmps.size:=fun i o d h1 h2=>by
   have:=List.all_eq_true.1 hsz0 o (Array.mem_toList_iff.2 (Array.mem_of_getElem? h1))
   rw [h2] at this
   simpa using this
 refine wp_region_inv hm hb (fun L v w=>I L v w∧∀ i,ops.size ≤ i→L i=false) (frame ops a) ?_ ⟨hi,fun _ _=>rfl⟩ ?_ ?_
 · have:=fold_none (fun _=>undef) ops.toList.zipIdx a.tmps
   unfold frame;rw [show (List.foldl _ a.tmps _)=a.tmps from this]
 · intro i hin L v w ⟨hI,hL⟩ hLi hd
   refine wpOp_mono ?_ (step i hin L v w (frame ops a L v) hI hLi hd ?_ ?_)
   · rintro b w' ⟨o,u,ho,rfl,hI'⟩
     exact ⟨u,frame_put hap a L v ho u,hI',fun j hj=>by rw [up_other _ _ _ _ (by omega)];exact hL j hj⟩
   · intro j d hjd hlj
     obtain ⟨o,ho,hod⟩:=Option.bind_eq_some_iff.1 hjd
     have hs:=hsz j o d ho hod
     have:=frame_own hap a L v ho hod hs
     rw [hlj,if_pos rfl] at this
     rw [Array.getD_eq_getD_getElem?,this];rfl
   · intro d hall
     have hno:∀ (j:Nat) (o:Oper),ops[j]? = some o→o.dst ≠ some d:=fun j o ho=>by
       have:=List.all_eq_true.1 hall o (Array.mem_toList_iff.2 (Array.mem_of_getElem? ho))
       simpa using this
     rw [Array.getD_eq_getD_getElem?,Array.getD_eq_getD_getElem?,frame_other a L v hno]
 · intro L v w hall ⟨hI,hL⟩
   have e:L=fun i=>decide (i < ops.size):=by
     funext i
     by_cases h:i < ops.size
     · rw [hall i h];simp [h]
     · rw [hL i (by omega)];simp [h]
   have e2:frame ops a L v=frame ops a (fun _=>true) v:=by
     have:∀ s:Nat,(frame ops a L v).tmps[s]? = (frame ops a (fun _=>true) v).tmps[s]?:=by
       intro s
       by_cases hex:∃ (j:Nat) (o':Oper),ops[j]? = some o'∧o'.dst=some s
       · obtain ⟨j,o',hj,hd⟩:=hex
         have hs:=hsz j o' s hj hd
         rw [frame_own hap a _ _ hj hd hs,frame_own hap a _ _ hj hd hs,hall j (Array.getElem?_eq_some_iff.1 hj).1]
       · have hno:∀ (j:Nat) (o':Oper),ops[j]? = some o'→o'.dst ≠ some s:=fun j o' h1 h2=>hex ⟨j,o',h1,h2⟩
         rw [frame_other a _ _ hno,frame_other a _ _ hno]
     have ht:=Array.ext_getElem? this
     have hd:(frame ops a L v).defers=(frame ops a (fun _=>true) v).defers:=rfl
     generalize frame ops a L v=x at *
     generalize frame ops a (fun _=>true) v=y at *
     cases x;cases y;simp_all
   rw [e2]
   exact fin v w (e ▸ hI)
theorem step_plain {i:Nat} {o:Oper} {K:Act→World→Prop} {a:Act} {w:World} (ho:ops[i]? = some o) (hg:o.guard=none)
   (h:∀ K':Act→World→Prop,(∀ a w,K a w→K' a w)→Oper.wp P o a w K' Q):wpOp P ops Q i K a w :=
 wpOp_step ho fun K' hK=>by rw [if_pos (by simp [Region.wanted,hg])];exact h K' hK
end Ri
end Go.Proofs.YtnaoiglbjkjogaaDoor
namespace Go.Proofs.YtnaoiglbjkjogaaDoor
open Go.RowKit
theorem treesize_seq (t:Tr) (ih:∀ u,u ∈ t.subs→u.InForm→∀ (w:World) (B:Nat→Prop) (v:Value),NodeV w B v u→Calls Tryd.prog 48 #[v] w (SizeEnd u.szT w)) (hf:t.InForm) (hk:t.kind ≠ 8)
   (w:World) (B:Nat→Prop) (v:Value) (hv:NodeV w B v t):Calls Tryd.prog 48 #[v] w (SizeEnd t.szT w):=by
 obtain ⟨s,rfl,hs⟩:=hv
 obtain ⟨p,cap,rfl,hlen⟩:=hs.slice
 have HE:=Lib.hid (show t.szT=Tr.sat (1+Tr.szS t.subs) by cases t;rw [Tr.szT];simp only [Tr.kind] at hk;rw [if_neg hk];rfl)
 have HF:=Lib.hid hf
 generalize hts:t.subs=ts at *
 have HTS:=Lib.hid hts;have IH:=Lib.hid ih;have HS:=Lib.hid hs
 have e8:(t.kind == 8)=false:=by simpa using hk
 clear ih hs hf hk hts
 unfold Tr.cells
 go_enter Tryd.func48,Tryd.ntmps48
 go_wp2
 go_loopw [3,14] (fun nv iv wr=>∃ m:Nat,iv=.int .i64 m∧m ≤ ts.length∧nv=.int .i64 (Tr.sat (1+Tr.szS (ts.take m)):Nat)∧Hid (Below w.heap.size w wr)) (fun _ iv _=>ts.length - (intOf iv).toNat)
 case atStart=>exact ⟨0,rfl,Nat.zero_le _,rfl,Lib.hid (by go_grown)⟩
 case round =>
   obtain ⟨m,rfl,hm,rfl,HB⟩:=hrel
   have wm:IntKind.i64.wrap ((m:Int)+1)=(m:Int)+1:=IntWalk.i64_in _ (by omega)
   by_cases hlt:m < ts.length
   · obtain ⟨x,hx⟩:∃ x,ts[m]? = some x:=⟨_,List.getElem?_eq_getElem hlt⟩
     obtain ⟨b1,o1,s1,rfl,-,t1,sub1⟩:=HS.out.get hx
     obtain ⟨d0,d1,d2,d3,d4,d5,d6,d7,d8,d9⟩:=t1.keep (HB.out.block _ t1.lt)
     have hmem:=List.mem_of_getElem? hx
     obtain ⟨p1,c1,rfl,hl1⟩:=sub1.slice
     have HC:=Lib.hid (fun w9 hb=>IH.out x hmem (HF.out.sub (by rw [HTS.out];exact hmem)) w9 B (.agg (x.cells (.slice p1 x.subs.length c1))) ⟨_,rfl,sub1.later hb⟩)
     have hle:=Tr.sat_le (1+Tr.szS (ts.take m));have hlx:=Tr.szT_le x
     have HST:=Lib.hid (Tr.szS_take ts m x hx)
     clear t1 sub1 hmem hx
     generalize hn:Tr.sat (1+Tr.szS (ts.take m))=n at *
     have HN:=Lib.hid hn
     clear hn
     unfold Tr.cells at HC
     go_wp2_with fail
     generalize hw1:World.alloc wr _=w1
     have hb1:Below wr.heap.size wr w1:=by rw [← hw1];exact (Below.refl _ _).alloc (Nat.le_refl _) _
     clear hw1
     refine (HC.out w1 (HB.out.trans (hb1.mono HB.out.size))).mono ?_
     rintro e w2 ⟨rfl,hb2⟩
     have HB2:=Lib.hid (HB.out.trans ((hb1.trans (hb2.mono hb1.size)).mono HB.out.size))
     have wsum:IntKind.i64.wrap ((n:Int)+(x.szT:Int))=(n:Int)+x.szT:=IntWalk.i64_in _ (by omega)
     have HSUM:=Lib.hid (show Tr.sat (n+x.szT)=Tr.sat (1+Tr.szS (ts.take (m+1))) by rw [← HN.out,Tr.sat_sat,HST.out];congr 1;omega)
     generalize x.szT=N at *
     clear d0 d1 d2 d3 d4 d5 d6 d7 d8 d9 hb1 hb2 HC
     go_wp2
     all_goals
       exact ⟨⟨m+1,by go_num,by omega,by rw [← HSUM.out];unfold Tr.sat;congr 1;omega,HB2⟩,by simp [intOf];omega⟩
   · obtain rfl:m=ts.length:=by omega
     have HX:=Lib.hid (show Tr.sat (1+Tr.szS (ts.take ts.length))=t.szT by rw [List.take_length,HE.out])
     go_wp2
     go_ret
     exact ⟨ret_int (by rw [HX.out]),HB.out⟩
theorem treesize_rep (t x:Tr) (ih:∀ (w:World) (B:Nat→Prop) (v:Value),NodeV w B v x→Calls Tryd.prog 48 #[v] w (SizeEnd x.szT w)) (hsub:t.subs=[x]) (hk:t.kind=8) (h0:0 ≤ t.least) (h1:t.least ≤ 255) (h2:t.most = -1 ∨ (t.least ≤ t.most∧t.most ≤ 255))
   (w:World) (B:Nat→Prop) (v:Value) (hv:NodeV w B v t):Calls Tryd.prog 48 #[v] w (SizeEnd t.szT w):=by
 obtain ⟨s,rfl,hs⟩:=hv
 have hsz0:t.szT=Tr.repSz t.least t.most x.szT:=by
   cases t;simp only [Tr.kind,Tr.subs] at hk hsub;subst hk hsub;rw [Tr.szT,if_pos rfl,Tr.szH];rfl
 have HSZ:=Lib.hid hsz0
 have HC:=Lib.hid (fun w9 (hb:Below w.heap.size w w9)=>treerep t x ih hsub h0 h1 h2 w9 B _ ⟨s,rfl,hs.later hb⟩)
 obtain ⟨p,cap,rfl,hlen⟩:=hs.slice
 have z0:=heap_alloc_new w (.cells (t.cells (.slice p t.subs.length cap)) 37)
 have Z0:=Lib.hid z0
 clear hsz0 ih hsub h0 h1 h2 hs z0
 unfold Tr.cells at *
 rw [hk] at *
 clear hk
 go_enter Tryd.func48,Tryd.ntmps48
 go_wp2_with (first
   | (refine wpList_load_row rfl 37 (.tmp 1) rfl w.heap.size rfl 37 _ (0,0) _ Z0.out Tryd.underlying37 rfl (by kernel_rfl) ?_)
   | fail)
 refine (HC.out _ ((Below.refl _ _).alloc (Nat.le_refl _) _)).mono ?_
 rintro e w2 ⟨rfl,hb2⟩
 have HB2:=Lib.hid (((Below.refl w.heap.size w).alloc (Nat.le_refl _) _).trans (hb2.mono (by simp)))
 clear hb2
 go_wp2
 go_ret
 exact ⟨ret_int (by rw [HSZ.out]),HB2.out⟩
theorem treesize_any:∀ t:Tr,t.InForm→∀ (w:World) (B:Nat→Prop) (v:Value),NodeV w B v t→Calls Tryd.prog 48 #[v] w (SizeEnd t.szT w):=by
 intro t
 induction t using Tr.rec_subs with
 | h t ih =>
   intro hf w B v hv
   by_cases hk:t.kind=8
   · have hfl:=hf.fields
     unfold Tr.fieldsOk at hfl
     obtain ⟨-,-,-,-,-,hl,-,h0,h1,h2,-⟩:t.kind=8∧t.w0=0#64∧t.w1=0#64∧t.w2=0#64∧t.w3=0#64∧t.subs.length=1∧t.num=0∧0 ≤ t.least∧t.least ≤ 255∧(t.most = -1 ∨ (t.least ≤ t.most∧t.most ≤ 255))∧(t.bare=true→t.least=0):=by
       rcases hfl with h | h | h | h | h
       · omega
       · omega
       · omega
       · omega
       · exact h
     obtain ⟨x,hx⟩:=List.length_eq_one_iff.1 hl
     have hmem:x ∈ t.subs:=by rw [hx];exact List.mem_cons_self
     exact treesize_rep t x (fun w B v hv=>ih x hmem (hf.sub hmem) w B v hv) hx hk h0 h1 h2 w B v hv
   · exact treesize_seq t ih hf hk w B v hv
end Go.Proofs.YtnaoiglbjkjogaaDoor
namespace Go.Proofs.YtnaoiglbjkjogaaDoor
namespace Tr
mutual
def dpT:Tr→Nat
 | .node k _ _ _ _ s _ lo hi _=>if s.length=0 then 1 else dpS s+(if k=8∧¬ (lo=0∧(hi=1 ∨ hi = -1)) then 2 else 1)
def dpS:List Tr→Nat
 | []=>0
 | t :: l=>max (dpT t) (dpS l)
end
theorem dpS_append:∀ (l m:List Tr),dpS (l ++ m)=max (dpS l) (dpS m)
 | [],m=>by simp [dpS]
 | t :: l,m=>by rw [List.cons_append,dpS,dpS,dpS_append l m];omega
theorem dpS_take (l:List Tr) (m:Nat) (x:Tr) (h:l[m]? = some x):dpS (l.take (m+1))=max (dpS (l.take m)) (dpT x):=by
 rw [List.take_add_one,h,Option.toList_some,dpS_append,dpS,dpS];omega
theorem dpT_le_dpS {l:List Tr} {x:Tr} (h:x ∈ l):dpT x ≤ dpS l:=by
 induction l with
 | nil=>cases h
 | cons a l ih =>
   rw [dpS]
   rcases List.mem_cons.1 h with rfl | h
   · omega
   · have:=ih h;omega
end Tr
end Go.Proofs.YtnaoiglbjkjogaaDoor
namespace Go.Proofs.YtnaoiglbjkjogaaDoor
open Go.RowKit
theorem allTen {w:World} {b:Nat} {x0 x1 x2 x3 x4 x5 x6 x7 x8 x9:Value} {t:TypeId} (h:w.heap[b]? = some (.cells #[x0,x1,x2,x3,x4,x5,x6,x7,x8,x9] t)):w.cell? ⟨b,0,none⟩=some x0∧w.cell? ⟨b,1,none⟩=some x1∧w.cell? ⟨b,2,none⟩=some x2∧w.cell? ⟨b,3,none⟩=some x3∧w.cell? ⟨b,4,none⟩=some x4∧w.cell? ⟨b,5,none⟩=some x5∧w.cell? ⟨b,6,none⟩=some x6∧w.cell? ⟨b,7,none⟩=some x7∧w.cell? ⟨b,8,none⟩=some x8∧w.cell? ⟨b,9,none⟩=some x9:=by
 simp [World.cell?,h]
theorem Tr.dpT_eq (t:Tr):t.dpT=if t.subs.length=0 then 1 else Tr.dpS t.subs+(if t.kind=8∧¬ (t.least=0∧(t.most=1 ∨ t.most = -1)) then 2 else 1):=by
 cases t;rw [Tr.dpT];rfl
theorem treedepth_any:∀ t:Tr,t.dpT ≤ 1000000→∀ (w:World) (B:Nat→Prop) (v:Value),NodeV w B v t→Calls Tryd.prog 47 #[v] w (SizeEnd t.dpT w):=by
 intro t
 induction t using Tr.rec_subs with
 | h t ih =>
   intro hd w B v hv
   obtain ⟨s,rfl,hs⟩:=hv
   obtain ⟨p,cap,rfl,hlen⟩:=hs.slice
   have heq:=Tr.dpT_eq t
   rw [heq] at hd ⊢
   have HST:=Lib.hid (fun w'=>stays_is t (.slice p t.subs.length cap) ⟨_,_,_,rfl⟩ _ rfl w')
   clear heq
   generalize hts:t.subs=ts at *
   have HTS:=Lib.hid hts;have IH:=Lib.hid ih;have HS:=Lib.hid hs
   clear ih hs hts
   unfold Tr.cells at *
   by_cases h0:ts.length=0
   · rw [if_pos h0]
     rw [h0]
     clear hd hlen HST HTS IH HS
     go_enter Tryd.func47,Tryd.ntmps47
     go_wp2
     go_ret
     exact ⟨rfl,by go_grown⟩
   · rw [if_neg h0] at hd ⊢
     generalize hD:Tr.dpS ts+(if t.kind=8∧¬ (t.least=0∧(t.most=1 ∨ t.most = -1)) then 2 else 1)=D at hd ⊢
     have HD:=Lib.hid (show D ≤ 1000000∧Tr.dpS ts+1 ≤ D∧D ≤ Tr.dpS ts+2 from ⟨hd,by rw [← hD];split <;> omega,by rw [← hD];split <;> omega⟩)
     have HDE:=Lib.hid hD
     have e0:((ts.length:Int) == 0)=false:=by simpa using h0
     have e0':(ts.length == 0)=false:=by simpa using h0
     have Z0:=Lib.hid (heap_alloc_new w (.cells #[.int .i64 t.kind,.int .u64 (Oc.U t.w0),.int .u64 (Oc.U t.w1),.int .u64 (Oc.U t.w2),.int .u64 (Oc.U t.w3),.slice p ts.length cap,.int .i64 t.num,.int .i64 t.least,.int .i64 t.most,.bool t.bare] 37))
     have HW:=Lib.hid (show Below w.heap.size w (w.alloc (.cells #[.int .i64 t.kind,.int .u64 (Oc.U t.w0),.int .u64 (Oc.U t.w1),.int .u64 (Oc.U t.w2),.int .u64 (Oc.U t.w3),.slice p ts.length cap,.int .i64 t.num,.int .i64 t.least,.int .i64 t.most,.bool t.bare] 37)) from (Below.refl _ _).alloc (Nat.le_refl _) _)
     have hz:w.heap.size < (w.alloc (.cells #[.int .i64 t.kind,.int .u64 (Oc.U t.w0),.int .u64 (Oc.U t.w1),.int .u64 (Oc.U t.w2),.int .u64 (Oc.U t.w3),.slice p ts.length cap,.int .i64 t.num,.int .i64 t.least,.int .i64 t.most,.bool t.bare] 37)).heap.size:=by simp
     clear hd h0 hD
     go_enter Tryd.func47,Tryd.ntmps47
     go_wp2
     generalize w.alloc (.cells #[.int .i64 t.kind,.int .u64 (Oc.U t.w0),.int .u64 (Oc.U t.w1),.int .u64 (Oc.U t.w2),.int .u64 (Oc.U t.w3),.slice p ts.length cap,.int .i64 t.num,.int .i64 t.least,.int .i64 t.most,.bool t.bare] 37)=W0 at *
     go_loopw [3,13] (fun gv iv wr=>∃ m:Nat,iv=.int .i64 m∧m ≤ ts.length∧gv=.int .i64 (Tr.dpS (ts.take m):Nat)∧Hid (Below W0.heap.size W0 wr)) (fun _ iv _=>ts.length - (intOf iv).toNat)
     case atStart=>exact ⟨0,rfl,Nat.zero_le _,rfl,Lib.hid (Below.refl _ _)⟩
     case round =>
       obtain ⟨m,rfl,hm,rfl,HB⟩:=hrel
       have wm:IntKind.i64.wrap ((m:Int)+1)=(m:Int)+1:=IntWalk.i64_in _ (by omega)
       have HBW:=Lib.hid (HW.out.trans (HB.out.mono HW.out.size))
       by_cases hlt:m < ts.length
       · obtain ⟨x,hx⟩:∃ x,ts[m]? = some x:=⟨_,List.getElem?_eq_getElem hlt⟩
         obtain ⟨b1,o1,s1,rfl,-,t1,sub1⟩:=HS.out.get hx
         obtain ⟨d0,d1,d2,d3,d4,d5,d6,d7,d8,d9⟩:=t1.keep (HBW.out.block _ t1.lt)
         have hmem:=List.mem_of_getElem? hx
         obtain ⟨p1,c1,rfl,hl1⟩:=sub1.slice
         have hdx:x.dpT ≤ 1000000:=by have:=Tr.dpT_le_dpS hmem;have:=HD.out;omega
         have HC:=Lib.hid (fun w9 hb=>IH.out x hmem hdx w9 B (.agg (x.cells (.slice p1 x.subs.length c1))) ⟨_,rfl,sub1.later hb⟩)
         have HSTP:=Lib.hid (Tr.dpS_take ts m x hx)
         clear t1 sub1 hmem hx hdx
         generalize hn:Tr.dpS (ts.take m)=n at *
         clear hn
         unfold Tr.cells at HC
         go_wp2_with fail
         generalize hw1:World.alloc wr _=w1
         have hb1:Below wr.heap.size wr w1:=by rw [← hw1];exact (Below.refl _ _).alloc (Nat.le_refl _) _
         clear hw1
         refine (HC.out w1 (HBW.out.trans (hb1.mono HBW.out.size))).mono ?_
         rintro e w2 ⟨rfl,hb2⟩
         have HB2:=Lib.hid (HB.out.trans ((hb1.trans (hb2.mono hb1.size)).mono HB.out.size))
         clear d0 d1 d2 d3 d4 d5 d6 d7 d8 d9 hb1 hb2 HC
         generalize x.dpT=N at *
         go_wp2
         all_goals
           exact ⟨⟨m+1,by go_num,by omega,by rw [HSTP.out];simp;try omega,HB2⟩,by simp [intOf];omega⟩
       · obtain rfl:m=ts.length:=by omega
         rw [List.take_length] at *
         have Z1:=Lib.hid (keep_blk (HB.out.mono (Nat.le_refl _)) Z0.out)
         have hdp:=HD.out
         have w2':IntKind.i64.wrap ((Tr.dpS ts:Int)+2)=(Tr.dpS ts:Int)+2:=IntWalk.i64_in _ (by omega)
         have w1':IntKind.i64.wrap ((Tr.dpS ts:Int)+1)=(Tr.dpS ts:Int)+1:=IntWalk.i64_in _ (by omega)
         have hde:=HDE.out
         clear hdp
         obtain ⟨d0,d1,d2,d3,d4,d5,d6,d7,d8,d9⟩:=allTen Z1.out
         by_cases h8:t.kind=8
         · rw [h8] at HST Z1 HDE d0 hde
           by_cases hst:t.least=0∧(t.most=1 ∨ t.most = -1)
           · have hst':decide (t.least=0∧(t.most=1 ∨ t.most = -1))=true:=by simpa using hst
             rw [hst'] at HST
             rw [if_neg (by intro h;exact h.2 hst)] at hde
             have HDF:=Lib.hid hde
             clear hst hst' hde
             go_wp2_with fail
             refine (HST.out _).mono ?_
             rintro e w5 ⟨rfl,hb5⟩
             have HB5:=Lib.hid (HBW.out.trans (hb5.mono HBW.out.size))
             clear hb5
             go_wp2
             go_ret
             exact ⟨ret_int (by have:=HDF.out;omega),HB5.out⟩
           · have hst':decide (t.least=0∧(t.most=1 ∨ t.most = -1))=false:=by simpa using hst
             rw [hst'] at HST
             rw [if_pos ⟨rfl,hst⟩] at hde
             have HDF:=Lib.hid hde
             clear hst hst' hde
             go_wp2_with fail
             refine (HST.out _).mono ?_
             rintro e w5 ⟨rfl,hb5⟩
             have HB5:=Lib.hid (HBW.out.trans (hb5.mono HBW.out.size))
             clear hb5
             go_wp2
             go_ret
             exact ⟨ret_int (by have:=HDF.out;omega),HB5.out⟩
         · rw [if_neg (by intro h;exact h8 h.1)] at hde
           have e8:(t.kind == 8)=false:=by simpa using h8
           have HDF:=Lib.hid hde
           clear h8 hde
           go_wp2
           go_ret
           exact ⟨ret_int (by have:=HDF.out;omega),HBW.out⟩
end Go.Proofs.YtnaoiglbjkjogaaDoor
namespace Go.Proofs.YtnaoiglbjkjogaaDoor
open Go.RowKit
namespace Tr
mutual
def ndT:Tr→Nat
 | .node _ _ _ _ _ s _ _ _ _=>1+ndS s
def ndS:List Tr→Nat
 | []=>0
 | t :: l=>ndT t+ndS l
end
theorem ndT_eq (t:Tr):t.ndT=1+ndS t.subs:=by cases t;rw [ndT];rfl
mutual
def leftT:Tr→Int→Int
 | .node _ _ _ _ _ s _ _ _ _,m=>leftS s (m - 1)
def leftS:List Tr→Int→Int
 | [],m=>m
 | t :: l,m=>if 0 ≤ m then leftS l (leftT t m) else m
end
theorem leftT_eq (t:Tr) (m:Int):t.leftT m=leftS t.subs (m - 1):=by cases t;rw [leftT];rfl
theorem leftS_neg (l:List Tr) {m:Int} (h:m < 0):leftS l m=m:=by
 cases l with
 | nil=>rfl
 | cons t l=>rw [leftS,if_neg (by omega)]
theorem leftS_spec:∀ (l:List Tr),(∀ t,t ∈ l→∀ m,0 ≤ m→t.leftT m ≤ m∧-1 ≤ t.leftT m∧(0 ≤ t.leftT m→t.leftT m=m - t.ndT)∧((t.ndT:Int) ≤ m→0 ≤ t.leftT m))→∀ m,-1 ≤ m→leftS l m ≤ m∧-1 ≤ leftS l m∧(0 ≤ leftS l m→leftS l m=m - ndS l)∧(0 ≤ m→(ndS l:Int) ≤ m→0 ≤ leftS l m)
 | [],_,m,hm=>by rw [leftS,ndS];exact ⟨Int.le_refl _,hm,fun _=>by omega,fun h _=>h⟩
 | t :: l,ih,m,hm=>by
   rw [leftS,ndS]
   split
   · rename_i h0
     obtain ⟨h1,h2,h3,h4⟩:=ih t List.mem_cons_self m h0
     obtain ⟨k1,k2,k3,k4⟩:=leftS_spec l (fun u hu=>ih u (List.mem_cons_of_mem _ hu)) (t.leftT m) h2
     refine ⟨by omega,k2,fun h=>?_,fun _ h=>?_⟩
     · have:=h3 (by omega)
       have:=k3 h
       omega
     · have a:=h4 (by omega)
       have b:=h3 a
       exact k4 a (by omega)
   · rename_i h0
     exact ⟨Int.le_refl _,hm,fun h=>absurd h h0,fun h=>absurd h h0⟩
theorem leftT_spec:∀ (t:Tr) (m:Int),0 ≤ m→t.leftT m ≤ m∧-1 ≤ t.leftT m∧(0 ≤ t.leftT m→t.leftT m=m - t.ndT)∧((t.ndT:Int) ≤ m→0 ≤ t.leftT m):=by
 intro t
 induction t using Tr.rec_subs with
 | h t ih =>
   intro m hm
   rw [leftT_eq,ndT_eq]
   obtain ⟨k1,k2,k3,k4⟩:=leftS_spec t.subs (fun u hu=>ih u hu) (m - 1) (by omega)
   exact ⟨by omega,k2,fun h=>by have:=k3 h;omega,fun h=>k4 (by omega) (by omega)⟩
end Tr
theorem numleft_any:∀ t:Tr,∀ m0:Nat,m0 ≤ 1000000→∀ (w:World) (B:Nat→Prop) (v:Value),NodeV w B v t→Calls Tryd.prog 56 #[v,.int .i64 m0] w fun e w'=>e=.returned (.int .i64 (t.leftT m0))∧Below w.heap.size w w':=by
 intro t
 induction t using Tr.rec_subs with
 | h t ih =>
   intro m0 hm0 w B v hv
   obtain ⟨s,rfl,hs⟩:=hv
   obtain ⟨p,cap,rfl,hlen⟩:=hs.slice
   have hsp:=Tr.leftS_spec t.subs (fun u _=>Tr.leftT_spec u)
   rw [Tr.leftT_eq]
   generalize hts:t.subs=ts at *
   have IH:=Lib.hid ih;have HS:=Lib.hid hs;have HSP:=Lib.hid hsp
   clear ih hs hts hsp
   unfold Tr.cells at *
   obtain ⟨R,hR⟩:∃ R,Tr.leftS ts ((m0:Int) - 1)=R:=⟨_,rfl⟩
   rw [hR]
   have HR:=Lib.hid hR
   clear hR
   have w0:IntKind.i64.wrap ((m0:Int) - 1)=(m0:Int) - 1:=IntWalk.i64_in _ (by omega)
   have Z0:=Lib.hid (heap_alloc_new w (.cells #[.int .i64 t.kind,.int .u64 (Oc.U t.w0),.int .u64 (Oc.U t.w1),.int .u64 (Oc.U t.w2),.int .u64 (Oc.U t.w3),.slice p ts.length cap,.int .i64 t.num,.int .i64 t.least,.int .i64 t.most,.bool t.bare] 37))
   have HW:=Lib.hid (show Below w.heap.size w (w.alloc (.cells #[.int .i64 t.kind,.int .u64 (Oc.U t.w0),.int .u64 (Oc.U t.w1),.int .u64 (Oc.U t.w2),.int .u64 (Oc.U t.w3),.slice p ts.length cap,.int .i64 t.num,.int .i64 t.least,.int .i64 t.most,.bool t.bare] 37)) from (Below.refl _ _).alloc (Nat.le_refl _) _)
   go_enter Tryd.func56,Tryd.ntmps56
   go_wp2
   generalize w.alloc (.cells #[.int .i64 t.kind,.int .u64 (Oc.U t.w0),.int .u64 (Oc.U t.w1),.int .u64 (Oc.U t.w2),.int .u64 (Oc.U t.w3),.slice p ts.length cap,.int .i64 t.num,.int .i64 t.least,.int .i64 t.most,.bool t.bare] 37)=W0 at *
   go_loopw [1,5] (fun mv iv wr=>∃ (i:Nat) (m:Int),iv=.int .i64 i∧mv=.int .i64 m∧i ≤ ts.length∧-1 ≤ m∧m ≤ 1000000∧Hid (Tr.leftS (ts.drop i) m=R)∧Hid (Below W0.heap.size W0 wr)) (fun _ iv _=>ts.length - (intOf iv).toNat)
   case atStart=>exact ⟨0,(m0:Int) - 1,rfl,rfl,Nat.zero_le _,by omega,by omega,by rw [List.drop_zero];exact HR,Lib.hid (Below.refl _ _)⟩
   case round =>
     obtain ⟨i,m,rfl,rfl,hi,hm1,hm2,HL,HB⟩:=hrel
     have wi:IntKind.i64.wrap ((i:Int)+1)=(i:Int)+1:=IntWalk.i64_in _ (by omega)
     have HBW:=Lib.hid (HW.out.trans (HB.out.mono HW.out.size))
     have Z1:=Lib.hid (keep_blk (HB.out.mono (Nat.le_refl _)) Z0.out)
     obtain ⟨d0,d1,d2,d3,d4,d5,d6,d7,d8,d9⟩:=allTen Z1.out
     by_cases hlt:i < ts.length
     · by_cases hmz:0 ≤ m
       · obtain ⟨mn,rfl⟩:∃ mn:Nat,m=mn:=⟨m.toNat,by omega⟩
         have gm:decide ((0:Int) ≤ (mn:Int))=true:=by simp
         obtain ⟨x,hx⟩:∃ x,ts[i]? = some x:=⟨_,List.getElem?_eq_getElem hlt⟩
         obtain ⟨b1,o1,s1,rfl,-,t1,sub1⟩:=HS.out.get hx
         obtain ⟨e0,e1,e2,e3,e4,e5,e6,e7,e8,e9⟩:=t1.keep (HBW.out.block _ t1.lt)
         have hmem:=List.mem_of_getElem? hx
         obtain ⟨p1,c1,rfl,hl1⟩:=sub1.slice
         have HC:=Lib.hid (IH.out x hmem mn (by omega) wr B (.agg (x.cells (.slice p1 x.subs.length c1))) ⟨_,rfl,sub1.later HBW.out⟩)
         have hdr:ts.drop i=x :: ts.drop (i+1):=by
           rw [List.drop_eq_getElem_cons hlt,(List.getElem?_eq_some_iff.1 hx).2]
         have hl:=HL.out
         rw [hdr,Tr.leftS,if_pos (by omega)] at hl
         have HL2:=Lib.hid hl
         obtain ⟨k1,k2,-,-⟩:=Tr.leftT_spec x mn (by omega)
         clear t1 sub1 hmem hx hdr hl HL
         unfold Tr.cells at HC
         go_wp2_with fail
         refine HC.out.mono ?_
         rintro e w2 ⟨rfl,hb2⟩
         have HB2:=Lib.hid (HB.out.trans (hb2.mono HB.out.size))
         generalize x.leftT mn=mm at *
         clear e0 e1 e2 e3 e4 e5 e6 e7 e8 e9 hb2 HC d0 d1 d2 d3 d4 d5 d6 d7 d8 d9
         go_wp2
         exact ⟨⟨i+1,mm,by go_num,rfl,by omega,k2,by omega,HL2,HB2⟩,by simp [intOf];omega⟩
       · have gm:decide ((0:Int) ≤ m)=false:=by simp;omega
         have hl:=HL.out
         rw [Tr.leftS_neg _ (by omega)] at hl
         have HL2:=Lib.hid hl
         clear hl HL hmz
         go_wp2
         go_ret
         exact ⟨ret_int HL2.out,HBW.out⟩
     · obtain rfl:i=ts.length:=by omega
       have hl:=HL.out
       rw [List.drop_length,Tr.leftS] at hl
       have HL2:=Lib.hid hl
       clear hl HL
       go_wp2
       go_ret
       exact ⟨ret_int HL2.out,HBW.out⟩
theorem few_any (t:Tr) (m:Nat) (hm:m ≤ 1000000) (w:World) (B:Nat→Prop) (v:Value) (hv:NodeV w B v t) :
   Calls Tryd.prog 28 #[v,.int .i64 m] w fun e w'=>e=.returned (.bool (decide (t.ndT ≤ m)))∧Below w.heap.size w w':=by
 obtain ⟨s,rfl,hs⟩:=hv
 have H1:=Lib.hid (fun w' (hb:Below w.heap.size w w')=>numleft_any t m hm w' B (.agg (t.cells s)) ⟨s,rfl,TreesAt.later (w':=w') hs hb⟩)
 obtain ⟨p,cap,rfl,hlen⟩:=hs.slice
 have hsp:=Tr.leftT_spec t m (by omega)
 have hdec:decide ((0:Int) ≤ t.leftT m)=decide (t.ndT ≤ m):=by
   by_cases h:t.ndT ≤ m
   · rw [decide_eq_true h,decide_eq_true (hsp.2.2.2 (by omega))]
   · rw [decide_eq_false h,decide_eq_false (fun h2=>h (by have:=hsp.2.2.1 h2;omega))]
 have HD:=Lib.hid hdec
 have Z0:=Lib.hid (heap_alloc_new w (.cells (t.cells (.slice p t.subs.length cap)) 37))
 have HW:=Lib.hid (show Below w.heap.size w (w.alloc (.cells (t.cells (.slice p t.subs.length cap)) 37)) from (Below.refl _ _).alloc (Nat.le_refl _) _)
 clear hs hsp hdec
 unfold Tr.cells at *
 go_enter Tryd.func28,Tryd.ntmps28
 go_wp2_with (first
   | (refine wpList_load_row rfl 37 (.tmp 2) rfl w.heap.size rfl 37 _ (0,0) _ Z0.out Tryd.underlying37 rfl (by kernel_rfl) ?_)
   | fail)
 refine (H1.out _ HW.out).mono ?_
 rintro e w1 ⟨rfl,hb1⟩
 have HB1:=Lib.hid (HW.out.trans (hb1.mono HW.out.size))
 clear hb1
 generalize t.leftT m=mm at *
 go_wp2
 go_ret
 exact ⟨ret_bool HD.out,HB1.out⟩
end Go.Proofs.YtnaoiglbjkjogaaDoor
namespace Go.Proofs.YtnaoiglbjkjogaaDoor
open Go.RowKit
def ptC (t:Tr) (s:Value) (f:Bool):Array Value:=#[.int .i64 t.kind,.int .i64 t.num,s,.bool f]
structure FourP (w:World) (b o:Nat) (t:Tr) (s:Value) (f:Bool):Prop where
 c0:w.cell? ⟨b,o,none⟩=some (.int .i64 t.kind)
 c1:w.cell? ⟨b,o+1,none⟩=some (.int .i64 t.num)
 c2:w.cell? ⟨b,o+2,none⟩=some s
 c3:w.cell? ⟨b,o+3,none⟩=some (.bool f)
theorem FourP.keep {w w':World} {b o:Nat} {t:Tr} {s:Value} {f:Bool} (h:FourP w b o t s f) (hk:w'.heap[b]? = w.heap[b]?):FourP w' b o t s f:=by
 have e:∀ k,w'.cell? ⟨b,k,none⟩=w.cell? ⟨b,k,none⟩:=fun k=>by unfold World.cell?;rw [hk]
 exact ⟨(e _).trans h.c0,(e _).trans h.c1,(e _).trans h.c2,(e _).trans h.c3⟩
inductive PtsAt (w:World) (B:Nat→Prop):Value→List Tr→Prop
 | nil (p:Option Addr) (cap:Nat):PtsAt w B (.slice p 0 cap) []
 | row (g cap:Nat) (ts:List Tr) (S:Nat→Value) (F:Nat→Bool) (hlen:ts.length ≤ 2932031007402) (hg:B g) (hf:∃ cs ty,w.heap[g]? = some (.cells cs ty (0,0)))
     (hc:∀ i t,ts[i]? = some t→FourP w g (i * 4) t (S i) (F i)∧(F i=true→Rk.nums t=[])) (hs:∀ i t,ts[i]? = some t→PtsAt w B (S i) t.subs) :
     PtsAt w B (.slice (some ⟨g,0,none⟩) ts.length cap) ts
theorem PtsAt.keep {w w':World} {B:Nat→Prop} {s:Value} {ts:List Tr} (h:PtsAt w B s ts) (hk:∀ b,b < w.heap.size→B b→w'.heap[b]? = w.heap[b]?):PtsAt w' B s ts:=by
 induction h with
 | nil p cap=>exact .nil p cap
 | row g cap ts S F hlen hg hf hc hs ih =>
   have hlt:g < w.heap.size:=by obtain ⟨cs,ty,h⟩:=hf;exact (Array.getElem?_eq_some_iff.1 h).1
   refine .row g cap ts S F hlen hg ?_ (fun i t hi=>⟨(hc i t hi).1.keep (hk g hlt hg),(hc i t hi).2⟩) (fun i t hi=>ih i t hi)
   obtain ⟨cs,ty,h⟩:=hf
   exact ⟨cs,ty,(hk g hlt hg).trans h⟩
theorem PtsAt.later {w w':World} {B:Nat→Prop} {s:Value} {ts:List Tr} (h:PtsAt w B s ts) (hb:Below w.heap.size w w'):PtsAt w' B s ts:=h.keep fun b hb' _=>hb.block b hb'
theorem PtsAt.mono {w:World} {B B':Nat→Prop} {s:Value} {ts:List Tr} (h:PtsAt w B s ts) (hB:∀ b,b < w.heap.size→B b→B' b):PtsAt w B' s ts:=by
 induction h with
 | nil p cap=>exact .nil p cap
 | row g cap ts S F hlen hg hf hc hs ih =>
   have hlt:g < w.heap.size:=by obtain ⟨cs,ty,h⟩:=hf;exact (Array.getElem?_eq_some_iff.1 h).1
   exact .row g cap ts S F hlen (hB g hlt hg) hf hc (fun i t hi=>ih i t hi)
theorem PtsAt.slice {w:World} {B:Nat→Prop} {s:Value} {ts:List Tr} (h:PtsAt w B s ts):∃ p cap,s=.slice p ts.length cap:=by
 cases h with
 | nil p cap=>exact ⟨p,cap,rfl⟩
 | row g cap _ S F=>exact ⟨_,cap,rfl⟩
def rowP (ps:List (Tr × Value × Bool)):List Value:=ps.flatMap fun x=>(ptC x.1 x.2.1 x.2.2).toList
theorem rowP_snoc (ps:List (Tr × Value × Bool)) (t:Tr) (s:Value) (f:Bool):rowP (ps ++ [(t,s,f)])=rowP ps ++ (ptC t s f).toList:=by
 unfold rowP;simp
theorem rowP_length (ps:List (Tr × Value × Bool)):(rowP ps).length=ps.length * 4:=by
 unfold rowP
 induction ps with
 | nil=>rfl
 | cons x ps ih=>rw [List.flatMap_cons,List.length_append,ih];simp [ptC];omega
theorem rowP_get:∀ (ps:List (Tr × Value × Bool)) (i:Nat) (t:Tr) (s:Value) (f:Bool),ps[i]? = some (t,s,f)→∀ j,j < 4→(rowP ps)[i * 4+j]? = (ptC t s f)[j]?
 | [],i,t,s,f,h,_,_=>by simp at h
 | x :: ps,0,t,s,f,h,j,hj=>by
   simp only [List.getElem?_cons_zero,Option.some.injEq] at h
   subst h
   unfold rowP
   rw [List.flatMap_cons,Nat.zero_mul,Nat.zero_add,List.getElem?_append_left (by simp [ptC];omega)]
   simp
 | x :: ps,i+1,t,s,f,h,j,hj=>by
   have ih:=rowP_get ps i t s f (by simpa using h) j hj
   unfold rowP at ih ⊢
   rw [List.flatMap_cons,List.getElem?_append_right (by simp [ptC];omega)]
   rw [← ih]
   congr 1
   simp [ptC];omega
theorem parts_of_row {w:World} {base:Nat} {B B':Nat→Prop} {v:Value} {n:Nat} {ps:List (Tr × Value × Bool)} (h:w.ownsRow base 107 4 v n (rowP ps)) (hn:ps.length ≤ 2932031007402)
   (hs:∀ (i:Nat) (t:Tr) (s:Value) (f:Bool),ps[i]? = some (t,s,f)→PtsAt w B s t.subs∧(f=true→Rk.nums t=[])) (hB:∀ b,B b→B' b) (hg:∀ g,v.ownBlock=some g→B' g):PtsAt w B' v (ps.map (·.1)):=by
 have hlen:ps.length=n:=by have:=h.1;rw [rowP_length] at this;omega
 have hcells:=fun g hv=>World.ownsRow.cells h (g:=g) hv
 rcases h.2 with ⟨rfl,hn0⟩ | ⟨g,cap,cur,rfl,hbg,hheap,-⟩
 · have:ps=[]:=List.length_eq_zero_iff.1 (by omega)
   subst this
   exact .nil _ _
 · have hc:=hcells g rfl
   have key:∀ (i:Nat) (t:Tr) (s:Value) (f:Bool),ps[i]? = some (t,s,f)→FourP w g (i * 4) t s f:=by
     intro i t s f hi
     have get:∀ j u,j < 4→(ptC t s f)[j]? = some u→w.cell? ⟨g,i * 4+j,none⟩=some u:=by
       intro j u hj hu
       have:=hc (i * 4+j) u (by rw [rowP_get ps i t s f hi j hj];exact hu)
       have ea:(⟨g,0,none⟩:Addr).add (i * 4+j)=⟨g,i * 4+j,none⟩:=by unfold Addr.add;split <;> simp_all <;> omega
       rw [ea] at this;exact this
     exact ⟨get 0 _ (by omega) rfl,get 1 _ (by omega) rfl,get 2 _ (by omega) rfl,get 3 _ (by omega) rfl⟩
   have hl2:n=(ps.map (·.1)).length:=by rw [List.length_map];omega
   rw [hl2]
   have split:∀ (i:Nat) (t:Tr),(ps.map (·.1))[i]? = some t→∃ s f,ps[i]? = some (t,s,f):=by
     intro i t hi
     rw [List.getElem?_map] at hi
     cases hx:ps[i]? with
     | none=>rw [hx] at hi;cases hi
     | some x=>obtain ⟨a,b,c⟩:=x;rw [hx] at hi;simp only [Option.map_some,Option.some.injEq] at hi;subst hi;exact ⟨b,c,rfl⟩
   refine .row g cap (ps.map (·.1)) (fun i=>((ps[i]?).map (·.2.1)).getD undef) (fun i=>((ps[i]?).map (·.2.2)).getD false) (by rw [List.length_map];exact hn) (hg g rfl) ⟨_,_,hheap⟩ (fun i t hi=>?_) (fun i t hi=>?_)
   · obtain ⟨s,f,hs'⟩:=split i t hi
     simp only [hs',Option.map_some,Option.getD_some]
     exact ⟨key i t s f hs',(hs i t s f hs').2⟩
   · obtain ⟨s,f,hs'⟩:=split i t hi
     simp only [hs',Option.map_some,Option.getD_some]
     exact (hs i t s f hs').1.mono fun b _ hb=>hB b hb
def PtEnd (t:Tr) (w:World) (e:Ending) (w':World):Prop:=∃ s f,e=.returned (.agg (ptC t s f))∧PtsAt w' (fun b=>w.heap.size ≤ b) s t.subs∧(f=true→Rk.nums t=[])∧Below w.heap.size w w'
theorem Tryd.infoPart:(Tryd.prog.info? 107).map (fun i=>(i.zero,i.size,i.bytes))=some (some (.agg #[.int .i64 0,.int .i64 0,.slice none 0 0,.bool false]),4,48):=by kernel_rfl
theorem wpList_part1 {ops:Array Oper} {rest:List Oper} {o:Oper} {a:Act} {w:World} {Q:Exit→Act→World→Prop} (hgd:o.guard=none) (x:Operand) (t:Tr) (p:Option Addr) (len cap:Nat) (f:Bool) (ho:o.op=.buildSlice 105 1 #[(0,x)]) (hx:a.eval x=.agg (ptC t (.slice p len cap) f))
   (h:wpList Tryd.prog ops Q rest (a.put o.dst (.slice (some ⟨w.heap.size,0,none⟩) 1 1)) (w.alloc (.cells (ptC t (.slice p len cap) f) 107))):wpList Tryd.prog ops Q (o :: rest) a w:=by
 refine wpList_plain hgd fun K hK=>?_
 obtain ⟨ie,hi,hz0,hz1,-⟩:=info_parts Tryd.infoPart
 refine wp_buildSlice 105 107 1 _ ho _ ie _ Tryd.underlying105 hi hz0 (by rw [hz1];decide) (by rw [hz1];decide) ?_ (hK _ _ h)
 rw [hz1]
 simp only [List.map_toArray,List.map_cons,List.map_nil,hx]
 kernel_rfl
theorem parts_step {w3 w4:World} {base:Nat} {v v':Value} {s:Value} {ts:List Tr} (h:PtsAt w3 (fun b=>base ≤ b∧v.ownBlock ≠ some b) s ts) (hg:w3.grownBy w4 v.ownBlock) (hw:v'.ownBlock=v.ownBlock ∨ v'.ownBlock=some w3.heap.size) :
   PtsAt w4 (fun b=>base ≤ b∧v'.ownBlock ≠ some b) s ts:=by
 have h1:PtsAt w3 (fun b=>(base ≤ b∧v.ownBlock ≠ some b)∧v'.ownBlock ≠ some b) s ts:=h.mono fun b hb hB=>⟨hB,by
   rcases hw with e | e
   · rw [e];exact hB.2
   · rw [e];intro h;have:=Option.some.inj h;omega⟩
 exact (h1.keep (w':=w4) fun b hb hB=>hg.block b hb (fun e=>hB.1.2 e.symm)).mono fun b _ hB=>⟨hB.1.1,hB.2⟩
end Go.Proofs.YtnaoiglbjkjogaaDoor
namespace Go.Proofs.YtnaoiglbjkjogaaDoor
open Go.RowKit
theorem drewN_bl {B:Nat} {w w1:World} (h:Below B w w1) (n:Nat):Below B w (w1.drewN n):=⟨h.os,by simpa using h.tape,h.output,h.size,h.block⟩
theorem rktaker_any (k pk:Int) (i:Nat) (w:World):Calls Tryd.prog 95 #[.int .i64 k,.int .i64 pk,.int .i64 (i:Int)] w fun e w'=>e=.returned (.int .i64 (Rk.taker k pk i))∧w'=w:=by
 unfold Rk.taker
 by_cases h5:k=5
 · subst h5
   rw [if_pos rfl]
   go_enter Tryd.func95,Tryd.ntmps95
   go_wp2
   go_ret
   exact ⟨rfl,rfl⟩
 · rw [if_neg h5]
   have e5:(k == 5)=false:=by simpa using h5
   by_cases h6:k=6
   · subst h6
     rw [if_pos rfl]
     go_enter Tryd.func95,Tryd.ntmps95
     go_wp2
     go_ret
     exact ⟨rfl,rfl⟩
   · rw [if_neg h6]
     have e6:(k == 6)=false:=by simpa using h6
     go_enter Tryd.func95,Tryd.ntmps95
     go_wp2
     go_ret
     exact ⟨rfl,rfl⟩
theorem rkempty_any (lo hi pk:Int) (s:Value) (w:World):Calls Tryd.prog 119 #[.agg #[.int .i64 lo,.int .i64 hi,.int .i64 pk,s]] w fun e w'=>e=.returned (.bool (lo == hi))∧Below w.heap.size w w':=by
 go_enter Tryd.func119,Tryd.ntmps119
 go_wp2
 go_ret
 exact ⟨rfl,by go_grown⟩
theorem rkinsc_any (x:Sc) (b:Nat) (lo hi pk:Int) (s:Value) (w:World) (hx:ScAt w b x):Calls Tryd.prog 118 #[.pointer (some ⟨b,0,none⟩),.agg #[.int .i64 lo,.int .i64 hi,.int .i64 pk,s]] w fun e w'=>e=.returned (.bool (decide (0 ≤ lo) && (decide (lo ≤ hi) && decide (hi ≤ (x.t.size:Int)))))∧Below w.heap.size w w':=by
 have HX:=Lib.hid hx
 clear hx
 have HL:=Lib.hid (fun w9 (h:ScAt w9 b x)=>sclen_any x b w9 h)
 obtain ⟨R,hR⟩:∃ R,(decide (0 ≤ lo) && (decide (lo ≤ hi) && decide (hi ≤ (x.t.size:Int))))=R:=⟨_,rfl⟩
 rw [hR]
 have HR:=Lib.hid hR
 clear hR
 generalize x.t.size=n at *
 by_cases h0:0 ≤ lo
 · have d0:decide (0 ≤ lo)=true:=decide_eq_true h0
   by_cases h1:lo ≤ hi
   · have d1:decide (lo ≤ hi)=true:=decide_eq_true h1
     have HR2:=Lib.hid (show decide (hi ≤ (n:Int))=R by have:=HR.out;rw [d0,d1,Bool.true_and,Bool.true_and] at this;exact this)
     clear HR h0 h1
     go_enter Tryd.func118,Tryd.ntmps118
     go_wp2
     go_quiet ((go_at_call 81;exact Calls.quiet_of_same (HL.out _ (HX.out.alloc _))))
     go_wp2
     go_ret
     exact ⟨ret_bool HR2.out,drewN_bl ((Below.refl _ _).alloc (Nat.le_refl _) _) _⟩
   · have d1:decide (lo ≤ hi)=false:=decide_eq_false h1
     have HR2:=Lib.hid (show false=R by have:=HR.out;rw [d1,Bool.false_and,Bool.and_false] at this;exact this)
     clear HR h0 h1 HL
     go_enter Tryd.func118,Tryd.ntmps118
     go_wp2
     go_quiet (fail)
     go_wp2
     go_ret
     exact ⟨ret_bool HR2.out,drewN_bl ((Below.refl _ _).alloc (Nat.le_refl _) _) _⟩
 · have d0:decide (0 ≤ lo)=false:=decide_eq_false h0
   have HR2:=Lib.hid (show false=R by have:=HR.out;rw [d0,Bool.false_and] at this;exact this)
   clear HR h0 HL
   go_enter Tryd.func118,Tryd.ntmps118
   go_wp2
   go_quiet (fail)
   go_wp2
   go_ret
   exact ⟨ret_bool HR2.out,drewN_bl ((Below.refl _ _).alloc (Nat.le_refl _) _) _⟩
theorem rkbyte_any (x:Sc) (b:Nat) (a0 a1 a2 a3:BitVec 64) (lo hi pk:Int) (s:Value) (hlo:0 ≤ lo) (hhi:lo ≤ hi) (hn:hi ≤ (x.t.size:Int)) (hsz:x.t.size ≤ 4611686018427387904) (w:World) (hx:ScAt w b x) :
   Calls Tryd.prog 120 #[(.agg #[.int .u64 (Oc.U a0),.int .u64 (Oc.U a1),.int .u64 (Oc.U a2),.int .u64 (Oc.U a3)]),.pointer (some ⟨b,0,none⟩),.agg #[.int .i64 lo,.int .i64 hi,.int .i64 pk,s]] w fun e w'=>e=.returned (.bool (x.inn lo && (hi == lo+1 && Oc.mem a0 a1 a2 a3 (cb x.t lo.toNat))))∧Below w.heap.size w w':=by
 have HX:=Lib.hid hx
 clear hx
 have HB:=Lib.hid (fun w9 (h:ScAt w9 b x)=>scbyte_any x b lo w9 h)
 obtain ⟨R,hR⟩:∃ R,(x.inn lo && (hi == lo+1 && Oc.mem a0 a1 a2 a3 (cb x.t lo.toNat)))=R:=⟨_,rfl⟩
 rw [hR]
 have HR:=Lib.hid hR
 clear hR
 have wl:IntKind.i64.wrap (lo+1)=lo+1:=IntWalk.i64_in _ (by omega)
 have wl2:wrap64 (lo+1)=lo+1:=by unfold wrap64;omega
 by_cases hi1:x.inn lo=true
 · have hby:x.byt lo=((cb x.t lo.toNat:Nat):Int):=by unfold Sc.byt;rw [if_pos hi1]
   have HHAS:=Lib.hid (fun w9=>has_any a0 a1 a2 a3 (cb x.t lo.toNat) (by
     have:=hi1;unfold Sc.inn at this;simp only [Bool.and_eq_true,decide_eq_true_eq] at this
     exact cb_lt (by omega)) w9)
   rw [hi1,hby] at HB
   rw [hi1] at HR
   clear hby hi1
   generalize cb x.t lo.toNat=z at *
   clear hlo hhi hn hsz
   by_cases he:hi=lo+1
   · have e1:(hi == lo+1)=true:=by simpa using he
     have HR2:=Lib.hid (show Oc.mem a0 a1 a2 a3 z=R by have:=HR.out;rw [e1,Bool.true_and,Bool.true_and] at this;exact this)
     clear he HR
     go_enter Tryd.func120,Tryd.ntmps120
     go_wp2_with fail
     refine (HB.out _ (by first | exact (HX.out.alloc _).alloc _ | exact HX.out.alloc _)).mono ?_
     rintro e w9 ⟨rfl,rfl⟩
     go_wp2_with fail
     refine (HHAS.out _).mono ?_
     rintro e w9 ⟨rfl,hb9⟩
     have HB9:=Lib.hid (show Below w.heap.size w w9 from Below.trans (by go_grown) (hb9.mono (by simp;omega)))
     clear hb9
     go_wp2
     go_ret
     exact ⟨ret_bool HR2.out,HB9.out⟩
   · have e1:(hi == lo+1)=false:=by simpa using he
     have HR2:=Lib.hid (show false=R by have:=HR.out;rw [e1,Bool.false_and,Bool.and_false] at this;exact this)
     clear he HR
     go_enter Tryd.func120,Tryd.ntmps120
     go_wp2_with fail
     refine (HB.out _ (by first | exact (HX.out.alloc _).alloc _ | exact HX.out.alloc _)).mono ?_
     rintro e w9 ⟨rfl,rfl⟩
     go_wp2
     go_ret
     exact ⟨ret_bool HR2.out,by go_grown⟩
 · have e0:x.inn lo=false:=by simpa using hi1
   have HR2:=Lib.hid (show false=R by have:=HR.out;rw [e0,Bool.false_and] at this;exact this)
   rw [e0] at HB
   clear e0 hi1 HR hlo hhi hn hsz
   generalize x.byt lo=z at *
   go_enter Tryd.func120,Tryd.ntmps120
   go_wp2_with fail
   refine (HB.out _ (by first | exact (HX.out.alloc _).alloc _ | exact HX.out.alloc _)).mono ?_
   rintro e w9 ⟨rfl,rfl⟩
   go_wp2
   go_ret
   exact ⟨ret_bool HR2.out,by go_grown⟩
end Go.Proofs.YtnaoiglbjkjogaaDoor
namespace Go.Proofs.YtnaoiglbjkjogaaDoor
open Go.RowKit
def pw (n:Nat):Int:=((2 ^ n:Nat):Int)
theorem bit_of (x:BitVec 64) (n:Nat):(Oc.U x / pw n % 2 == 1)=x.getLsbD n:=by
 have e:Oc.U x / pw n % 2=((x.toNat / 2 ^ n % 2:Nat):Int):=by
   show (x.toNat:Int) / ((2 ^ n:Nat):Int) % 2=_
   omega
 rw [e,show x.getLsbD n=x.toNat.testBit n from rfl,Nat.testBit_eq_decide_div_mod_eq]
 generalize x.toNat / 2 ^ n % 2=m
 rw [Bool.eq_iff_iff,beq_iff_eq,decide_eq_true_iff];omega
end Go.Proofs.YtnaoiglbjkjogaaDoor
namespace Go.Proofs.YtnaoiglbjkjogaaDoor
open Go.RowKit
namespace Oc
def nxt (p:Nat→Bool):Nat→Nat→Nat
 | 0,f=>f
 | n+1,f=>if p f then f else nxt p n (f+1)
def nx (p:Nat→Bool) (f:Nat):Nat:=nxt p (256 - f) f
end Oc
theorem shr_word (x:BitVec 64) (k:Nat):Oc.U x / (2:Int) ^ k=Oc.U (x >>> k):=by
 rw [← Oc.shrU];congr 1
theorem U_zero {x:BitVec 64} : (Oc.U x=0)=(x=0#64):=by
 rw [eq_iff_iff];constructor
 · intro h;exact Oc.U_inj (y:=0#64) (by rw [h];decide)
 · rintro rfl;decide
end Go.Proofs.YtnaoiglbjkjogaaDoor
namespace Go.Proofs.YtnaoiglbjkjogaaDoor
open Go.RowKit
namespace Re
def Leads (n:Nat) (R:Nat→Nat→Prop) (F G:Nat→Bool):Prop:=∀ j,j ≤ n→(G j=true ↔ ∃ i,i ≤ n∧F i=true∧R i j)
theorem Leads.congr {n:Nat} {R S:Nat→Nat→Prop} {F G:Nat→Bool} (h:Leads n R F G) (hs:∀ i j,i ≤ n→(R i j ↔ S i j)):Leads n S F G:=fun j hj=>by
 rw [h j hj]
 constructor
 · rintro ⟨i,a,b,c⟩;exact ⟨i,a,b,(hs i j a).1 c⟩
 · rintro ⟨i,a,b,c⟩;exact ⟨i,a,b,(hs i j a).2 c⟩
theorem Leads.none {n:Nat} {R:Nat→Nat→Prop} {F G:Nat→Bool} (hF:∀ i,i ≤ n→F i=false) (hG:∀ i,i ≤ n→G i=false):Leads n R F G:=fun j hj=>by
 rw [hG j hj]
 constructor
 · intro h;exact absurd h (by decide)
 · rintro ⟨i,a,b,-⟩;rw [hF i a] at b;exact absurd b (by decide)
theorem Leads.self (n:Nat) (F:Nat→Bool):Leads n (fun i j=>i=j) F F:=fun j hj=>by
 constructor
 · intro h;exact ⟨j,hj,h,rfl⟩
 · rintro ⟨i,-,b,rfl⟩;exact b
theorem Leads.trans {n:Nat} {R S:Nat→Nat→Prop} {F G H:Nat→Bool} (hR:Tk.On n R) (h:Leads n R F G) (k:Leads n S G H):Leads n (fun i j=>∃ m,R i m∧S m j) F H:=fun j hj=>by
 rw [k j hj]
 constructor
 · rintro ⟨m,hm,hg,hs⟩
   obtain ⟨i,hi,hf,hr⟩:=(h m hm).1 hg
   exact ⟨i,hi,hf,m,hr,hs⟩
 · rintro ⟨i,hi,hf,m,hr,hs⟩
   have hm:=(hR i m hi hr).2
   exact ⟨m,hm,(h m hm).2 ⟨i,hi,hf,hr⟩,hs⟩
theorem Leads.or {n:Nat} {R S:Nat→Nat→Prop} {F G H:Nat→Bool} (h:Leads n R F G) (k:Leads n S F H):Leads n (fun i j=>R i j ∨ S i j) F (fun j=>G j || H j):=fun j hj=>by
 rw [Bool.or_eq_true,h j hj,k j hj]
 constructor
 · rintro (⟨i,a,b,c⟩ | ⟨i,a,b,c⟩)
   · exact ⟨i,a,b,.inl c⟩
   · exact ⟨i,a,b,.inr c⟩
 · rintro ⟨i,a,b,c | c⟩
   · exact .inl ⟨i,a,b,c⟩
   · exact .inr ⟨i,a,b,c⟩
theorem Leads.pow_next {n k:Nat} {R:Nat→Nat→Prop} {F G H:Nat→Bool} (hR:Tk.On n R) (h:Leads n (Tk.pow R k) F G) (g:Leads n R G H):Leads n (Tk.pow R (k+1)) F H :=
 (h.trans (Tk.pow_on hR k) g).congr fun i j _=>(Tk.pow_last R k i j).symm
structure Grows (n:Nat) (R:Nat→Nat→Prop) (F:Nat→Bool) (m:Nat) (all now:Nat→Bool):Prop where
 tot:∀ j,j ≤ n→(all j=true ↔ ∃ i k,i ≤ n∧k ≤ m∧F i=true∧Tk.pow R k i j)
 sub:∀ j,j ≤ n→now j=true→all j=true
 old:∀ i j,i ≤ n→all i=true→now i=false→R i j→all j=true
theorem Grows.start (n:Nat) (R:Nat→Nat→Prop) (F:Nat→Bool):Grows n R F 0 F F where
 tot:=fun j hj=>by
   constructor
   · intro h;exact ⟨j,0,hj,Nat.le_refl _,h,rfl⟩
   · rintro ⟨i,k,_,hk,hf,hp⟩
     obtain rfl:k=0:=by omega
     simp only [Tk.pow] at hp;subst hp;exact hf
 sub:=fun j _ h=>h
 old:=fun i j _ h1 h2 _=>by rw [h1] at h2;exact absurd h2 (by decide)
theorem Grows.next {n m:Nat} {R:Nat→Nat→Prop} {F all now G:Nat→Bool} (hR:Tk.On n R) (h:Grows n R F m all now) (g:Leads n R now G) :
   Grows n R F (m+1) (fun j=>all j || (G j && !all j)) (fun j=>G j && !all j) where
 tot:=fun j hj=>by
   constructor
   · intro ha
     by_cases e:all j=true
     · obtain ⟨i,k,a,b,c,d⟩:=(h.tot j hj).1 e
       exact ⟨i,k,a,by omega,c,d⟩
     · have hg:G j=true:=by
         have e':all j=false:=by simpa using e
         simpa [e'] using ha
       obtain ⟨i,hi,hn,hr⟩:=(g j hj).1 hg
       obtain ⟨i0,k,a,b,c,d⟩:=(h.tot i hi).1 (h.sub i hi hn)
       exact ⟨i0,k+1,a,by omega,c,(Tk.pow_last R k i0 j).2 ⟨i,d,hr⟩⟩
   · rintro ⟨i,k,a,b,c,d⟩
     by_cases hk:k ≤ m
     · rw [(h.tot j hj).2 ⟨i,k,a,hk,c,d⟩];rfl
     · obtain rfl:k=m+1:=by omega
       obtain ⟨q,d1,d2⟩:=(Tk.pow_last R m i j).1 d
       have hq:=(Tk.pow_on hR m i q a d1).2
       have hall:=(h.tot q hq).2 ⟨i,m,a,Nat.le_refl _,c,d1⟩
       by_cases hn:now q=true
       · have hg:=(g j hj).2 ⟨q,hq,hn,d2⟩
         cases hj2:all j
         · simp [hg]
         · simp
       · rw [h.old q j hq hall (by simpa using hn) d2];rfl
 sub:=fun j _ hn=>by
   have hn':(G j && !all j)=true:=hn
   show (all j || (G j && !all j))=true
   rw [hn'];simp
 old:=fun i j hi ha hn hr=>by
   have ha':(all i || (G i && !all i))=true:=ha
   have hn':(G i && !all i)=false:=hn
   show (all j || (G j && !all j))=true
   rw [hn',Bool.or_false] at ha'
   have hj:=(hR i j hi hr).2
   by_cases hnow:now i=true
   · have hg:=(g j hj).2 ⟨i,hi,hnow,hr⟩
     cases hj2:all j
     · simp [hg]
     · simp
   · rw [h.old i j hi ha' (by simpa using hnow) hr];rfl
theorem Grows.closed {n m:Nat} {R:Nat→Nat→Prop} {F all now G:Nat→Bool} (hR:Tk.On n R) (h:Grows n R F m all now) (g:Leads n R now G) (hno:∀ j,j ≤ n→(G j && !all j)=false) :
   ∀ k i j,i ≤ n→all i=true→Tk.pow R k i j→all j=true
 | 0,i,j,_,ha,hp=>by simp only [Tk.pow] at hp;subst hp;exact ha
 | k+1,i,j,hi,ha,⟨q,hr,hp⟩=>by
   have hq:=(hR i q hi hr).2
   refine Grows.closed hR h g hno k q j hq ?_ hp
   by_cases hn:now i=true
   · have hg:=(g q hq).2 ⟨i,hi,hn,hr⟩
     have:=hno q hq
     rw [hg] at this;simpa using this
   · exact h.old i q hi ha (by simpa using hn) hr
theorem Grows.bound {n m:Nat} {R:Nat→Nat→Prop} {F0 F all now:Nat→Bool} {lo:Nat} {hi:Int} (hR:Tk.On n R) (h:Grows n R F m all now) (h0:Leads n (Tk.pow R lo) F0 F) (hh:((lo+m:Nat):Int)=hi) :
   Leads n (Tk.rounds R lo hi) F0 all:=fun j hj=>by
 rw [h.tot j hj]
 constructor
 · rintro ⟨i,k,a,b,c,d⟩
   obtain ⟨i0,a0,c0,d0⟩:=(h0 i a).1 c
   exact ⟨i0,a0,c0,lo+k,by omega,.inr (by omega),(Tk.pow_add R lo k i0 j).2 ⟨i,d0,d⟩⟩
 · rintro ⟨i0,a0,c0,q,h1,h2,h3⟩
   obtain ⟨k,rfl⟩:∃ k,q=lo+k:=⟨q - lo,by omega⟩
   obtain ⟨i,d0,d⟩:=(Tk.pow_add R lo k i0 j).1 h3
   have hi':=(Tk.pow_on hR lo i0 i a0 d0).2
   exact ⟨i,k,hi',by omega,(h0 i hi').2 ⟨i0,a0,c0,d0⟩,d⟩
theorem Grows.stop {n m:Nat} {R:Nat→Nat→Prop} {F0 F all now G:Nat→Bool} {lo:Nat} {hi:Int} (hR:Tk.On n R) (h:Grows n R F m all now) (h0:Leads n (Tk.pow R lo) F0 F) (hh:hi = -1 ∨ ((lo+m:Nat):Int) ≤ hi)
   (g:Leads n R now G) (hno:∀ j,j ≤ n→(G j && !all j)=false):Leads n (Tk.rounds R lo hi) F0 all:=fun j hj=>by
 constructor
 · intro ha
   obtain ⟨i,k,a,b,c,d⟩:=(h.tot j hj).1 ha
   obtain ⟨i0,a0,c0,d0⟩:=(h0 i a).1 c
   exact ⟨i0,a0,c0,lo+k,by omega,by omega,(Tk.pow_add R lo k i0 j).2 ⟨i,d0,d⟩⟩
 · rintro ⟨i0,a0,c0,q,h1,h2,h3⟩
   obtain ⟨k,rfl⟩:∃ k,q=lo+k:=⟨q - lo,by omega⟩
   obtain ⟨i,d0,d⟩:=(Tk.pow_add R lo k i0 j).1 h3
   have hi':=(Tk.pow_on hR lo i0 i a0 d0).2
   exact h.closed hR g hno k i j hi' ((h.tot i hi').2 ⟨i,0,hi',Nat.zero_le _,(h0 i hi').2 ⟨i0,a0,c0,d0⟩,rfl⟩) d
theorem cnt_more {p q:Nat→Bool} : ∀ n,(∀ i,i < n→p i=true→q i=true)→(∃ i,i < n∧p i=false∧q i=true)→Oc.cnt p n < Oc.cnt q n
 | 0,_,⟨i,h,_⟩=>by omega
 | n+1,h,⟨i,hi,h1,h2⟩=>by
   simp only [Oc.cnt]
   by_cases e:i=n
   · subst e
     have:Oc.cnt p i ≤ Oc.cnt q i:=by
       clear h1 h2 hi
       have hh:∀ k,k < i→p k=true→q k=true:=fun k hk=>h k (by omega)
       clear h
       induction i with
       | zero=>simp [Oc.cnt]
       | succ i ih =>
         have:=ih (fun k hk=>hh k (by omega))
         have h2:=hh i (by omega)
         simp only [Oc.cnt]
         cases hp:p i
         · simp;omega
         · rw [h2 hp];simp;omega
     rw [h1,h2];simp;omega
   · have:=cnt_more n (fun k hk=>h k (by omega)) ⟨i,by omega,h1,h2⟩
     have h3:=h n (by omega)
     cases hp:p n
     · simp;omega
     · rw [h3 hp];simp;omega
end Re
end Go.Proofs.YtnaoiglbjkjogaaDoor
namespace Go.Proofs.YtnaoiglbjkjogaaDoor
open Go.RowKit
namespace Sc
def of (s:ByteArray) (c e:Int) (T:Bool):Sc:=if T then (new s c e).turned else new s c e
def bB (x:Sc) (k:Nat):Bool:=if k=0 then x.hd else (x.nl && cb x.t (k - 1) == 10)
def fE (x:Sc) (k:Nat):Bool:=if k=x.t.size then x.tl else (x.nl && cb x.t k == 10)
theorem beg_nat (x:Sc) {k:Nat} (h:k ≤ x.t.size):x.beg (k:Int)=x.bB k:=by
 unfold beg bB
 by_cases h0:k=0
 · subst h0
   rw [if_pos rfl,x.nlAt_neg (by omega)]
   simp
 · rw [if_neg h0,show ((k:Int) == 0)=false by rw [beq_eq_false_iff_ne];omega,Bool.and_false,Bool.false_or,show (k:Int) - 1=((k - 1:Nat):Int) by omega,x.nlAt_in (by omega)]
theorem fin_nat (x:Sc) {k:Nat} (h:k ≤ x.t.size):x.fin (k:Int)=x.fE k:=by
 unfold fin fE
 by_cases h0:k=x.t.size
 · rw [if_pos h0,h0,x.nlAt_big (Int.le_refl _)]
   simp
 · rw [if_neg h0,show ((k:Int) == (x.t.size:Int))=false by rw [beq_eq_false_iff_ne];omega,Bool.and_false,Bool.false_or,x.nlAt_in (by omega)]
theorem beg_out (x:Sc) {i:Int} (h:i < 0 ∨ (x.t.size:Int) < i):x.beg i=false:=by
 unfold beg
 rcases h with h | h
 · rw [x.nlAt_neg (by omega),show (i == 0)=false by rw [beq_eq_false_iff_ne];omega];simp
 · rw [x.nlAt_big (by omega),show (i == 0)=false by rw [beq_eq_false_iff_ne];omega];simp
theorem fin_out (x:Sc) {i:Int} (h:i < 0 ∨ (x.t.size:Int) < i):x.fin i=false:=by
 unfold fin
 rcases h with h | h
 · rw [x.nlAt_neg (by omega),show (i == (x.t.size:Int))=false by rw [beq_eq_false_iff_ne];omega];simp
 · rw [x.nlAt_big (by omega),show (i == (x.t.size:Int))=false by rw [beq_eq_false_iff_ne];omega];simp
theorem cb_list (s:ByteArray) (i:Nat):cb s i=(s.data.toList[i]?).elim 256 UInt8.toNat:=by
 have hl:s.data.toList.length=s.size:=by simp
 by_cases h:i < s.size
 · rw [← cb_in h,List.getElem?_eq_getElem (by omega)]
   rfl
 · rw [cb_out (by omega),List.getElem?_eq_none (by omega)]
   rfl
theorem cb_rev (s:ByteArray) {j:Nat} (h:j < s.size):cb (rev s) j=cb s (s.size - 1 - j):=by
 have hl:s.data.toList.length=s.size:=by simp
 rw [cb_list,cb_list,show (rev s).data.toList=s.data.toList.reverse by unfold rev;simp,List.getElem?_reverse (by omega),hl]
theorem of_size (s:ByteArray) (c e:Int) (T:Bool):(of s c e T).t.size=s.size:=by
 unfold of
 cases T with
 | false=>rfl
 | true=>exact rev_size s
theorem bB_turned (x:Sc) {k:Nat} (h:k ≤ x.t.size):x.turned.bB k=x.fE (x.t.size - k):=by
 unfold bB fE
 show (if k=0 then x.tl else (x.nl && cb (rev x.t) (k - 1) == 10))=_
 by_cases h0:k=0
 · rw [if_pos h0,if_pos (by omega)]
 · rw [if_neg h0,if_neg (by omega),cb_rev x.t (by omega),show x.t.size - 1 - (k - 1)=x.t.size - k by omega]
theorem fE_turned (x:Sc) {k:Nat} (h:k ≤ x.t.size):x.turned.fE k=x.bB (x.t.size - k):=by
 unfold bB fE
 show (if k=(rev x.t).size then x.hd else (x.nl && cb (rev x.t) k == 10))=_
 rw [rev_size]
 by_cases h0:k=x.t.size
 · rw [if_pos h0,if_pos (by omega)]
 · rw [if_neg h0,if_neg (by omega),cb_rev x.t (by omega),show x.t.size - 1 - k=x.t.size - k - 1 by omega]
end Sc
theorem rin_any (s:ByteArray) (c e0:Int) (T:Bool) (i:Int) (w:World) :
   Calls Tryd.prog 167 #[.agg #[.string s,.int .i64 c,.int .i64 e0,.bool T],.int .i64 i] w fun e w'=>e=.returned (.bool (decide (0 ≤ i) && decide (i ≤ s.size)))∧Below w.heap.size w w':=by
 have Z0:=heap_alloc_new w (.cells #[.string s,.int .i64 c,.int .i64 e0,.bool T] 61)
 have HW:=Lib.hid (show Below w.heap.size w (w.alloc (.cells #[.string s,.int .i64 c,.int .i64 e0,.bool T] 61)) from (Below.refl _ _).alloc (Nat.le_refl _) _)
 obtain ⟨c0,-,-,-,-⟩:=four Z0
 by_cases h0:0 ≤ i
 · have hd:decide (0 ≤ i)=true:=by simpa using h0
   rw [hd,Bool.true_and]
   go_enter Tryd.func167,Tryd.ntmps167
   go_wp2
   go_ret
   exact ⟨rfl,HW.out⟩
 · have hd:decide (0 ≤ i)=false:=by simpa using h0
   rw [hd,Bool.false_and]
   go_enter Tryd.func167,Tryd.ntmps167
   go_wp2
   go_ret
   exact ⟨rfl,HW.out⟩
theorem rplace_any (s:ByteArray) (c e0:Int) (k:Nat) (hk:k ≤ s.size) (hs:s.size ≤ 140737488351232) (w:World) :
   Calls Tryd.prog 169 #[.agg #[.string s,.int .i64 c,.int .i64 e0,.bool true],.int .i64 (k:Int)] w fun e w'=>e=.returned (.int .i64 ((s.size - k:Nat):Int))∧Below w.heap.size w w':=by
 have Z0:=heap_alloc_new w (.cells #[.string s,.int .i64 c,.int .i64 e0,.bool true] 61)
 have HW:=Lib.hid (show Below w.heap.size w (w.alloc (.cells #[.string s,.int .i64 c,.int .i64 e0,.bool true] 61)) from (Below.refl _ _).alloc (Nat.le_refl _) _)
 obtain ⟨c0,-,-,c3,-⟩:=four Z0
 go_enter Tryd.func169,Tryd.ntmps169
 go_wp2
 go_ret
 refine ⟨?_,HW.out⟩
 show Ending.returned (.int .i64 ((s.size:Int) - (k:Int)))=_
 exact ret_int (by omega)
theorem rbegin_any (s:ByteArray) (c e0:Int) (T:Bool) (k:Nat) (hk:k ≤ s.size) (hs:s.size ≤ 140737488351232) (w:World) :
   Calls Tryd.prog 170 #[.agg #[.string s,.int .i64 c,.int .i64 e0,.bool T],.int .i64 (k:Int)] w fun e w'=>e=.returned (.bool ((Sc.new s c e0).bB k))∧Below w.heap.size w w':=by
 have Z0:=heap_alloc_new w (.cells #[.string s,.int .i64 c,.int .i64 e0,.bool T] 61)
 have HW:=Lib.hid (show Below w.heap.size w (w.alloc (.cells #[.string s,.int .i64 c,.int .i64 e0,.bool T] 61)) from (Below.refl _ _).alloc (Nat.le_refl _) _)
 obtain ⟨c0,c1,c2,-,-⟩:=four Z0
 unfold Sc.bB
 show Calls _ _ _ _ fun e w'=>e=.returned (.bool (if k=0 then (bits .and .i64 e0 1 == 0) else ((bits .and .i64 c 4 != 0) && cb s (k - 1) == 10)))∧_
 by_cases h0:k=0
 · subst h0
   rw [if_pos rfl]
   cases hb:(bits .and .i64 e0 1 == 0)
   all_goals
     have hb':(bits .and .i64 e0 1 != 0) = !(bits .and .i64 e0 1 == 0):=rfl
     rw [hb] at hb'
     go_enter Tryd.func170,Tryd.ntmps170
     go_wp2
     go_ret
     exact ⟨rfl,HW.out⟩
 · obtain ⟨j,rfl⟩:∃ j,k=j+1:=⟨k - 1,by omega⟩
   rw [if_neg h0,Nat.add_sub_cancel]
   have hz:(((j+1:Nat):Int) == 0)=false:=by rw [beq_eq_false_iff_ne];omega
   have hp:decide ((0:Int) < ((j+1:Nat):Int))=true:=decide_eq_true (by omega)
   have hl:decide (((j+1:Nat):Int) ≤ (s.size:Int))=true:=decide_eq_true (by omega)
   have hj:j < s.size:=by omega
   have wj:wrap64 (((j+1:Nat):Int) - 1)=(j:Int):=by unfold wrap64;omega
   have he:((s[j].toNat:Int) == 10)=(cb s j == 10):=by rw [cb_in hj,Bool.eq_iff_iff];simp only [beq_iff_eq];omega
   generalize hK:((j+1:Nat):Int)=K at *
   clear hK
   cases hb:(bits .and .i64 c 4 != 0)
   all_goals
     go_enter Tryd.func170,Tryd.ntmps170
     go_wp2
     go_ret
     exact ⟨rfl,HW.out⟩
theorem rend_any (s:ByteArray) (c e0:Int) (T:Bool) (k:Nat) (hk:k ≤ s.size) (w:World) :
   Calls Tryd.prog 168 #[.agg #[.string s,.int .i64 c,.int .i64 e0,.bool T],.int .i64 (k:Int)] w fun e w'=>e=.returned (.bool ((Sc.new s c e0).fE k))∧Below w.heap.size w w':=by
 have Z0:=heap_alloc_new w (.cells #[.string s,.int .i64 c,.int .i64 e0,.bool T] 61)
 have HW:=Lib.hid (show Below w.heap.size w (w.alloc (.cells #[.string s,.int .i64 c,.int .i64 e0,.bool T] 61)) from (Below.refl _ _).alloc (Nat.le_refl _) _)
 obtain ⟨c0,c1,c2,-,-⟩:=four Z0
 unfold Sc.fE
 show Calls _ _ _ _ fun e w'=>e=.returned (.bool (if k=s.size then (bits .and .i64 e0 2 == 0) else ((bits .and .i64 c 4 != 0) && cb s k == 10)))∧_
 by_cases h0:k=s.size
 · rw [if_pos h0]
   have hz:((k:Int) == (s.size:Int))=true:=by rw [beq_iff_eq];omega
   clear h0
   cases hb:(bits .and .i64 e0 2 == 0)
   all_goals
     have hb':(bits .and .i64 e0 2 != 0) = !(bits .and .i64 e0 2 == 0):=rfl
     rw [hb] at hb'
     go_enter Tryd.func168,Tryd.ntmps168
     go_wp2
     go_ret
     exact ⟨rfl,HW.out⟩
 · rw [if_neg h0]
   have hz:((k:Int) == (s.size:Int))=false:=by rw [beq_eq_false_iff_ne];omega
   have hj:k < s.size:=by omega
   have hl:decide ((k:Int) < (s.size:Int))=true:=by simp;omega
   have hl':decide (k < s.size)=true:=by simpa using hj
   have he:((s[k].toNat:Int) == 10)=(cb s k == 10):=by rw [cb_in hj,Bool.eq_iff_iff];simp only [beq_iff_eq];omega
   cases hb:(bits .and .i64 c 4 != 0)
   all_goals
     go_enter Tryd.func168,Tryd.ntmps168
     go_wp2
     go_ret
     exact ⟨rfl,HW.out⟩
end Go.Proofs.YtnaoiglbjkjogaaDoor
namespace Go.Proofs.YtnaoiglbjkjogaaDoor
open Go.RowKit
theorem rbeg_any (s:ByteArray) (c e0:Int) (T:Bool) (i:Int) (hs:s.size ≤ 140737488351232) (w:World) :
   Calls Tryd.prog 156 #[.agg #[.string s,.int .i64 c,.int .i64 e0,.bool T],.int .i64 i] w fun e w'=>e=.returned (.bool ((Sc.of s c e0 T).beg i))∧Below w.heap.size w w':=by
 have Z0:=Lib.hid (heap_alloc_new w (.cells #[.string s,.int .i64 c,.int .i64 e0,.bool T] 61))
 have HW:=Lib.hid (show Below w.heap.size w (w.alloc (.cells #[.string s,.int .i64 c,.int .i64 e0,.bool T] 61)) from (Below.refl _ _).alloc (Nat.le_refl _) _)
 have HI:=Lib.hid (fun w=>rin_any s c e0 T i w)
 have hsz:=Sc.of_size s c e0 T
 by_cases hin:0 ≤ i∧i ≤ s.size
 · obtain ⟨k,rfl⟩:∃ k:Nat,i=k:=⟨i.toNat,by omega⟩
   have hk:k ≤ s.size:=by omega
   rw [decide_eq_true hin.1,decide_eq_true hin.2,Bool.and_self] at HI
   rw [(Sc.of s c e0 T).beg_nat (by omega)]
   clear hsz hin
   cases T with
   | true =>
     have hn:(Sc.of s c e0 true).bB k=(Sc.new s c e0).fE (s.size - k):=by
       show (Sc.new s c e0).turned.bB k=_
       rw [Sc.bB_turned _ (show k ≤ (Sc.new s c e0).t.size from hk)]
       rfl
     rw [hn]
     clear hn
     have HC:=Lib.hid (fun w=>rend_any s c e0 true (s.size - k) (by omega) w)
     generalize (Sc.new s c e0).fE (s.size - k)=G at *
     go_enter Tryd.func156,Tryd.ntmps156
     go_wp2_with (first
       | (refine wpList_load_row rfl 61 (.tmp 2) rfl w.heap.size rfl 61 _ (0,0) _ Z0.out Tryd.underlying61 rfl (by kernel_rfl) ?_)
       | fail)
     refine (HI.out _).mono ?_
     rintro e w1 ⟨rfl,hb1⟩
     have Z1:=Lib.hid (keep_blk (hb1.mono (Nat.le_refl _)) Z0.out)
     have HB1:=Lib.hid (HW.out.trans (hb1.mono HW.out.size))
     have c3:=(four Z1.out).2.2.2.1
     clear hb1 Z0 HW HI
     go_wp2
     refine Ri.wp_region_frame (by kernel_rfl) (by kernel_rfl) (by kernel_rfl) (by kernel_rfl)
       (fun L v w'=>Below w1.heap.size w1 w'∧(L 0=true→v 0=.agg #[.string s,.int .i64 c,.int .i64 e0,.bool true])∧(L 1=true→v 1=.agg #[.string s,.int .i64 c,.int .i64 e0,.bool true])∧(L 2=true→v 2=.int .i64 (k:Int))∧(L 3=true→v 3=.int .i64 ((s.size - k:Nat):Int))∧(L 4=true→v 4=.bool G)∧(L 5=true→v 5=.bool G))
       ?_ ?_ ?_
     · exact ⟨(Below.refl _ _).drew,by simp,by simp,by simp,by simp,by simp,by simp⟩
     · intro i hi9 L v w9 xa hI hL hd hv ho
       have hi':i=0 ∨ i=1 ∨ i=2 ∨ i=3 ∨ i=4 ∨ i=5:=by simp at hi9;omega
       obtain ⟨hb,q0,q1,q2,q3,q4,q5⟩:=hI
       rcases hi' with rfl | rfl | rfl | rfl | rfl | rfl
       · have e2:xa.tmps.getD 2 undef=.pointer (some ⟨w.heap.size,0,none⟩):=ho 2 (by kernel_rfl)
         refine Ri.step_plain rfl rfl (fun K' hK=>?_)
         refine wp_load_row _ _ rfl _ e2 _ _ _ _ (keep_blk hb Z1.out) Tryd.underlying61 rfl (by kernel_rfl) ?_
         exact hK _ _ ⟨_,_,rfl,rfl,hb,fun _=>rfl,q1,q2,q3,q4,q5⟩
       · have e2:xa.tmps.getD 2 undef=.pointer (some ⟨w.heap.size,0,none⟩):=ho 2 (by kernel_rfl)
         refine Ri.step_plain rfl rfl (fun K' hK=>?_)
         refine wp_load_row _ _ rfl _ e2 _ _ _ _ (keep_blk hb Z1.out) Tryd.underlying61 rfl (by kernel_rfl) ?_
         exact hK _ _ ⟨_,_,rfl,rfl,hb,q0,fun _=>rfl,q2,q3,q4,q5⟩
       · have e1:xa.tmps.getD 1 undef=.int .i64 (k:Int):=ho 1 (by kernel_rfl)
         refine Ri.step_plain rfl rfl (fun K' hK=>?_)
         go_simp
         exact hK _ _ ⟨_,_,rfl,rfl,hb,q0,q1,fun _=>rfl,q3,q4,q5⟩
       · have l0:L 1=true∧L 2=true:=by have:=hd _ rfl;simp [Region.binds] at this;simp [this]
         have f1:=(hv 1 12 rfl l0.1).trans (q1 l0.1)
         have f2:=(hv 2 13 rfl l0.2).trans (q2 l0.2)
         refine Ri.step_plain rfl rfl (fun K' hK=>?_)
         go_simp
         refine (rplace_any s c e0 k hk hs _).mono ?_
         rintro e w8 ⟨rfl,hb8⟩
         exact hK _ _ ⟨_,_,rfl,rfl,hb.trans (hb8.mono hb.size),q0,q1,q2,fun _=>rfl,q4,q5⟩
       · have l0:L 0=true∧L 3=true:=by have:=hd _ rfl;simp [Region.binds] at this;simp [this]
         have f0:=(hv 0 11 rfl l0.1).trans (q0 l0.1)
         have f3:=(hv 3 14 rfl l0.2).trans (q3 l0.2)
         refine Ri.step_plain rfl rfl (fun K' hK=>?_)
         go_simp
         refine (HC.out _).mono ?_
         rintro e w8 ⟨rfl,hb8⟩
         exact hK _ _ ⟨_,_,rfl,rfl,hb.trans (hb8.mono hb.size),q0,q1,q2,q3,fun _=>rfl,q5⟩
       · have l0:L 4=true:=by have:=hd _ rfl;simp [Region.binds] at this;simp [this]
         have f4:=(hv 4 15 rfl l0).trans (q4 l0)
         refine Ri.step_plain rfl rfl (fun K' hK=>?_)
         go_simp
         exact hK _ _ ⟨_,_,rfl,rfl,hb,q0,q1,q2,q3,q4,fun _=>rfl⟩
     · rintro v w9 ⟨hb,-,-,-,-,-,q5⟩
       have q5':v 5=.bool G:=q5 rfl
       simp only [Ri.frame,List.zipIdx,List.foldl_cons,List.foldl_nil,if_true,List.setIfInBounds_toArray,List.set_cons_zero,List.set_cons_succ,Nat.reduceAdd,q5']
       clear q5 q5'
       generalize v 0=y0;generalize v 1=y1;generalize v 2=y2;generalize v 3=y3;generalize v 4=y4
       have HBE:=Lib.hid (HB1.out.trans (hb.mono HB1.out.size))
       clear hb
       go_wp2
       go_ret
       exact ⟨rfl,HBE.out⟩
   | false =>
     rw [show (Sc.of s c e0 false).bB k=(Sc.new s c e0).bB k from rfl]
     have HC:=Lib.hid (fun w=>rbegin_any s c e0 false k hk hs w)
     generalize (Sc.new s c e0).bB k=G at *
     go_enter Tryd.func156,Tryd.ntmps156
     go_wp2_with (first
       | (refine wpList_load_row rfl 61 (.tmp 2) rfl w.heap.size rfl 61 _ (0,0) _ Z0.out Tryd.underlying61 rfl (by kernel_rfl) ?_)
       | fail)
     refine (HI.out _).mono ?_
     rintro e w1 ⟨rfl,hb1⟩
     have Z1:=Lib.hid (keep_blk (hb1.mono (Nat.le_refl _)) Z0.out)
     have HB1:=Lib.hid (HW.out.trans (hb1.mono HW.out.size))
     have c3:=(four Z1.out).2.2.2.1
     clear hb1 Z0 HW HI
     go_wp2_with (first
       | (refine wpList_load_row rfl 61 (.tmp 2) rfl w.heap.size rfl 61 _ (0,0) _ Z1.out Tryd.underlying61 rfl (by kernel_rfl) ?_)
       | fail)
     refine (HC.out _).mono ?_
     rintro e w2 ⟨rfl,hb2⟩
     have HBE:=Lib.hid (HB1.out.trans (hb2.mono HB1.out.size))
     clear hb2 c3
     go_wp2
     go_ret
     exact ⟨rfl,HBE.out⟩
 · have hf:(decide (0 ≤ i) && decide (i ≤ (s.size:Int)))=false:=by
     by_cases h0:0 ≤ i
     · rw [show decide (i ≤ (s.size:Int))=false from decide_eq_false (by omega),Bool.and_false]
     · rw [decide_eq_false h0,Bool.false_and]
   rw [hf] at HI
   rw [(Sc.of s c e0 T).beg_out (by omega)]
   clear hsz hin hf
   go_enter Tryd.func156,Tryd.ntmps156
   go_wp2_with (first
     | (refine wpList_load_row rfl 61 (.tmp 2) rfl w.heap.size rfl 61 _ (0,0) _ Z0.out Tryd.underlying61 rfl (by kernel_rfl) ?_)
     | fail)
   refine (HI.out _).mono ?_
   rintro e w1 ⟨rfl,hb1⟩
   have HB1:=Lib.hid (HW.out.trans (hb1.mono HW.out.size))
   clear hb1 Z0 HW HI
   go_wp2
   go_ret
   exact ⟨rfl,HB1.out⟩
theorem rfin_any (s:ByteArray) (c e0:Int) (T:Bool) (i:Int) (hs:s.size ≤ 140737488351232) (w:World) :
   Calls Tryd.prog 157 #[.agg #[.string s,.int .i64 c,.int .i64 e0,.bool T],.int .i64 i] w fun e w'=>e=.returned (.bool ((Sc.of s c e0 T).fin i))∧Below w.heap.size w w':=by
 have Z0:=Lib.hid (heap_alloc_new w (.cells #[.string s,.int .i64 c,.int .i64 e0,.bool T] 61))
 have HW:=Lib.hid (show Below w.heap.size w (w.alloc (.cells #[.string s,.int .i64 c,.int .i64 e0,.bool T] 61)) from (Below.refl _ _).alloc (Nat.le_refl _) _)
 have HI:=Lib.hid (fun w=>rin_any s c e0 T i w)
 have hsz:=Sc.of_size s c e0 T
 by_cases hin:0 ≤ i∧i ≤ s.size
 · obtain ⟨k,rfl⟩:∃ k:Nat,i=k:=⟨i.toNat,by omega⟩
   have hk:k ≤ s.size:=by omega
   rw [decide_eq_true hin.1,decide_eq_true hin.2,Bool.and_self] at HI
   rw [(Sc.of s c e0 T).fin_nat (by omega)]
   clear hsz hin
   cases T with
   | true =>
     have hn:(Sc.of s c e0 true).fE k=(Sc.new s c e0).bB (s.size - k):=by
       show (Sc.new s c e0).turned.fE k=_
       rw [Sc.fE_turned _ (show k ≤ (Sc.new s c e0).t.size from hk)]
       rfl
     rw [hn]
     clear hn
     have HC:=Lib.hid (fun w=>rbegin_any s c e0 true (s.size - k) (by omega) hs w)
     generalize (Sc.new s c e0).bB (s.size - k)=G at *
     go_enter Tryd.func157,Tryd.ntmps157
     go_wp2_with (first
       | (refine wpList_load_row rfl 61 (.tmp 2) rfl w.heap.size rfl 61 _ (0,0) _ Z0.out Tryd.underlying61 rfl (by kernel_rfl) ?_)
       | fail)
     refine (HI.out _).mono ?_
     rintro e w1 ⟨rfl,hb1⟩
     have Z1:=Lib.hid (keep_blk (hb1.mono (Nat.le_refl _)) Z0.out)
     have HB1:=Lib.hid (HW.out.trans (hb1.mono HW.out.size))
     have c3:=(four Z1.out).2.2.2.1
     clear hb1 Z0 HW HI
     go_wp2
     refine Ri.wp_region_frame (by kernel_rfl) (by kernel_rfl) (by kernel_rfl) (by kernel_rfl)
       (fun L v w'=>Below w1.heap.size w1 w'∧(L 0=true→v 0=.agg #[.string s,.int .i64 c,.int .i64 e0,.bool true])∧(L 1=true→v 1=.agg #[.string s,.int .i64 c,.int .i64 e0,.bool true])∧(L 2=true→v 2=.int .i64 (k:Int))∧(L 3=true→v 3=.int .i64 ((s.size - k:Nat):Int))∧(L 4=true→v 4=.bool G)∧(L 5=true→v 5=.bool G))
       ?_ ?_ ?_
     · exact ⟨(Below.refl _ _).drew,by simp,by simp,by simp,by simp,by simp,by simp⟩
     · intro i hi9 L v w9 xa hI hL hd hv ho
       have hi':i=0 ∨ i=1 ∨ i=2 ∨ i=3 ∨ i=4 ∨ i=5:=by simp at hi9;omega
       obtain ⟨hb,q0,q1,q2,q3,q4,q5⟩:=hI
       rcases hi' with rfl | rfl | rfl | rfl | rfl | rfl
       · have e2:xa.tmps.getD 2 undef=.pointer (some ⟨w.heap.size,0,none⟩):=ho 2 (by kernel_rfl)
         refine Ri.step_plain rfl rfl (fun K' hK=>?_)
         refine wp_load_row _ _ rfl _ e2 _ _ _ _ (keep_blk hb Z1.out) Tryd.underlying61 rfl (by kernel_rfl) ?_
         exact hK _ _ ⟨_,_,rfl,rfl,hb,fun _=>rfl,q1,q2,q3,q4,q5⟩
       · have e2:xa.tmps.getD 2 undef=.pointer (some ⟨w.heap.size,0,none⟩):=ho 2 (by kernel_rfl)
         refine Ri.step_plain rfl rfl (fun K' hK=>?_)
         refine wp_load_row _ _ rfl _ e2 _ _ _ _ (keep_blk hb Z1.out) Tryd.underlying61 rfl (by kernel_rfl) ?_
         exact hK _ _ ⟨_,_,rfl,rfl,hb,q0,fun _=>rfl,q2,q3,q4,q5⟩
       · have e1:xa.tmps.getD 1 undef=.int .i64 (k:Int):=ho 1 (by kernel_rfl)
         refine Ri.step_plain rfl rfl (fun K' hK=>?_)
         go_simp
         exact hK _ _ ⟨_,_,rfl,rfl,hb,q0,q1,fun _=>rfl,q3,q4,q5⟩
       · have l0:L 1=true∧L 2=true:=by have:=hd _ rfl;simp [Region.binds] at this;simp [this]
         have f1:=(hv 1 12 rfl l0.1).trans (q1 l0.1)
         have f2:=(hv 2 13 rfl l0.2).trans (q2 l0.2)
         refine Ri.step_plain rfl rfl (fun K' hK=>?_)
         go_simp
         refine (rplace_any s c e0 k hk hs _).mono ?_
         rintro e w8 ⟨rfl,hb8⟩
         exact hK _ _ ⟨_,_,rfl,rfl,hb.trans (hb8.mono hb.size),q0,q1,q2,fun _=>rfl,q4,q5⟩
       · have l0:L 0=true∧L 3=true:=by have:=hd _ rfl;simp [Region.binds] at this;simp [this]
         have f0:=(hv 0 11 rfl l0.1).trans (q0 l0.1)
         have f3:=(hv 3 14 rfl l0.2).trans (q3 l0.2)
         refine Ri.step_plain rfl rfl (fun K' hK=>?_)
         go_simp
         refine (HC.out _).mono ?_
         rintro e w8 ⟨rfl,hb8⟩
         exact hK _ _ ⟨_,_,rfl,rfl,hb.trans (hb8.mono hb.size),q0,q1,q2,q3,fun _=>rfl,q5⟩
       · have l0:L 4=true:=by have:=hd _ rfl;simp [Region.binds] at this;simp [this]
         have f4:=(hv 4 15 rfl l0).trans (q4 l0)
         refine Ri.step_plain rfl rfl (fun K' hK=>?_)
         go_simp
         exact hK _ _ ⟨_,_,rfl,rfl,hb,q0,q1,q2,q3,q4,fun _=>rfl⟩
     · rintro v w9 ⟨hb,-,-,-,-,-,q5⟩
       have q5':v 5=.bool G:=q5 rfl
       simp only [Ri.frame,List.zipIdx,List.foldl_cons,List.foldl_nil,if_true,List.setIfInBounds_toArray,List.set_cons_zero,List.set_cons_succ,Nat.reduceAdd,q5']
       clear q5 q5'
       generalize v 0=y0;generalize v 1=y1;generalize v 2=y2;generalize v 3=y3;generalize v 4=y4
       have HBE:=Lib.hid (HB1.out.trans (hb.mono HB1.out.size))
       clear hb
       go_wp2
       go_ret
       exact ⟨rfl,HBE.out⟩
   | false =>
     rw [show (Sc.of s c e0 false).fE k=(Sc.new s c e0).fE k from rfl]
     have HC:=Lib.hid (fun w=>rend_any s c e0 false k hk w)
     generalize (Sc.new s c e0).fE k=G at *
     go_enter Tryd.func157,Tryd.ntmps157
     go_wp2_with (first
       | (refine wpList_load_row rfl 61 (.tmp 2) rfl w.heap.size rfl 61 _ (0,0) _ Z0.out Tryd.underlying61 rfl (by kernel_rfl) ?_)
       | fail)
     refine (HI.out _).mono ?_
     rintro e w1 ⟨rfl,hb1⟩
     have Z1:=Lib.hid (keep_blk (hb1.mono (Nat.le_refl _)) Z0.out)
     have HB1:=Lib.hid (HW.out.trans (hb1.mono HW.out.size))
     have c3:=(four Z1.out).2.2.2.1
     clear hb1 Z0 HW HI
     go_wp2_with (first
       | (refine wpList_load_row rfl 61 (.tmp 2) rfl w.heap.size rfl 61 _ (0,0) _ Z1.out Tryd.underlying61 rfl (by kernel_rfl) ?_)
       | fail)
     refine (HC.out _).mono ?_
     rintro e w2 ⟨rfl,hb2⟩
     have HBE:=Lib.hid (HB1.out.trans (hb2.mono HB1.out.size))
     clear hb2 c3
     go_wp2
     go_ret
     exact ⟨rfl,HBE.out⟩
 · have hf:(decide (0 ≤ i) && decide (i ≤ (s.size:Int)))=false:=by
     by_cases h0:0 ≤ i
     · rw [show decide (i ≤ (s.size:Int))=false from decide_eq_false (by omega),Bool.and_false]
     · rw [decide_eq_false h0,Bool.false_and]
   rw [hf] at HI
   rw [(Sc.of s c e0 T).fin_out (by omega)]
   clear hsz hin hf
   go_enter Tryd.func157,Tryd.ntmps157
   go_wp2_with (first
     | (refine wpList_load_row rfl 61 (.tmp 2) rfl w.heap.size rfl 61 _ (0,0) _ Z0.out Tryd.underlying61 rfl (by kernel_rfl) ?_)
     | fail)
   refine (HI.out _).mono ?_
   rintro e w1 ⟨rfl,hb1⟩
   have HB1:=Lib.hid (HW.out.trans (hb1.mono HW.out.size))
   clear hb1 Z0 HW HI
   go_wp2
   go_ret
   exact ⟨rfl,HB1.out⟩
end Go.Proofs.YtnaoiglbjkjogaaDoor
namespace Go.Proofs.YtnaoiglbjkjogaaDoor
open Go.RowKit
theorem append_both {P:Program} (w:World) {ops:Array Oper} {rest:List Oper} {o:Oper} {a:Act} {Q:Exit→Act→World→Prop} (hgd:o.guard=none) (s x:Operand) (t:TypeId)
   (ho:o.op=.call { callee:=.builtin .append,args:=#[s,x],argTypes:=#[t,t] })
   (base:Nat) (e:TypeId) (i:TypeInfo) (z:Value) (size bytes:Nat) (ht:P.underlying t=some (.slice e)) (hi:P.info? e=some i) (hz:i.zero=some z)
   (hsize:i.size=size) (hby:i.bytes=bytes) (hzs:z.cells.size=size) (hsz:0 < size)
   (v:Value) (n:Nat) (xs:List Value) (hs:a.eval s=v) (hown:w.ownsRow base e size v n xs)
   (p:Option Addr) (m c:Nat) (news:List Value) (hx:a.eval x=.slice p m c) (h0:p=none→m=0∧c=0) (hl:news.length=m * size) (hnews:∀ ad,p=some ad→∀ j u,news[j]? = some u→w.cell? (ad.add j)=some u) (h1:∀ u ∈ news,u.oneCell'=true)
   (h63:n+m ≤ maxLen) (hbytes:(n+m) * bytes ≤ 140737488355328) (hbase:base ≤ w.heap.size)
   (h:∀ v' w',w'.ownsRow base e size v' (n+m) (xs ++ news)→w.grownBy w' v.ownBlock→(v'=.slice none 0 0 ↔ v=.slice none 0 0∧m=0)→wpList P ops Q rest (a.put o.dst v') w'):wpList P ops Q (o :: rest) a w:=by
 cases p with
 | some ad=>exact wpList_append_own w hgd s x t ho base e i z size bytes ht hi hz hsize hby hzs hsz v n xs hs hown ad m c news hx hl (hnews ad rfl) h1 h63 hbytes hbase h
 | none =>
   obtain ⟨rfl,rfl⟩:=h0 rfl
   have hn:news=[]:=List.eq_nil_of_length_eq_zero (by rw [hl];omega)
   subst hn
   exact wpList_append_own_none hgd s x t ho base e i size ht hi v n xs hs hown hx (h v w (by simpa using hown) ⟨rfl,rfl,rfl,Nat.le_refl _,fun _ _ _=>rfl⟩ (by simp))
end Go.Proofs.YtnaoiglbjkjogaaDoor
namespace Go.Proofs.YtnaoiglbjkjogaaDoor
open Go.RowKit
def Sc.rb (x:Sc) (i:Int):Int:=if x.inn i then (cb x.t i.toNat:Int) else -1
theorem Sc.rb_in (x:Sc) {k:Nat} (h:k < x.t.size):x.rb (k:Int)=(cb x.t k:Int):=by
 unfold rb;rw [inn_nat,decide_eq_true h,if_pos rfl];rfl
theorem Sc.rb_out (x:Sc) {i:Int} (h:x.inn i=false):x.rb i = -1:=by
 unfold rb;rw [h];rfl
theorem rbyte_any (s:ByteArray) (c e0:Int) (T:Bool) (i:Int) (hs:s.size ≤ 140737488351232) (w:World) :
   Calls Tryd.prog 155 #[.agg #[.string s,.int .i64 c,.int .i64 e0,.bool T],.int .i64 i] w fun e w'=>e=.returned (.int .i64 ((Sc.of s c e0 T).rb i))∧Below w.heap.size w w':=by
 have Z0:=heap_alloc_new w (.cells #[.string s,.int .i64 c,.int .i64 e0,.bool T] 61)
 have HW:=Lib.hid (show Below w.heap.size w (w.alloc (.cells #[.string s,.int .i64 c,.int .i64 e0,.bool T] 61)) from (Below.refl _ _).alloc (Nat.le_refl _) _)
 obtain ⟨c0,-,-,c3,-⟩:=four Z0
 have hsz:=Sc.of_size s c e0 T
 by_cases h0:i < 0
 · have hd:decide (i < 0)=true:=by simpa using h0
   rw [Sc.rb_out _ (Sc.inn_neg _ h0)]
   clear hsz
   go_enter Tryd.func155,Tryd.ntmps155
   go_wp2
   go_ret
   exact ⟨rfl,HW.out⟩
 · obtain ⟨k,rfl⟩:∃ k:Nat,i=k:=⟨i.toNat,by omega⟩
   have hd:decide ((k:Int) < 0)=false:=by simp
   by_cases h1:k < s.size
   · have hd1:decide ((s.size:Int) ≤ k)=false:=by simp;omega
     have hd2:decide (s.size ≤ k)=false:=by simp;omega
     rw [Sc.rb_in _ (by omega)]
     clear hsz
     cases T with
     | true =>
       obtain ⟨j,hj⟩:∃ j,j=s.size - 1 - k:=⟨_,rfl⟩
       have hjs:j < s.size:=by omega
       have hcb:cb (Sc.of s c e0 true).t k=s[j].toNat:=by
         show cb (Sc.rev s) k=_
         rw [Sc.cb_rev s h1,cb_in hjs,hj]
       rw [hcb]
       have wj:(s.size:Int) - 1 - (k:Int)=(j:Int):=by omega
       clear hcb hj
       go_enter Tryd.func155,Tryd.ntmps155
       go_wp2
       go_ret
       refine ⟨?_,HW.out⟩
       show Ending.returned (.int .i64 (wrap64 (s[j].toNat:Int)))=_
       exact ret_int (by unfold wrap64;have:=UInt8.toNat_lt s[j];omega)
     | false =>
       rw [show cb (Sc.of s c e0 false).t k=s[k].toNat from (cb_in h1).symm]
       go_enter Tryd.func155,Tryd.ntmps155
       go_wp2
       go_ret
       refine ⟨?_,HW.out⟩
       show Ending.returned (.int .i64 (wrap64 (s[k].toNat:Int)))=_
       exact ret_int (by unfold wrap64;have:=UInt8.toNat_lt s[k];omega)
   · have hd1:decide ((s.size:Int) ≤ k)=true:=by simp;omega
     have hd2:decide (s.size ≤ k)=true:=by simp;omega
     rw [Sc.rb_out _ (Sc.inn_big _ (by omega))]
     clear hsz
     go_enter Tryd.func155,Tryd.ntmps155
     go_wp2
     go_ret
     exact ⟨rfl,HW.out⟩
end Go.Proofs.YtnaoiglbjkjogaaDoor
namespace Go.Proofs.YtnaoiglbjkjogaaDoor
open Go.RowKit
theorem Tryd.infoBoolB:(Tryd.prog.info? 4).map (fun i=>(i.zero,i.size,i.bytes))=some (some (.bool false),1,1):=by kernel_rfl
def bl (n:Nat) (F:Nat→Bool):Array Value:=Array.ofFn (n:=n) fun i=>.bool (F i.val)
theorem bl_size (n:Nat) (F:Nat→Bool):(bl n F).size=n:=by simp [bl]
theorem bl_get {n:Nat} (F:Nat→Bool) {k:Nat} (h:k < n):(bl n F)[k]? = some (.bool (F k)):=by
 unfold bl;rw [Array.getElem?_eq_getElem (by simpa using h)];simp
theorem bl_set {n:Nat} {F G:Nat→Bool} {k:Nat} {v:Bool} (h:k < n) (hk:G k=v) (ho:∀ j,j ≠ k→G j=F j):(bl n F).setIfInBounds k (.bool v)=bl n G:=by
 apply Array.ext
 · simp [bl]
 · intro i h1 h2
   by_cases e:i=k
   · subst e;simp [bl,hk]
   · have:=ho i e
     rw [Array.getElem_setIfInBounds_ne (by simpa using h1) (Ne.symm e)]
     simp [bl,this]
theorem bl_congr {n:Nat} {F G:Nat→Bool} (h:∀ i,i < n→F i=G i):bl n F=bl n G:=by
 unfold bl;congr 1;funext i;rw [h i.val i.isLt]
theorem bl_cell {w:World} {b n k:Nat} {F:Nat→Bool} {t:TypeId} (hk:k < n) (h:w.heap[b]? = some (.cells (bl n F) t)):w.cell? ⟨b,k,none⟩=some (.bool (F k))∧w.frozen? ⟨b,k,none⟩=false:=by
 constructor
 · unfold World.cell?;rw [h];exact bl_get F hk
 · unfold World.frozen?;rw [h];simp
theorem bl_put {w:World} {b n k:Nat} {F G:Nat→Bool} {v:Bool} {t:TypeId} (hk:k < n) (h:w.heap[b]? = some (.cells (bl n F) t)) (hv:G k=v) (ho:∀ j,j ≠ k→G j=F j) :
   (w.setCell ⟨b,k,none⟩ (.bool v)).heap[b]? = some (.cells (bl n G) t):=by
 simp [World.setCell,Array.getElem?_modify,h,bl_set hk hv ho]
def BlAt (w:World) (v:Value) (n:Nat) (F:Nat→Bool):Prop:=∃ g,v=.slice (some ⟨g,0,none⟩) n n∧w.heap[g]? = some (.cells (bl n F) 4)
theorem BlAt.below {w w':World} {v:Value} {n:Nat} {F:Nat→Bool} (h:BlAt w v n F) (hb:Below w.heap.size w w'):BlAt w' v n F:=by
 obtain ⟨g,e,hg⟩:=h;exact ⟨g,e,(hb.block g (Array.getElem?_eq_some_iff.1 hg).1).trans hg⟩
theorem make_bools (ty:TypeId) (ht:Tryd.prog.underlying ty=some (.slice 4)) (n:Nat) (hn:n ≤ 140737488351232) (w:World):(Instr.makeSlice ty (.int .i64 n) (.int .i64 n)).run Tryd.prog w=.ok (.slice (some ⟨w.heap.size,0,none⟩) n n) (w.alloc (.cells (bl n fun _=>false) 4)):=by
 obtain ⟨ie,hi,hz0,hz1,hz2⟩:=info_parts Tryd.infoBoolB
 have h:=run_make (P:=Tryd.prog) w ty 4 ie _ ht hi hz0 .i64 .i64 n n (by omega) (Int.le_refl _) (by rw [hz2];omega) (by omega)
 simp only [Int.toNat_natCast,hz1] at h
 have e:madeCells (Value.bool false).cells (n * 1)=bl n fun _=>false:=by
   apply Array.ext
   · rw [size_madeCells,bl_size];omega
   · intro i h1 h2
     simp [madeCells,bl,Value.cells,Nat.mod_one]
 rw [e] at h
 exact h
end Go.Proofs.YtnaoiglbjkjogaaDoor
namespace Go.Proofs.YtnaoiglbjkjogaaDoor
open Go.RowKit
def sp (n:Nat) (G:Nat→Int × Int):Array Value:=Array.ofFn (n:=n * 2) fun i=>.int .i64 (if i.val % 2=0 then (G (i.val / 2)).1 else (G (i.val / 2)).2)
theorem sp_size (n:Nat) (G:Nat→Int × Int):(sp n G).size=n * 2:=by simp [sp]
theorem sp_get {n:Nat} (G:Nat→Int × Int) {k:Nat} (h:k < n):(sp n G)[k * 2]? = some (.int .i64 (G k).1)∧(sp n G)[k * 2+1]? = some (.int .i64 (G k).2):=by
 unfold sp
 constructor
 · rw [Array.getElem?_eq_getElem (by simp;omega)];simp
 · rw [Array.getElem?_eq_getElem (by simp;omega)]
   simp only [Array.getElem_ofFn,Option.some.injEq,Value.int.injEq,true_and]
   rw [if_neg (by omega),show (k * 2+1) / 2=k by omega]
theorem sp_set {n:Nat} {G H:Nat→Int × Int} {k:Nat} {a b:Int} (_h:k < n) (hk:H k=(a,b)) (ho:∀ j,j ≠ k→H j=G j):((sp n G).setIfInBounds (k * 2) (.int .i64 a)).setIfInBounds (k * 2+1) (.int .i64 b)=sp n H:=by
 apply Array.ext
 · simp [sp]
 · intro i h1 h2
   simp only [Array.size_setIfInBounds,sp_size] at h1
   by_cases e1:i=k * 2+1
   · subst e1
     rw [Array.getElem_setIfInBounds_self (by simpa [sp_size] using h1)]
     simp only [sp,Array.getElem_ofFn]
     rw [if_neg (by omega),show (k * 2+1) / 2=k by omega,hk]
   · rw [Array.getElem_setIfInBounds_ne (by simpa [sp_size] using h1) (Ne.symm e1)]
     by_cases e2:i=k * 2
     · subst e2
       rw [Array.getElem_setIfInBounds_self (by simpa [sp_size] using h1)]
       simp only [sp,Array.getElem_ofFn]
       rw [if_pos (by omega),show k * 2 / 2=k by omega,hk]
     · rw [Array.getElem_setIfInBounds_ne (by simpa [sp_size] using h1) (Ne.symm e2)]
       simp only [sp,Array.getElem_ofFn]
       rw [ho (i / 2) (by omega)]
theorem sp_cell {w:World} {b n k:Nat} {G:Nat→Int × Int} {t:TypeId} (hk:k < n) (h:w.heap[b]? = some (.cells (sp n G) t)) :
   w.cell? ⟨b,k * 2,none⟩=some (.int .i64 (G k).1)∧w.cell? ⟨b,k * 2+1,none⟩=some (.int .i64 (G k).2)∧w.frozen? ⟨b,k * 2,none⟩=false∧w.frozen? ⟨b,k * 2+1,none⟩=false:=by
 refine ⟨?_, ?_, ?_, ?_⟩
 · unfold World.cell?;rw [h];exact (sp_get G hk).1
 · unfold World.cell?;rw [h];exact (sp_get G hk).2
 · unfold World.frozen?;rw [h];simp
 · unfold World.frozen?;rw [h];simp
theorem sp_put {w:World} {b n k:Nat} {G H:Nat→Int × Int} {x y:Int} {t:TypeId} (hk:k < n) (h:w.heap[b]? = some (.cells (sp n G) t)) (hv:H k=(x,y)) (ho:∀ j,j ≠ k→H j=G j) :
   ((w.setCell ⟨b,k * 2,none⟩ (.int .i64 x)).setCell ⟨b,k * 2+1,none⟩ (.int .i64 y)).heap[b]? = some (.cells (sp n H) t):=by
 simp [World.setCell,Array.getElem?_modify,h,sp_set hk hv ho]
namespace Rk
def shown (σ:Told) (i:Nat):Int × Int:=(σ (i:Int)).getD (-1,-1)
def toldB (σ:Told) (i:Nat):Bool:=(σ (i:Int)).isSome
end Rk
structure TlAt (w:World) (lb sb tb n:Nat) (σ:Rk.Told):Prop where
 box:w.heap[lb]? = some (.cells #[.slice (some ⟨sb,0,none⟩) n n,.slice (some ⟨tb,0,none⟩) n n] 101)
 spans:w.heap[sb]? = some (.cells (sp n (Rk.shown σ)) 70)
 told:w.heap[tb]? = some (.cells (bl n (Rk.toldB σ)) 4)
theorem TlAt.ne {w:World} {lb sb tb n:Nat} {σ:Rk.Told} (h:TlAt w lb sb tb n σ):lb ≠ sb∧lb ≠ tb∧sb ≠ tb:=by
 refine ⟨fun e=>?_,fun e=>?_,fun e=>?_⟩
 · have h1:=h.box;rw [e,h.spans] at h1;simp at h1
 · have h1:=h.box;rw [e,h.told] at h1;simp at h1
 · have h1:=h.spans;rw [e,h.told] at h1;simp at h1
theorem TlAt.keep {w w':World} {lb sb tb n:Nat} {σ:Rk.Told} (h:TlAt w lb sb tb n σ) (hl:w'.heap[lb]? = w.heap[lb]?) (hs:w'.heap[sb]? = w.heap[sb]?) (ht:w'.heap[tb]? = w.heap[tb]?):TlAt w' lb sb tb n σ:=⟨hl.trans h.box,hs.trans h.spans,ht.trans h.told⟩
theorem TlAt.lt {w:World} {lb sb tb n:Nat} {σ:Rk.Told} (h:TlAt w lb sb tb n σ):lb < w.heap.size∧sb < w.heap.size∧tb < w.heap.size:=⟨(Array.getElem?_eq_some_iff.1 h.box).1,(Array.getElem?_eq_some_iff.1 h.spans).1,(Array.getElem?_eq_some_iff.1 h.told).1⟩
theorem TlAt.later {w w':World} {lb sb tb n:Nat} {σ:Rk.Told} (h:TlAt w lb sb tb n σ) (hb:Below w.heap.size w w'):TlAt w' lb sb tb n σ:=h.keep (hb.block _ h.lt.1) (hb.block _ h.lt.2.1) (hb.block _ h.lt.2.2)
theorem rknowhere_any (w:World):Calls Tryd.prog 99 #[] w fun e w'=>e=.returned (.agg #[.int .i64 (-1),.int .i64 (-1)])∧Below w.heap.size w w':=by
 go_enter Tryd.func99,Tryd.ntmps99
 go_wp2
 exact bodyPost_ret (v:=.agg #[.int .i64 (-1),.int .i64 (-1)]) (by simp [results,Tryd.results99,go_sem]) rfl ⟨rfl,(Below.refl _ _).alloc (Nat.le_refl _) _⟩
theorem rkspan_any (lo hi pk:Int) (p:Option Addr) (l c:Nat) (w:World):Calls Tryd.prog 63 #[.agg #[.int .i64 lo,.int .i64 hi,.int .i64 pk,.slice p l c]] w fun e w'=>e=.returned (.agg #[.int .i64 lo,.int .i64 hi])∧Below w.heap.size w w':=by
 go_enter Tryd.func63,Tryd.ntmps63
 go_wp2
 exact bodyPost_ret (v:=.agg #[.int .i64 lo,.int .i64 hi]) (by simp [results,Tryd.results63,go_sem]) rfl ⟨rfl,by go_grown⟩
def TlEnd (lb sb tb n:Nat) (σ:Rk.Told) (w:World) (e:Ending) (w':World):Prop:=e=.returned (.tuple #[])∧TlAt w' lb sb tb n σ∧Touch [sb,tb] w w'
theorem tell_any (lb sb tb n:Nat) (σ:Rk.Told) (k:Nat) (a b:Int) (w:World) (h:TlAt w lb sb tb n σ) :
   Calls Tryd.prog 62 #[.pointer (some ⟨lb,0,none⟩),.int .i64 (k:Int),.agg #[.int .i64 a,.int .i64 b]] w (TlEnd lb sb tb n (Rk.tell σ k (a,b)) w):=by
 have HA:=Lib.hid (fun o=>h.later ((Below.refl w.heap.size w).alloc (Nat.le_refl _) o))
 have HNE:=Lib.hid h.ne
 have HLT:=Lib.hid h.lt
 have HT:=Lib.hid (fun o=>Touch.of_below [sb,tb] ((Below.refl w.heap.size w).alloc (Nat.le_refl _) o))
 have HO:=Lib.hid (heap_alloc_new w (.cells #[.int .i64 a,.int .i64 b] 70))
 clear h
 by_cases hkn:k < n
 · have g1:decide ((k:Int) < n)=true:=by simp;omega
   have g2:decide (k < n)=true:=decide_eq_true hkn
   cases ht:Rk.toldB σ k with
   | true =>
     have HS:=Lib.hid (show Rk.tell σ k (a,b)=σ from Rk.tell_id _ ht)
     obtain ⟨t0,tf⟩:=bl_cell hkn (HA.out (.cells #[.int .i64 a,.int .i64 b] 70)).told
     have hb:=(HA.out (.cells #[.int .i64 a,.int .i64 b] 70)).box
     have b1:(w.alloc (.cells #[.int .i64 a,.int .i64 b] 70)).cell? ⟨lb,1,none⟩=some (.slice (some ⟨tb,0,none⟩) n n):=by unfold World.cell?;rw [hb];rfl
     rw [ht] at t0
     clear hb ht
     go_enter Tryd.func62,Tryd.ntmps62
     go_wp2
     go_end0
     exact ⟨rfl,by rw [HS.out];exact HA.out _,HT.out _⟩
   | false =>
     have h0:=HA.out (.cells #[.int .i64 a,.int .i64 b] 70)
     obtain ⟨t0,tf⟩:=bl_cell hkn h0.told
     have b1:(w.alloc (.cells #[.int .i64 a,.int .i64 b] 70)).cell? ⟨lb,1,none⟩=some (.slice (some ⟨tb,0,none⟩) n n):=by unfold World.cell?;rw [h0.box];rfl
     rw [ht] at t0
     clear h0
     have HTB:=Lib.hid ht
     clear ht
     go_enter Tryd.func62,Tryd.ntmps62
     go_upto_region 3 with (fail)
     clear t0 tf b1
     have H0:=Lib.hid (HA.out (.cells #[.int .i64 a,.int .i64 b] 70))
     have HT0:=Lib.hid (HT.out (.cells #[.int .i64 a,.int .i64 b] 70))
     generalize World.alloc w _=W0 at *
     have HTO:=Lib.hid (bl_put hkn H0.out.told (v:=true) (G:=Rk.toldB (Rk.tell σ k (a,b))) (by unfold Rk.toldB;exact Rk.tell_told _ _ _) (fun j hj=>by unfold Rk.toldB Rk.tell;rw [if_neg (by rintro ⟨e,-⟩;omega)]))
     have HOO:=Lib.hid (fun v=>fun g (hg:g ≠ tb)=>Below.heap_setCell W0 ⟨tb,k,none⟩ v g hg)
     have HT1:=Lib.hid (HT0.out.setCells (b:=tb) (by simp) k [.bool true])
     have e1:W0.setCells tb k [.bool true]=W0.setCell ⟨tb,k,none⟩ (.bool true):=rfl
     rw [e1] at HT1
     have hne:=HNE.out;have hlt:=HLT.out
     have y0:=(HOO.out (.bool true) lb hne.2.1).trans H0.out.box
     have y1:=(HOO.out (.bool true) sb hne.2.2).trans H0.out.spans
     have y2:=(HOO.out (.bool true) w.heap.size (by omega)).trans HO.out
     clear e1
     generalize W0.setCell ⟨tb,k,none⟩ (.bool true)=W1 at *
     have Y1:=Lib.hid y1;have Y0:=Lib.hid y0
     obtain ⟨s0,s1,s2,s3⟩:=sp_cell hkn y1
     have b0:W1.cell? ⟨lb,0,none⟩=some (.slice (some ⟨sb,0,none⟩) n n):=by unfold World.cell?;rw [y0];rfl
     have o0:W1.cell? ⟨w.heap.size,0,none⟩=some (.int .i64 a):=by unfold World.cell?;rw [y2];rfl
     have o1:W1.cell? ⟨w.heap.size,1,none⟩=some (.int .i64 b):=by unfold World.cell?;rw [y2];rfl
     clear y0 y1 y2 hne hlt
     have HTW:=Lib.hid (show Touch [sb,tb] w W1.drew from ⟨HT1.out.os,HT1.out.tape,HT1.out.output,HT1.out.size,HT1.out.block⟩)
     have HY:=Lib.hid (show W1.drew.heap[sb]? = some (.cells (sp n (Rk.shown σ)) 70) from Y1.out)
     have HLB:=Lib.hid (show W1.drew.heap[lb]? = some (.cells #[.slice (some ⟨sb,0,none⟩) n n,.slice (some ⟨tb,0,none⟩) n n] 101) from Y0.out)
     have HTB2:=Lib.hid (show W1.drew.heap[tb]? = some (.cells (bl n (Rk.toldB (Rk.tell σ k (a,b)))) 4) from HTO.out)
     go_still_tail 7,(by kernel_rfl)
     change wpList _ _ _ _ _ W1.drew
     clear s0 s1 s2 s3 b0 o0 o1 Y1 Y0 HTO HT1
     generalize W1.drew=W2 at *
     obtain ⟨s0,s1,s2,s3⟩:=sp_cell hkn HY.out
     have HP:=Lib.hid (sp_put hkn HY.out (x:=a) (y:=b) (H:=Rk.shown (Rk.tell σ k (a,b))) (by
       have:=HTB.out
       unfold Rk.toldB at this
       unfold Rk.shown Rk.tell;rw [if_pos ⟨rfl,by cases hσ:σ (k:Int) <;> simp [hσ] at this ⊢⟩];rfl) (fun j hj=>by
       unfold Rk.shown Rk.tell;rw [if_neg (by rintro ⟨e,-⟩;omega)]))
     go_wp2
     go_end0
     have hne:=HNE.out
     refine ⟨rfl,⟨?_,HP.out, ?_⟩, ?_⟩
     · exact (Below.heap_setCell _ _ _ _ hne.1).trans ((Below.heap_setCell _ _ _ _ hne.1).trans HLB.out)
     · exact (Below.heap_setCell _ _ _ _ (Ne.symm hne.2.2)).trans ((Below.heap_setCell _ _ _ _ (Ne.symm hne.2.2)).trans HTB2.out)
     · exact HTW.out.setCells (b:=sb) (by simp) (k * 2) [.int .i64 a,.int .i64 b]
 · have g1:decide ((k:Int) < n)=false:=by simp;omega
   have g2:decide (k < n)=false:=decide_eq_false hkn
   have hb:=(HA.out (.cells #[.int .i64 a,.int .i64 b] 70)).box
   have b1:(w.alloc (.cells #[.int .i64 a,.int .i64 b] 70)).cell? ⟨lb,1,none⟩=some (.slice (some ⟨tb,0,none⟩) n n):=by unfold World.cell?;rw [hb];rfl
   have HC:=Lib.hid (show ∀ w',TlAt w' lb sb tb n σ→TlAt w' lb sb tb n (Rk.tell σ k (a,b)) from fun w' h=>by
     have e:∀ j,j < n→Rk.tell σ k (a,b) (j:Int)=σ (j:Int):=fun j hj=>by unfold Rk.tell;rw [if_neg (by rintro ⟨e,-⟩;omega)]
     refine ⟨h.box, ?_, ?_⟩
     · rw [h.spans];congr 2;unfold sp;congr 1;funext i
       have:i.val / 2 < n:=by have:=i.isLt;omega
       unfold Rk.shown;rw [e _ this]
     · rw [h.told];congr 2;exact bl_congr fun i hi=>by unfold Rk.toldB;rw [e i hi])
   clear hb hkn
   go_enter Tryd.func62,Tryd.ntmps62
   go_wp2
   go_end0
   exact ⟨rfl,HC.out _ (HA.out _),HT.out _⟩
end Go.Proofs.YtnaoiglbjkjogaaDoor
namespace Go.Proofs.YtnaoiglbjkjogaaDoor
open Go.RowKit
def LvAt (w:World) (base:Nat) (V:Nat→Nat→Tr→Prop):Prop:=∀ b o u,V b o u→base ≤ b∧o % 4=0∧w.cell? ⟨b,o,none⟩=some (.int .i64 u.kind)∧w.cell? ⟨b,o+1,none⟩=some (.int .i64 u.num) ∧
 (∃ p cap,w.cell? ⟨b,o+2,none⟩=some (.slice p u.subs.length cap)∧u.subs.length ≤ 2932031007402∧∀ i c,u.subs[i]? = some c→∃ bs os,p=some ⟨bs,os,none⟩∧V bs (os+i * 4) c)∧(∃ f,w.cell? ⟨b,o+3,none⟩=some (.bool f))∧w.frozen? ⟨b,o+3,none⟩=false
def LvFn (V:Nat→Nat→Tr→Prop):Prop:=∀ b o u u',V b o u→V b o u'→Rk.nums u=Rk.nums u'∧u.ndT=u'.ndT
def Fl (V:Nat→Nat→Tr→Prop) (σ:Rk.Told) (w w':World):Prop:=∀ b o u,V b o u→w'.cell? ⟨b,o+3,none⟩=w.cell? ⟨b,o+3,none⟩ ∨ ∀ n,n ∈ Rk.nums u→(σ n).isSome
def Oks (V:Nat→Nat→Tr→Prop) (σ:Rk.Told) (w:World) (N:Nat):Prop:=∀ b o u,V b o u→u.ndT < N→w.cell? ⟨b,o+3,none⟩=some (.bool true)→∀ n,n ∈ Rk.nums u→(σ n).isSome
def OksA (V:Nat→Nat→Tr→Prop) (σ:Rk.Told) (w:World):Prop:=∀ N,Oks V σ w N
structure Tch (V:Nat→Nat→Tr→Prop) (sb tb:Nat) (w w':World):Prop where
 os:w'.os=w.os
 tape:w'.tape=w.tape
 output:w'.output=w.output
 size:w.heap.size ≤ w'.heap.size
 block:∀ k,k < w.heap.size→(∀ o u,¬ V k o u)→k ≠ sb→k ≠ tb→w'.heap[k]? = w.heap[k]?
theorem Tch.trans {V:Nat→Nat→Tr→Prop} {sb tb:Nat} {a b c:World} (h:Tch V sb tb a b) (k:Tch V sb tb b c):Tch V sb tb a c :=
 ⟨k.os.trans h.os,k.tape.trans h.tape,k.output.trans h.output,Nat.le_trans h.size k.size,fun i h0 h1 h2 h3=>(k.block i (Nat.lt_of_lt_of_le h0 h.size) h1 h2 h3).trans (h.block i h0 h1 h2 h3)⟩
theorem Tch.of_below {V:Nat→Nat→Tr→Prop} {sb tb:Nat} {w w':World} (h:Below w.heap.size w w'):Tch V sb tb w w':=⟨h.os,h.tape,h.output,h.size,fun k hk _ _ _=>h.block k hk⟩
theorem Tch.of_touch {V:Nat→Nat→Tr→Prop} {sb tb:Nat} {w w':World} (h:Touch [sb,tb] w w'):Tch V sb tb w w':=⟨h.os,h.tape,h.output,h.size,fun k hk _ h1 h2=>h.block k hk (by simp [h1,h2])⟩
theorem Tch.set {V:Nat→Nat→Tr→Prop} {sb tb:Nat} {w:World} {b o:Nat} {u:Tr} (hv:V b o u) (o':Nat) (v:Value):Tch V sb tb w (w.setCell ⟨b,o',none⟩ v) :=
 ⟨rfl,rfl,rfl,by simp [World.setCell],fun k _ hk _ _=>Below.heap_setCell _ _ _ _ (by show k ≠ b;rintro rfl;exact hk o u hv)⟩
theorem Fl.trans {V:Nat→Nat→Tr→Prop} {σ τ:Rk.Told} {a b c:World} (h:Fl V σ a b) (k:Fl V τ b c) (hl:Rk.Le σ τ):Fl V τ a c:=fun b' o u hv=>by
 rcases k b' o u hv with e | e
 · rcases h b' o u hv with e' | e'
   · exact .inl (e.trans e')
   · exact .inr fun n hn=>hl.some (e' n hn)
 · exact .inr e
theorem Fl.mono {V:Nat→Nat→Tr→Prop} {σ τ:Rk.Told} {a b:World} (h:Fl V σ a b) (hl:Rk.Le σ τ):Fl V τ a b:=fun b' o u hv=>by
 rcases h b' o u hv with e | e
 · exact .inl e
 · exact .inr fun n hn=>hl.some (e n hn)
theorem Oks.fl {V:Nat→Nat→Tr→Prop} {σ τ:Rk.Told} {w w':World} {N:Nat} (h:Oks V σ w N) (k:Fl V τ w w') (hl:Rk.Le σ τ):Oks V τ w' N:=fun b o u hv hN hf n hn=>by
 rcases k b o u hv with e | e
 · exact hl.some (h b o u hv hN (e ▸ hf) n hn)
 · exact e n hn
theorem Oks.mono {V:Nat→Nat→Tr→Prop} {σ:Rk.Told} {w:World} {N M:Nat} (h:Oks V σ w N) (hm:M ≤ N):Oks V σ w M:=fun b o u hv hN=>h b o u hv (by omega)
theorem OksA.fl {V:Nat→Nat→Tr→Prop} {σ τ:Rk.Told} {w w':World} (h:OksA V σ w) (k:Fl V τ w w') (hl:Rk.Le σ τ):OksA V τ w':=fun N=>(h N).fl k hl
theorem LvAt.lt {w:World} {base:Nat} {V:Nat→Nat→Tr→Prop} (h:LvAt w base V) {b o:Nat} {u:Tr} (hv:V b o u):b < w.heap.size:=block_lt_of_cell (h b o u hv).2.2.1
theorem LvAt.keep {w w':World} {base:Nat} {V:Nat→Nat→Tr→Prop} (h:LvAt w base V) (hk:∀ b,b < w.heap.size→base ≤ b→w'.heap[b]? = w.heap[b]?):LvAt w' base V∧∀ σ,Fl V σ w w':=by
 have e:∀ b o u,V b o u→∀ j,w'.cell? ⟨b,j,none⟩=w.cell? ⟨b,j,none⟩:=fun b o u hv j=>by unfold World.cell?;rw [hk b (h.lt hv) (h b o u hv).1]
 refine ⟨fun b o u hv=>?_,fun σ b o u hv=>.inl (e b o u hv _)⟩
 obtain ⟨h1,h2,h3,h4,⟨p,cap,h5,h6⟩,⟨f,h7⟩,h8⟩:=h b o u hv
 refine ⟨h1,h2,(e b o u hv _).trans h3,(e b o u hv _).trans h4,⟨p,cap,(e b o u hv _).trans h5,h6⟩,⟨f,(e b o u hv _).trans h7⟩, ?_⟩
 unfold World.frozen? at h8 ⊢
 simp only [hk b (h.lt hv) h1]
 exact h8
theorem LvAt.later {w w':World} {base:Nat} {V:Nat→Nat→Tr→Prop} (h:LvAt w base V) (hb:Below w.heap.size w w'):LvAt w' base V∧∀ σ,Fl V σ w w':=h.keep fun b hb' _=>hb.block b hb'
theorem LvAt.touch {w w':World} {base sb tb:Nat} {V:Nat→Nat→Tr→Prop} (h:LvAt w base V) (ht:Touch [sb,tb] w w') (hs:sb < base) (htb:tb < base):LvAt w' base V∧∀ σ,Fl V σ w w' :=
 h.keep fun b hb' hB=>ht.block b hb' (by simp;omega)
theorem cell_set {w:World} {b o b' o':Nat} {v:Value} (h:¬ (b'=b∧o'=o)):(w.setCell ⟨b,o,none⟩ v).cell? ⟨b',o',none⟩=w.cell? ⟨b',o',none⟩:=by
 by_cases hb:b'=b
 · subst hb
   have ho:o' ≠ o:=fun e=>h ⟨rfl,e⟩
   unfold World.cell?
   simp only [World.setCell,Array.getElem?_modify,if_true]
   cases hw:w.heap[b']? with
   | none=>rfl
   | some x =>
     cases x <;> simp
     rw [Array.getElem?_setIfInBounds_ne (Ne.symm ho)]
 · unfold World.cell?
   rw [show (w.setCell ⟨b,o,none⟩ v).heap[b']? = w.heap[b']? from Below.heap_setCell _ _ _ _ (by show b' ≠ b;exact hb)]
theorem frozen_set {w:World} {b o b' o':Nat} {v:Value} : (w.setCell ⟨b,o,none⟩ v).frozen? ⟨b',o',none⟩=w.frozen? ⟨b',o',none⟩:=by
 by_cases hb:b'=b
 · subst hb
   unfold World.frozen?
   simp only [World.setCell,Array.getElem?_modify,if_true]
   cases hw:w.heap[b']? with
   | none=>rfl
   | some x=>cases x <;> simp
 · unfold World.frozen?
   simp only [show (w.setCell ⟨b,o,none⟩ v).heap[b']? = w.heap[b']? from Below.heap_setCell _ _ _ _ (by show b' ≠ b;exact hb)]
theorem cell_set_self {w:World} {b o:Nat} {v x:Value} (h:w.cell? ⟨b,o,none⟩=some x):(w.setCell ⟨b,o,none⟩ v).cell? ⟨b,o,none⟩=some v:=by
 unfold World.cell? at h ⊢
 simp only [World.setCell,Array.getElem?_modify,if_true]
 cases hw:w.heap[b]? with
 | none=>rw [hw] at h;simp at h
 | some y =>
   rw [hw] at h
   cases y <;> simp at h ⊢
   rename_i cs ty fr
   have:=(Array.getElem?_eq_some_iff.1 h).1
   rw [Array.getElem?_setIfInBounds_self_of_lt this]
theorem LvAt.mark {w:World} {base:Nat} {V:Nat→Nat→Tr→Prop} (h:LvAt w base V) {b o:Nat} {u:Tr} (hv:V b o u):LvAt (w.setCell ⟨b,o+3,none⟩ (.bool true)) base V:=by
 intro b' o' u' hv'
 obtain ⟨h1,h2,h3,h4,⟨p,cap,h5,h6⟩,⟨f,h7⟩,h8⟩:=h b' o' u' hv'
 have ho:=(h b o u hv).2.1
 refine ⟨h1,h2, ?_, ?_,⟨p,cap, ?_,h6⟩, ?_, ?_⟩
 · rw [cell_set (by rintro ⟨-,e⟩;omega)];exact h3
 · rw [cell_set (by rintro ⟨-,e⟩;omega)];exact h4
 · rw [cell_set (by rintro ⟨-,e⟩;omega)];exact h5
 · by_cases e:b'=b∧o'+3=o+3
   · obtain ⟨e1,e2⟩:=e
     rw [e1,e2] at h7 ⊢
     exact ⟨true,cell_set_self h7⟩
   · exact ⟨f,by rw [cell_set e];exact h7⟩
 · rw [frozen_set];exact h8
theorem Oks.mark {w:World} {V:Nat→Nat→Tr→Prop} {σ:Rk.Told} (hF:LvFn V) {b o:Nat} {u:Tr} (hv:V b o u) (h:Oks V σ w u.ndT):Oks V σ (w.setCell ⟨b,o+3,none⟩ (.bool true)) u.ndT:=fun b' o' u' hv' hN hf=>by
 by_cases e:b'=b∧o'+3=o+3
 · obtain ⟨e1,e2⟩:=e
   have e3:o'=o:=by omega
   subst e1 e3
   have:=(hF b' o' u' u hv' hv).2
   omega
 · rw [cell_set e] at hf
   exact h b' o' u' hv' hN hf
theorem Fl.mark {w:World} {V:Nat→Nat→Tr→Prop} {σ:Rk.Told} (hF:LvFn V) {b o:Nat} {u:Tr} (hv:V b o u) (h:∀ n,n ∈ Rk.nums u→(σ n).isSome):Fl V σ w (w.setCell ⟨b,o+3,none⟩ (.bool true)):=fun b' o' u' hv'=>by
 by_cases e:b'=b∧o'+3=o+3
 · obtain ⟨e1,e2⟩:=e
   have e3:o'=o:=by omega
   subst e1 e3
   have:=(hF b' o' u' u hv' hv).1
   exact .inr fun n hn=>h n (this ▸ hn)
 · exact .inl (cell_set e)
theorem TlAt.set {w:World} {lb sb tb n:Nat} {σ:Rk.Told} (h:TlAt w lb sb tb n σ) {b o:Nat} {v:Value} (h1:lb ≠ b) (h2:sb ≠ b) (h3:tb ≠ b):TlAt (w.setCell ⟨b,o,none⟩ v) lb sb tb n σ :=
 h.keep (Below.heap_setCell _ _ _ _ h1) (Below.heap_setCell _ _ _ _ h2) (Below.heap_setCell _ _ _ _ h3)
namespace Rk
theorem numsS_pos {l:List Tr} (h:∀ t,t ∈ l→∀ n,n ∈ nums t→1 ≤ n∧n ≤ 999):∀ n,n ∈ numsS l→1 ≤ n∧n ≤ 999:=by
 induction l with
 | nil=>intro n hn;simp [numsS] at hn
 | cons t l ih =>
   intro n hn
   rw [numsS] at hn
   rcases List.mem_append.1 hn with hn | hn
   · exact h t List.mem_cons_self n hn
   · exact ih (fun u hu=>h u (List.mem_cons_of_mem _ hu)) n hn
theorem nums_pos (t:Tr):t.InForm→∀ n,n ∈ nums t→1 ≤ n∧n ≤ 999:=by
 induction t using Tr.rec_subs with
 | h t ih =>
   intro hf n hn
   have hs:=numsS_pos (l:=t.subs) fun u hu=>ih u hu (hf.sub hu)
   rw [nums_eq] at hn
   split at hn
   · rename_i hk
     rcases List.mem_cons.1 hn with rfl | hn
     · have:=hf.fields
       unfold Tr.fieldsOk at this
       omega
     · exact hs n hn
   · exact hs n hn
end Rk
end Go.Proofs.YtnaoiglbjkjogaaDoor
namespace Go.Proofs.YtnaoiglbjkjogaaDoor
namespace Rk
open Classical in
noncomputable def tkB (x:Sc) (t:Tr) (p:Pa):Bool:=decide (Tr.tk x t p.lo.toNat p.hi.toNat)
def rowB:List Pa→Int→Int→Bool
 | [],a,b=>a == b
 | q :: l,a,b=>if q.lo ≠ a ∨ q.hi < a then false else rowB l q.hi b
def none? : List Pa→Nat
 | []=>0
 | q :: l=>(if q.lo=q.hi then 1 else 0)+none? l
def rSubs (t:Tr) (p:Pa):Bool :=
 if t.kind=5 then decide (p.subs.length=t.subs.length)
 else if t.kind=6 then decide (p.subs.length=1∧0 ≤ p.pick∧p.pick < (t.subs.length:Int))
 else if t.kind=7 then decide (p.subs.length=1)
 else if t.kind=8 then decide (¬ ((p.subs.length:Int) < t.least ∨ (t.most ≠ -1∧t.most < (p.subs.length:Int)))∧(none? (p.subs.drop t.least.toNat)=0 ∨ (p.subs.length=1∧t.least=0∧t.bare=false)))
 else decide (p.subs.length=0)
noncomputable def refK (x:Sc) (t:Tr) (p:Pa):Bool :=
 inSc x p && ((p.pick == 0 || t.kind == 6) && (rSubs t p && (if t.subs=[] then tkB x t p else if p.subs=[] then p.lo == p.hi else rowB p.subs p.lo p.hi)))
mutual
noncomputable def isT (x:Sc):Pa→Tr→Bool
 | .node lo hi pk s,t=>refK x t (.node lo hi pk s) && isS x s t pk 0
noncomputable def isS (x:Sc):List Pa→Tr→Int→Nat→Bool
 | [],_,_,_=>true
 | q :: l,t,pk,i=>(match at? t.subs (taker t.kind pk i) with
   | some u=>isT x q u
   | none=>false) && isS x l t pk (i+1)
end
theorem isT_eq (x:Sc) (p:Pa) (t:Tr):isT x p t=(refK x t p && isS x p.subs t p.pick 0):=by cases p;rw [isT];rfl
theorem isS_nil (x:Sc) (t:Tr) (pk:Int) (i:Nat):isS x [] t pk i=true:=by rw [isS]
theorem isS_cons (x:Sc) (q:Pa) (l:List Pa) (t:Tr) (pk:Int) (i:Nat) {u:Tr} (h:at? t.subs (taker t.kind pk i)=some u):isS x (q :: l) t pk i=(isT x q u && isS x l t pk (i+1)):=by
 rw [isS,h]
theorem row_ord:∀ (l:List Pa) (a b:Int),rowB l a b=true→inOrd l a b=true
 | [],a,b,h=>h
 | q :: l,a,b,h=>by
   rw [rowB] at h
   split at h
   · cases h
   · rename_i hn
     rw [inOrd,row_ord l q.hi b h,Bool.and_true,beq_iff_eq]
     omega
theorem ord_row (x:Sc):∀ (l:List Pa) (a b:Int),(∀ q,q ∈ l→q.lo ≤ q.hi)→inOrd l a b=true→rowB l a b=true
 | [],a,b,_,h=>h
 | q :: l,a,b,hq,h=>by
   rw [inOrd,Bool.and_eq_true,beq_iff_eq] at h
   have:=hq q List.mem_cons_self
   rw [rowB,if_neg (by omega)]
   exact ord_row x l q.hi b (fun r hr=>hq r (List.mem_cons_of_mem _ hr)) h.2
theorem none_full:∀ l:List Pa,none? l=0 ↔ l.all full=true
 | []=>by simp [none?]
 | q :: l=>by
   rw [none?,List.all_cons,Bool.and_eq_true,← none_full l]
   unfold full
   by_cases h:q.lo=q.hi
   · rw [if_pos h];simp [h]
   · rw [if_neg h];simp [h]
theorem leaf_same (x:Sc) (t:Tr) (p:Pa) (hk:t.kind=1 ∨ t.kind=2 ∨ t.kind=3 ∨ t.kind=4) (hp:p.subs=[]) (hin:inSc x p=true):fitK x t p=tkB x t p:=by
 unfold inSc at hin
 simp only [Bool.and_eq_true,decide_eq_true_eq] at hin
 obtain ⟨h0,h1,h2⟩:=hin
 obtain ⟨a,ha⟩:∃ a:Nat,p.lo=a:=⟨p.lo.toNat,by omega⟩
 obtain ⟨b,hb⟩:∃ b:Nat,p.hi=b:=⟨p.hi.toNat,by omega⟩
 unfold fitK tkB
 rw [Bool.eq_iff_iff,@decide_eq_true_iff _ (_),ha,hb]
 simp only [Int.toNat_natCast]
 rcases hk with k | k | k | k
 · rw [Tr.tk_empty k];simp [k,hp];omega
 · rw [Tr.tk_bytes k];simp [k,hp,Sc.inn]
   constructor
   · rintro ⟨h3,h4,h5⟩;exact ⟨⟨h3,h5⟩,by omega⟩
   · rintro ⟨⟨h3,h5⟩,h4⟩;exact ⟨h3,by omega,h5⟩
 · rw [Tr.tk_beg k];simp [k,hp,and_comm];intro _;omega
 · rw [Tr.tk_fin k];simp [k,hp,and_comm];intro _;omega
theorem node_same (x:Sc) (t:Tr) (p:Pa) (hf:t.InForm):(refK x t p=true→fits x t p=true)∧((∀ q,q ∈ p.subs→q.lo ≤ q.hi)→fits x t p=true→refK x t p=true):=by
 unfold refK fits
 cases hin:inSc x p with
 | false=>simp
 | true =>
 cases hpk:(p.pick == 0 || t.kind == 6) with
 | false=>simp
 | true =>
 simp only [Bool.true_and]
 have hk:=hf.fields
 unfold Tr.fieldsOk at hk
 have lf:t.kind=1 ∨ t.kind=2 ∨ t.kind=3 ∨ t.kind=4→t.subs=[]→((rSubs t p && if t.subs=[] then tkB x t p else if p.subs=[] then p.lo == p.hi else rowB p.subs p.lo p.hi)=true→fitK x t p=true)∧((∀ q,q ∈ p.subs→q.lo ≤ q.hi)→fitK x t p=true→(rSubs t p && if t.subs=[] then tkB x t p else if p.subs=[] then p.lo == p.hi else rowB p.subs p.lo p.hi)=true):=fun k hs=>by
   rw [if_pos hs]
   have hr:rSubs t p=decide (p.subs.length=0):=by
     unfold rSubs;rw [if_neg (by omega),if_neg (by omega),if_neg (by omega),if_neg (by omega)]
   rw [hr]
   by_cases hp:p.subs=[]
   · rw [leaf_same x t p k hp hin];simp [hp]
   · have:¬ p.subs.length=0:=fun h=>hp (List.length_eq_zero_iff.1 h)
     constructor
     · simp [hp]
     · intro _ h;unfold fitK at h
       rcases k with k | k | k | k <;> simp [k,hp] at h
 have hrow:∀ h:p.subs ≠ [],(rowB p.subs p.lo p.hi=true→inOrd p.subs p.lo p.hi=true)∧((∀ q,q ∈ p.subs→q.lo ≤ q.hi)→inOrd p.subs p.lo p.hi=true→rowB p.subs p.lo p.hi=true):=fun _=>⟨row_ord _ _ _,fun h=>ord_row x _ _ _ h⟩
 have hnl:p.subs ≠ [] ↔ p.subs.length ≠ 0:=by rw [ne_eq,ne_eq,List.length_eq_zero_iff]
 rcases hk with ⟨k,-,-,-,-,hs,-⟩ | ⟨k,hs,-⟩ | ⟨k,-,-,-,-,hl,-⟩ | ⟨k,-,-,-,-,hl,-⟩ | ⟨k,-,-,-,-,hl,-,h0,h1,-,-⟩
 · exact lf (by omega) hs
 · exact lf (by omega) hs
 · have hts:t.subs ≠ []:=fun e=>by rw [e] at hl;simp at hl
   rw [if_neg hts]
   rcases k with k | k
   · unfold rSubs fitK
     simp only [k]
     simp
     by_cases hp:p.subs.length=t.subs.length
     · have hne:=hnl.2 (by omega)
       have:=hrow hne
       simp only [hp,hne]
       simp
       exact this
     · simp [hp]
   · unfold rSubs fitK
     simp only [k]
     simp
     by_cases hp:p.subs.length=1
     · have hne:=hnl.2 (by omega)
       have:=hrow hne
       simp only [hp,hne]
       simp
       exact ⟨fun a b c=>⟨a,b,this.1 c⟩,fun a b c d=>⟨⟨b,c⟩,this.2 a d⟩⟩
     · simp [hp]
 · have hts:t.subs ≠ []:=fun e=>by rw [e] at hl;simp at hl
   rw [if_neg hts]
   unfold rSubs fitK
   simp only [k]
   simp
   by_cases hp:p.subs.length=1
   · have hne:=hnl.2 (by omega)
     have:=hrow hne
     simp only [hp,hne]
     simp
     exact this
   · simp [hp]
 · have hts:t.subs ≠ []:=fun e=>by rw [e] at hl;simp at hl
   rw [if_neg hts]
   have hR:rSubs t p=decide (¬ ((p.subs.length:Int) < t.least ∨ (t.most ≠ -1∧t.most < (p.subs.length:Int)))∧(none? (p.subs.drop t.least.toNat)=0 ∨ (p.subs.length=1∧t.least=0∧t.bare=false))):=by
     unfold rSubs;rw [if_neg (by omega),if_neg (by omega),if_neg (by omega),if_pos k]
   have hF:fitK x t p=(inOrd p.subs p.lo p.hi && admits t.least t.most t.bare p):=by
     unfold fitK;rw [if_neg (by omega),if_neg (by omega),if_neg (by omega),if_neg (by omega),if_neg (by omega),if_neg (by omega),if_neg (by omega),if_pos k]
   rw [hR,hF]
   unfold admits
   by_cases hc:(p.subs.length:Int) < t.least ∨ (t.most < (p.subs.length:Int)∧t.most ≠ -1)
   · rw [if_pos hc]
     have:(p.subs.length:Int) < t.least ∨ (t.most ≠ -1∧t.most < (p.subs.length:Int)):=by rcases hc with h | h;exact .inl h;exact .inr ⟨h.2,h.1⟩
     simp [this]
   · rw [if_neg hc]
     have:¬ ((p.subs.length:Int) < t.least ∨ (t.most ≠ -1∧t.most < (p.subs.length:Int))):=by rintro (h | h);exact hc (.inl h);exact hc (.inr ⟨h.2,h.1⟩)
     by_cases hp:p.subs=[]
     · rw [if_pos hp]
       have e1:(none? (p.subs.drop t.least.toNat)=0):=by rw [hp];simp [none?]
       have e2:p.subs.length=0:=by rw [hp];rfl
       have e3:(p.subs.drop t.least.toNat).all full=true:=by rw [hp];simp
       rw [if_neg (by omega),e3,hp]
       simp only [inOrd,Bool.and_true,Bool.and_eq_true,decide_eq_true_eq]
       exact ⟨fun h=>h.2,fun _ h=>⟨⟨by rw [hp] at this;exact this,.inl (by rw [hp] at e1;exact e1)⟩,h⟩⟩
     · rw [if_neg hp]
       have hr:=hrow hp
       rw [Bool.and_eq_true,Bool.and_eq_true,decide_eq_true_eq]
       by_cases hal:p.subs.length=1∧t.least=0∧t.bare=false
       · obtain ⟨q,hq⟩:∃ q,p.subs=[q]:=List.length_eq_one_iff.1 hal.1
         have hd:p.subs.drop t.least.toNat=[q]:=by rw [hq,hal.2.1];rfl
         by_cases he:p.lo=p.hi
         · rw [if_pos ⟨hal.1,hal.2.1,hal.2.2,he⟩]
           exact ⟨fun h=>⟨hr.1 h.2,rfl⟩,fun h g=>⟨⟨this,.inr hal⟩,hr.2 h g.1⟩⟩
         · rw [if_neg (by rintro ⟨-,-,-,h⟩;exact he h)]
           have key:inOrd p.subs p.lo p.hi=true→(p.subs.drop t.least.toNat).all full=true:=fun h=>by
             rw [hd];rw [hq] at h
             simp only [inOrd,Bool.and_eq_true,beq_iff_eq] at h
             simp only [List.all_cons,List.all_nil,Bool.and_true,full,Bool.not_eq_true',beq_eq_false_iff_ne]
             omega
           exact ⟨fun h=>⟨hr.1 h.2,key (hr.1 h.2)⟩,fun h g=>⟨⟨this,.inr hal⟩,hr.2 h g.1⟩⟩
       · rw [if_neg (by rintro ⟨a,b,c,-⟩;exact hal ⟨a,b,c⟩),← none_full]
         exact ⟨fun h=>⟨hr.1 h.2,h.1.2.resolve_right hal⟩,fun h g=>⟨⟨this,.inl g.2⟩,hr.2 h g.1⟩⟩
theorem at_mem {ts:List Tr} {i:Int} {u:Tr} (h:at? ts i=some u):u ∈ ts:=by
 unfold at? at h;split at h
 · exact List.mem_of_getElem? h
 · cases h
theorem okT_le {x:Sc} {p:Pa} {t:Tr} (h:okT x p t=true):0 ≤ p.lo∧p.lo ≤ p.hi∧p.hi ≤ (x.t.size:Int):=by
 rw [okT_eq,Bool.and_eq_true] at h
 have h1:=h.1
 unfold fits inSc at h1
 simp only [Bool.and_eq_true,decide_eq_true_eq] at h1
 exact ⟨h1.1.1,h1.1.2.1,h1.1.2.2⟩
theorem okS_le {x:Sc} : ∀ {l:List Pa} {t:Tr} {pk:Int} {i:Nat},okS x l t pk i=true→∀ q,q ∈ l→q.lo ≤ q.hi
 | [],_,_,_,_,q,hq=>by cases hq
 | r :: l,t,pk,i,h,q,hq=>by
   rw [okS,Bool.and_eq_true] at h
   rcases List.mem_cons.1 hq with rfl | hq
   · have h1:=h.1
     split at h1
     · exact (okT_le h1).2.1
     · cases h1
   · exact okS_le h.2 q hq
theorem isS_same (x:Sc):∀ (l:List Pa),(∀ q,q ∈ l→∀ u:Tr,u.InForm→isT x q u=okT x q u)→∀ (t:Tr),t.InForm→∀ (pk:Int) (i:Nat),isS x l t pk i=okS x l t pk i
 | [],_,t,_,pk,i=>by rw [isS_nil,okS_nil]
 | q :: l,h,t,ht,pk,i=>by
   rw [isS,okS,isS_same x l (fun r hr=>h r (List.mem_cons_of_mem _ hr)) t ht pk (i+1)]
   cases hu:at? t.subs (taker t.kind pk i) with
   | none=>rfl
   | some u=>exact congrArg (· && _) (h q List.mem_cons_self u (ht.sub (at_mem hu)))
theorem is_same (x:Sc) (p:Pa):∀ t:Tr,t.InForm→isT x p t=okT x p t:=by
 induction p using Pa.rec_subs with
 | h p ih =>
   intro t ht
   have hs:=isS_same x p.subs ih t ht p.pick 0
   have hn:=node_same x t p ht
   rw [isT_eq,okT_eq,hs]
   rw [Bool.eq_iff_iff,Bool.and_eq_true,Bool.and_eq_true]
   exact ⟨fun h=>⟨hn.1 h.1,h.2⟩,fun h=>⟨hn.2 (okS_le h.2) h.1,h.2⟩⟩
end Rk
end Go.Proofs.YtnaoiglbjkjogaaDoor
namespace Go.Proofs.YtnaoiglbjkjogaaDoor
open Go.RowKit
def StEnd (V:Nat→Nat→Tr→Prop) (base lb sb tb n:Nat) (τ:Rk.Told) (w:World) (e:Ending) (w':World):Prop:=e=.returned (.tuple #[])∧LvAt w' base V∧TlAt w' lb sb tb n τ∧Fl V τ w w'∧Tch V sb tb w w'
namespace Rk
theorem tellAll_take (σ:Told) (ts:List Tr) {i:Nat} {c:Tr} (h:ts[i]? = some c):tellAll σ (numsS (ts.take (i+1)))=tellAll (tellAll σ (numsS (ts.take i))) (nums c):=by
 rw [List.take_add_one,h,numsS_append,tellAll_append]
 show tellAll σ (numsS (ts.take i) ++ (nums c ++ []))=_
 rw [List.append_nil]
theorem le_take (σ:Told) (ts:List Tr) (i:Nat):Le (tellAll σ (numsS (ts.take i))) (tellAll σ (numsS ts)):=by
 have:tellAll σ (numsS ts)=tellAll (tellAll σ (numsS (ts.take i))) (numsS (ts.drop i)):=by
   rw [tellAll_append,← numsS_append,List.take_append_drop]
 rw [this]
 exact le_tellAll _ _
end Rk
theorem ndT_sub {t c:Tr} (h:c ∈ t.subs):c.ndT < t.ndT:=by
 rw [Tr.ndT_eq t]
 have:∀ l:List Tr,c ∈ l→c.ndT ≤ Tr.ndS l:=by
   intro l
   induction l with
   | nil=>intro h;cases h
   | cons x l ih =>
     intro h
     rw [Tr.ndS]
     rcases List.mem_cons.1 h with rfl | h
     · omega
     · have:=ih h;omega
 have:=this _ h
 omega
theorem settle_any (V:Nat→Nat→Tr→Prop) (hV:LvFn V) (base lb sb tb n:Nat) (hlb:lb < base) (hsb:sb < base) (htb:tb < base):∀ (t:Tr) (b o:Nat),V b o t→∀ (σ:Rk.Told) (w:World),LvAt w base V→TlAt w lb sb tb n σ→Oks V σ w t.ndT→(t.kind=7→(σ t.num).isSome=true)→t.InForm →
   Calls Tryd.prog 100 #[.pointer (some ⟨lb,0,none⟩),.pointer (some ⟨b,o,none⟩)] w (StEnd V base lb sb tb n (Rk.tellAll σ (Rk.numsS t.subs)) w):=by
 intro t
 induction t using Tr.rec_subs with
 | h t ih =>
   intro b o hv σ w hL hT hO hown hform
   obtain ⟨hbb,ho4,k0,k1,⟨p,cap,k2,-,hkids⟩,⟨f,k3⟩,k4⟩:=hL b o t hv
   have hbw:base ≤ w.heap.size:=Nat.le_trans hbb (Nat.le_of_lt (hL.lt hv))
   have hL1:=hL.mark hv
   have hT1:=hT.set (b:=b) (o:=o+3) (v:=.bool true) (by omega) (by omega) (by omega)
   have hO1:=Oks.mark hV hv hO
   have HNT:=Lib.hid (show ∀ m,m ∈ Rk.nums t→(Rk.tellAll σ (Rk.numsS t.subs) m).isSome from fun m hm=>by
     rw [Rk.nums_eq] at hm
     split at hm
     · rename_i hk
       rcases List.mem_cons.1 hm with rfl | hm
       · exact (Rk.le_tellAll _ _).some (hown hk)
       · exact Rk.tellAll_told _ hm
     · exact Rk.tellAll_told _ hm)
   have hF1:=Fl.mark (w:=w) hV hv HNT.out
   have hC1:=Tch.set (sb:=sb) (tb:=tb) (w:=w) hv (o+3) (.bool true)
   have HW1:=Lib.hid (show w.heap.size=(w.setCell ⟨b,o+3,none⟩ (.bool true)).heap.size by simp [World.setCell])
   have HL1:=Lib.hid hL1;have HT1:=Lib.hid hT1;have HO1:=Lib.hid hO1;have HF1:=Lib.hid hF1;have HC1:=Lib.hid hC1
   have HV:=Lib.hid hv;have HFI:=Lib.hid hform;have HKI:=Lib.hid hkids;have IH:=Lib.hid ih;have HNV:=Lib.hid hV
   have HSM:=Lib.hid (show ∀ c,c ∈ t.subs→c.ndT < t.ndT from fun c hc=>ndT_sub hc)
   clear hL hT hO hown hform hkids hL1 hT1 hO1 hF1 hC1 ih hv k0 k1 k2 hV
   generalize hts:t.subs=ts at *
   have HTE:=Lib.hid hts
   clear hts
   go_enter Tryd.func100,Tryd.ntmps100
   go_upto_region 1 with (fail)
   clear k3 k4
   generalize w.setCell ⟨b,o+3,none⟩ (.bool true)=w1 at *
   obtain ⟨-,-,-,-,⟨p',cap',k2,-,-⟩,-,-⟩:=HL1.out b o t HV.out
   rw [HTE.out] at k2
   go_wp2
   clear k2
   go_loopw [14] (fun iv wr=>∃ i:Nat,iv=.int .i64 i∧i ≤ ts.length∧Hid (LvAt wr base V)∧Hid (TlAt wr lb sb tb n (Rk.tellAll σ (Rk.numsS (ts.take i))))∧Hid (Fl V (Rk.tellAll σ (Rk.numsS ts)) w wr)∧Hid (Tch V sb tb w wr)∧Hid (Oks V (Rk.tellAll σ (Rk.numsS (ts.take i))) wr t.ndT)) (fun iv _=>ts.length - (intOf iv).toNat)
   case atStart =>
     have e0:Rk.tellAll σ (Rk.numsS (ts.take 0))=σ:=Rk.tellAll_nil σ
     exact ⟨0,rfl,Nat.zero_le _,HL1,by rw [e0];exact HT1,HF1,HC1,by rw [e0];exact HO1⟩
   case round =>
     obtain ⟨i,rfl,hi,HL,HT,HF,HC,HO⟩:=hrel
     clear HL1 HT1 HF1 HC1 HO1
     obtain ⟨-,-,-,-,⟨p2,cap2,k2,hlen9,hkids2⟩,-,-⟩:=HL.out b o t HV.out
     rw [HTE.out] at k2 hkids2 hlen9
     have hbr:base ≤ wr.heap.size:=Nat.le_trans hbb (Nat.le_of_lt (HL.out.lt HV.out))
     by_cases hlt:i < ts.length
     · obtain ⟨c,hc⟩:∃ c,ts[i]? = some c:=⟨_,List.getElem?_eq_getElem hlt⟩
       have hcm:=List.mem_of_getElem? hc
       obtain ⟨bs,os,rfl,hvc⟩:=hkids2 i c hc
       obtain ⟨hbs,-,n0,n1,-,⟨fl,n3⟩,-⟩:=HL.out _ _ _ hvc
       have hbsl:bs < wr.heap.size:=HL.out.lt hvc
       have HVC:=Lib.hid hvc
       have HTK:=Lib.hid (Rk.tellAll_take σ ts hc)
       have hcn:=HSM.out c hcm
       have HNC:=Lib.hid (Rk.nums_eq c)
       have wi:IntKind.i64.wrap ((i:Int)+1)=(i:Int)+1:=IntWalk.i64_in _ (by omega)
       clear hkids2 hvc hc
       cases fl with
       | true =>
         have HS:=Lib.hid (show Rk.tellAll σ (Rk.numsS (ts.take (i+1)))=Rk.tellAll σ (Rk.numsS (ts.take i)) by
           rw [HTK.out];exact Rk.tellAll_id (HO.out bs (os+i * 4) c HVC.out hcn n3))
         clear hcn hcm HNC
         go_wp2
         exact ⟨⟨i+1,by go_num,by omega,HL,by rw [HS.out];exact HT,HF,HC,by rw [HS.out];exact HO⟩,by simp [intOf];omega⟩
       | false =>
         by_cases hk:c.kind=7
         · obtain ⟨kn,hkn⟩:∃ kn:Nat,c.num=kn:=⟨c.num.toNat,by have:=Rk.nums_pos c (HFI.out.sub (by rw [HTE.out];exact hcm)) c.num (by rw [HNC.out,if_pos hk];exact List.mem_cons_self);omega⟩
           have hnc:=HNC.out
           rw [if_pos hk,hkn] at hnc
           have HNC2:=Lib.hid hnc
           have HK:=Lib.hid hk;have HKN:=Lib.hid hkn
           rw [hk] at n0
           rw [hkn] at n1
           clear hnc HNC hk hkn
           go_upto_region 7 with (fail)
           refine Ri.wp_region_frame (by kernel_rfl) (by kernel_rfl) (by kernel_rfl) (by kernel_rfl)
             (fun L v w'=>(L 6=false→Below wr.heap.size wr w')∧(L 6=true→TlAt w' lb sb tb n (Rk.tell (Rk.tellAll σ (Rk.numsS (ts.take i))) kn (-1,-1))∧Touch [sb,tb] wr w')∧(L 6=true→L 0=true)∧(L 6=true→L 1=true)∧(L 6=true→L 2=true)∧(L 6=true→L 3=true)∧(L 6=true→L 4=true)∧(L 6=true→L 5=true)∧(L 2=true→L 1=true)∧(L 3=true→L 2=true)∧(L 4=true→L 3=true)∧(L 0=true→v 0=.pointer (some ⟨lb,0,none⟩))∧(L 1=true→v 1=.pointer (some ⟨bs,os+i * 4,none⟩))∧(L 2=true→v 2=.pointer (some ⟨bs,os+i * 4,none⟩))∧(L 3=true→v 3=.pointer (some ⟨bs,os+i * 4+1,none⟩))∧(L 4=true→v 4=.int .i64 (kn:Int))∧(L 5=true→v 5=.agg #[.int .i64 (-1),.int .i64 (-1)]))
             ?_ ?_ ?_
           · exact ⟨fun _=>(Below.refl _ _).drew,by simp,by simp,by simp,by simp,by simp,by simp,by simp,by simp,by simp,by simp,by simp,by simp,by simp,by simp,by simp,by simp⟩
           · intro i hi9 L v w9 xa hI hL hd hv ho
             have hi':i=0 ∨ i=1 ∨ i=2 ∨ i=3 ∨ i=4 ∨ i=5 ∨ i=6:=by simp at hi9;omega
             obtain ⟨hbf,hfin,d0,d1,d2,d3,d4,d5,c2_1,c3_2,c4_3,q0,q1,q2,q3,q4,q5⟩:=hI
             rcases hi' with rfl | rfl | rfl | rfl | rfl | rfl | rfl
             · have e0:xa.tmps.getD 0 undef=.pointer (some ⟨lb,0,none⟩):=ho 0 (by kernel_rfl)
               have hl9:L 6=false:=by cases h:L 6 with | false=>rfl | true=>rw [d0 h] at hL;cases hL
               have hb:=hbf hl9
               refine Ri.step_plain rfl rfl (fun K' hK=>?_)
               go_simp
               exact hK _ _ ⟨_,_,rfl,rfl,(fun _=>hb),(fun h=>Bool.noConfusion (hl9.symm.trans h)),(fun _=>rfl),d1,d2,d3,d4,d5,c2_1,c3_2,c4_3,(fun _=>rfl),q1,q2,q3,q4,q5⟩
             · have e5:xa.tmps.getD 5 undef=.pointer (some ⟨bs,os+i * 4,none⟩):=ho 5 (by kernel_rfl)
               have hl9:L 6=false:=by cases h:L 6 with | false=>rfl | true=>rw [d1 h] at hL;cases hL
               have hb:=hbf hl9
               refine Ri.step_plain rfl rfl (fun K' hK=>?_)
               go_simp
               exact hK _ _ ⟨_,_,rfl,rfl,(fun _=>hb),(fun h=>Bool.noConfusion (hl9.symm.trans h)),d0,(fun _=>rfl),d2,d3,d4,d5,(fun _=>rfl),c3_2,c4_3,q0,(fun _=>rfl),q2,q3,q4,q5⟩
             · have l0:L 1=true:=by have:=hd _ rfl;simp [Region.binds] at this;simp [this]
               have f1:=(hv 1 33 rfl l0).trans (q1 l0)
               have hl9:L 6=false:=by cases h:L 6 with | false=>rfl | true=>rw [d2 h] at hL;cases hL
               have hb:=hbf hl9
               refine Ri.step_plain rfl rfl (fun K' hK=>?_)
               go_simp
               exact hK _ _ ⟨_,_,rfl,rfl,(fun _=>hb),(fun h=>Bool.noConfusion (hl9.symm.trans h)),d0,d1,(fun _=>rfl),d3,d4,d5,(fun _=>l0),(fun _=>rfl),c4_3,q0,q1,(fun _=>rfl),q3,q4,q5⟩
             · have l0:L 2=true:=by have:=hd _ rfl;simp [Region.binds] at this;simp [this]
               have f2:=(hv 2 34 rfl l0).trans (q2 l0)
               have hl9:L 6=false:=by cases h:L 6 with | false=>rfl | true=>rw [d3 h] at hL;cases hL
               have hb:=hbf hl9
               refine Ri.step_plain rfl rfl (fun K' hK=>?_)
               go_simp
               exact hK _ _ ⟨_,_,rfl,rfl,(fun _=>hb),(fun h=>Bool.noConfusion (hl9.symm.trans h)),d0,d1,d2,(fun _=>rfl),d4,d5,c2_1,(fun _=>l0),(fun _=>rfl),q0,q1,q2,(fun _=>rfl),q4,q5⟩
             · have l0:L 3=true:=by have:=hd _ rfl;simp [Region.binds] at this;simp [this]
               have f3:=(hv 3 35 rfl l0).trans (q3 l0)
               have hl9:L 6=false:=by cases h:L 6 with | false=>rfl | true=>rw [d4 h] at hL;cases hL
               have hb:=hbf hl9
               refine Ri.step_plain rfl rfl (fun K' hK=>?_)
               obtain c1:=(hb.cell (p:=⟨bs,os+i * 4+1,none⟩) hbsl).trans n1
               go_simp
               exact hK _ _ ⟨_,_,rfl,rfl,(fun _=>hb),(fun h=>Bool.noConfusion (hl9.symm.trans h)),d0,d1,d2,d3,(fun _=>rfl),d5,c2_1,c3_2,(fun _=>l0),q0,q1,q2,q3,(fun _=>rfl),q5⟩
             · have hl9:L 6=false:=by cases h:L 6 with | false=>rfl | true=>rw [d5 h] at hL;cases hL
               have hb:=hbf hl9
               refine Ri.step_plain rfl rfl (fun K' hK=>?_)
               go_simp
               refine (rknowhere_any _).mono ?_
               rintro e w8 ⟨rfl,hb8⟩
               exact hK _ _ ⟨_,_,rfl,rfl,(fun _=>hb.trans (hb8.mono hb.size)),(fun h=>Bool.noConfusion (hl9.symm.trans h)),d0,d1,d2,d3,d4,(fun _=>rfl),c2_1,c3_2,c4_3,q0,q1,q2,q3,q4,(fun _=>rfl)⟩
             · have l0:L 0=true∧L 4=true∧L 5=true:=by have:=hd _ rfl;simp [Region.binds] at this;simp [this]
               have f0:=(hv 0 32 rfl l0.1).trans (q0 l0.1)
               have f4:=(hv 4 36 rfl l0.2.1).trans (q4 l0.2.1)
               have f5:=(hv 5 37 rfl l0.2.2).trans (q5 l0.2.2)
               have h0:L 0=true:=by first | (have:=hd _ rfl;simp [Region.binds] at this;simp [this];done)
               have h4:L 4=true:=by first | (have:=hd _ rfl;simp [Region.binds] at this;simp [this];done)
               have h5:L 5=true:=by first | (have:=hd _ rfl;simp [Region.binds] at this;simp [this];done)
               have h3:L 3=true:=by first | (have:=hd _ rfl;simp [Region.binds] at this;simp [this];done) | exact c4_3 h4
               have h2:L 2=true:=by first | (have:=hd _ rfl;simp [Region.binds] at this;simp [this];done) | exact c3_2 h3
               have h1:L 1=true:=by first | (have:=hd _ rfl;simp [Region.binds] at this;simp [this];done) | exact c2_1 h2
               have hb:=hbf hL
               refine Ri.step_plain rfl rfl (fun K' hK=>?_)
               go_simp
               refine (tell_any lb sb tb n (Rk.tellAll σ (Rk.numsS (ts.take i))) kn (-1) (-1) _ (HT.out.later hb)).mono ?_
               rintro e w8 ⟨rfl,ht8,hto8⟩
               exact hK _ _ ⟨_,_,rfl,rfl,(fun h=>by cases h),(fun _=>⟨ht8,(Touch.of_below _ hb).trans hto8⟩),(fun _=>h0),(fun _=>h1),(fun _=>h2),(fun _=>h3),(fun _=>h4),(fun _=>h5),c2_1,c3_2,c4_3,q0,q1,q2,q3,q4,q5⟩
           · rintro v w9 ⟨-,hfin,-,-,-,-,-,-,-,-,-,-,-,-,-,-,-⟩
             have HF9:=Lib.hid (hfin rfl)
             simp only [Ri.frame,List.zipIdx,List.foldl_cons,List.foldl_nil,if_true,List.setIfInBounds_toArray,List.set_cons_zero,List.set_cons_succ,Nat.reduceAdd]
             clear hfin
             generalize v 0=y0;generalize v 1=y1;generalize v 2=y2;generalize v 3=y3;generalize v 4=y4;generalize v 5=y5;generalize v 6=y6
             have hto:=HF9.out.2
             obtain ⟨l9,f9⟩:=HL.out.touch hto hsb htb
             have HT9:=Lib.hid HF9.out.1
             have HLV9:=Lib.hid l9;have HFL9:=Lib.hid (f9 (Rk.tell (Rk.tellAll σ (Rk.numsS (ts.take i))) kn (-1,-1)));have HTC9:=Lib.hid (Tch.of_touch (V:=V) hto)
             have HTKE:=Lib.hid (show Rk.tellAll (Rk.tell (Rk.tellAll σ (Rk.numsS (ts.take i))) kn (-1,-1)) (Rk.numsS c.subs)=Rk.tellAll σ (Rk.numsS (ts.take (i+1))) by
               rw [HTK.out,HNC2.out,Rk.tellAll_cons])
             have HLE:=Lib.hid (show Rk.Le (Rk.tellAll σ (Rk.numsS (ts.take i))) (Rk.tell (Rk.tellAll σ (Rk.numsS (ts.take i))) kn (-1,-1)) from Rk.le_tell _ _ _)
             have HOWN:=Lib.hid (show c.kind=7→(Rk.tell (Rk.tellAll σ (Rk.numsS (ts.take i))) kn (-1,-1) c.num).isSome=true from fun _=>by rw [HKN.out];exact Rk.tell_told _ _ _)
             clear l9 f9 hto HF9
             go_wp2_with fail
             refine (IH.out c hcm bs (os+i * 4) HVC.out _ w9 HLV9.out HT9.out ((HO.out.fl HFL9.out HLE.out).mono (by omega)) HOWN.out (HFI.out.sub (by rw [HTE.out];exact hcm))).mono ?_
             rintro e w8 ⟨rfl,hlv8,htl8,hfl8,htc8⟩
             rw [HTKE.out] at htl8 hfl8
             have HLE2:=Lib.hid (show Rk.Le (Rk.tell (Rk.tellAll σ (Rk.numsS (ts.take i))) kn (-1,-1)) (Rk.tellAll σ (Rk.numsS (ts.take (i+1)))) by rw [← HTKE.out];exact Rk.le_tellAll _ _)
             have X1:=Lib.hid hlv8;have X2:=Lib.hid htl8;have X4:=Lib.hid (HC.out.trans (HTC9.out.trans htc8))
             have X5:=Lib.hid ((HO.out.fl HFL9.out HLE.out).fl hfl8 HLE2.out)
             have X3:=Lib.hid ((HF.out.trans (HFL9.out.mono (HLE2.out.trans (Rk.le_take σ ts (i+1)))) (Rk.Le.refl _)).trans (hfl8.mono (Rk.le_take σ ts (i+1))) (Rk.Le.refl _))
             clear hlv8 htl8 hfl8 htc8 hcn hcm
             go_wp2
             exact ⟨⟨i+1,by go_num,by omega,X1,X2,X3,X4,X5⟩,by simp [intOf];omega⟩
         · have HK:=Lib.hid hk
           have e7:(c.kind == 7)=false:=by simpa using hk
           have hnc:=HNC.out
           rw [if_neg hk] at hnc
           have HNC2:=Lib.hid hnc
           clear hnc HNC hk
           go_wp2_with fail
           refine (IH.out c hcm bs (os+i * 4) HVC.out _ wr HL.out HT.out (HO.out.mono (by omega)) (fun h=>absurd h HK.out) (HFI.out.sub (by rw [HTE.out];exact hcm))).mono ?_
           rintro e w9 ⟨rfl,hlv9,htl9,hfl9,htc9⟩
           rw [← HNC2.out,← HTK.out] at htl9 hfl9
           have X1:=Lib.hid hlv9;have X2:=Lib.hid htl9;have X3:=Lib.hid (HF.out.trans (hfl9.mono (Rk.le_take σ ts (i+1))) (Rk.Le.refl _));have X4:=Lib.hid (HC.out.trans htc9)
           have X5:=Lib.hid (HO.out.fl hfl9 (by rw [HTK.out];exact Rk.le_tellAll _ _))
           clear hlv9 htl9 hfl9 htc9 hcn hcm
           go_wp2
           exact ⟨⟨i+1,by go_num,by omega,X1,X2,X3,X4,X5⟩,by simp [intOf];omega⟩
     · obtain rfl:i=ts.length:=by omega
       have HE:=Lib.hid (show Rk.tellAll σ (Rk.numsS (ts.take ts.length))=Rk.tellAll σ (Rk.numsS ts) by rw [List.take_length])
       clear hkids2 hlt
       go_wp2
       go_end0
       exact ⟨rfl,HL.out,by rw [← HE.out];exact HT.out,HF.out,HC.out⟩
end Go.Proofs.YtnaoiglbjkjogaaDoor
