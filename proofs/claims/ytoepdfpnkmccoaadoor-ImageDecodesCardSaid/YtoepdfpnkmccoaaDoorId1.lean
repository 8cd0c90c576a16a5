/- Part 1 of what these proofs need. -/
import Derived.WalkKit
import Derived.WalkSpells
import Derived.WalkLawsBesides
import Derived.Handy
import Derived.Lib.Hide
import Derived.Test.YtoepdfpnkmccoaaDoorRows
import Derived.Deep.MidRow
import Derived.Laws.AppendOwn
import Derived.Great.BuildSlice
import Derived.Laws.MakeOwn
import Derived.Deep.RegionWith
import Derived.Deep.RegionHeld3
import Derived.StillTailTactics
import Derived.Deep.QuietTactic
import Derived.BigQuiet
import Derived.RegionTactic
import Derived.Laws.AppendOwnNone
import Derived.Lib.UnsafeStr
import Derived.Laws.BytesArg
import Derived.Laws.IdiomStrings
import Derived.Deep.DeepCutAuto
import Derived.Test.YtoepdfpnkmccoaaDoorChecked
import Derived.LaidEql
import Derived.Stop.Asserts
import Derived.Stop.IfaceNil
import Derived.RowKitTokens
import Derived.Deep.LoopGhost
import Derived.ProofKit
import Derived.LaidMore
import Derived.LaidHandle
import Derived.OpenShut
import Derived.MakeChecks
import Derived.Stop.LaidErr
import Derived.Lib.SlBytesConst
import Derived.RangeFuncNested
import Derived.RangeFuncBound
import Derived.RangeFuncCalls
import Derived.RangeFuncLeaves
import Derived.RangeFuncKeeps
import Derived.RangeFuncWrites
import Derived.Shelf.Abstract
import Derived.Shelf.RegionOpen
import Derived.RangeFuncBox
import Derived.OwnWalkIn
import Derived.TacticsInMore
import Derived.LoopNIn
import Derived.LoopIn
set_option maxRecDepth 100000
set_option maxHeartbeats 16000000
namespace Go.Proofs.YtoepdfpnkmccoaaDoor
open Go.RowKit
theorem ret_int {k:IntKind} {a b:Int} (h:a=b):Ending.returned (.int k a)=.returned (.int k b):=by rw [h]
theorem four {w:World} {b:Nat} {x0 x1 x2 x3:Value} {t:TypeId} (h:w.heap[b]? = some (.cells #[x0,x1,x2,x3] t)) :
   w.cell? ⟨b,0,none⟩=some x0∧w.cell? ⟨b,1,none⟩=some x1∧w.cell? ⟨b,2,none⟩=some x2∧w.cell? ⟨b,3,none⟩=some x3 ∧
   w.frozen? ⟨b,0,none⟩=false∧w.frozen? ⟨b,1,none⟩=false∧w.frozen? ⟨b,2,none⟩=false∧w.frozen? ⟨b,3,none⟩=false:=by
 simp [World.cell?,World.frozen?,h]
theorem heap_alloc_lt {w:World} {b:Nat} {o x:Obj} (h:w.heap[b]? = some x):(w.alloc o).heap[b]? = some x:=by
 rw [Below.heap_alloc _ _ _ (by have:=Array.getElem?_eq_some_iff.1 h;exact this.1)];exact h
theorem two_new (w:World) (x y:Obj):((w.alloc x).alloc y).heap[w.heap.size]? = some x∧((w.alloc x).alloc y).heap[w.heap.size+1]? = some y:=by
 show ((w.heap.push x).push y)[w.heap.size]? = _∧((w.heap.push x).push y)[w.heap.size+1]? = _
 constructor
 · simp [Array.getElem?_push]
 · rw [Array.getElem?_push,if_pos (by simp)]
theorem cell_new (w:World) (cs:Array Value) (t:TypeId) (j:Nat):(w.alloc (.cells cs t)).cell? ⟨w.heap.size,j,none⟩=cs[j]?:=by
 have e:(w.alloc (.cells cs t)).heap[w.heap.size]? = some (.cells cs t):=by show (w.heap.push _)[w.heap.size]? = _;simp
 unfold World.cell?;rw [e];rfl
theorem three_new (w:World) (x y z:Obj):(((w.alloc x).alloc y).alloc z).heap[w.heap.size]? = some x∧(((w.alloc x).alloc y).alloc z).heap[w.heap.size+1]? = some y∧(((w.alloc x).alloc y).alloc z).heap[w.heap.size+1+1]? = some z:=by
 show (((w.heap.push x).push y).push z)[w.heap.size]? = _∧(((w.heap.push x).push y).push z)[w.heap.size+1]? = _∧(((w.heap.push x).push y).push z)[w.heap.size+1+1]? = _
 refine ⟨?_, ?_, ?_⟩
 · simp [Array.getElem?_push];omega
 · rw [Array.getElem?_push,if_neg (by simp),Array.getElem?_push,if_pos (by simp)]
 · rw [Array.getElem?_push,if_pos (by simp)]
theorem below_setRow {B g:Nat} {a w:World} (h:Below B a w) (hg:B ≤ g) (cs:Array Value):Below B a (w.setRow g cs) :=
 h.trans ⟨rfl,rfl,rfl,by simp,fun k hk=>by simp only [World.setRow,Array.getElem?_modify];rw [if_neg (by omega)]⟩
theorem heap_setRow {w:World} {g:Nat} {old cs:Array Value} {t:TypeId} (h:w.heap[g]? = some (.cells old t)):(w.setRow g cs).heap[g]? = some (.cells cs t):=by
 simp [World.setRow,Array.getElem?_modify,h]
theorem keep_blk {w w':World} {g:Nat} {x:Obj} (hb:Below w.heap.size w w') (h:w.heap[g]? = some x):w'.heap[g]? = some x :=
 (hb.block g (Array.getElem?_eq_some_iff.1 h).1).trans h
theorem heap_setRow_other (w:World) (g:Nat) (cs:Array Value) {k:Nat} (h:k ≠ g):(w.setRow g cs).heap[k]? = w.heap[k]?:=by
 simp only [World.setRow,Array.getElem?_modify];rw [if_neg (Ne.symm h)]
end Go.Proofs.YtoepdfpnkmccoaaDoor
namespace Go.Proofs.YtoepdfpnkmccoaaDoor
namespace Oc
def U (x:BitVec 64):Int:=x.toNat
theorem U_inj {x y:BitVec 64} (h:U x=U y):x=y:=by
 unfold U at h;exact BitVec.eq_of_toNat_eq (by omega)
theorem ofInt_U (x:BitVec 64):BitVec.ofInt 64 (U x)=x:=by
 unfold U;rw [BitVec.ofInt_natCast];exact BitVec.eq_of_toNat_eq (by rw [BitVec.toNat_ofNat];exact Nat.mod_eq_of_lt x.isLt)
theorem wrapU (n:Int):IntKind.u64.wrap n=U (BitVec.ofInt 64 n):=by
 rw [IntKind.wrap_u64];unfold U;rw [BitVec.toNat_ofInt];omega
theorem orU (x y:BitVec 64):bits .or .u64 (U x) (U y)=U (x ||| y):=by
 show IntKind.u64.wrap ((BitVec.ofInt 64 (U x) ||| BitVec.ofInt 64 (U y)).toNat:Int)=_
 rw [ofInt_U,ofInt_U,wrapU];exact congrArg U (ofInt_U (x ||| y))
end Oc
end Go.Proofs.YtoepdfpnkmccoaaDoor
namespace Go.Proofs.YtoepdfpnkmccoaaDoor
open Go.RowKit
inductive Tr
 | node (kind:Int) (a b c d:BitVec 64) (subs:List Tr) (num least most:Int) (bare:Bool)
namespace Tr
def kind:Tr→Int | .node k _ _ _ _ _ _ _ _ _=>k
def w0:Tr→BitVec 64 | .node _ a _ _ _ _ _ _ _ _=>a
def w1:Tr→BitVec 64 | .node _ _ b _ _ _ _ _ _ _=>b
def w2:Tr→BitVec 64 | .node _ _ _ c _ _ _ _ _ _=>c
def w3:Tr→BitVec 64 | .node _ _ _ _ d _ _ _ _ _=>d
def subs:Tr→List Tr | .node _ _ _ _ _ s _ _ _ _=>s
def num:Tr→Int | .node _ _ _ _ _ _ n _ _ _=>n
def least:Tr→Int | .node _ _ _ _ _ _ _ m _ _=>m
def most:Tr→Int | .node _ _ _ _ _ _ _ _ m _=>m
def bare:Tr→Bool | .node _ _ _ _ _ _ _ _ _ b=>b
theorem size_sub {t u:Tr} (h:u ∈ t.subs):SizeOf.sizeOf u < SizeOf.sizeOf t:=by
 cases t with
 | node k a b c d s n lo hi br =>
   have:=List.sizeOf_lt_of_mem h
   simp only [subs] at this
   simp only [node.sizeOf_spec]
   omega
theorem rec_subs {P:Tr→Prop} (h:∀ t,(∀ u,u ∈ t.subs→P u)→P t) (t:Tr):P t:=by
 induction hn:SizeOf.sizeOf t using Nat.strongRecOn generalizing t with
 | _ n ih=>exact h t fun u hu=>ih _ (by have:=size_sub hu;omega) u rfl
theorem eta:∀ t:Tr,t=.node t.kind t.w0 t.w1 t.w2 t.w3 t.subs t.num t.least t.most t.bare
 | .node _ _ _ _ _ _ _ _ _ _=>rfl
def cells (t:Tr) (s:Value):Array Value :=
 #[.int .i64 t.kind,.int .u64 (Oc.U t.w0),.int .u64 (Oc.U t.w1),.int .u64 (Oc.U t.w2),.int .u64 (Oc.U t.w3),s,.int .i64 t.num,.int .i64 t.least,.int .i64 t.most,.bool t.bare]
end Tr
structure TenAt (w:World) (b o:Nat) (t:Tr) (s:Value):Prop where
 c0:w.cell? ⟨b,o,none⟩=some (.int .i64 t.kind)
 c1:w.cell? ⟨b,o+1,none⟩=some (.int .u64 (Oc.U t.w0))
 c2:w.cell? ⟨b,o+2,none⟩=some (.int .u64 (Oc.U t.w1))
 c3:w.cell? ⟨b,o+3,none⟩=some (.int .u64 (Oc.U t.w2))
 c4:w.cell? ⟨b,o+4,none⟩=some (.int .u64 (Oc.U t.w3))
 c5:w.cell? ⟨b,o+5,none⟩=some s
 c6:w.cell? ⟨b,o+6,none⟩=some (.int .i64 t.num)
 c7:w.cell? ⟨b,o+7,none⟩=some (.int .i64 t.least)
 c8:w.cell? ⟨b,o+8,none⟩=some (.int .i64 t.most)
 c9:w.cell? ⟨b,o+9,none⟩=some (.bool t.bare)
inductive TreesAt (w:World) (B:Nat→Prop):Value→List Tr→Prop
 | mk (p:Option Addr) (cap:Nat) (ts:List Tr) (S:Nat→Value) (hlen:ts.length * 96 ≤ 140737488351232)
     (hc:∀ i t,ts[i]? = some t→∃ b o,p=some ⟨b,o,none⟩∧B b∧TenAt w b (o+i * 10) t (S i))
     (hs:∀ i t,ts[i]? = some t→TreesAt w B (S i) t.subs):TreesAt w B (.slice p ts.length cap) ts
def NodeV (w:World) (B:Nat→Prop) (v:Value) (t:Tr):Prop:=∃ s,v=.agg (t.cells s)∧TreesAt w B s t.subs
theorem TenAt.keep {w w':World} {b o:Nat} {t:Tr} {s:Value} (h:TenAt w b o t s) (hk:w'.heap[b]? = w.heap[b]?):TenAt w' b o t s:=by
 have e:∀ k,w'.cell? ⟨b,k,none⟩=w.cell? ⟨b,k,none⟩:=fun k=>by unfold World.cell?;rw [hk]
 exact ⟨(e _).trans h.c0,(e _).trans h.c1,(e _).trans h.c2,(e _).trans h.c3,(e _).trans h.c4,(e _).trans h.c5,(e _).trans h.c6,(e _).trans h.c7,(e _).trans h.c8,(e _).trans h.c9⟩
theorem TenAt.lt {w:World} {b o:Nat} {t:Tr} {s:Value} (h:TenAt w b o t s):b < w.heap.size:=block_lt_of_cell h.c0
theorem TreesAt.keep {w w':World} {B:Nat→Prop} {s:Value} {ts:List Tr} (h:TreesAt w B s ts) (hk:∀ b,b < w.heap.size→B b→w'.heap[b]? = w.heap[b]?):TreesAt w' B s ts:=by
 induction h with
 | mk p cap ts S hlen hc hs ih =>
   refine .mk p cap ts S hlen (fun i t hi=>?_) (fun i t hi=>ih i t hi)
   obtain ⟨b,o,hp,hB,h10⟩:=hc i t hi
   exact ⟨b,o,hp,hB,h10.keep (hk b h10.lt hB)⟩
theorem TreesAt.later {w w':World} {B:Nat→Prop} {s:Value} {ts:List Tr} (h:TreesAt w B s ts) (hb:Below w.heap.size w w'):TreesAt w' B s ts :=
 h.keep fun b hb' _=>hb.block b hb'
theorem TreesAt.mono {w:World} {B B':Nat→Prop} {s:Value} {ts:List Tr} (h:TreesAt w B s ts) (hB:∀ b,b < w.heap.size→B b→B' b):TreesAt w B' s ts:=by
 induction h with
 | mk p cap ts S hlen hc hs ih =>
   refine .mk p cap ts S hlen (fun i t hi=>?_) (fun i t hi=>ih i t hi)
   obtain ⟨b,o,hp,hb,h10⟩:=hc i t hi
   exact ⟨b,o,hp,hB b h10.lt hb,h10⟩
theorem NodeV.later {w w':World} {B:Nat→Prop} {v:Value} {t:Tr} (h:NodeV w B v t) (hb:Below w.heap.size w w'):NodeV w' B v t:=by
 obtain ⟨s,e,hs⟩:=h;exact ⟨s,e,hs.later hb⟩
theorem TreesAt.nil {w:World} {B:Nat→Prop} {p:Option Addr} {cap:Nat} : TreesAt w B (.slice p 0 cap) [] :=
 .mk p cap [] (fun _=>.nilIface) (by simp) (fun i t h=>by simp at h) (fun i t h=>by simp at h)
theorem TreesAt.slice {w:World} {B:Nat→Prop} {s:Value} {ts:List Tr} (h:TreesAt w B s ts):∃ p cap,s=.slice p ts.length cap∧ts.length * 96 ≤ 140737488351232:=by
 cases h with | mk p cap _ S hlen hc hs=>exact ⟨p,cap,rfl,hlen⟩
theorem TreesAt.get {w:World} {B:Nat→Prop} {p:Option Addr} {len cap:Nat} {ts:List Tr} (h:TreesAt w B (.slice p len cap) ts) {i:Nat} {t:Tr} (hi:ts[i]? = some t) :
   ∃ b o s,p=some ⟨b,o,none⟩∧B b∧TenAt w b (o+i * 10) t s∧TreesAt w B s t.subs:=by
 cases h with
 | mk _ _ _ S hlen hc hs =>
   obtain ⟨b,o,hp,hB,h10⟩:=hc i t hi
   exact ⟨b,o,S i,hp,hB,h10,hs i t hi⟩
end Go.Proofs.YtoepdfpnkmccoaaDoor
namespace Go.Proofs.YtoepdfpnkmccoaaDoor
open Go.RowKit
namespace Tr
def fieldsOk (t:Tr):Prop :=
 ((t.kind=1 ∨ t.kind=3 ∨ t.kind=4)∧t.w0=0#64∧t.w1=0#64∧t.w2=0#64∧t.w3=0#64∧t.subs=[]∧t.num=0∧t.least=0∧t.most=0∧t.bare=false) ∨
 (t.kind=2∧t.subs=[]∧t.num=0∧t.least=0∧t.most=0∧t.bare=false) ∨
 ((t.kind=5 ∨ t.kind=6)∧t.w0=0#64∧t.w1=0#64∧t.w2=0#64∧t.w3=0#64∧2 ≤ t.subs.length∧t.num=0∧t.least=0∧t.most=0∧t.bare=false) ∨
 (t.kind=7∧t.w0=0#64∧t.w1=0#64∧t.w2=0#64∧t.w3=0#64∧t.subs.length=1∧1 ≤ t.num∧t.num ≤ 999∧t.least=0∧t.most=0∧t.bare=false) ∨
 (t.kind=8∧t.w0=0#64∧t.w1=0#64∧t.w2=0#64∧t.w3=0#64∧t.subs.length=1∧t.num=0∧0 ≤ t.least∧t.least ≤ 255∧(t.most = -1 ∨ (t.least ≤ t.most∧t.most ≤ 255))∧(t.bare=true→t.least=0))
inductive InForm:Tr→Prop
 | mk (t:Tr) (h:fieldsOk t) (hs:∀ u,u ∈ t.subs→InForm u):InForm t
theorem InForm.fields {t:Tr} (h:InForm t):fieldsOk t:=by cases h;assumption
theorem InForm.sub {t u:Tr} (h:InForm t) (hu:u ∈ t.subs):InForm u:=by cases h with | mk _ _ hs=>exact hs u hu
def sat (n:Nat):Nat:=min 2001 n
theorem sat_sat (a b:Nat):sat (sat a+b)=sat (a+b):=by unfold sat;omega
theorem sat_le (a:Nat):sat a ≤ 2001:=by unfold sat;omega
def repSz (lo hi:Int) (n:Nat):Nat :=
 if hi=0 then 1
 else if lo=1∧hi=1 then n
 else if lo=0∧(hi=1 ∨ hi = -1) then sat (1+n)
 else if hi = -1 then sat (1+lo.toNat * n+(1+n))
 else sat (1+lo.toNat * n+(hi - lo).toNat * (1+n))
mutual
def szT:Tr→Nat
 | .node k _ _ _ _ s _ lo hi _=>if k=8 then repSz lo hi (szH s) else sat (1+szS s)
def szS:List Tr→Nat
 | []=>0
 | t :: l=>szT t+szS l
def szH:List Tr→Nat
 | []=>0
 | t :: _=>szT t
end
theorem repSz_le {lo hi:Int} {n:Nat} (h:n ≤ 2001):repSz lo hi n ≤ 2001:=by
 unfold repSz
 split
 · omega
 split
 · exact h
 split
 · exact sat_le _
 split <;> exact sat_le _
theorem szT_le:∀ t:Tr,szT t ≤ 2001:=by
 intro t
 induction t using Tr.rec_subs with
 | h t ih =>
   cases t with
   | node k a b c d s n lo hi br =>
     rw [szT]
     split
     · refine repSz_le ?_
       cases s with
       | nil=>simp [szH]
       | cons x l=>rw [szH];exact ih x (by simp [subs])
     · exact sat_le _
theorem szS_append:∀ (l m:List Tr),szS (l ++ m)=szS l+szS m
 | [],m=>by simp [szS]
 | t :: l,m=>by rw [List.cons_append,szS,szS,szS_append l m];omega
theorem szS_take (l:List Tr) (m:Nat) (x:Tr) (h:l[m]? = some x):szS (l.take (m+1))=szS (l.take m)+szT x:=by
 rw [List.take_add_one,h,Option.toList_some,szS_append,szS,szS];rfl
end Tr
theorem trcount_any (a b:Nat) (ha:a ≤ 2001) (hb:b ≤ 2002) (x y:Int) (hx:x=a) (hy:y=b) (w:World):Calls Tryd.prog 101 #[.int .i64 x,.int .i64 y] w fun e w'=>e=.returned (.int .i64 (Tr.sat (a+b):Nat))∧w=w':=by
 subst hx hy
 have hw:IntKind.i64.wrap ((a:Int)+b)=(a:Int)+b:=IntWalk.i64_in _ (by omega)
 go_enter Tryd.func101,Tryd.ntmps101
 go_wp2
 all_goals
   go_ret
   exact ⟨ret_int (by unfold Tr.sat;omega),rfl⟩
theorem box5 {w:World} {b:Nat} {t:Tr} {s:Value} {ty:TypeId} (h:w.heap[b]? = some (.cells (t.cells s) ty)) :
   w.cell? ⟨b,0,none⟩=some (.int .i64 t.kind)∧w.cell? ⟨b,4+1,none⟩=some s∧w.cell? ⟨b,5,none⟩=some s∧w.cell? ⟨b,7,none⟩=some (.int .i64 t.least)∧w.cell? ⟨b,8,none⟩=some (.int .i64 t.most):=by
 simp [World.cell?,h,Tr.cells]
def SizeEnd (n:Nat) (w:World) (e:Ending) (w':World):Prop:=e=.returned (.int .i64 n)∧Below w.heap.size w w'
theorem refsize_seq (t:Tr) (ih:∀ u,u ∈ t.subs→u.InForm→∀ (w:World) (B:Nat→Prop) (v:Value),NodeV w B v u→Calls Tryd.prog 69 #[v] w (SizeEnd u.szT w)) (hf:t.InForm) (hk:t.kind ≠ 8)
   (w:World) (B:Nat→Prop) (v:Value) (hv:NodeV w B v t):Calls Tryd.prog 69 #[v] w (SizeEnd t.szT w):=by
 obtain ⟨s,rfl,hs⟩:=hv
 obtain ⟨p,cap,rfl,hlen⟩:=hs.slice
 have HE:=Lib.hid (show t.szT=Tr.sat (1+Tr.szS t.subs) by cases t;rw [Tr.szT];simp only [Tr.kind] at hk;rw [if_neg hk];rfl)
 have HF:=Lib.hid hf
 generalize hts:t.subs=ts at *
 have HTS:=Lib.hid hts;have IH:=Lib.hid ih;have HS:=Lib.hid hs
 have e8:(t.kind != 8)=true:=by simpa using hk
 clear ih hs hf hk hts
 unfold Tr.cells
 go_enter Tryd.func69,Tryd.ntmps69
 go_wp2
 go_loopw [3,4] (fun nv iv wr=>∃ m:Nat,iv=.int .i64 m∧m ≤ ts.length∧nv=.int .i64 (Tr.sat (1+Tr.szS (ts.take m)):Nat)∧Hid (Below w.heap.size w wr)∧w.heap.size < wr.heap.size∧Hid (wr.heap[w.heap.size]? = some (.cells (t.cells (.slice p ts.length cap)) 29))) (fun _ iv _=>ts.length - (intOf iv).toNat)
 case atStart=>exact ⟨0,rfl,Nat.zero_le _,rfl,Lib.hid (by go_grown),by simp,Lib.hid (heap_alloc_new _ _)⟩
 case round =>
   obtain ⟨m,rfl,hm,rfl,HB,hsz,Z0⟩:=hrel
   have wm:IntKind.i64.wrap ((m:Int)+1)=(m:Int)+1:=IntWalk.i64_in _ (by omega)
   obtain ⟨-,-,f5,-,-⟩:=box5 Z0.out
   by_cases hlt:m < ts.length
   · obtain ⟨x,hx⟩:∃ x,ts[m]? = some x:=⟨_,List.getElem?_eq_getElem hlt⟩
     obtain ⟨b1,o1,s1,rfl,-,t1,sub1⟩:=HS.out.get hx
     obtain ⟨d0,d1,d2,d3,d4,d5,d6,d7,d8,d9⟩:=t1.keep (HB.out.block _ t1.lt)
     have hmem:=List.mem_of_getElem? hx
     have HC:=Lib.hid (IH.out x hmem (HF.out.sub (by rw [HTS.out];exact hmem)) wr B (.agg (x.cells s1)) ⟨_,rfl,sub1.later HB.out⟩)
     have hle:=Tr.sat_le (1+Tr.szS (ts.take m));have hlx:=Tr.szT_le x
     have HST:=Lib.hid (Tr.szS_take ts m x hx)
     clear t1 sub1 hmem hx
     generalize hn:Tr.sat (1+Tr.szS (ts.take m))=n at *
     have HN:=Lib.hid hn
     clear hn
     unfold Tr.cells at HC
     go_wp2_with fail
     refine HC.out.mono ?_
     rintro e w2 ⟨rfl,hb2⟩
     have HB2:=Lib.hid (HB.out.trans (hb2.mono HB.out.size));have Z2:=Lib.hid (keep_blk hb2 Z0.out)
     have hsz2:w.heap.size < w2.heap.size:=Nat.lt_of_lt_of_le hsz hb2.size
     clear d0 d1 d2 d3 d4 d5 d6 d7 d8 d9 f5 hb2 HC
     go_wp2_with fail
     refine (trcount_any n x.szT hle (by omega) _ _ rfl rfl _).mono ?_
     rintro e w3 ⟨rfl,rfl⟩
     have hsum:Tr.sat (n+x.szT)=Tr.sat (1+Tr.szS (ts.take (m+1))):=by rw [← HN.out,Tr.sat_sat,HST.out];congr 1;omega
     rw [hsum]
     clear hsum
     go_wp2
     exact ⟨⟨m+1,by go_num,by omega,rfl,HB2,hsz2,Z2⟩,by simp [intOf];omega⟩
   · obtain rfl:m=ts.length:=by omega
     have HX:=Lib.hid (show Tr.sat (1+Tr.szS (ts.take ts.length))=t.szT by rw [List.take_length,HE.out])
     go_wp2
     go_ret
     exact ⟨ret_int (by rw [HX.out]),HB.out⟩
theorem refsize_rep (t x:Tr) (ih:∀ (w:World) (B:Nat→Prop) (v:Value),NodeV w B v x→Calls Tryd.prog 69 #[v] w (SizeEnd x.szT w)) (hsub:t.subs=[x]) (hk:t.kind=8) (h0:0 ≤ t.least) (h1:t.least ≤ 255) (h2:t.most = -1 ∨ (t.least ≤ t.most∧t.most ≤ 255))
   (w:World) (B:Nat→Prop) (v:Value) (hv:NodeV w B v t):Calls Tryd.prog 69 #[v] w (SizeEnd t.szT w):=by
 obtain ⟨s,rfl,hs⟩:=hv
 have hsz0:t.szT=Tr.repSz t.least t.most x.szT:=by
   cases t;simp only [Tr.kind,Tr.subs] at hk hsub;subst hk hsub;rw [Tr.szT,if_pos rfl,Tr.szH];rfl
 rw [hsub] at hs
 obtain ⟨p,cap,rfl,hlen⟩:=hs.slice
 have hs:TreesAt w B (.slice p 1 cap) [x]:=hs
 obtain ⟨b1,o1,s1,rfl,-,t1,sub1⟩:=hs.get (i:=0) (t:=x) rfl
 have HE:=Lib.hid hsz0
 have HC:=Lib.hid ih
 have t1':TenAt w b1 o1 x s1:=by simpa using t1
 have T1:=Lib.hid t1';have SUB:=Lib.hid sub1
 have e8:(t.kind != 8)=false:=by simpa using hk
 have hN:=Tr.szT_le x
 clear ih hs hk hsub hsz0 t1 t1' sub1 hlen
 obtain ⟨lo,hlo⟩:∃ lo:Nat,t.least=lo:=⟨t.least.toNat,by omega⟩
 rw [hlo] at h0 h1 h2
 by_cases hm0:t.most=0
 · have HX:=Lib.hid (show t.szT=1 by rw [HE.out];unfold Tr.repSz;rw [if_pos hm0])
   unfold Tr.cells
   rw [hm0]
   clear hlo hm0
   go_enter Tryd.func69,Tryd.ntmps69
   go_wp2
   go_ret
   exact ⟨ret_int (by rw [HX.out];rfl),by go_grown⟩
 · have em0:(t.most == 0)=false:=by simpa using hm0
   have HM:=Lib.hid hm0;have HLO:=Lib.hid hlo
   unfold Tr.cells
   clear hm0 hlo
   go_enter Tryd.func69,Tryd.ntmps69
   have d:=fun (o:Obj)=>T1.out.keep (w':=w.alloc o) (Below.heap_alloc w o b1 T1.out.lt)
   have e0:=fun o=>(d o).c0;have e1:=fun o=>(d o).c1;have e2:=fun o=>(d o).c2;have e3:=fun o=>(d o).c3;have e4:=fun o=>(d o).c4
   have e5:=fun o=>(d o).c5;have e6:=fun o=>(d o).c6;have e7:=fun o=>(d o).c7;have e8':=fun o=>(d o).c8;have e9:=fun o=>(d o).c9
   clear d
   go_wp2_with fail
   generalize hw1:World.alloc w _=w1
   have hb1:Below w.heap.size w w1:=by rw [← hw1];exact (Below.refl _ _).alloc (Nat.le_refl _) _
   have Z1:Hid (w1.heap[w.heap.size]? = some (.cells (t.cells (.slice (some ⟨b1,o1,none⟩) 1 cap)) 29)):=Lib.hid (by rw [← hw1];exact heap_alloc_new _ _)
   have hs1:w.heap.size < w1.heap.size:=by rw [← hw1];simp
   have hcall:=HC.out w1 B (.agg (x.cells s1)) ⟨_,rfl,SUB.out.later hb1⟩
   unfold Tr.cells at hcall
   have HB1:=Lib.hid hb1
   clear hw1 e0 e1 e2 e3 e4 e5 e6 e7 e8' e9 hb1
   refine hcall.mono ?_
   rintro e w2 ⟨rfl,hb2⟩
   have HB2:=Lib.hid (HB1.out.trans (hb2.mono HB1.out.size));have Z2:=Lib.hid (keep_blk hb2 Z1.out)
   have hs2:w.heap.size < w2.heap.size:=Nat.lt_of_lt_of_le hs1 hb2.size
   clear hb2 hcall HB1 Z1
   generalize hNe:x.szT=N at *
   clear hNe
   have hlo255:lo ≤ 255:=by omega
   go_wp2
   go_loopw [6,7,8] (fun pv nv iv wr=>∃ m:Nat,iv=.int .i64 m∧pv=.int .i64 m∧m ≤ lo∧nv=.int .i64 (Tr.sat (m * N):Nat)∧wr=w2) (fun _ _ iv _=>lo - (intOf iv).toNat)
   case atStart=>exact ⟨0,rfl,rfl,Nat.zero_le _,by simp [Tr.sat],rfl⟩
   case round =>
     obtain ⟨m,rfl,rfl,hm,rfl,rfl⟩:=hrel
     have wm:IntKind.i64.wrap ((m:Int)+1)=(m:Int)+1:=IntWalk.i64_in _ (by omega)
     obtain ⟨-,-,-,f7,f8⟩:=box5 Z2.out
     rw [HLO.out] at f7
     by_cases hlt:m < lo
     · have hsat:=Tr.sat_le (m * N)
       have HS:=Lib.hid (show Tr.sat (Tr.sat (m * N)+N)=Tr.sat ((m+1) * N) by rw [Tr.sat_sat,Nat.succ_mul])
       generalize Tr.sat (m * N)=n at *
       go_wp2_with fail
       refine (trcount_any n N hsat (by omega) _ _ rfl rfl _).mono ?_
       rintro e w3 ⟨rfl,rfl⟩
       rw [HS.out]
       go_wp2
       exact ⟨⟨m+1,by go_num,by go_num,by omega,rfl,trivial⟩,by simp [intOf];omega⟩
     · obtain rfl:m=lo:=by omega
       have hsat0:=Tr.sat_le (m * N)
       generalize hA:m * N=A at *
       have HA:=Lib.hid hA
       clear hA
       generalize hhi:t.most=hi at *
       have HHI:=Lib.hid hhi
       clear hhi
       obtain ⟨J,hJ⟩:∃ J:Nat,J=(hi - m).toNat:=⟨_,rfl⟩
       have HJ:=Lib.hid hJ
       have hJ2:J ≤ 255:=by omega
       clear hJ
       go_wp2
       go_loopw [6,7,9] (fun pv nv iv wz=>∃ j:Nat,iv=.int .i64 ((m+j:Nat):Int)∧pv=.int .i64 ((m+j:Nat):Int)∧j ≤ J∧nv=.int .i64 (Tr.sat (A+j * (N+1)):Nat)∧wz=wr) (fun _ _ iv _=>(m+J) - (intOf iv).toNat)
       case atStart=>exact ⟨0,rfl,rfl,Nat.zero_le _,by simp,rfl⟩
       case round =>
         obtain ⟨j,rfl,rfl,hj,rfl,rfl⟩:=hrel
         have wj:IntKind.i64.wrap (((m+j:Nat):Int)+1)=((m+j:Nat):Int)+1:=IntWalk.i64_in _ (by omega)
         have wj2:IntKind.i64.wrap ((m:Int)+j+1)=(m:Int)+j+1:=IntWalk.i64_in _ (by omega)
         obtain ⟨-,-,-,f7,f8⟩:=box5 Z2.out
         rw [HHI.out] at f8
         by_cases hjJ:j < J
         · have hd:decide (((m+j:Nat):Int) < hi)=true:=by have:=HJ.out;simp;omega
           have hd2:decide ((m:Int)+j < hi)=true:=by have:=HJ.out;simp;omega
           have hsat:=Tr.sat_le (A+j * (N+1))
           have HS:=Lib.hid (show Tr.sat (Tr.sat (Tr.sat (A+j * (N+1))+N)+1)=Tr.sat (A+(j+1) * (N+1)) by rw [Tr.sat_sat,show Tr.sat (A+j * (N+1))+N+1=Tr.sat (A+j * (N+1))+(N+1) by omega,Tr.sat_sat,Nat.succ_mul,Nat.add_assoc])
           generalize Tr.sat (A+j * (N+1))=n at *
           go_wp2_with fail
           refine (trcount_any n N hsat (by omega) _ _ rfl rfl _).mono ?_
           rintro e w3 ⟨rfl,rfl⟩
           have hs2':=Tr.sat_le (n+N)
           generalize Tr.sat (n+N)=n2 at *
           go_wp2_with fail
           refine (trcount_any n2 1 hs2' (by omega) _ _ rfl rfl _).mono ?_
           rintro e w3 ⟨rfl,rfl⟩
           rw [HS.out]
           go_wp2
           exact ⟨⟨j+1,by go_num,by go_num,by omega,rfl,trivial⟩,by simp [intOf];omega⟩
         · obtain rfl:j=J:=by omega
           have hd:decide (((m+j:Nat):Int) < hi)=false:=by have:=HJ.out;simp;omega
           have hd2:decide ((m:Int)+j < hi)=false:=by have:=HJ.out;simp;omega
           have hsat:=Tr.sat_le (A+j * (N+1))
           by_cases hend:hi = -1
           · have hj0:j=0:=by have:=HJ.out;omega
             subst hj0
             have eend:(hi == -1)=true:=by simpa using hend
             have HS:=Lib.hid (show Tr.sat (Tr.sat (Tr.sat (A+0 * (N+1))+N)+1)=Tr.sat (A+N+1) by rw [Tr.sat_sat,show Tr.sat (A+0 * (N+1))+N+1=Tr.sat (A+0 * (N+1))+(N+1) by omega,Tr.sat_sat];congr 1;omega)
             generalize Tr.sat (A+0 * (N+1))=n at *
             go_wp2_with fail
             refine (trcount_any n N hsat (by omega) _ _ rfl rfl _).mono ?_
             rintro e w3 ⟨rfl,rfl⟩
             have hs2':=Tr.sat_le (n+N)
             generalize Tr.sat (n+N)=n2 at *
             go_wp2_with fail
             refine (trcount_any n2 1 hs2' (by omega) _ _ rfl rfl _).mono ?_
             rintro e w3 ⟨rfl,rfl⟩
             rw [HS.out]
             by_cases hm1:m=0
             · subst hm1
               have HX:=Lib.hid (show Tr.sat (A+N+1)=t.szT by
                 rw [HE.out,HLO.out];unfold Tr.repSz;rw [if_neg (by omega),if_neg (by omega),if_pos ⟨rfl,.inr hend⟩]
                 have:=HA.out;congr 1;omega)
               go_wp2
               go_ret
               exact ⟨ret_int (by rw [HX.out]),HB2.out⟩
             · have HX:=Lib.hid (show Tr.sat (Tr.sat (A+N+1)+1)=t.szT by
                 rw [HE.out,HLO.out];unfold Tr.repSz;rw [if_neg (by omega),if_neg (by omega),if_neg (by omega),if_pos hend,Tr.sat_sat]
                 have:=HA.out;congr 1;simp;omega)
               have hgt:decide ((1:Int) < (m:Int)+1)=true:=by simp;omega
               have hgt2:decide ((0:Int) < (m:Int))=true:=by simp;omega
               have hs3:=Tr.sat_le (A+N+1)
               generalize Tr.sat (A+N+1)=n3 at *
               go_wp2_with fail
               refine (trcount_any n3 1 hs3 (by omega) _ _ rfl rfl _).mono ?_
               rintro e w3 ⟨rfl,rfl⟩
               rw [HX.out]
               go_wp2
               go_ret
               exact ⟨rfl,HB2.out⟩
           · have eend:(hi == -1)=false:=by simpa using hend
             have hhim:(m:Int) ≤ hi:=by omega
             have hJm:((m+j:Nat):Int)=hi:=by have:=HJ.out;omega
             have hpos:1 ≤ m+j:=by have:=HM.out;omega
             by_cases h1':m+j=1
             · have HX:=Lib.hid (show Tr.sat (A+j * (N+1))=t.szT by
                 rw [HE.out,HLO.out];unfold Tr.repSz;rw [if_neg (by omega)]
                 have hA:=HA.out
                 by_cases hm1:m=1
                 · rw [if_pos ⟨by omega,by omega⟩]
                   have:j=0:=by omega
                   subst this hm1
                   unfold Tr.sat;omega
                 · have:m=0:=by omega
                   have:j=1:=by omega
                   subst this;subst m
                   rw [if_neg (by omega),if_pos ⟨rfl,.inl (by omega)⟩];congr 1;omega)
               have hgt:decide ((1:Int) < ((m+j:Nat):Int))=false:=by simp;omega
               have hgt2:decide ((1:Int) < (m:Int)+j)=false:=by simp;omega
               rw [HX.out]
               go_wp2
               go_ret
               exact ⟨rfl,HB2.out⟩
             · have HX:=Lib.hid (show Tr.sat (Tr.sat (A+j * (N+1))+1)=t.szT by
                 rw [HE.out,HLO.out];unfold Tr.repSz;rw [if_neg (by omega),if_neg (by omega),if_neg (by omega),if_neg (by omega),Tr.sat_sat]
                 have hA:=HA.out
                 have hjj:(hi - (m:Int)).toNat=j:=by omega
                 rw [hjj]
                 congr 1
                 rw [show ((m:Int)).toNat=m by simp,hA,Nat.add_comm 1 N]
                 omega)
               have hgt:decide ((1:Int) < ((m+j:Nat):Int))=true:=by simp;omega
               have hgt2:decide ((1:Int) < (m:Int)+j)=true:=by simp;omega
               generalize Tr.sat (A+j * (N+1))=n3 at *
               go_wp2_with fail
               refine (trcount_any n3 1 hsat (by omega) _ _ rfl rfl _).mono ?_
               rintro e w3 ⟨rfl,rfl⟩
               rw [HX.out]
               go_wp2
               go_ret
               exact ⟨rfl,HB2.out⟩
theorem refsize_any:∀ t:Tr,t.InForm→∀ (w:World) (B:Nat→Prop) (v:Value),NodeV w B v t→Calls Tryd.prog 69 #[v] w (SizeEnd t.szT w):=by
 intro t
 induction t using Tr.rec_subs with
 | h t ih =>
   intro hf w B v hv
   by_cases hk:t.kind=8
   · have hfl:=hf.fields
     unfold Tr.fieldsOk at hfl
     obtain ⟨-,-,-,-,-,hl,-,h0,h1,h2,-⟩:t.kind=8∧t.w0=0#64∧t.w1=0#64∧t.w2=0#64∧t.w3=0#64∧t.subs.length=1∧t.num=0∧0 ≤ t.least∧t.least ≤ 255∧(t.most = -1 ∨ (t.least ≤ t.most∧t.most ≤ 255))∧(t.bare=true→t.least=0):=by
       rcases hfl with h | h | h | h | h
       · omega
       · omega
       · omega
       · omega
       · exact h
     obtain ⟨x,hx⟩:=List.length_eq_one_iff.1 hl
     have hmem:x ∈ t.subs:=by rw [hx];exact List.mem_cons_self
     exact refsize_rep t x (fun w B v hv=>ih x hmem (hf.sub hmem) w B v hv) hx hk h0 h1 h2 w B v hv
   · exact refsize_seq t ih hf hk w B v hv
end Go.Proofs.YtoepdfpnkmccoaaDoor
namespace Go.Proofs.YtoepdfpnkmccoaaDoor
open Go.RowKit
theorem stays_is (t:Tr) (s:Value) (hs:∃ p l c,s=.slice p l c) (b:Bool) (hb:b=decide (t.least=0∧(t.most=1 ∨ t.most = -1))) (w:World):Calls Tryd.prog 89 #[.agg (t.cells s)] w fun e w'=>e=.returned (.bool b)∧Below w.heap.size w w':=by
 obtain ⟨p,l,c,rfl⟩:=hs
 unfold Tr.cells
 by_cases h0:t.least=0
 · by_cases h1:t.most=1
   · have hb1:b=true:=by rw [hb];simp [h0,h1]
     subst hb1
     rw [h0,h1]
     clear hb
     go_enter Tryd.func89,Tryd.ntmps89
     go_wp2
     go_ret
     exact ⟨rfl,by go_grown⟩
   · by_cases h2:t.most = -1
     · have hb1:b=true:=by rw [hb];simp [h0,h2]
       subst hb1
       rw [h0,h2]
       clear hb
       go_enter Tryd.func89,Tryd.ntmps89
       go_wp2
       go_ret
       exact ⟨rfl,by go_grown⟩
     · have hb1:b=false:=by rw [hb];simp [h1,h2]
       subst hb1
       rw [h0]
       have e1:(t.most == 1)=false:=by simpa using h1
       have e2:(t.most == -1)=false:=by simpa using h2
       clear hb h1 h2
       go_enter Tryd.func89,Tryd.ntmps89
       go_wp2
       go_ret
       exact ⟨rfl,by go_grown⟩
 · have hb1:b=false:=by rw [hb];simp [h0]
   subst hb1
   have e1:(t.least == 0)=false:=by simpa using h0
   clear hb h0
   go_enter Tryd.func89,Tryd.ntmps89
   go_wp2
   go_ret
   exact ⟨rfl,by go_grown⟩
theorem treerep (t x:Tr) (ih:∀ (w:World) (B:Nat→Prop) (v:Value),NodeV w B v x→Calls Tryd.prog 51 #[v] w (SizeEnd x.szT w)) (hsub:t.subs=[x]) (h0:0 ≤ t.least) (h1:t.least ≤ 255) (h2:t.most = -1 ∨ (t.least ≤ t.most∧t.most ≤ 255))
   (w:World) (B:Nat→Prop) (v:Value) (hv:NodeV w B v t):Calls Tryd.prog 90 #[v] w (SizeEnd (Tr.repSz t.least t.most x.szT) w):=by
 obtain ⟨s,rfl,hs⟩:=hv
 rw [hsub] at hs
 obtain ⟨p,cap,rfl,hlen⟩:=hs.slice
 have hs:TreesAt w B (.slice p 1 cap) [x]:=hs
 obtain ⟨b1,o1,s1,rfl,-,t1,sub1⟩:=hs.get (i:=0) (t:=x) rfl
 have t1':TenAt w b1 o1 x s1:=by simpa using t1
 have HC:=Lib.hid ih
 have T1:=Lib.hid t1';have SUB:=Lib.hid sub1
 have hN:=Tr.szT_le x
 have HST:=Lib.hid (fun b hb=>stays_is t (.slice (some ⟨b1,o1,none⟩) 1 cap) ⟨_,_,_,rfl⟩ b hb)
 clear ih hs hsub t1 t1' sub1 hlen
 obtain ⟨m,hm⟩:∃ m:Nat,t.least=m:=⟨t.least.toNat,by omega⟩
 have HM:=Lib.hid hm
 rw [hm] at h0 h1 h2
 have hm255:m ≤ 255:=by omega
 have hmul:m * x.szT ≤ 510255:=Nat.le_trans (Nat.mul_le_mul hm255 hN) (by omega)
 have wmul:IntKind.i64.wrap ((m:Int) * (x.szT:Int))=((m * x.szT:Nat):Int):=by rw [← Int.natCast_mul];exact IntWalk.i64_in _ (by omega)
 generalize hhi:t.most=hi at *
 have HHI:=Lib.hid hhi
 unfold Tr.cells
 rw [hm,hhi]
 clear hm hhi
 go_enter Tryd.func90,Tryd.ntmps90
 have d:=fun (o:Obj)=>T1.out.keep (w':=w.alloc o) (Below.heap_alloc w o b1 T1.out.lt)
 have e0:=fun o=>(d o).c0;have e1:=fun o=>(d o).c1;have e2:=fun o=>(d o).c2;have e3:=fun o=>(d o).c3;have e4:=fun o=>(d o).c4
 have e5:=fun o=>(d o).c5;have e6:=fun o=>(d o).c6;have e7:=fun o=>(d o).c7;have e8:=fun o=>(d o).c8;have e9:=fun o=>(d o).c9
 clear d
 go_wp2_with fail
 generalize hw1:World.alloc w _=w1
 have hb1:Below w.heap.size w w1:=by rw [← hw1];exact (Below.refl _ _).alloc (Nat.le_refl _) _
 have Z1:Hid (w1.heap[w.heap.size]? = some (.cells (t.cells (.slice (some ⟨b1,o1,none⟩) 1 cap)) 29)):=Lib.hid (by rw [← hw1,heap_alloc_new];unfold Tr.cells;rw [HM.out,HHI.out])
 have hs1:w.heap.size < w1.heap.size:=by rw [← hw1];simp
 have hcall:=HC.out w1 B (.agg (x.cells s1)) ⟨_,rfl,SUB.out.later hb1⟩
 unfold Tr.cells at hcall
 have HB1:=Lib.hid hb1
 clear hw1 e0 e1 e2 e3 e4 e5 e6 e7 e8 e9 hb1
 refine hcall.mono ?_
 rintro e w2 ⟨rfl,hb2⟩
 have HB2:=Lib.hid (HB1.out.trans (hb2.mono HB1.out.size));have Z2:=Lib.hid (keep_blk hb2 Z1.out)
 have hs2:w.heap.size < w2.heap.size:=Nat.lt_of_lt_of_le hs1 hb2.size
 clear hb2 hcall HB1 Z1
 generalize hNe:x.szT=N at *
 clear hNe
 obtain ⟨-,-,f5,f7,f8⟩:=box5 Z2.out
 rw [HM.out] at f7
 rw [HHI.out] at f8
 generalize hA:m * N=A at *
 have HA:=Lib.hid hA
 clear hA
 by_cases h11:m=1∧hi=1
 · obtain ⟨rfl,rfl⟩:=h11
   go_wp2
   go_ret
   exact ⟨ret_int (by unfold Tr.repSz;simp),HB2.out⟩
 · have H11:=Lib.hid h11
   clear h11 f5 f7 f8
   obtain ⟨-,-,f5,f7,f8⟩:=box5 Z2.out
   rw [HM.out] at f7
   rw [HHI.out] at f8
   by_cases hst:m=0∧(hi=1 ∨ hi = -1)
   · have HX:=Lib.hid (show Tr.repSz m hi N=Tr.sat (1+N) by unfold Tr.repSz;rw [if_neg (by omega),if_neg (by omega),if_pos ⟨by omega,hst.2⟩])
     obtain ⟨rfl,hst2⟩:=hst
     have HS2:=Lib.hid hst2
     have w1n:IntKind.i64.wrap (1+(N:Int))=1+(N:Int):=IntWalk.i64_in _ (by omega)
     clear hst2
     go_wp2_with (first
       | (refine wpList_load_row rfl 29 (.tmp 1) rfl w.heap.size rfl 29 _ (0,0) _ Z2.out Tryd.underlying29 rfl (by kernel_rfl) ?_)
       | fail)
     refine (HST.out true (by rw [HM.out];have:=HS2.out;simp [this]) _).mono ?_
     rintro e w3 ⟨rfl,hb3⟩
     obtain ⟨-,-,f5,f7,f8⟩:=box5 (keep_blk hb3 Z2.out)
     rw [HM.out] at f7
     rw [HHI.out] at f8
     have HB3:=Lib.hid (HB2.out.trans (hb3.mono HB2.out.size))
     clear hb3
     go_wp2
     all_goals
       go_ret
       exact ⟨ret_int (by have h:=HX.out;(first | rw [h] | (push_cast at h;rw [h]));unfold Tr.sat;have ha:=HA.out;(try simp only [Nat.zero_mul] at ha);omega),HB3.out⟩
   · by_cases hend:hi = -1
     · have hmpos:1 ≤ m:=by omega
       subst hend
       have HX:=Lib.hid (show Tr.repSz m (-1) N=Tr.sat (1+A+(1+N)) by unfold Tr.repSz;rw [if_neg (by omega),if_neg (by omega),if_neg (by omega),if_pos rfl];have:=HA.out;simp [this])
       have HS2:=Lib.hid hst
       have w1n:IntKind.i64.wrap (1+(N:Int))=1+(N:Int):=IntWalk.i64_in _ (by omega)
       have w1a:IntKind.i64.wrap (1+(A:Int))=1+(A:Int):=IntWalk.i64_in _ (by omega)
       have w1s:IntKind.i64.wrap (1+(A:Int)+(1+(N:Int)))=1+(A:Int)+(1+(N:Int)):=IntWalk.i64_in _ (by omega)
       clear hst
       by_cases hm1:m=1
       · subst hm1
         go_wp2_with (first
           | (refine wpList_load_row rfl 29 (.tmp 1) rfl w.heap.size rfl 29 _ (0,0) _ Z2.out Tryd.underlying29 rfl (by kernel_rfl) ?_)
           | fail)
         refine (HST.out false (by rw [HM.out];have:=HS2.out;first | (simp;done) | (simp;omega)) _).mono ?_
         rintro e w3 ⟨rfl,hb3⟩
         obtain ⟨-,-,f5,f7,f8⟩:=box5 (keep_blk hb3 Z2.out)
         rw [HM.out] at f7
         rw [HHI.out] at f8
         have HB3:=Lib.hid (HB2.out.trans (hb3.mono HB2.out.size))
         clear hb3
         go_wp2
         all_goals
           go_ret
           exact ⟨ret_int (by have h:=HX.out;(first | rw [h] | (push_cast at h;rw [h]));unfold Tr.sat;have ha:=HA.out;(try simp only [Nat.one_mul] at ha);omega),HB3.out⟩
       · have g1:((m:Int) == 1)=false:=by simp;omega
         clear hm1
         go_wp2_with (first
           | (refine wpList_load_row rfl 29 (.tmp 1) rfl w.heap.size rfl 29 _ (0,0) _ Z2.out Tryd.underlying29 rfl (by kernel_rfl) ?_)
           | fail)
         refine (HST.out false (by rw [HM.out];have:=HS2.out;first | (simp;done) | (simp;omega)) _).mono ?_
         rintro e w3 ⟨rfl,hb3⟩
         obtain ⟨-,-,f5,f7,f8⟩:=box5 (keep_blk hb3 Z2.out)
         rw [HM.out] at f7
         rw [HHI.out] at f8
         have HB3:=Lib.hid (HB2.out.trans (hb3.mono HB2.out.size))
         clear hb3
         go_wp2
         all_goals
           go_ret
           exact ⟨ret_int (by have h:=HX.out;(first | rw [h] | (push_cast at h;rw [h]));unfold Tr.sat;have ha:=HA.out;(try simp only [Nat.one_mul,Nat.zero_mul] at ha);omega),HB3.out⟩
     · obtain ⟨d,hd⟩:∃ d:Nat,hi=(m:Int)+d:=⟨(hi - m).toNat,by omega⟩
       have hdm:d * (1+N) ≤ 510510:=Nat.le_trans (Nat.mul_le_mul (show d ≤ 255 by omega) (show 1+N ≤ 2002 by omega)) (by omega)
       obtain ⟨B2,hB⟩:∃ B2,d * (1+N)=B2:=⟨_,rfl⟩
       have HX:=Lib.hid (show Tr.repSz m hi N=Tr.sat (1+A+B2) by
         rw [← hB]
         unfold Tr.repSz
         by_cases hz:hi=0
         · rw [if_pos hz]
           have hm0:m=0:=by omega
           have hd0:d=0:=by omega
           have:=HA.out
           subst hm0 hd0
           simp at this
           subst this
           simp [Tr.sat]
         · rw [if_neg hz,if_neg (by have:=H11.out;omega),if_neg (by omega),if_neg hend]
           have:=HA.out
           have hdd:(hi - (m:Int)).toNat=d:=by omega
           rw [hdd];simp [this])
       have HS2:=Lib.hid hst
       have eend:(hi == -1)=false:=by simpa using hend
       have w1n:IntKind.i64.wrap (1+(N:Int))=1+(N:Int):=IntWalk.i64_in _ (by omega)
       have w1a:IntKind.i64.wrap (1+(A:Int))=1+(A:Int):=IntWalk.i64_in _ (by omega)
       have wsub:IntKind.i64.wrap (hi - (m:Int))=(d:Int):=by rw [hd,show (m:Int)+d - m=d by omega];exact IntWalk.i64_in _ (by omega)
       have wmul2:IntKind.i64.wrap ((d:Int) * (1+(N:Int)))=((d * (1+N):Nat):Int):=by
         rw [show (d:Int) * (1+(N:Int))=((d * (1+N):Nat):Int) by push_cast;rfl];exact IntWalk.i64_in _ (by omega)
       have HD:=Lib.hid hd
       rw [hB] at hdm wmul2
       have w1s:IntKind.i64.wrap (1+(A:Int)+(B2:Int))=1+(A:Int)+(B2:Int):=IntWalk.i64_in _ (by omega)
       clear hst hd hB
       by_cases hm1:m=1
       · subst hm1
         have g2:(hi == 1)=false:=by have:=H11.out;simp;omega
         have wsub':IntKind.i64.wrap (hi - 1)=(d:Int):=by simpa using wsub
         have w1s':IntKind.i64.wrap (1+(N:Int)+(B2:Int))=1+(N:Int)+(B2:Int):=IntWalk.i64_in _ (by omega)
         clear wsub w1s w1a wmul
         go_wp2_with (first
           | (refine wpList_load_row rfl 29 (.tmp 1) rfl w.heap.size rfl 29 _ (0,0) _ Z2.out Tryd.underlying29 rfl (by kernel_rfl) ?_)
           | fail)
         refine (HST.out false (by rw [HM.out];have:=HS2.out;first | (simp;done) | (simp;omega)) _).mono ?_
         rintro e w3 ⟨rfl,hb3⟩
         obtain ⟨-,-,f5,f7,f8⟩:=box5 (keep_blk hb3 Z2.out)
         rw [HM.out] at f7
         rw [HHI.out] at f8
         have HB3:=Lib.hid (HB2.out.trans (hb3.mono HB2.out.size))
         clear hb3
         go_wp2
         all_goals
           go_ret
           exact ⟨ret_int (by have h:=HX.out;(first | rw [h] | (push_cast at h;rw [h]));unfold Tr.sat;have ha:=HA.out;(try simp only [Nat.one_mul] at ha);omega),HB3.out⟩
       · have g1:((m:Int) == 1)=false:=by simp;omega
         clear hm1
         go_wp2_with (first
           | (refine wpList_load_row rfl 29 (.tmp 1) rfl w.heap.size rfl 29 _ (0,0) _ Z2.out Tryd.underlying29 rfl (by kernel_rfl) ?_)
           | fail)
         refine (HST.out false (by rw [HM.out];have:=HS2.out;first | (simp;done) | (simp;omega)) _).mono ?_
         rintro e w3 ⟨rfl,hb3⟩
         obtain ⟨-,-,f5,f7,f8⟩:=box5 (keep_blk hb3 Z2.out)
         rw [HM.out] at f7
         rw [HHI.out] at f8
         have HB3:=Lib.hid (HB2.out.trans (hb3.mono HB2.out.size))
         clear hb3
         go_wp2
         all_goals
           go_ret
           exact ⟨ret_int (by have h:=HX.out;(first | rw [h] | (push_cast at h;rw [h]));unfold Tr.sat;have ha:=HA.out;(try simp only [Nat.one_mul,Nat.zero_mul] at ha);omega),HB3.out⟩
end Go.Proofs.YtoepdfpnkmccoaaDoor
namespace Go.Proofs.YtoepdfpnkmccoaaDoor
open Go.RowKit
structure Touch (F:List Nat) (w w':World):Prop where
 os:w'.os=w.os
 tape:w'.tape=w.tape
 output:w'.output=w.output
 size:w.heap.size ≤ w'.heap.size
 block:∀ k,k < w.heap.size→k ∉ F→w'.heap[k]? = w.heap[k]?
theorem Touch.of_below {w w':World} (F:List Nat) (h:Below w.heap.size w w'):Touch F w w':=⟨h.os,h.tape,h.output,h.size,fun k hk _=>h.block k hk⟩
theorem Touch.trans {F:List Nat} {a b c:World} (h:Touch F a b) (k:Touch F b c):Touch F a c :=
 ⟨k.os.trans h.os,k.tape.trans h.tape,k.output.trans h.output,Nat.le_trans h.size k.size,fun i hi hn=>(k.block i (Nat.lt_of_lt_of_le hi h.size) hn).trans (h.block i hi hn)⟩
theorem Touch.mono {F G:List Nat} {a b:World} (h:Touch F a b) (hs:∀ k,k ∈ F→k ∈ G):Touch G a b:=⟨h.os,h.tape,h.output,h.size,fun k hk hn=>h.block k hk fun hm=>hn (hs k hm)⟩
theorem heap_setCells_other {b k:Nat} (hk:k ≠ b):∀ (vs:List Value) (o:Nat) (w:World),(w.setCells b o vs).heap[k]? = w.heap[k]?
 | [],_,_=>rfl
 | v :: r,o,w=>by rw [World.setCells,heap_setCells_other hk r (o+1) _,Below.heap_setCell _ _ _ _ hk]
theorem size_setCells (b:Nat):∀ (vs:List Value) (o:Nat) (w:World),(w.setCells b o vs).heap.size=w.heap.size
 | [],_,_=>rfl
 | v :: r,o,w=>by rw [World.setCells,size_setCells b r (o+1) _];simp [World.setCell]
theorem streams_setCells (b:Nat):∀ (vs:List Value) (o:Nat) (w:World),(w.setCells b o vs).os=w.os∧(w.setCells b o vs).tape=w.tape∧(w.setCells b o vs).output=w.output
 | [],_,_=>⟨rfl,rfl,rfl⟩
 | v :: r,o,w=>by rw [World.setCells];exact streams_setCells b r (o+1) _
theorem cells_setCells {b:Nat} : ∀ (vs:List Value) (o:Nat) (w:World),(∃ cs ty,w.heap[b]? = some (.cells cs ty (0,0)))→∃ cs ty,(w.setCells b o vs).heap[b]? = some (.cells cs ty (0,0))
 | [],_,_,h=>h
 | v :: r,o,w,⟨cs,ty,h⟩=>by
   rw [World.setCells]
   exact cells_setCells r (o+1) _ ⟨cs.setIfInBounds o v,ty,by simp [World.setCell,Array.getElem?_modify,h]⟩
theorem Touch.setCells {F:List Nat} {a w:World} {b:Nat} (h:Touch F a w) (hb:b ∈ F) (o:Nat) (vs:List Value):Touch F a (w.setCells b o vs):=by
 obtain ⟨h1,h2,h3⟩:=streams_setCells b vs o w
 exact ⟨h1.trans h.os,h2.trans h.tape,h3.trans h.output,by rw [size_setCells];exact h.size,fun k hk hn=>by
   rw [heap_setCells_other (k:=k) (b:=b) (fun e=>by subst e;exact hn hb)];exact h.block k hk hn⟩
inductive Owned (w:World):Value→List Tr→List Nat→Prop
 | nil (p:Option Addr) (cap:Nat):Owned w (.slice p 0 cap) [] []
 | row (g o cap:Nat) (ts:List Tr) (S:Nat→Value) (L:Nat→List Nat) (hlen:ts.length * 96 ≤ 140737488351232) (hf:∃ cs ty,w.heap[g]? = some (.cells cs ty (0,0)))
     (hc:∀ i t,ts[i]? = some t→TenAt w g (o+i * 10) t (S i)) (hs:∀ i t,ts[i]? = some t→Owned w (S i) t.subs (L i))
     (hg:∀ i,i < ts.length→g ∉ L i) (hd:∀ i j b,i < ts.length→j < ts.length→i ≠ j→b ∈ L i→b ∉ L j) :
     Owned w (.slice (some ⟨g,o,none⟩) ts.length cap) ts (g :: (List.range ts.length).flatMap L)
theorem mem_range_flatMap {L:Nat→List Nat} {n b:Nat} : b ∈ (List.range n).flatMap L ↔ ∃ i,i < n∧b ∈ L i:=by
 simp [List.mem_flatMap,List.mem_range]
theorem lt_of_some {ts:List Tr} {i:Nat} {t:Tr} (h:ts[i]? = some t):i < ts.length:=by
 by_cases hi:i < ts.length
 · exact hi
 · rw [List.getElem?_eq_none (by omega)] at h;cases h
theorem Owned.trees {w:World} {s:Value} {ts:List Tr} {F:List Nat} (h:Owned w s ts F):TreesAt w (fun b=>b ∈ F) s ts:=by
 induction h with
 | nil p cap=>exact TreesAt.nil
 | row g o cap ts S L hlen hf hc hs hg hd ih =>
   refine .mk _ cap ts S hlen (fun i t hi=>⟨g,o,rfl,List.mem_cons_self,hc i t hi⟩) (fun i t hi=>?_)
   exact (ih i t hi).mono fun b _ hb=>List.mem_cons_of_mem _ (mem_range_flatMap.2 ⟨i,lt_of_some hi,hb⟩)
theorem Owned.lt {w:World} {s:Value} {ts:List Tr} {F:List Nat} (h:Owned w s ts F):∀ b,b ∈ F→b < w.heap.size:=by
 induction h with
 | nil p cap=>intro b hb;cases hb
 | row g o cap ts S L hlen hf hc hs hg hd ih =>
   intro b hb
   rcases List.mem_cons.1 hb with rfl | hb
   · obtain ⟨cs,ty,h⟩:=hf;exact (Array.getElem?_eq_some_iff.1 h).1
   · obtain ⟨i,hi,hb⟩:=mem_range_flatMap.1 hb
     exact ih i ts[i] (List.getElem?_eq_getElem hi) b hb
theorem Owned.keep {w w':World} {s:Value} {ts:List Tr} {F:List Nat} (h:Owned w s ts F) (hk:∀ b,b ∈ F→w'.heap[b]? = w.heap[b]?):Owned w' s ts F:=by
 induction h with
 | nil p cap=>exact .nil p cap
 | row g o cap ts S L hlen hf hc hs hg hd ih =>
   refine .row g o cap ts S L hlen ?_ (fun i t hi=>(hc i t hi).keep (hk g List.mem_cons_self)) (fun i t hi=>ih i t hi fun b hb=>hk b (List.mem_cons_of_mem _ (mem_range_flatMap.2 ⟨i,lt_of_some hi,hb⟩))) hg hd
   obtain ⟨cs,ty,h⟩:=hf
   exact ⟨cs,ty,(hk g List.mem_cons_self).trans h⟩
theorem Owned.later {w w':World} {s:Value} {ts:List Tr} {F:List Nat} (h:Owned w s ts F) (hb:Below w.heap.size w w'):Owned w' s ts F:=h.keep fun b hbF=>hb.block b (h.lt b hbF)
end Go.Proofs.YtoepdfpnkmccoaaDoor
namespace Go.Proofs.YtoepdfpnkmccoaaDoor
open Go.RowKit
theorem field5' {w:World} {b:Nat} {t:Tr} {s:Value} {ty:TypeId} (h:w.heap[b]? = some (.cells (t.cells s) ty)):w.cell? ⟨b,5,none⟩=some s:=by
 simp [World.cell?,h,Tr.cells]
def SpoilEnd (F:List Nat) (w:World) (e:Ending) (w':World):Prop:=e=.returned (.tuple #[])∧Touch F w w'
theorem frozen_of {w:World} {g o:Nat} (h:∃ cs ty,w.heap[g]? = some (.cells cs ty (0,0))):w.frozen? ⟨g,o,none⟩=false:=by
 obtain ⟨cs,ty,h⟩:=h;simp [World.frozen?,h]
theorem TenAt.there {w:World} {g o:Nat} {t:Tr} {s:Value} (h:TenAt w g o t s) (hf:∃ cs ty,w.heap[g]? = some (.cells cs ty (0,0))):w.there g o 10:=by
 intro j hj
 refine ⟨?_,frozen_of hf⟩
 have:j=0 ∨ j=1 ∨ j=2 ∨ j=3 ∨ j=4 ∨ j=5 ∨ j=6 ∨ j=7 ∨ j=8 ∨ j=9:=by omega
 rcases this with rfl | rfl | rfl | rfl | rfl | rfl | rfl | rfl | rfl | rfl
 · simpa using congrArg Option.isSome h.c0
 · simpa using congrArg Option.isSome h.c1
 · simpa using congrArg Option.isSome h.c2
 · simpa using congrArg Option.isSome h.c3
 · simpa using congrArg Option.isSome h.c4
 · simpa using congrArg Option.isSome h.c5
 · simpa using congrArg Option.isSome h.c6
 · simpa using congrArg Option.isSome h.c7
 · simpa using congrArg Option.isSome h.c8
 · simpa using congrArg Option.isSome h.c9
theorem TenAt.setCells {w:World} {g o o':Nat} {t:Tr} {s:Value} {vs:List Value} (h:TenAt w g o t s) (hv:vs.length=10) (ho:o'+10 ≤ o ∨ o+10 ≤ o'):TenAt (w.setCells g o' vs) g o t s:=by
 have e:∀ k,o ≤ k→k < o+10→(w.setCells g o' vs).cell? ⟨g,k,none⟩=w.cell? ⟨g,k,none⟩:=fun k h1 h2=>World.cell?_setCells_out g vs o' w _ (fun _ _=>by simp;omega)
 exact ⟨(e _ (by omega) (by omega)).trans h.c0,(e _ (by omega) (by omega)).trans h.c1,(e _ (by omega) (by omega)).trans h.c2,(e _ (by omega) (by omega)).trans h.c3,(e _ (by omega) (by omega)).trans h.c4,(e _ (by omega) (by omega)).trans h.c5,(e _ (by omega) (by omega)).trans h.c6,(e _ (by omega) (by omega)).trans h.c7,(e _ (by omega) (by omega)).trans h.c8,(e _ (by omega) (by omega)).trans h.c9⟩
theorem spoil_nil (t:Tr) (w:World) (p:Option Addr) (cap:Nat):Calls Tryd.prog 14 #[.agg (t.cells (.slice p 0 cap))] w (SpoilEnd [] w):=by
 unfold Tr.cells
 go_enter Tryd.func14,Tryd.ntmps14
 go_wp2
 go_loopw [6] (fun iv wr=>iv=.int .i64 0∧Hid (Below w.heap.size w wr)) (fun _ _=>0)
 case atStart=>exact ⟨rfl,Lib.hid (by go_grown)⟩
 case round =>
   obtain ⟨rfl,HB⟩:=hrel
   go_wp2
   go_end0
   exact ⟨rfl,Touch.of_below _ HB.out⟩
theorem spoil_any:∀ t:Tr,∀ (w:World) (s:Value) (F:List Nat),Owned w s t.subs F→Calls Tryd.prog 14 #[.agg (t.cells s)] w (SpoilEnd F w):=by
 intro t
 induction t using Tr.rec_subs with
 | h t ih =>
   intro w s F hO
   have IH:=Lib.hid ih
   clear ih
   have hlt:=hO.lt
   generalize hts:t.subs=ts at hO
   cases hO with
   | nil p cap=>exact spoil_nil t w p cap
   | row g o cap _ S L hlen hf hc hs hgL hd =>
     have HC:=Lib.hid hc;have HO:=Lib.hid hs;have HF:=Lib.hid hf;have HG:=Lib.hid hgL;have HDJ:=Lib.hid hd;have HTS:=Lib.hid hts;have HLT:=Lib.hid hlt
     have hgw:g < w.heap.size:=by obtain ⟨cs,ty,h⟩:=hf;exact (Array.getElem?_eq_some_iff.1 h).1
     have hbytes:ts.length ≤ 1152921504606846976:=by omega
     clear hc hs hf hgL hd hts hlt
     unfold Tr.cells
     go_enter Tryd.func14,Tryd.ntmps14
     go_wp2
     go_loopw [6] (fun iv wr=>∃ m:Nat,iv=.int .i64 m∧m ≤ ts.length∧Hid (Touch (g :: (List.range ts.length).flatMap L) w wr)∧w.heap.size < wr.heap.size∧Hid (wr.heap[w.heap.size]? = some (.cells (t.cells (.slice (some ⟨g,o,none⟩) ts.length cap)) 29)) ∧
       Hid (∀ j u,m ≤ j→ts[j]? = some u→TenAt wr g (o+j * 10) u (S j)∧Owned wr (S j) u.subs (L j))∧Hid (∃ cs ty,wr.heap[g]? = some (.cells cs ty (0,0)))) (fun iv _=>ts.length - (intOf iv).toNat)
     case atStart =>
       have hb:Below w.heap.size w (w.alloc (.cells #[.int .i64 t.kind,.int .u64 (Oc.U t.w0),.int .u64 (Oc.U t.w1),.int .u64 (Oc.U t.w2),.int .u64 (Oc.U t.w3),.slice (some ⟨g,o,none⟩) ts.length cap,.int .i64 t.num,.int .i64 t.least,.int .i64 t.most,.bool t.bare] 29)):=(Below.refl _ _).alloc (Nat.le_refl _) _
       exact ⟨0,rfl,Nat.zero_le _,Lib.hid (Touch.of_below _ hb),by simp,Lib.hid (heap_alloc_new _ _),Lib.hid (fun j u _ hj=>⟨(HC.out j u hj).keep (hb.block g hgw),(HO.out j u hj).later hb⟩),Lib.hid (by obtain ⟨cs,ty,h⟩:=HF.out;exact ⟨cs,ty,(hb.block g hgw).trans h⟩)⟩
     case round =>
       obtain ⟨m,rfl,hm,HT,hsz,Z0,hrest,hfr⟩:=hrel
       have wm:IntKind.i64.wrap ((m:Int)+1)=(m:Int)+1:=IntWalk.i64_in _ (by omega)
       by_cases hlt:m < ts.length
       · obtain ⟨x,hx⟩:∃ x,ts[m]? = some x:=⟨_,List.getElem?_eq_getElem hlt⟩
         obtain ⟨t10,own1⟩:=hrest.out m x (Nat.le_refl _) hx
         obtain ⟨d0,d1,d2,d3,d4,d5,d6,d7,d8,d9⟩:=t10
         have hmem:x ∈ t.subs:=by rw [HTS.out];exact List.mem_of_getElem? hx
         have HCALL:=Lib.hid (IH.out x hmem wr (S m) (L m) own1)
         have f5:=field5' Z0.out
         have OWN:=Lib.hid own1
         have HX:=Lib.hid hx
         clear own1 hmem hx
         go_wp2_with fail
         unfold Tr.cells at HCALL
         refine HCALL.out.mono ?_
         rintro e w2 ⟨rfl,ht2⟩
         have hgm:=HG.out m hlt
         have hgr:g < wr.heap.size:=Nat.lt_of_lt_of_le hgw HT.out.size
         have hg2:w2.heap[g]? = wr.heap[g]?:=ht2.block g hgr hgm
         have hwm:w.heap.size ∉ L m:=fun h=>by
           have:=HLT.out w.heap.size (List.mem_cons_of_mem _ (mem_range_flatMap.2 ⟨m,hlt,h⟩));omega
         have Z2:Hid (w2.heap[w.heap.size]? = some (.cells (t.cells (.slice (some ⟨g,o,none⟩) ts.length cap)) 29)):=Lib.hid ((ht2.block _ hsz hwm).trans Z0.out)
         have hf2:∃ cs ty,w2.heap[g]? = some (.cells cs ty (0,0)):=by rw [hg2];exact hfr.out
         have HTH:=Lib.hid (((hrest.out m x (Nat.le_refl _) HX.out).1.keep hg2).there hf2)
         have HT2:=Lib.hid (HT.out.trans (ht2.mono fun b hb=>List.mem_cons_of_mem _ (mem_range_flatMap.2 ⟨m,hlt,hb⟩)))
         have HF2:=Lib.hid hf2;have HG2:=Lib.hid hg2;have HTT:=Lib.hid ht2
         have f6:=field5' Z2.out
         have hsz2:w.heap.size < w2.heap.size:=Nat.lt_of_lt_of_le hsz ht2.size
         have hne:w.heap.size ≠ g:=by omega
         clear d0 d1 d2 d3 d4 d5 d6 d7 d8 d9 f5 hg2 hf2 ht2
         go_wp2_with (first
           | (refine wpList_store_mid rfl 29 (.tmp 20) (.tmp 19) rfl g (o+m * 10) #[.int .i64 77,.int .u64 0,.int .u64 0,.int .u64 0,.int .u64 0,.slice none 0 0,.int .i64 m,.int .i64 0,.int .i64 0,.bool false] rfl rfl HTH.out (by kernel_rfl) (by simp [Value.oneCell']) ?_;generalize hw3:World.setCells w2 _ _ _=w3;have HW3:=Lib.hid hw3;clear hw3)
           | fail)
         rw [← HW3.out]
         refine ⟨⟨m+1,by go_num,by omega,Lib.hid (HT2.out.setCells List.mem_cons_self _ _),by rw [size_setCells];exact hsz2,Lib.hid ((heap_setCells_other hne _ _ _).trans Z2.out),Lib.hid ?_,Lib.hid (cells_setCells _ _ _ HF2.out)⟩,by simp [intOf];omega⟩
         intro j u hj hu
         have hjl:=lt_of_some hu
         obtain ⟨q1,q2⟩:=hrest.out j u (by omega) hu
         refine ⟨(q1.keep HG2.out).setCells rfl (by omega), ?_⟩
         have q3:Owned w2 (S j) u.subs (L j):=q2.keep fun b hb=>HTT.out.block b (q2.lt b hb) (HDJ.out j m b hjl hlt (by omega) hb)
         exact q3.keep fun b hb=>heap_setCells_other (fun e=>by subst e;exact HG.out j hjl hb) _ _ _
       · obtain rfl:m=ts.length:=by omega
         go_wp2
         go_end0
         exact ⟨rfl,HT.out⟩
end Go.Proofs.YtoepdfpnkmccoaaDoor
namespace Go.Proofs.YtoepdfpnkmccoaaDoor
open Go.RowKit
def rowOf (ps:List (Tr × Value)):List Value:=ps.flatMap fun x=>(x.1.cells x.2).toList
theorem rowOf_snoc (ps:List (Tr × Value)) (t:Tr) (s:Value):rowOf (ps ++ [(t,s)])=rowOf ps ++ (t.cells s).toList:=by
 unfold rowOf;simp
theorem rowOf_length (ps:List (Tr × Value)):(rowOf ps).length=ps.length * 10:=by
 unfold rowOf
 induction ps with
 | nil=>rfl
 | cons x ps ih=>rw [List.flatMap_cons,List.length_append,ih];simp [Tr.cells];omega
theorem rowOf_get:∀ (ps:List (Tr × Value)) (i:Nat) (t:Tr) (s:Value),ps[i]? = some (t,s)→∀ j,j < 10→(rowOf ps)[i * 10+j]? = (t.cells s)[j]?
 | [],i,t,s,h,_,_=>by simp at h
 | x :: ps,0,t,s,h,j,hj=>by
   simp only [List.getElem?_cons_zero,Option.some.injEq] at h
   subst h
   unfold rowOf
   rw [List.flatMap_cons,Nat.zero_mul,Nat.zero_add,List.getElem?_append_left (by simp [Tr.cells];omega)]
   simp
 | x :: ps,i+1,t,s,h,j,hj=>by
   have ih:=rowOf_get ps i t s (by simpa using h) j hj
   unfold rowOf at ih ⊢
   rw [List.flatMap_cons,List.getElem?_append_right (by simp [Tr.cells];omega)]
   rw [← ih]
   congr 1
   simp [Tr.cells];omega
theorem trees_of_row {w:World} {base:Nat} {B B':Nat→Prop} {v:Value} {n:Nat} {ps:List (Tr × Value)} (h:w.ownsRow base 29 10 v n (rowOf ps)) (hn:ps.length * 96 ≤ 140737488351232)
   (hs:∀ (i:Nat) (t:Tr) (s:Value),ps[i]? = some (t,s)→TreesAt w B s t.subs) (hB:∀ b,B b→B' b) (hg:∀ g,v.ownBlock=some g→B' g):TreesAt w B' v (ps.map (·.1)):=by
 have hlen:ps.length=n:=by have:=h.1;rw [rowOf_length] at this;omega
 have hcells:=fun g hv=>World.ownsRow.cells h (g:=g) hv
 rcases h.2 with ⟨rfl,hn0⟩ | ⟨g,cap,cur,rfl,hbg,hheap,-⟩
 · have:ps=[]:=List.length_eq_zero_iff.1 (by omega)
   subst this
   exact TreesAt.nil
 · have hc:=hcells g rfl
   have key:∀ (i:Nat) (t:Tr) (s:Value),ps[i]? = some (t,s)→TenAt w g (0+i * 10) t s:=by
     intro i t s hi
     have get:∀ j u,j < 10→(t.cells s)[j]? = some u→w.cell? ⟨g,0+i * 10+j,none⟩=some u:=by
       intro j u hj hu
       have:=hc (i * 10+j) u (by rw [rowOf_get ps i t s hi j hj];exact hu)
       have ea:(⟨g,0,none⟩:Addr).add (i * 10+j)=⟨g,0+i * 10+j,none⟩:=by unfold Addr.add;split <;> simp_all <;> omega
       rw [ea] at this;exact this
     exact ⟨get 0 _ (by omega) rfl,get 1 _ (by omega) rfl,get 2 _ (by omega) rfl,get 3 _ (by omega) rfl,get 4 _ (by omega) rfl,get 5 _ (by omega) rfl,get 6 _ (by omega) rfl,get 7 _ (by omega) rfl,get 8 _ (by omega) rfl,get 9 _ (by omega) rfl⟩
   have hl2:n=(ps.map (·.1)).length:=by rw [List.length_map];omega
   rw [hl2]
   have split:∀ (i:Nat) (t:Tr),(ps.map (·.1))[i]? = some t→∃ s,ps[i]? = some (t,s):=by
     intro i t hi
     rw [List.getElem?_map] at hi
     cases hx:ps[i]? with
     | none=>rw [hx] at hi;cases hi
     | some x=>rw [hx] at hi;cases x with | mk a b=>simp only [Option.map_some,Option.some.injEq] at hi;subst hi;exact ⟨b,rfl⟩
   refine .mk (some ⟨g,0,none⟩) cap (ps.map (·.1)) (fun i=>((ps[i]?).map (·.2)).getD undef) (by rw [List.length_map];exact hn) (fun i t hi=>?_) (fun i t hi=>?_)
   · obtain ⟨s,hs'⟩:=split i t hi
     exact ⟨g,0,rfl,hg g rfl,by simp only [hs',Option.map_some,Option.getD_some];exact key i t s hs'⟩
   · obtain ⟨s,hs'⟩:=split i t hi
     simp only [hs',Option.map_some,Option.getD_some]
     exact (hs i t s hs').mono fun b _ hb=>hB b hb
end Go.Proofs.YtoepdfpnkmccoaaDoor
namespace Go.Proofs.YtoepdfpnkmccoaaDoor
open Go.RowKit
theorem append_block {P:Program} {w w':World} (base:Nat) (t ty e:TypeId) (i:TypeInfo) (z:Value) (size bytes:Nat) (ht:P.underlying t=some (.slice e)) (hi:P.info? e=some i) (hz:i.zero=some z)
   (hsize:i.size=size) (hby:i.bytes=bytes) (v v':Value) (n:Nat) (xs:List Value) (hown:w.ownsRow base e size v n xs)
   (a:Addr) (m c:Nat) (news:List Value) (hl:news.length=m * size) (hnews:∀ j u,news[j]? = some u→w.cell? (a.add j)=some u) (h1:∀ u ∈ news,u.oneCell'=true) (hm:0 < m)
   (h63:n+m ≤ maxLen) (hbytes:(n+m) * bytes ≤ 140737488355328) (hr:(Builtin.append_ #[t,t] ty #[v,.slice (some a) m c]).run P w=.ok v' w') :
   v'.ownBlock=v.ownBlock ∨ v'.ownBlock=some w.heap.size:=by
 subst hsize hby
 unfold maxLen at h63
 have hxl:=hown.1
 have hcells:=fun g hg=>World.ownsRow.cells hown (g:=g) hg
 rcases hown.2 with ⟨rfl,rfl⟩ | ⟨g,cap,cur,rfl,-,hg,hnc,hcm,hcs,-⟩
 · rw [run_append_nil (P:=P) w t ty e i z ht hi hz a m c news hl hnews hm (by omega) (by rw [Nat.zero_add] at hbytes;omega)] at hr
   injection hr with h2 h3
   right;rw [← h2];rfl
 · by_cases hroom:n+m ≤ cap
   · rw [run_append_room (P:=P) w t ty e i ht hi g n cap cur hg a m c news hl hnews h1 hroom (by rw [hl,hcs,← Nat.add_mul];exact Nat.mul_le_mul_right _ hroom)] at hr
     injection hr with h2 h3
     left;rw [← h2];rfl
   · rw [run_append_grow (P:=P) w t ty e i z ht hi hz ⟨g,0,none⟩ n cap xs hxl (hcells g rfl) a m c news hl hnews (by omega) (by omega) (growslice_fits (by omega) hbytes)] at hr
     injection hr with h2 h3
     right;rw [← h2];rfl
theorem wpList_append_fresh {P:Program} (w:World) {ops:Array Oper} {rest:List Oper} {o:Oper} {a:Act} {Q:Exit→Act→World→Prop} (hgd:o.guard=none) (s x:Operand) (t:TypeId)
   (ho:o.op=.call { callee:=.builtin .append,args:=#[s,x],argTypes:=#[t,t] })
   (base:Nat) (e:TypeId) (i:TypeInfo) (z:Value) (size bytes:Nat) (ht:P.underlying t=some (.slice e)) (hi:P.info? e=some i) (hz:i.zero=some z)
   (hsize:i.size=size) (hby:i.bytes=bytes) (hzs:z.cells.size=size) (hsz:0 < size)
   (v:Value) (n:Nat) (xs:List Value) (hs:a.eval s=v) (hown:w.ownsRow base e size v n xs)
   (ad:Addr) (m c:Nat) (news:List Value) (hx:a.eval x=.slice (some ad) m c) (hl:news.length=m * size) (hnews:∀ j u,news[j]? = some u→w.cell? (ad.add j)=some u) (h1:∀ u ∈ news,u.oneCell'=true) (hm:0 < m)
   (h63:n+m ≤ maxLen) (hbytes:(n+m) * bytes ≤ 140737488355328) (hbase:base ≤ w.heap.size)
   (h:∀ v' w',w'.ownsRow base e size v' (n+m) (xs ++ news)→w.grownBy w' v.ownBlock→(v'.ownBlock=v.ownBlock ∨ v'.ownBlock=some w.heap.size)→wpList P ops Q rest (a.put o.dst v') w'):wpList P ops Q (o :: rest) a w:=by
 refine wpList_plain hgd fun K hK=>?_
 obtain ⟨v',w',hr,h2,h3,-⟩:=run_append_own (P:=P) w base t o.type e i z size bytes ht hi hz hsize hby hzs hsz v n xs hown ad m c news hl hnews h1 h63 hbytes hbase
 have h4:=append_block base t o.type e i z size bytes ht hi hz hsize hby v v' n xs hown ad m c news hl hnews h1 hm h63 hbytes hr
 unfold Oper.wp execOp
 simp only [ho,resolve,invoke,builtin,Sem.run_bind,Sem.run_pure,Result.andThen_ok,List.map_toArray,List.map_cons,List.map_nil,hs,hx,hr]
 exact hK _ _ (h v' w' h2 h3 h4)
end Go.Proofs.YtoepdfpnkmccoaaDoor
namespace Go.Proofs.YtoepdfpnkmccoaaDoor
open Go.RowKit
theorem Tryd.infoNode:(Tryd.prog.info? 29).map (fun i=>(i.zero,i.size,i.bytes))=some (some (.agg #[.int .i64 0,.int .u64 0,.int .u64 0,.int .u64 0,.int .u64 0,.slice none 0 0,.int .i64 0,.int .i64 0,.int .i64 0,.bool false]),10,96):=by kernel_rfl
theorem nodeC_one (x:Tr) (p:Option Addr) (l c:Nat):∀ u ∈ (x.cells (.slice p l c)).toList,u.oneCell'=true:=by simp [Tr.cells,Value.oneCell']
theorem wpList_node1 {ops:Array Oper} {rest:List Oper} {o:Oper} {a:Act} {w:World} {Q:Exit→Act→World→Prop} (hgd:o.guard=none) (x:Operand) (t:Tr) (p:Option Addr) (len cap:Nat) (ho:o.op=.buildSlice 27 1 #[(0,x)]) (hx:a.eval x=.agg (t.cells (.slice p len cap)))
   (h:wpList Tryd.prog ops Q rest (a.put o.dst (.slice (some ⟨w.heap.size,0,none⟩) 1 1)) (w.alloc (.cells (t.cells (.slice p len cap)) 29))):wpList Tryd.prog ops Q (o :: rest) a w:=by
 refine wpList_plain hgd fun K hK=>?_
 obtain ⟨ie,hi,hz0,hz1,-⟩:=info_parts Tryd.infoNode
 refine wp_buildSlice 27 29 1 _ ho _ ie _ Tryd.underlying27 hi hz0 (by rw [hz1];decide) (by rw [hz1];decide) ?_ (hK _ _ h)
 rw [hz1]
 simp only [List.map_toArray,List.map_cons,List.map_nil,hx]
 kernel_rfl
theorem subs_step {w3 w4:World} {base:Nat} {v v':Value} {s:Value} {ts:List Tr} (h:TreesAt w3 (fun b=>base ≤ b∧v.ownBlock ≠ some b) s ts) (hg:w3.grownBy w4 v.ownBlock) (hw:v'.ownBlock=v.ownBlock ∨ v'.ownBlock=some w3.heap.size) :
   TreesAt w4 (fun b=>base ≤ b∧v'.ownBlock ≠ some b) s ts:=by
 have h1:TreesAt w3 (fun b=>(base ≤ b∧v.ownBlock ≠ some b)∧v'.ownBlock ≠ some b) s ts:=h.mono fun b hb hB=>⟨hB,by
   rcases hw with e | e
   · rw [e];exact hB.2
   · rw [e];intro h;have:=Option.some.inj h;omega⟩
 exact (h1.keep (w':=w4) fun b hb hB=>hg.block b hb (fun e=>hB.1.2 e.symm)).mono fun b _ hB=>⟨hB.1.1,hB.2⟩
theorem set5 {w:World} {b:Nat} {x0 x1 x2 x3 x4 x5 x6 x7 x8 x9 y:Value} {t:TypeId} (h:w.heap[b]? = some (.cells #[x0,x1,x2,x3,x4,x5,x6,x7,x8,x9] t)):(w.setCell ⟨b,5,none⟩ y).heap[b]? = some (.cells #[x0,x1,x2,x3,x4,y,x6,x7,x8,x9] t):=by
 simp [World.setCell,Array.getElem?_modify,h]
theorem at5 {w:World} {b:Nat} {x0 x1 x2 x3 x4 x5 x6 x7 x8 x9:Value} {t:TypeId} (h:w.heap[b]? = some (.cells #[x0,x1,x2,x3,x4,x5,x6,x7,x8,x9] t)):w.cell? ⟨b,5,none⟩=some x5∧w.frozen? ⟨b,5,none⟩=false:=by
 simp [World.cell?,World.frozen?,h]
end Go.Proofs.YtoepdfpnkmccoaaDoor
namespace Go.Proofs.YtoepdfpnkmccoaaDoor
open Go.RowKit
theorem Owned.slice {w:World} {s:Value} {ts:List Tr} {F:List Nat} (h:Owned w s ts F):∃ p cap,s=.slice p ts.length cap∧ts.length * 96 ≤ 140737488351232:=h.trees.slice
def pick {α:Type} (f:Nat→α) (m:Nat) (x:α) (i:Nat):α:=if i=m then x else f i
theorem pick_eq {α:Type} (f:Nat→α) (m:Nat) (x:α):pick f m x m=x:=if_pos rfl
theorem pick_ne {α:Type} (f:Nat→α) (m:Nat) (x:α) {i:Nat} (h:i ≠ m):pick f m x i=f i:=if_neg h
end Go.Proofs.YtoepdfpnkmccoaaDoor
namespace Go.Proofs.YtoepdfpnkmccoaaDoor
open Go.RowKit
theorem part0 (a b c d:Value) (w:World):(Go.part 24 #[a,b,c,d] 0).run Tryd.prog w=.ok a w:=by kernel_rfl
theorem part1 (a b c d:Value) (w:World):(Go.part 24 #[a,b,c,d] 1).run Tryd.prog w=.ok b w:=by kernel_rfl
theorem part2 (a b c d:Value) (w:World):(Go.part 24 #[a,b,c,d] 2).run Tryd.prog w=.ok c w:=by kernel_rfl
theorem part3 (a b c d:Value) (w:World):(Go.part 24 #[a,b,c,d] 3).run Tryd.prog w=.ok d w:=by kernel_rfl
theorem eqi (a b:Int) (w:World):(Op.equalIn 9999 24 (.int .u64 a) (.int .u64 b)).run Tryd.prog w=.ok (a == b) w:=run_equalIn_int w 9998 24 .u64 .u64 a b Tryd.underlying24
theorem eq4 (a b c d a' b' c' d':Int) (w:World):(Op.equalIn 10000 26 (.agg #[.int .u64 a,.int .u64 b,.int .u64 c,.int .u64 d]) (.agg #[.int .u64 a',.int .u64 b',.int .u64 c',.int .u64 d'])).run Tryd.prog w=.ok (a == a' && (b == b' && (c == c' && d == d'))) w:=by
 have h0:=run_underlying (P:=Tryd.prog) (w:=w) Tryd.underlying26
 unfold Op.equalIn
 simp only [Sem.run_bind,h0,Result.andThen_ok]
 simp
 rw [show List.range' 0 4=[0,1,2,3] from rfl]
 simp only [List.forIn_cons,List.forIn_nil,Sem.run_bind,part0,eqi,Result.andThen_ok]
 by_cases h1:a=a'
 · by_cases h2:b=b'
   · by_cases h3:c=c'
     · by_cases h4:d=d' <;> simp [h1,h2,h3,h4,part1,part2,part3,eqi]
     · simp [h1,h2,h3,part1,part2,eqi]
   · simp [h1,h2,part1,eqi]
 · simp [h1]
end Go.Proofs.YtoepdfpnkmccoaaDoor
namespace Go.Proofs.YtoepdfpnkmccoaaDoor
open Go.RowKit
namespace Ri
def up {T:Type} (f:Nat→T) (i:Nat) (x:T):Nat→T:=fun j=>if j=i then x else f j
theorem up_same {T:Type} (f:Nat→T) (i:Nat) (x:T):up f i x i=x:=by simp [up]
theorem up_other {T:Type} (f:Nat→T) (i:Nat) (x:T) (j:Nat) (h:j ≠ i):up f i x j=f j:=by simp [up,h]
def backward (ops:Array Oper):Bool:=(List.range ops.size).all fun i=>((ops[i]?).map fun o=>o.after.all fun e=>!Region.binds .any e || decide (e.on < i)).getD true
variable {P:Program} {ops:Array Oper} {Q:Exit→Act→World→Prop}
theorem all_listed (hb:backward ops=true) {listed:Array Bool} (hr:Region.ready .any ops listed=[]) (hs:listed.size=ops.size):∀ i,i < ops.size→listed.getD i false=true:=by
 intro i
 induction i using Nat.strongRecOn with
 | _ i ih =>
   intro hi
   cases hl:listed.getD i false with
   | true=>rfl
   | false =>
     exfalso
     have hmem:i ∈ Region.ready .any ops listed:=by
       unfold Region.ready
       refine List.mem_filter.2 ⟨List.mem_range.2 hi, ?_⟩
       have h1:listed.getD i true=false:=by
         have:i < listed.size:=by omega
         simp only [Array.getD,this,dif_pos] at hl ⊢
         exact hl
       have ho:ops[i]? = some ops[i]:=Array.getElem?_eq_getElem hi
       rw [h1,ho]
       simp only [Bool.not_false,Bool.true_and,Option.map_some,Option.getD_some]
       rw [Array.all_eq_true_iff_forall_mem]
       intro e he
       cases hbi:Region.binds .any e with
       | false=>rfl
       | true =>
         have hlt:e.on < i:=by
           have h2:=List.all_eq_true.1 hb i (List.mem_range.2 hi)
           rw [ho] at h2
           simp only [Option.map_some,Option.getD_some] at h2
           have h3:=(Array.all_eq_true_iff_forall_mem.1 h2) e he
           rw [hbi] at h3
           simpa using h3
         simp [ih e.on hlt (by omega)]
     rw [hr] at hmem
     cases hmem
theorem wpAny_inv (hb:backward ops=true) (I:(Nat→Bool)→(Nat→Value)→World→Prop) (A:(Nat→Bool)→(Nat→Value)→Act)
   (step:∀ i,i < ops.size→∀ L v w,I L v w→L i=false→(∀ o,ops[i]? = some o→∀ e ∈ o.after,Region.binds .any e=true→L e.on=true) →
     wpOp P ops Q i (fun a' w'=>∃ u,a'=A (up L i true) (up v i u)∧I (up L i true) (up v i u) w') (A L v) w)
   (fin:∀ L v w,(∀ i,i < ops.size→L i=true)→I L v w→Q .normal (A L v) w) :
   ∀ (fuel:Nat) (U:List Nat) (listed:Array Bool) (v:Nat→Value) (w:World),listed.size=ops.size→U.length ≤ fuel→(∀ i,i < ops.size→listed.getD i false=false→i ∈ U) →
     I (fun i=>listed.getD i false) v w→wpAny P .any ops Q fuel listed (A (fun i=>listed.getD i false) v) w:=by
 intro fuel
 induction fuel with
 | zero =>
   intro U listed v w hs hU hin hI
   have hnil:U=[]:=List.eq_nil_of_length_eq_zero (by omega)
   subst hnil
   have hall:∀ i,i < ops.size→listed.getD i false=true:=fun i hi=>by
     cases h:listed.getD i false with
     | true=>rfl
     | false=>exact absurd (hin i hi h) (by simp)
   refine ⟨?_,fin _ v w hall hI⟩
   unfold Region.ready
   rw [List.filter_eq_nil_iff]
   intro i hi
   have hi':=List.mem_range.1 hi
   have h1:listed.getD i true=true:=by
     have h0:=hall i hi'
     have:i < listed.size:=by omega
     simp only [Array.getD,this,dif_pos] at h0 ⊢
     exact h0
   simp [h1]
 | succ fuel ih =>
   intro U listed v w hs hU hin hI
   refine ⟨fun hr=>fin _ v w (all_listed hb hr hs) hI,fun i hi=>?_⟩
   unfold Region.ready at hi
   obtain ⟨hir,hcond⟩:=List.mem_filter.1 hi
   have hin':=List.mem_range.1 hir
   have ho:ops[i]? = some ops[i]:=Array.getElem?_eq_getElem hin'
   rw [ho] at hcond
   simp only [Bool.and_eq_true,Option.map_some,Option.getD_some] at hcond
   obtain ⟨hl,hafter⟩:=hcond
   have hlf:listed.getD i false=false:=by
     have:i < listed.size:=by omega
     simp only [Array.getD,this,dif_pos] at hl ⊢
     simpa using hl
   have hst:=step i hin' (fun j=>listed.getD j false) v w hI hlf (fun o hoo e he hbi=>by
     rw [ho] at hoo;cases hoo
     have h3:=(Array.all_eq_true_iff_forall_mem.1 hafter) e he
     rw [hbi] at h3
     simpa using h3)
   refine wpOp_mono (fun a' w' h=>?_) hst
   obtain ⟨u,rfl,hI'⟩:=h
   have hup:(fun j=>(listed.setIfInBounds i true).getD j false)=up (fun j=>listed.getD j false) i true:=by
     funext j
     unfold up
     by_cases e:j=i
     · subst e
       have:j < (listed.setIfInBounds j true).size:=by simp;omega
       simp [Array.getD];omega
     · rw [if_neg e]
       simp only [Array.getD,Array.size_setIfInBounds]
       split
       · rename_i h;exact Array.getElem_setIfInBounds_ne h (Ne.symm e)
       · rfl
   have hmemU:i ∈ U:=hin i hin' hlf
   have:=ih (U.erase i) (listed.setIfInBounds i true) (up v i u) w' (by simpa using hs) (by rw [List.length_erase_of_mem hmemU];have:=List.length_pos_of_mem hmemU;omega)
     (fun j hj hjl=>by
       have hj2:(up (fun j=>listed.getD j false) i true) j=false:=by rw [← hup];exact hjl
       by_cases e:j=i
       · subst e;rw [up_same] at hj2;cases hj2
       · rw [up_other _ _ _ _ e] at hj2
         exact (List.mem_erase_of_ne e).2 (hin j hj hj2))
     (by rw [hup];exact hI')
   rw [hup] at this
   exact this
theorem wp_region_inv {id:Nat} {a:Act} {w:World} (hm:P.follows .mixedOrders=true) (hb:backward ops=true) (I:(Nat→Bool)→(Nat→Value)→World→Prop) (A:(Nat→Bool)→(Nat→Value)→Act)
   (ha:a=A (fun _=>false) (fun _=>undef)) (hi:I (fun _=>false) (fun _=>undef) w.drew)
   (step:∀ i,i < ops.size→∀ L v w,I L v w→L i=false→(∀ o,ops[i]? = some o→∀ e ∈ o.after,Region.binds .any e=true→L e.on=true) →
     wpOp P ops Q i (fun a' w'=>∃ u,a'=A (up L i true) (up v i u)∧I (up L i true) (up v i u) w') (A L v) w)
   (fin:∀ L v w,(∀ i,i < ops.size→L i=true)→I L v w→Q .normal (A L v) w) :
   (Code.region id ops true).wp P Q a w:=by
 refine wp_region_any hm ?_
 have hz:(fun i=>(Array.replicate ops.size false).getD i false)=fun _=>false:=by
   funext i;simp only [Array.getD,Array.size_replicate];split <;> simp
 have:=wpAny_inv (P:=P) hb I A step fin ops.size (List.range ops.size) (Array.replicate ops.size false) (fun _=>undef) w.drew (by simp) (by simp) (fun i hi _=>List.mem_range.2 hi) (by rw [hz];exact hi)
 rw [hz,← ha] at this
 exact this
def frame (ops:Array Oper) (a:Act) (L:Nat→Bool) (v:Nat→Value):Act :=
 { a with tmps:=ops.toList.zipIdx.foldl (fun t p=>match p.1.dst with | some d=>if L p.2 then t.setIfInBounds d (v p.2) else t | none=>t) a.tmps }
def apart (ops:Array Oper):Bool:=(ops.toList.filterMap (·.dst)).eraseDups.length == (ops.toList.filterMap (·.dst)).length && ops.toList.zipIdx.all fun p=>ops.toList.zipIdx.all fun q=>p.2 == q.2 || p.1.dst == none || p.1.dst != q.1.dst
theorem fold_size (L:Nat→Bool) (v:Nat→Value):∀ (l:List (Oper × Nat)) (t:Array Value),
   (l.foldl (fun t p=>match p.1.dst with | some d=>if L p.2 then t.setIfInBounds d (v p.2) else t | none=>t) t).size=t.size:=by
 intro l
 induction l with
 | nil=>intro t;rfl
 | cons p l ih =>
   intro t
   rw [List.foldl_cons,ih]
   split
   · split <;> simp
   · rfl
theorem fold_other (L:Nat→Bool) (v:Nat→Value) (s:Nat):∀ (l:List (Oper × Nat)) (t:Array Value),(∀ p ∈ l,p.1.dst ≠ some s) →
   (l.foldl (fun t p=>match p.1.dst with | some d=>if L p.2 then t.setIfInBounds d (v p.2) else t | none=>t) t)[s]? = t[s]?:=by
 intro l
 induction l with
 | nil=>intro t _;rfl
 | cons p l ih =>
   intro t h
   rw [List.foldl_cons,ih _ (fun q hq=>h q (List.mem_cons_of_mem _ hq))]
   have hp:=h p (List.mem_cons_self ..)
   split
   · rename_i d hd
     split
     · rw [Array.getElem?_setIfInBounds_ne];intro e;subst e;exact hp hd
     · rfl
   · rfl
theorem fold_own (L:Nat→Bool) (v:Nat→Value) (s:Nat) (i:Nat):∀ (l:List (Oper × Nat)) (t:Array Value),s < t.size→(∃ p ∈ l,p.1.dst=some s∧p.2=i)→(∀ p ∈ l,p.1.dst=some s→p.2=i) →
   (l.foldl (fun t p=>match p.1.dst with | some d=>if L p.2 then t.setIfInBounds d (v p.2) else t | none=>t) t)[s]? = if L i then some (v i) else t[s]?:=by
 intro l
 induction l with
 | nil=>rintro t _ ⟨p,hp,_⟩ _;cases hp
 | cons p l ih =>
   intro t hs hex hun
   rw [List.foldl_cons]
   by_cases hp:p.1.dst=some s
   · have hi:=hun p (List.mem_cons_self ..) hp
     rw [hp,hi]
     simp only []
     by_cases hl:∃ q ∈ l,q.1.dst=some s∧q.2=i
     · rw [ih _ (by split <;> simpa using hs) hl (fun q hq=>hun q (List.mem_cons_of_mem _ hq))]
       cases L i <;> simp
     · rw [fold_other L v s l _ (fun q hq e=>hl ⟨q,hq,e,hun q (List.mem_cons_of_mem _ hq) e⟩)]
       cases L i <;> simp [hs]
   · obtain ⟨q,hq,hqd,hqi⟩:=hex
     rcases List.mem_cons.1 hq with rfl | hq
     · exact absurd hqd hp
     · have hne:∀ d,p.1.dst=some d→d ≠ s:=fun d hd e=>hp (by rw [hd,e])
       rw [ih _ (by split <;> (try split) <;> simpa using hs) ⟨q,hq,hqd,hqi⟩ (fun q hq=>hun q (List.mem_cons_of_mem _ hq))]
       congr 1
       split
       · rename_i d hd
         split
         · rw [Array.getElem?_setIfInBounds_ne (hne d hd)]
         · rfl
       · rfl
theorem mem_zip {ops:Array Oper} {p:Oper × Nat} (h:p ∈ ops.toList.zipIdx):ops[p.2]? = some p.1:=by
 obtain ⟨_,_,h3⟩:=List.mem_zipIdx (x:=p.1) (i:=p.2) (k:=0) h
 rw [Array.getElem?_eq_some_iff]
 exact ⟨by rename_i h2;simpa using h2,by rw [h3];simp⟩
theorem zip_mem {ops:Array Oper} {i:Nat} {o:Oper} (h:ops[i]? = some o):(o,i) ∈ ops.toList.zipIdx:=by
 rw [List.mem_zipIdx_iff_getElem?]
 simpa using h
theorem apart_un (hap:apart ops=true) {i j:Nat} {o o':Oper} {d:Nat} (hi:ops[i]? = some o) (hj:ops[j]? = some o') (h1:o.dst=some d) (h2:o'.dst=some d):i=j:=by
 unfold apart at hap
 rw [Bool.and_eq_true] at hap
 have h3:=List.all_eq_true.1 (List.all_eq_true.1 hap.2 _ (zip_mem hi)) _ (zip_mem hj)
 simpa [h1,h2] using h3
theorem frame_size (a:Act) (L:Nat→Bool) (v:Nat→Value):(frame ops a L v).tmps.size=a.tmps.size:=fold_size L v _ _
theorem frame_own (hap:apart ops=true) (a:Act) (L:Nat→Bool) (v:Nat→Value) {i d:Nat} {o:Oper} (ho:ops[i]? = some o) (hd:o.dst=some d) (hs:d < a.tmps.size) :
   (frame ops a L v).tmps[d]? = if L i then some (v i) else a.tmps[d]? :=
 fold_own L v d i _ _ hs ⟨_,zip_mem ho,hd,rfl⟩ (fun _ hp e=>(apart_un hap ho (mem_zip hp) hd e).symm)
theorem frame_other (a:Act) (L:Nat→Bool) (v:Nat→Value) {d:Nat} (h:∀ (i:Nat) (o:Oper),ops[i]? = some o→o.dst ≠ some d):(frame ops a L v).tmps[d]? = a.tmps[d]? :=
 fold_other L v d _ _ (fun p hp=>h p.2 p.1 (mem_zip hp))
theorem frame_put (hap:apart ops=true) (a:Act) (L:Nat→Bool) (v:Nat→Value) {i:Nat} {o:Oper} (ho:ops[i]? = some o) (u:Value) :
   (frame ops a L v).put o.dst u=frame ops a (up L i true) (up v i u):=by
 have key:∀ s:Nat,((frame ops a L v).put o.dst u).tmps[s]? = (frame ops a (up L i true) (up v i u)).tmps[s]?:=by
   intro s
   by_cases hs:s < a.tmps.size
   · by_cases hex:∃ (j:Nat) (o':Oper),ops[j]? = some o'∧o'.dst=some s
     · obtain ⟨j,o',hj,hd⟩:=hex
       rw [frame_own hap a _ _ hj hd hs]
       by_cases e:j=i
       · subst e
         rw [ho] at hj;cases hj
         rw [hd,up_same,up_same]
         simp only [Act.put,if_true]
         rw [Array.getElem?_setIfInBounds_self,if_pos (by rw [frame_size];exact hs)]
       · rw [up_other _ _ _ _ e,up_other _ _ _ _ e,← frame_own hap a L v hj hd hs]
         cases hod:o.dst with
         | none=>rfl
         | some d =>
           simp only [Act.put]
           rw [Array.getElem?_setIfInBounds_ne]
           intro e';subst e';exact e (apart_un hap hj ho hd hod)
     · have hno:∀ (j:Nat) (o':Oper),ops[j]? = some o'→o'.dst ≠ some s:=fun j o' h1 h2=>hex ⟨j,o',h1,h2⟩
       rw [frame_other a _ _ hno,← frame_other a L v hno]
       cases hod:o.dst with
       | none=>rfl
       | some d =>
         simp only [Act.put]
         rw [Array.getElem?_setIfInBounds_ne]
         intro e';subst e';exact hno i o ho hod
   · have h1:(frame ops a (up L i true) (up v i u)).tmps[s]? = none:=Array.getElem?_eq_none (by rw [frame_size];omega)
     have h2:((frame ops a L v).put o.dst u).tmps[s]? = none:=by
       refine Array.getElem?_eq_none ?_
       cases o.dst <;> simp [Act.put,frame_size] <;> omega
     rw [h1,h2]
 have ht:((frame ops a L v).put o.dst u).tmps=(frame ops a (up L i true) (up v i u)).tmps:=Array.ext_getElem? key
 have hd:((frame ops a L v).put o.dst u).defers=(frame ops a (up L i true) (up v i u)).defers:=by cases o.dst <;> rfl
 generalize (frame ops a L v).put o.dst u=x at *
 generalize frame ops a (up L i true) (up v i u)=y at *
 cases x;cases y;simp_all
theorem fold_none (v:Nat→Value):∀ (l:List (Oper × Nat)) (t:Array Value),
   l.foldl (fun t p=>match p.1.dst with | some d=>if (fun _:Nat=>false) p.2 then t.setIfInBounds d (v p.2) else t | none=>t) t=t:=by
 intro l
 induction l with
 | nil=>intro t;rfl
 | cons p l ih=>intro t;rw [List.foldl_cons];cases p.1.dst <;> exact ih t
theorem wp_region_frame {id:Nat} {a:Act} {w:World} (hm:P.follows .mixedOrders=true) (hb:backward ops=true) (hap:apart ops=true) (hsz0:(ops.toList.all fun o=>o.dst.all fun d=>decide (d < a.tmps.size))=true)
   (I:(Nat→Bool)→(Nat→Value)→World→Prop)
   (hi:I (fun _=>false) (fun _=>undef) w.drew)
   (step:∀ i,i < ops.size→∀ L v w (a':Act),I L v w→L i=false→(∀ o,ops[i]? = some o→∀ e ∈ o.after,Region.binds .any e=true→L e.on=true) →
     (∀ j d:Nat,(ops[j]?).bind (·.dst)=some d→L j=true→a'.tmps.getD d undef=v j)→(∀ d,ops.toList.all (fun o=>o.dst != some d)=true→a'.tmps.getD d undef=a.tmps.getD d undef) →
     wpOp P ops Q i (fun b w'=>∃ (o:Oper) (u:Value),ops[i]? = some o∧b=a'.put o.dst u∧I (up L i true) (up v i u) w') a' w)
   (fin:∀ v w,I (fun i=>decide (i < ops.size)) v w→Q .normal (frame ops a (fun _=>true) v) w) :
   (Code.region id ops true).wp P Q a w:=by
 have hsz:∀ (i:Nat) (o:Oper) (d:Nat),ops[i]? = some o→o.dst=some d→d < a.tmps.size:=fun i o d h1 h2=>by
   have:=List.all_eq_true.1 hsz0 o (Array.mem_toList_iff.2 (Array.mem_of_getElem? h1))
   rw [h2] at this
   simpa using this
 refine wp_region_inv hm hb (fun L v w=>I L v w∧∀ i,ops.size ≤ i→L i=false) (frame ops a) ?_ ⟨hi,fun _ _=>rfl⟩ ?_ ?_
 · have:=fold_none (fun _=>undef) ops.toList.zipIdx a.tmps
   unfold frame;rw [show (List.foldl _ a.tmps _)=a.tmps from this]
 · intro i hin L v w ⟨hI,hL⟩ hLi hd
   refine wpOp_mono ?_ (step i hin L v w (frame ops a L v) hI hLi hd ?_ ?_)
   · rintro b w' ⟨o,u,ho,rfl,hI'⟩
     exact ⟨u,frame_put hap a L v ho u,hI',fun j hj=>by rw [up_other _ _ _ _ (by omega)];exact hL j hj⟩
   · intro j d hjd hlj
     obtain ⟨o,ho,hod⟩:=Option.bind_eq_some_iff.1 hjd
     have hs:=hsz j o d ho hod
     have:=frame_own hap a L v ho hod hs
     rw [hlj,if_pos rfl] at this
     rw [Array.getD_eq_getD_getElem?,this];rfl
   · intro d hall
     have hno:∀ (j:Nat) (o:Oper),ops[j]? = some o→o.dst ≠ some d:=fun j o ho=>by
       have:=List.all_eq_true.1 hall o (Array.mem_toList_iff.2 (Array.mem_of_getElem? ho))
       simpa using this
     rw [Array.getD_eq_getD_getElem?,Array.getD_eq_getD_getElem?,frame_other a L v hno]
 · intro L v w hall ⟨hI,hL⟩
   have e:L=fun i=>decide (i < ops.size):=by
     funext i
     by_cases h:i < ops.size
     · rw [hall i h];simp [h]
     · rw [hL i (by omega)];simp [h]
   have e2:frame ops a L v=frame ops a (fun _=>true) v:=by
     have:∀ s:Nat,(frame ops a L v).tmps[s]? = (frame ops a (fun _=>true) v).tmps[s]?:=by
       intro s
       by_cases hex:∃ (j:Nat) (o':Oper),ops[j]? = some o'∧o'.dst=some s
       · obtain ⟨j,o',hj,hd⟩:=hex
         have hs:=hsz j o' s hj hd
         rw [frame_own hap a _ _ hj hd hs,frame_own hap a _ _ hj hd hs,hall j (Array.getElem?_eq_some_iff.1 hj).1]
       · have hno:∀ (j:Nat) (o':Oper),ops[j]? = some o'→o'.dst ≠ some s:=fun j o' h1 h2=>hex ⟨j,o',h1,h2⟩
         rw [frame_other a _ _ hno,frame_other a _ _ hno]
     have ht:=Array.ext_getElem? this
     have hd:(frame ops a L v).defers=(frame ops a (fun _=>true) v).defers:=rfl
     generalize frame ops a L v=x at *
     generalize frame ops a (fun _=>true) v=y at *
     cases x;cases y;simp_all
   rw [e2]
   exact fin v w (e ▸ hI)
theorem step_plain {i:Nat} {o:Oper} {K:Act→World→Prop} {a:Act} {w:World} (ho:ops[i]? = some o) (hg:o.guard=none)
   (h:∀ K':Act→World→Prop,(∀ a w,K a w→K' a w)→Oper.wp P o a w K' Q):wpOp P ops Q i K a w :=
 wpOp_step ho fun K' hK=>by rw [if_pos (by simp [Region.wanted,hg])];exact h K' hK
theorem some_of_getD {t:Array Value} {i:Nat} {b:Bool} (h:t.getD i undef=.bool b):t[i]? = some (.bool b):=by
 rw [Array.getD_eq_getD_getElem?] at h
 cases hx:t[i]? with
 | none=>rw [hx] at h;cases h
 | some v=>rw [hx] at h;exact congrArg some h
theorem step_wanted {i j d:Nat} {b:Bool} {o:Oper} {K:Act→World→Prop} {a:Act} {w:World} (ho:ops[i]? = some o) (hg:o.guard=some (j,b)) (hd:(ops[j]?).bind (·.dst)=some d) (hv:a.tmps.getD d undef=.bool b)
   (h:∀ K':Act→World→Prop,(∀ a w,K a w→K' a w)→Oper.wp P o a w K' Q):wpOp P ops Q i K a w :=
 wpOp_step ho fun K' hK=>by
   rw [if_pos (by simp [Region.wanted,hg,yielded,hd,some_of_getD hv])];exact h K' hK
end Ri
end Go.Proofs.YtoepdfpnkmccoaaDoor
namespace Go.Proofs.YtoepdfpnkmccoaaDoor
open Go.RowKit
def SameEnd (t u:Tr) (w:World) (e:Ending) (w':World):Prop:=∃ b:Bool,e=.returned (.bool b)∧(b=true ↔ t=u)∧Below w.heap.size w w'
theorem sameEnd_no {t u:Tr} {w w':World} (h:t ≠ u) (hb:Below w.heap.size w w'):SameEnd t u w (.returned (.bool false)) w':=⟨false,rfl,⟨fun h=>(by cases h),fun e=>absurd e h⟩,hb⟩
theorem sameEnd_yes {t u:Tr} {w w':World} (h:t=u) (hb:Below w.heap.size w w'):SameEnd t u w (.returned (.bool true)) w':=⟨true,rfl,⟨fun _=>h,fun _=>rfl⟩,hb⟩
theorem SameEnd.yes {t u:Tr} {w w':World} {e:Ending} (h:SameEnd t u w e w') (ht:t=u):e=.returned (.bool true)∧Below w.heap.size w w':=by
 obtain ⟨b,rfl,hb,hw⟩:=h;rw [hb.2 ht];exact ⟨rfl,hw⟩
theorem SameEnd.no {t u:Tr} {w w':World} {e:Ending} (h:SameEnd t u w e w') (ht:t ≠ u):e=.returned (.bool false)∧Below w.heap.size w w':=by
 obtain ⟨b,rfl,hb,hw⟩:=h
 cases b with
 | false=>exact ⟨rfl,hw⟩
 | true=>exact absurd (hb.1 rfl) ht
theorem U_ne {a b c d a' b' c' d':BitVec 64} (h:¬ (a=a'∧b=b'∧c=c'∧d=d')):(Oc.U a == Oc.U a' && (Oc.U b == Oc.U b' && (Oc.U c == Oc.U c' && Oc.U d == Oc.U d')))=false:=by
 cases hb:(Oc.U a == Oc.U a' && (Oc.U b == Oc.U b' && (Oc.U c == Oc.U c' && Oc.U d == Oc.U d'))) with
 | false=>rfl
 | true =>
   simp only [Bool.and_eq_true,beq_iff_eq] at hb
   exact absurd ⟨Oc.U_inj hb.1,Oc.U_inj hb.2.1,Oc.U_inj hb.2.2.1,Oc.U_inj hb.2.2.2⟩ h
theorem field5 {w:World} {b:Nat} {x0 x1 x2 x3 x4 x5 x6 x7 x8 x9:Value} {t:TypeId} (h:w.heap[b]? = some (.cells #[x0,x1,x2,x3,x4,x5,x6,x7,x8,x9] t)):w.cell? ⟨b,5,none⟩=some x5:=by
 simp [World.cell?,h]
theorem samenodes_any:∀ t u:Tr,∀ (w:World) (B C:Nat→Prop) (va vb:Value),NodeV w B va t→NodeV w C vb u →
   Calls Tryd.prog 13 #[va,vb] w (SameEnd t u w):=by
 intro t
 induction t using Tr.rec_subs with
 | h t ih =>
   intro u w B C va vb ha hb
   obtain ⟨sa,rfl,hsa⟩:=ha
   obtain ⟨sb,rfl,hsb⟩:=hb
   obtain ⟨p,cap,rfl,hla⟩:=hsa.slice
   obtain ⟨q,cbp,rfl,hlb⟩:=hsb.slice
   have he:=eq4
   cases t with | node k a b c d ts n lo hi br =>
   cases u with | node k' a' b' c' d' us n' lo' hi' br' =>
   simp only [Tr.cells,Tr.kind,Tr.w0,Tr.w1,Tr.w2,Tr.w3,Tr.num,Tr.least,Tr.most,Tr.bare,Tr.subs] at *
   have IH:=Lib.hid ih
   clear ih
   by_cases hx:k=k'
   case neg =>
     have HN:=Lib.hid (show Tr.node k a b c d ts n lo hi br ≠ .node k' a' b' c' d' us n' lo' hi' br' from fun h=>by cases h;exact hx rfl)
     have e1:(k != k')=true:=by simpa using hx
     clear hx
     go_enter Tryd.func13,Tryd.ntmps13
     go_wp2
     go_ret
     exact sameEnd_no HN.out (by go_grown)
   obtain rfl:=hx
   by_cases hx:a=a'∧b=b'∧c=c'∧d=d'
   case neg =>
     have HN:=Lib.hid (show Tr.node k a b c d ts n lo hi br ≠ .node k a' b' c' d' us n' lo' hi' br' from fun h=>by cases h;exact hx ⟨rfl,rfl,rfl,rfl⟩)
     have e2:=U_ne hx
     clear hx
     go_enter Tryd.func13,Tryd.ntmps13
     go_wp2
     go_ret
     exact sameEnd_no HN.out (by go_grown)
   obtain ⟨rfl,rfl,rfl,rfl⟩:=hx
   by_cases hx:n=n'
   case neg =>
     have HN:=Lib.hid (show Tr.node k a b c d ts n lo hi br ≠ .node k a b c d us n' lo' hi' br' from fun h=>by cases h;exact hx rfl)
     have e1:(n != n')=true:=by simpa using hx
     clear hx
     go_enter Tryd.func13,Tryd.ntmps13
     go_wp2
     go_ret
     exact sameEnd_no HN.out (by go_grown)
   obtain rfl:=hx
   by_cases hx:lo=lo'
   case neg =>
     have HN:=Lib.hid (show Tr.node k a b c d ts n lo hi br ≠ .node k a b c d us n lo' hi' br' from fun h=>by cases h;exact hx rfl)
     have e1:(lo != lo')=true:=by simpa using hx
     clear hx
     go_enter Tryd.func13,Tryd.ntmps13
     go_wp2
     go_ret
     exact sameEnd_no HN.out (by go_grown)
   obtain rfl:=hx
   by_cases hx:hi=hi'
   case neg =>
     have HN:=Lib.hid (show Tr.node k a b c d ts n lo hi br ≠ .node k a b c d us n lo hi' br' from fun h=>by cases h;exact hx rfl)
     have e1:(hi != hi')=true:=by simpa using hx
     clear hx
     go_enter Tryd.func13,Tryd.ntmps13
     go_wp2
     go_ret
     exact sameEnd_no HN.out (by go_grown)
   obtain rfl:=hx
   by_cases hx:br=br'
   case neg =>
     have HN:=Lib.hid (show Tr.node k a b c d ts n lo hi br ≠ .node k a b c d us n lo hi br' from fun h=>by cases h;exact hx rfl)
     have hbb:(br=true∧br'=false) ∨ (br=false∧br'=true):=by cases br <;> cases br' <;> simp at hx ⊢
     clear hx
     rcases hbb with ⟨rfl,rfl⟩ | ⟨rfl,rfl⟩
     all_goals
       go_enter Tryd.func13,Tryd.ntmps13
       go_wp2
       go_ret
       exact sameEnd_no HN.out (by go_grown)
   obtain rfl:=hx
   by_cases hx:ts.length=us.length
   case neg =>
     have HN:=Lib.hid (show Tr.node k a b c d ts n lo hi br ≠ .node k a b c d us n lo hi br from fun h=>by cases h;exact hx rfl)
     have e1:((ts.length:Int) != (us.length:Int))=true:=by simp;omega
     have e2:(ts.length != us.length)=true:=by simpa using hx
     have e3:(ts.length == us.length)=false:=by simpa using hx
     clear hx
     go_enter Tryd.func13,Tryd.ntmps13
     go_wp2
     go_ret
     exact sameEnd_no HN.out (by go_grown)
   have hlen:us.length=ts.length:=hx.symm
   clear hx
   have HSA:=Lib.hid hsa;have HSB:=Lib.hid hsb
   clear hsa hsb
   rw [hlen] at HSB hlb ⊢
   go_enter Tryd.func13,Tryd.ntmps13
   go_wp2
   go_loopw [58] (fun iv wr=>∃ m:Nat,iv=.int .i64 m∧m ≤ ts.length∧Hid (∀ j,j < m→ts[j]? = us[j]?)∧Below w.heap.size w wr∧w.heap.size+1 < wr.heap.size ∧
     wr.heap[w.heap.size]? = some (.cells #[.int .i64 k,.int .u64 (Oc.U a),.int .u64 (Oc.U b),.int .u64 (Oc.U c),.int .u64 (Oc.U d),.slice p ts.length cap,.int .i64 n,.int .i64 lo,.int .i64 hi,.bool br] 29)∧wr.heap[w.heap.size+1]? = some (.cells #[.int .i64 k,.int .u64 (Oc.U a),.int .u64 (Oc.U b),.int .u64 (Oc.U c),.int .u64 (Oc.U d),.slice q ts.length cbp,.int .i64 n,.int .i64 lo,.int .i64 hi,.bool br] 29)) (fun iv _=>ts.length - (intOf iv).toNat)
   case atStart=>exact ⟨0,rfl,Nat.zero_le _,Lib.hid (fun j hj=>absurd hj (Nat.not_lt_zero _)),by go_grown,by simp,(two_new _ _ _).1,(two_new _ _ _).2⟩
   case round =>
     obtain ⟨m,rfl,hm,hall,hbel,hsz,z2,z3⟩:=hrel
     have Z2:=Lib.hid z2;have Z3:=Lib.hid z3;have HB:=Lib.hid hbel
     clear z2 z3 hbel
     have wm:IntKind.i64.wrap ((m:Int)+1)=(m:Int)+1:=IntWalk.i64_in _ (by omega)
     by_cases hlt:m < ts.length
     · obtain ⟨x,hx⟩:∃ x,ts[m]? = some x:=⟨_,List.getElem?_eq_getElem hlt⟩
       obtain ⟨y,hy⟩:∃ y,us[m]? = some y:=⟨_,List.getElem?_eq_getElem (by omega)⟩
       obtain ⟨b1,o1,s1,rfl,-,t1,sub1⟩:=HSA.out.get hx
       obtain ⟨b2,o2,s2,rfl,-,t2,sub2⟩:=HSB.out.get hy
       have T1:=Lib.hid t1;have T2:=Lib.hid t2
       have l1:=t1.lt;have l2:=t2.lt
       have HS:=Lib.hid (fun w9 (hb:Below wr.heap.size wr w9)=>IH.out x (List.mem_of_getElem? hx) y w9 B C (.agg #[.int .i64 x.kind,.int .u64 (Oc.U x.w0),.int .u64 (Oc.U x.w1),.int .u64 (Oc.U x.w2),.int .u64 (Oc.U x.w3),s1,.int .i64 x.num,.int .i64 x.least,.int .i64 x.most,.bool x.bare]) (.agg #[.int .i64 y.kind,.int .u64 (Oc.U y.w0),.int .u64 (Oc.U y.w1),.int .u64 (Oc.U y.w2),.int .u64 (Oc.U y.w3),s2,.int .i64 y.num,.int .i64 y.least,.int .i64 y.most,.bool y.bare]) ⟨s1,rfl,sub1.later (HB.out.trans (hb.mono HB.out.size))⟩ ⟨s2,rfl,sub2.later (HB.out.trans (hb.mono HB.out.size))⟩)
       clear t1 t2 sub1 sub2
       have HX:=Lib.hid hx;have HY:=Lib.hid hy
       clear hx hy
       by_cases heq:x=y
       · have HQ:=Lib.hid heq
         clear heq
         go_wp2
         refine Ri.wp_region_frame (by kernel_rfl) (by kernel_rfl) (by kernel_rfl) (by kernel_rfl)
           (fun L v w'=>Below wr.heap.size wr w'∧(L 0=true→v 0=.pointer (some ⟨w.heap.size,5,none⟩))∧(L 1=true→v 1=.slice (some ⟨b1,o1,none⟩) ts.length cap)∧(L 2=true→v 2=.int .i64 m)∧(L 3=true→v 3=.pointer (some ⟨b1,o1+m * 10,none⟩))∧(L 4=true→v 4=.agg #[.int .i64 x.kind,.int .u64 (Oc.U x.w0),.int .u64 (Oc.U x.w1),.int .u64 (Oc.U x.w2),.int .u64 (Oc.U x.w3),s1,.int .i64 x.num,.int .i64 x.least,.int .i64 x.most,.bool x.bare])∧(L 5=true→v 5=.pointer (some ⟨w.heap.size+1,5,none⟩))∧(L 6=true→v 6=.slice (some ⟨b2,o2,none⟩) ts.length cbp)∧(L 7=true→v 7=.int .i64 m)∧(L 8=true→v 8=.pointer (some ⟨b2,o2+m * 10,none⟩))∧(L 9=true→v 9=.agg #[.int .i64 y.kind,.int .u64 (Oc.U y.w0),.int .u64 (Oc.U y.w1),.int .u64 (Oc.U y.w2),.int .u64 (Oc.U y.w3),s2,.int .i64 y.num,.int .i64 y.least,.int .i64 y.most,.bool y.bare])∧(L 10=true→v 10=.bool true)∧(L 11=true→v 11=.bool false))
           ?_ ?_ ?_
         · exact ⟨(Below.refl _ _).drew,by simp,by simp,by simp,by simp,by simp,by simp,by simp,by simp,by simp,by simp,by simp,by simp⟩
         · intro i hi9 L v w9 xa hI hL hd hv ho
           have hi':i=0 ∨ i=1 ∨ i=2 ∨ i=3 ∨ i=4 ∨ i=5 ∨ i=6 ∨ i=7 ∨ i=8 ∨ i=9 ∨ i=10 ∨ i=11:=by simp at hi9;omega
           obtain ⟨hb,q0,q1,q2,q3,q4,q5,q6,q7,q8,q9,q10,q11⟩:=hI
           rcases hi' with rfl | rfl | rfl | rfl | rfl | rfl | rfl | rfl | rfl | rfl | rfl | rfl
           · have e2:xa.tmps.getD 2 undef=.pointer (some ⟨w.heap.size,0,none⟩):=ho 2 (by kernel_rfl)
             refine Ri.step_plain rfl rfl (fun K' hK=>?_)
             go_simp
             exact hK _ _ ⟨_,_,rfl,rfl,hb,fun _=>rfl,q1,q2,q3,q4,q5,q6,q7,q8,q9,q10,q11⟩
           · have l0:L 0=true:=by have:=hd _ rfl;simp [Region.binds] at this;simp [this]
             have f0:=(hv 0 61 rfl l0).trans (q0 l0)
             refine Ri.step_plain rfl rfl (fun K' hK=>?_)
             obtain c5:=field5 (keep_blk hb Z2.out)
             go_simp
             exact hK _ _ ⟨_,_,rfl,rfl,hb,q0,fun _=>rfl,q2,q3,q4,q5,q6,q7,q8,q9,q10,q11⟩
           · have e5:xa.tmps.getD 5 undef=.int .i64 m:=ho 5 (by kernel_rfl)
             refine Ri.step_plain rfl rfl (fun K' hK=>?_)
             go_simp
             exact hK _ _ ⟨_,_,rfl,rfl,hb,q0,q1,fun _=>rfl,q3,q4,q5,q6,q7,q8,q9,q10,q11⟩
           · have l0:L 1=true∧L 2=true:=by have:=hd _ rfl;simp [Region.binds] at this;simp [this]
             have f1:=(hv 1 62 rfl l0.1).trans (q1 l0.1)
             have f2:=(hv 2 63 rfl l0.2).trans (q2 l0.2)
             refine Ri.step_plain rfl rfl (fun K' hK=>?_)
             go_simp
             exact hK _ _ ⟨_,_,rfl,rfl,hb,q0,q1,q2,fun _=>rfl,q4,q5,q6,q7,q8,q9,q10,q11⟩
           · have l0:L 3=true:=by have:=hd _ rfl;simp [Region.binds] at this;simp [this]
             have f3:=(hv 3 64 rfl l0).trans (q3 l0)
             refine Ri.step_plain rfl rfl (fun K' hK=>?_)
             obtain ⟨d0,d1,d2,d3,d4,d5,d6,d7,d8,d9⟩:=(T1.out.keep ((HB.out.trans (hb.mono HB.out.size)).block _ l1))
             go_simp
             exact hK _ _ ⟨_,_,rfl,rfl,hb,q0,q1,q2,q3,fun _=>rfl,q5,q6,q7,q8,q9,q10,q11⟩
           · have e3:xa.tmps.getD 3 undef=.pointer (some ⟨w.heap.size+1,0,none⟩):=ho 3 (by kernel_rfl)
             refine Ri.step_plain rfl rfl (fun K' hK=>?_)
             go_simp
             exact hK _ _ ⟨_,_,rfl,rfl,hb,q0,q1,q2,q3,q4,fun _=>rfl,q6,q7,q8,q9,q10,q11⟩
           · have l0:L 5=true:=by have:=hd _ rfl;simp [Region.binds] at this;simp [this]
             have f5:=(hv 5 66 rfl l0).trans (q5 l0)
             refine Ri.step_plain rfl rfl (fun K' hK=>?_)
             obtain c5:=field5 (keep_blk hb Z3.out)
             go_simp
             exact hK _ _ ⟨_,_,rfl,rfl,hb,q0,q1,q2,q3,q4,q5,fun _=>rfl,q7,q8,q9,q10,q11⟩
           · have e5:xa.tmps.getD 5 undef=.int .i64 m:=ho 5 (by kernel_rfl)
             refine Ri.step_plain rfl rfl (fun K' hK=>?_)
             go_simp
             exact hK _ _ ⟨_,_,rfl,rfl,hb,q0,q1,q2,q3,q4,q5,q6,fun _=>rfl,q8,q9,q10,q11⟩
           · have l0:L 6=true∧L 7=true:=by have:=hd _ rfl;simp [Region.binds] at this;simp [this]
             have f6:=(hv 6 67 rfl l0.1).trans (q6 l0.1)
             have f7:=(hv 7 68 rfl l0.2).trans (q7 l0.2)
             refine Ri.step_plain rfl rfl (fun K' hK=>?_)
             go_simp
             exact hK _ _ ⟨_,_,rfl,rfl,hb,q0,q1,q2,q3,q4,q5,q6,q7,fun _=>rfl,q9,q10,q11⟩
           · have l0:L 8=true:=by have:=hd _ rfl;simp [Region.binds] at this;simp [this]
             have f8:=(hv 8 69 rfl l0).trans (q8 l0)
             refine Ri.step_plain rfl rfl (fun K' hK=>?_)
             obtain ⟨d0,d1,d2,d3,d4,d5,d6,d7,d8,d9⟩:=(T2.out.keep ((HB.out.trans (hb.mono HB.out.size)).block _ l2))
             go_simp
             exact hK _ _ ⟨_,_,rfl,rfl,hb,q0,q1,q2,q3,q4,q5,q6,q7,q8,fun _=>rfl,q10,q11⟩
           · have l0:L 4=true∧L 9=true:=by have:=hd _ rfl;simp [Region.binds] at this;simp [this]
             have f4:=(hv 4 65 rfl l0.1).trans (q4 l0.1)
             have f9:=(hv 9 70 rfl l0.2).trans (q9 l0.2)
             refine Ri.step_plain rfl rfl (fun K' hK=>?_)
             go_simp
             refine ((HS.out _ hb).mono fun _ _ h=>h.yes HQ.out).mono ?_
             rintro e w8 ⟨rfl,hb8⟩
             exact hK _ _ ⟨_,_,rfl,rfl,hb.trans (hb8.mono hb.size),q0,q1,q2,q3,q4,q5,q6,q7,q8,q9,fun _=>rfl,q11⟩
           · have l0:L 10=true:=by have:=hd _ rfl;simp [Region.binds] at this;simp [this]
             have f10:=(hv 10 71 rfl l0).trans (q10 l0)
             refine Ri.step_plain rfl rfl (fun K' hK=>?_)
             go_simp
             exact hK _ _ ⟨_,_,rfl,rfl,hb,q0,q1,q2,q3,q4,q5,q6,q7,q8,q9,q10,fun _=>rfl⟩
         · rintro v w9 ⟨hb,-,-,-,-,-,-,-,-,-,-,-,q11⟩
           have q11':v 11=.bool false:=q11 rfl
           simp only [Ri.frame,List.zipIdx,List.foldl_cons,List.foldl_nil,if_true,List.setIfInBounds_toArray,List.set_cons_zero,List.set_cons_succ,Nat.reduceAdd,q11']
           clear q11 q11'
           generalize v 0=y0;generalize v 1=y1;generalize v 2=y2;generalize v 3=y3;generalize v 4=y4;generalize v 5=y5;generalize v 6=y6;generalize v 7=y7;generalize v 8=y8;generalize v 9=y9;generalize v 10=y10
           have Y2:=keep_blk hb Z2.out;have Y3:=keep_blk hb Z3.out;have HB9:=HB.out.trans (hb.mono HB.out.size);have hz9:=hb.size
           have W2:=Lib.hid Y2;have W3:=Lib.hid Y3;have HB10:=Lib.hid HB9
           clear hb Y2 Y3 HB9
           go_wp2
           exact ⟨⟨m+1,by go_num,by omega,Lib.hid (fun j hj=>by
             by_cases hjm:j=m
             · rw [hjm,HX.out,HY.out,HQ.out]
             · exact hall.out j (by omega)),HB10.out,by omega,W2.out,W3.out⟩,by simp [intOf];omega⟩
       · have HQ:=Lib.hid heq
         clear heq
         go_wp2
         refine Ri.wp_region_frame (by kernel_rfl) (by kernel_rfl) (by kernel_rfl) (by kernel_rfl)
           (fun L v w'=>Below wr.heap.size wr w'∧(L 0=true→v 0=.pointer (some ⟨w.heap.size,5,none⟩))∧(L 1=true→v 1=.slice (some ⟨b1,o1,none⟩) ts.length cap)∧(L 2=true→v 2=.int .i64 m)∧(L 3=true→v 3=.pointer (some ⟨b1,o1+m * 10,none⟩))∧(L 4=true→v 4=.agg #[.int .i64 x.kind,.int .u64 (Oc.U x.w0),.int .u64 (Oc.U x.w1),.int .u64 (Oc.U x.w2),.int .u64 (Oc.U x.w3),s1,.int .i64 x.num,.int .i64 x.least,.int .i64 x.most,.bool x.bare])∧(L 5=true→v 5=.pointer (some ⟨w.heap.size+1,5,none⟩))∧(L 6=true→v 6=.slice (some ⟨b2,o2,none⟩) ts.length cbp)∧(L 7=true→v 7=.int .i64 m)∧(L 8=true→v 8=.pointer (some ⟨b2,o2+m * 10,none⟩))∧(L 9=true→v 9=.agg #[.int .i64 y.kind,.int .u64 (Oc.U y.w0),.int .u64 (Oc.U y.w1),.int .u64 (Oc.U y.w2),.int .u64 (Oc.U y.w3),s2,.int .i64 y.num,.int .i64 y.least,.int .i64 y.most,.bool y.bare])∧(L 10=true→v 10=.bool false)∧(L 11=true→v 11=.bool true))
           ?_ ?_ ?_
         · exact ⟨(Below.refl _ _).drew,by simp,by simp,by simp,by simp,by simp,by simp,by simp,by simp,by simp,by simp,by simp,by simp⟩
         · intro i hi9 L v w9 xa hI hL hd hv ho
           have hi':i=0 ∨ i=1 ∨ i=2 ∨ i=3 ∨ i=4 ∨ i=5 ∨ i=6 ∨ i=7 ∨ i=8 ∨ i=9 ∨ i=10 ∨ i=11:=by simp at hi9;omega
           obtain ⟨hb,q0,q1,q2,q3,q4,q5,q6,q7,q8,q9,q10,q11⟩:=hI
           rcases hi' with rfl | rfl | rfl | rfl | rfl | rfl | rfl | rfl | rfl | rfl | rfl | rfl
           · have e2:xa.tmps.getD 2 undef=.pointer (some ⟨w.heap.size,0,none⟩):=ho 2 (by kernel_rfl)
             refine Ri.step_plain rfl rfl (fun K' hK=>?_)
             go_simp
             exact hK _ _ ⟨_,_,rfl,rfl,hb,fun _=>rfl,q1,q2,q3,q4,q5,q6,q7,q8,q9,q10,q11⟩
           · have l0:L 0=true:=by have:=hd _ rfl;simp [Region.binds] at this;simp [this]
             have f0:=(hv 0 61 rfl l0).trans (q0 l0)
             refine Ri.step_plain rfl rfl (fun K' hK=>?_)
             obtain c5:=field5 (keep_blk hb Z2.out)
             go_simp
             exact hK _ _ ⟨_,_,rfl,rfl,hb,q0,fun _=>rfl,q2,q3,q4,q5,q6,q7,q8,q9,q10,q11⟩
           · have e5:xa.tmps.getD 5 undef=.int .i64 m:=ho 5 (by kernel_rfl)
             refine Ri.step_plain rfl rfl (fun K' hK=>?_)
             go_simp
             exact hK _ _ ⟨_,_,rfl,rfl,hb,q0,q1,fun _=>rfl,q3,q4,q5,q6,q7,q8,q9,q10,q11⟩
           · have l0:L 1=true∧L 2=true:=by have:=hd _ rfl;simp [Region.binds] at this;simp [this]
             have f1:=(hv 1 62 rfl l0.1).trans (q1 l0.1)
             have f2:=(hv 2 63 rfl l0.2).trans (q2 l0.2)
             refine Ri.step_plain rfl rfl (fun K' hK=>?_)
             go_simp
             exact hK _ _ ⟨_,_,rfl,rfl,hb,q0,q1,q2,fun _=>rfl,q4,q5,q6,q7,q8,q9,q10,q11⟩
           · have l0:L 3=true:=by have:=hd _ rfl;simp [Region.binds] at this;simp [this]
             have f3:=(hv 3 64 rfl l0).trans (q3 l0)
             refine Ri.step_plain rfl rfl (fun K' hK=>?_)
             obtain ⟨d0,d1,d2,d3,d4,d5,d6,d7,d8,d9⟩:=(T1.out.keep ((HB.out.trans (hb.mono HB.out.size)).block _ l1))
             go_simp
             exact hK _ _ ⟨_,_,rfl,rfl,hb,q0,q1,q2,q3,fun _=>rfl,q5,q6,q7,q8,q9,q10,q11⟩
           · have e3:xa.tmps.getD 3 undef=.pointer (some ⟨w.heap.size+1,0,none⟩):=ho 3 (by kernel_rfl)
             refine Ri.step_plain rfl rfl (fun K' hK=>?_)
             go_simp
             exact hK _ _ ⟨_,_,rfl,rfl,hb,q0,q1,q2,q3,q4,fun _=>rfl,q6,q7,q8,q9,q10,q11⟩
           · have l0:L 5=true:=by have:=hd _ rfl;simp [Region.binds] at this;simp [this]
             have f5:=(hv 5 66 rfl l0).trans (q5 l0)
             refine Ri.step_plain rfl rfl (fun K' hK=>?_)
             obtain c5:=field5 (keep_blk hb Z3.out)
             go_simp
             exact hK _ _ ⟨_,_,rfl,rfl,hb,q0,q1,q2,q3,q4,q5,fun _=>rfl,q7,q8,q9,q10,q11⟩
           · have e5:xa.tmps.getD 5 undef=.int .i64 m:=ho 5 (by kernel_rfl)
             refine Ri.step_plain rfl rfl (fun K' hK=>?_)
             go_simp
             exact hK _ _ ⟨_,_,rfl,rfl,hb,q0,q1,q2,q3,q4,q5,q6,fun _=>rfl,q8,q9,q10,q11⟩
           · have l0:L 6=true∧L 7=true:=by have:=hd _ rfl;simp [Region.binds] at this;simp [this]
             have f6:=(hv 6 67 rfl l0.1).trans (q6 l0.1)
             have f7:=(hv 7 68 rfl l0.2).trans (q7 l0.2)
             refine Ri.step_plain rfl rfl (fun K' hK=>?_)
             go_simp
             exact hK _ _ ⟨_,_,rfl,rfl,hb,q0,q1,q2,q3,q4,q5,q6,q7,fun _=>rfl,q9,q10,q11⟩
           · have l0:L 8=true:=by have:=hd _ rfl;simp [Region.binds] at this;simp [this]
             have f8:=(hv 8 69 rfl l0).trans (q8 l0)
             refine Ri.step_plain rfl rfl (fun K' hK=>?_)
             obtain ⟨d0,d1,d2,d3,d4,d5,d6,d7,d8,d9⟩:=(T2.out.keep ((HB.out.trans (hb.mono HB.out.size)).block _ l2))
             go_simp
             exact hK _ _ ⟨_,_,rfl,rfl,hb,q0,q1,q2,q3,q4,q5,q6,q7,q8,fun _=>rfl,q10,q11⟩
           · have l0:L 4=true∧L 9=true:=by have:=hd _ rfl;simp [Region.binds] at this;simp [this]
             have f4:=(hv 4 65 rfl l0.1).trans (q4 l0.1)
             have f9:=(hv 9 70 rfl l0.2).trans (q9 l0.2)
             refine Ri.step_plain rfl rfl (fun K' hK=>?_)
             go_simp
             refine ((HS.out _ hb).mono fun _ _ h=>h.no HQ.out).mono ?_
             rintro e w8 ⟨rfl,hb8⟩
             exact hK _ _ ⟨_,_,rfl,rfl,hb.trans (hb8.mono hb.size),q0,q1,q2,q3,q4,q5,q6,q7,q8,q9,fun _=>rfl,q11⟩
           · have l0:L 10=true:=by have:=hd _ rfl;simp [Region.binds] at this;simp [this]
             have f10:=(hv 10 71 rfl l0).trans (q10 l0)
             refine Ri.step_plain rfl rfl (fun K' hK=>?_)
             go_simp
             exact hK _ _ ⟨_,_,rfl,rfl,hb,q0,q1,q2,q3,q4,q5,q6,q7,q8,q9,q10,fun _=>rfl⟩
         · rintro v w9 ⟨hb,-,-,-,-,-,-,-,-,-,-,-,q11⟩
           have q11':v 11=.bool true:=q11 rfl
           simp only [Ri.frame,List.zipIdx,List.foldl_cons,List.foldl_nil,if_true,List.setIfInBounds_toArray,List.set_cons_zero,List.set_cons_succ,Nat.reduceAdd,q11']
           clear q11 q11'
           generalize v 0=y0;generalize v 1=y1;generalize v 2=y2;generalize v 3=y3;generalize v 4=y4;generalize v 5=y5;generalize v 6=y6;generalize v 7=y7;generalize v 8=y8;generalize v 9=y9;generalize v 10=y10
           have HB10:=Lib.hid (HB.out.trans (hb.mono HB.out.size))
           clear hb
           go_wp2
           go_ret
           refine sameEnd_no (fun h=>?_) HB10.out
           have hts:ts=us:=by injection h
           have:=HX.out
           rw [hts,HY.out] at this
           exact HQ.out (Option.some.inj this).symm
     · obtain rfl:m=ts.length:=by omega
       have hts:ts=us:=List.ext_getElem? fun j=>by
         by_cases hj:j < ts.length
         · exact hall.out j hj
         · rw [List.getElem?_eq_none (by omega),List.getElem?_eq_none (by omega)]
       have HTS:=Lib.hid hts
       clear hts hlt
       go_wp2
       go_ret
       exact sameEnd_yes (by rw [HTS.out]) HB.out
end Go.Proofs.YtoepdfpnkmccoaaDoor
namespace Go.Proofs.YtoepdfpnkmccoaaDoor
open Go.RowKit
theorem treesize_seq (t:Tr) (ih:∀ u,u ∈ t.subs→u.InForm→∀ (w:World) (B:Nat→Prop) (v:Value),NodeV w B v u→Calls Tryd.prog 51 #[v] w (SizeEnd u.szT w)) (hf:t.InForm) (hk:t.kind ≠ 8)
   (w:World) (B:Nat→Prop) (v:Value) (hv:NodeV w B v t):Calls Tryd.prog 51 #[v] w (SizeEnd t.szT w):=by
 obtain ⟨s,rfl,hs⟩:=hv
 obtain ⟨p,cap,rfl,hlen⟩:=hs.slice
 have HE:=Lib.hid (show t.szT=Tr.sat (1+Tr.szS t.subs) by cases t;rw [Tr.szT];simp only [Tr.kind] at hk;rw [if_neg hk];rfl)
 have HF:=Lib.hid hf
 generalize hts:t.subs=ts at *
 have HTS:=Lib.hid hts;have IH:=Lib.hid ih;have HS:=Lib.hid hs
 have e8:(t.kind == 8)=false:=by simpa using hk
 clear ih hs hf hk hts
 unfold Tr.cells
 go_enter Tryd.func51,Tryd.ntmps51
 go_wp2
 go_loopw [3,14] (fun nv iv wr=>∃ m:Nat,iv=.int .i64 m∧m ≤ ts.length∧nv=.int .i64 (Tr.sat (1+Tr.szS (ts.take m)):Nat)∧Hid (Below w.heap.size w wr)) (fun _ iv _=>ts.length - (intOf iv).toNat)
 case atStart=>exact ⟨0,rfl,Nat.zero_le _,rfl,Lib.hid (by go_grown)⟩
 case round =>
   obtain ⟨m,rfl,hm,rfl,HB⟩:=hrel
   have wm:IntKind.i64.wrap ((m:Int)+1)=(m:Int)+1:=IntWalk.i64_in _ (by omega)
   by_cases hlt:m < ts.length
   · obtain ⟨x,hx⟩:∃ x,ts[m]? = some x:=⟨_,List.getElem?_eq_getElem hlt⟩
     obtain ⟨b1,o1,s1,rfl,-,t1,sub1⟩:=HS.out.get hx
     obtain ⟨d0,d1,d2,d3,d4,d5,d6,d7,d8,d9⟩:=t1.keep (HB.out.block _ t1.lt)
     have hmem:=List.mem_of_getElem? hx
     obtain ⟨p1,c1,rfl,hl1⟩:=sub1.slice
     have HC:=Lib.hid (fun w9 hb=>IH.out x hmem (HF.out.sub (by rw [HTS.out];exact hmem)) w9 B (.agg (x.cells (.slice p1 x.subs.length c1))) ⟨_,rfl,sub1.later hb⟩)
     have hle:=Tr.sat_le (1+Tr.szS (ts.take m));have hlx:=Tr.szT_le x
     have HST:=Lib.hid (Tr.szS_take ts m x hx)
     clear t1 sub1 hmem hx
     generalize hn:Tr.sat (1+Tr.szS (ts.take m))=n at *
     have HN:=Lib.hid hn
     clear hn
     unfold Tr.cells at HC
     go_wp2_with fail
     generalize hw1:World.alloc wr _=w1
     have hb1:Below wr.heap.size wr w1:=by rw [← hw1];exact (Below.refl _ _).alloc (Nat.le_refl _) _
     clear hw1
     refine (HC.out w1 (HB.out.trans (hb1.mono HB.out.size))).mono ?_
     rintro e w2 ⟨rfl,hb2⟩
     have HB2:=Lib.hid (HB.out.trans ((hb1.trans (hb2.mono hb1.size)).mono HB.out.size))
     have wsum:IntKind.i64.wrap ((n:Int)+(x.szT:Int))=(n:Int)+x.szT:=IntWalk.i64_in _ (by omega)
     have HSUM:=Lib.hid (show Tr.sat (n+x.szT)=Tr.sat (1+Tr.szS (ts.take (m+1))) by rw [← HN.out,Tr.sat_sat,HST.out];congr 1;omega)
     generalize x.szT=N at *
     clear d0 d1 d2 d3 d4 d5 d6 d7 d8 d9 hb1 hb2 HC
     go_wp2
     all_goals
       exact ⟨⟨m+1,by go_num,by omega,by rw [← HSUM.out];unfold Tr.sat;congr 1;omega,HB2⟩,by simp [intOf];omega⟩
   · obtain rfl:m=ts.length:=by omega
     have HX:=Lib.hid (show Tr.sat (1+Tr.szS (ts.take ts.length))=t.szT by rw [List.take_length,HE.out])
     go_wp2
     go_ret
     exact ⟨ret_int (by rw [HX.out]),HB.out⟩
theorem treesize_rep (t x:Tr) (ih:∀ (w:World) (B:Nat→Prop) (v:Value),NodeV w B v x→Calls Tryd.prog 51 #[v] w (SizeEnd x.szT w)) (hsub:t.subs=[x]) (hk:t.kind=8) (h0:0 ≤ t.least) (h1:t.least ≤ 255) (h2:t.most = -1 ∨ (t.least ≤ t.most∧t.most ≤ 255))
   (w:World) (B:Nat→Prop) (v:Value) (hv:NodeV w B v t):Calls Tryd.prog 51 #[v] w (SizeEnd t.szT w):=by
 obtain ⟨s,rfl,hs⟩:=hv
 have hsz0:t.szT=Tr.repSz t.least t.most x.szT:=by
   cases t;simp only [Tr.kind,Tr.subs] at hk hsub;subst hk hsub;rw [Tr.szT,if_pos rfl,Tr.szH];rfl
 have HSZ:=Lib.hid hsz0
 have HC:=Lib.hid (fun w9 (hb:Below w.heap.size w w9)=>treerep t x ih hsub h0 h1 h2 w9 B _ ⟨s,rfl,hs.later hb⟩)
 obtain ⟨p,cap,rfl,hlen⟩:=hs.slice
 have z0:=heap_alloc_new w (.cells (t.cells (.slice p t.subs.length cap)) 29)
 have Z0:=Lib.hid z0
 clear hsz0 ih hsub h0 h1 h2 hs z0
 unfold Tr.cells at *
 rw [hk] at *
 clear hk
 go_enter Tryd.func51,Tryd.ntmps51
 go_wp2_with (first
   | (refine wpList_load_row rfl 29 (.tmp 1) rfl w.heap.size rfl 29 _ (0,0) _ Z0.out Tryd.underlying29 rfl (by kernel_rfl) ?_)
   | fail)
 refine (HC.out _ ((Below.refl _ _).alloc (Nat.le_refl _) _)).mono ?_
 rintro e w2 ⟨rfl,hb2⟩
 have HB2:=Lib.hid (((Below.refl w.heap.size w).alloc (Nat.le_refl _) _).trans (hb2.mono (by simp)))
 clear hb2
 go_wp2
 go_ret
 exact ⟨ret_int (by rw [HSZ.out]),HB2.out⟩
theorem treesize_any:∀ t:Tr,t.InForm→∀ (w:World) (B:Nat→Prop) (v:Value),NodeV w B v t→Calls Tryd.prog 51 #[v] w (SizeEnd t.szT w):=by
 intro t
 induction t using Tr.rec_subs with
 | h t ih =>
   intro hf w B v hv
   by_cases hk:t.kind=8
   · have hfl:=hf.fields
     unfold Tr.fieldsOk at hfl
     obtain ⟨-,-,-,-,-,hl,-,h0,h1,h2,-⟩:t.kind=8∧t.w0=0#64∧t.w1=0#64∧t.w2=0#64∧t.w3=0#64∧t.subs.length=1∧t.num=0∧0 ≤ t.least∧t.least ≤ 255∧(t.most = -1 ∨ (t.least ≤ t.most∧t.most ≤ 255))∧(t.bare=true→t.least=0):=by
       rcases hfl with h | h | h | h | h
       · omega
       · omega
       · omega
       · omega
       · exact h
     obtain ⟨x,hx⟩:=List.length_eq_one_iff.1 hl
     have hmem:x ∈ t.subs:=by rw [hx];exact List.mem_cons_self
     exact treesize_rep t x (fun w B v hv=>ih x hmem (hf.sub hmem) w B v hv) hx hk h0 h1 h2 w B v hv
   · exact treesize_seq t ih hf hk w B v hv
end Go.Proofs.YtoepdfpnkmccoaaDoor
namespace Go.Proofs.YtoepdfpnkmccoaaDoor
namespace Tr
mutual
def dpT:Tr→Nat
 | .node k _ _ _ _ s _ lo hi _=>if s.length=0 then 1 else dpS s+(if k=8∧¬ (lo=0∧(hi=1 ∨ hi = -1)) then 2 else 1)
def dpS:List Tr→Nat
 | []=>0
 | t :: l=>max (dpT t) (dpS l)
end
theorem dpS_append:∀ (l m:List Tr),dpS (l ++ m)=max (dpS l) (dpS m)
 | [],m=>by simp [dpS]
 | t :: l,m=>by rw [List.cons_append,dpS,dpS,dpS_append l m];omega
theorem dpS_take (l:List Tr) (m:Nat) (x:Tr) (h:l[m]? = some x):dpS (l.take (m+1))=max (dpS (l.take m)) (dpT x):=by
 rw [List.take_add_one,h,Option.toList_some,dpS_append,dpS,dpS];omega
theorem dpT_le_dpS {l:List Tr} {x:Tr} (h:x ∈ l):dpT x ≤ dpS l:=by
 induction l with
 | nil=>cases h
 | cons a l ih =>
   rw [dpS]
   rcases List.mem_cons.1 h with rfl | h
   · omega
   · have:=ih h;omega
end Tr
end Go.Proofs.YtoepdfpnkmccoaaDoor
namespace Go.Proofs.YtoepdfpnkmccoaaDoor
open Go.RowKit
theorem allTen {w:World} {b:Nat} {x0 x1 x2 x3 x4 x5 x6 x7 x8 x9:Value} {t:TypeId} (h:w.heap[b]? = some (.cells #[x0,x1,x2,x3,x4,x5,x6,x7,x8,x9] t)):w.cell? ⟨b,0,none⟩=some x0∧w.cell? ⟨b,1,none⟩=some x1∧w.cell? ⟨b,2,none⟩=some x2∧w.cell? ⟨b,3,none⟩=some x3∧w.cell? ⟨b,4,none⟩=some x4∧w.cell? ⟨b,5,none⟩=some x5∧w.cell? ⟨b,6,none⟩=some x6∧w.cell? ⟨b,7,none⟩=some x7∧w.cell? ⟨b,8,none⟩=some x8∧w.cell? ⟨b,9,none⟩=some x9:=by
 simp [World.cell?,h]
theorem Tr.dpT_eq (t:Tr):t.dpT=if t.subs.length=0 then 1 else Tr.dpS t.subs+(if t.kind=8∧¬ (t.least=0∧(t.most=1 ∨ t.most = -1)) then 2 else 1):=by
 cases t;rw [Tr.dpT];rfl
theorem treedepth_any:∀ t:Tr,t.dpT ≤ 1000000→∀ (w:World) (B:Nat→Prop) (v:Value),NodeV w B v t→Calls Tryd.prog 50 #[v] w (SizeEnd t.dpT w):=by
 intro t
 induction t using Tr.rec_subs with
 | h t ih =>
   intro hd w B v hv
   obtain ⟨s,rfl,hs⟩:=hv
   obtain ⟨p,cap,rfl,hlen⟩:=hs.slice
   have heq:=Tr.dpT_eq t
   rw [heq] at hd ⊢
   have HST:=Lib.hid (fun w'=>stays_is t (.slice p t.subs.length cap) ⟨_,_,_,rfl⟩ _ rfl w')
   clear heq
   generalize hts:t.subs=ts at *
   have HTS:=Lib.hid hts;have IH:=Lib.hid ih;have HS:=Lib.hid hs
   clear ih hs hts
   unfold Tr.cells at *
   by_cases h0:ts.length=0
   · rw [if_pos h0]
     rw [h0]
     clear hd hlen HST HTS IH HS
     go_enter Tryd.func50,Tryd.ntmps50
     go_wp2
     go_ret
     exact ⟨rfl,by go_grown⟩
   · rw [if_neg h0] at hd ⊢
     generalize hD:Tr.dpS ts+(if t.kind=8∧¬ (t.least=0∧(t.most=1 ∨ t.most = -1)) then 2 else 1)=D at hd ⊢
     have HD:=Lib.hid (show D ≤ 1000000∧Tr.dpS ts+1 ≤ D∧D ≤ Tr.dpS ts+2 from ⟨hd,by rw [← hD];split <;> omega,by rw [← hD];split <;> omega⟩)
     have HDE:=Lib.hid hD
     have e0:((ts.length:Int) == 0)=false:=by simpa using h0
     have e0':(ts.length == 0)=false:=by simpa using h0
     have Z0:=Lib.hid (heap_alloc_new w (.cells #[.int .i64 t.kind,.int .u64 (Oc.U t.w0),.int .u64 (Oc.U t.w1),.int .u64 (Oc.U t.w2),.int .u64 (Oc.U t.w3),.slice p ts.length cap,.int .i64 t.num,.int .i64 t.least,.int .i64 t.most,.bool t.bare] 29))
     have HW:=Lib.hid (show Below w.heap.size w (w.alloc (.cells #[.int .i64 t.kind,.int .u64 (Oc.U t.w0),.int .u64 (Oc.U t.w1),.int .u64 (Oc.U t.w2),.int .u64 (Oc.U t.w3),.slice p ts.length cap,.int .i64 t.num,.int .i64 t.least,.int .i64 t.most,.bool t.bare] 29)) from (Below.refl _ _).alloc (Nat.le_refl _) _)
     have hz:w.heap.size < (w.alloc (.cells #[.int .i64 t.kind,.int .u64 (Oc.U t.w0),.int .u64 (Oc.U t.w1),.int .u64 (Oc.U t.w2),.int .u64 (Oc.U t.w3),.slice p ts.length cap,.int .i64 t.num,.int .i64 t.least,.int .i64 t.most,.bool t.bare] 29)).heap.size:=by simp
     clear hd h0 hD
     go_enter Tryd.func50,Tryd.ntmps50
     go_wp2
     generalize w.alloc (.cells #[.int .i64 t.kind,.int .u64 (Oc.U t.w0),.int .u64 (Oc.U t.w1),.int .u64 (Oc.U t.w2),.int .u64 (Oc.U t.w3),.slice p ts.length cap,.int .i64 t.num,.int .i64 t.least,.int .i64 t.most,.bool t.bare] 29)=W0 at *
     go_loopw [3,13] (fun gv iv wr=>∃ m:Nat,iv=.int .i64 m∧m ≤ ts.length∧gv=.int .i64 (Tr.dpS (ts.take m):Nat)∧Hid (Below W0.heap.size W0 wr)) (fun _ iv _=>ts.length - (intOf iv).toNat)
     case atStart=>exact ⟨0,rfl,Nat.zero_le _,rfl,Lib.hid (Below.refl _ _)⟩
     case round =>
       obtain ⟨m,rfl,hm,rfl,HB⟩:=hrel
       have wm:IntKind.i64.wrap ((m:Int)+1)=(m:Int)+1:=IntWalk.i64_in _ (by omega)
       have HBW:=Lib.hid (HW.out.trans (HB.out.mono HW.out.size))
       by_cases hlt:m < ts.length
       · obtain ⟨x,hx⟩:∃ x,ts[m]? = some x:=⟨_,List.getElem?_eq_getElem hlt⟩
         obtain ⟨b1,o1,s1,rfl,-,t1,sub1⟩:=HS.out.get hx
         obtain ⟨d0,d1,d2,d3,d4,d5,d6,d7,d8,d9⟩:=t1.keep (HBW.out.block _ t1.lt)
         have hmem:=List.mem_of_getElem? hx
         obtain ⟨p1,c1,rfl,hl1⟩:=sub1.slice
         have hdx:x.dpT ≤ 1000000:=by have:=Tr.dpT_le_dpS hmem;have:=HD.out;omega
         have HC:=Lib.hid (fun w9 hb=>IH.out x hmem hdx w9 B (.agg (x.cells (.slice p1 x.subs.length c1))) ⟨_,rfl,sub1.later hb⟩)
         have HSTP:=Lib.hid (Tr.dpS_take ts m x hx)
         clear t1 sub1 hmem hx hdx
         generalize hn:Tr.dpS (ts.take m)=n at *
         clear hn
         unfold Tr.cells at HC
         go_wp2_with fail
         generalize hw1:World.alloc wr _=w1
         have hb1:Below wr.heap.size wr w1:=by rw [← hw1];exact (Below.refl _ _).alloc (Nat.le_refl _) _
         clear hw1
         refine (HC.out w1 (HBW.out.trans (hb1.mono HBW.out.size))).mono ?_
         rintro e w2 ⟨rfl,hb2⟩
         have HB2:=Lib.hid (HB.out.trans ((hb1.trans (hb2.mono hb1.size)).mono HB.out.size))
         clear d0 d1 d2 d3 d4 d5 d6 d7 d8 d9 hb1 hb2 HC
         generalize x.dpT=N at *
         go_wp2
         all_goals
           exact ⟨⟨m+1,by go_num,by omega,by rw [HSTP.out];simp;try omega,HB2⟩,by simp [intOf];omega⟩
       · obtain rfl:m=ts.length:=by omega
         rw [List.take_length] at *
         have Z1:=Lib.hid (keep_blk (HB.out.mono (Nat.le_refl _)) Z0.out)
         have hdp:=HD.out
         have w2':IntKind.i64.wrap ((Tr.dpS ts:Int)+2)=(Tr.dpS ts:Int)+2:=IntWalk.i64_in _ (by omega)
         have w1':IntKind.i64.wrap ((Tr.dpS ts:Int)+1)=(Tr.dpS ts:Int)+1:=IntWalk.i64_in _ (by omega)
         have hde:=HDE.out
         clear hdp
         obtain ⟨d0,d1,d2,d3,d4,d5,d6,d7,d8,d9⟩:=allTen Z1.out
         by_cases h8:t.kind=8
         · rw [h8] at HST Z1 HDE d0 hde
           by_cases hst:t.least=0∧(t.most=1 ∨ t.most = -1)
           · have hst':decide (t.least=0∧(t.most=1 ∨ t.most = -1))=true:=by simpa using hst
             rw [hst'] at HST
             rw [if_neg (by intro h;exact h.2 hst)] at hde
             have HDF:=Lib.hid hde
             clear hst hst' hde
             go_wp2_with fail
             refine (HST.out _).mono ?_
             rintro e w5 ⟨rfl,hb5⟩
             have HB5:=Lib.hid (HBW.out.trans (hb5.mono HBW.out.size))
             clear hb5
             go_wp2
             go_ret
             exact ⟨ret_int (by have:=HDF.out;omega),HB5.out⟩
           · have hst':decide (t.least=0∧(t.most=1 ∨ t.most = -1))=false:=by simpa using hst
             rw [hst'] at HST
             rw [if_pos ⟨rfl,hst⟩] at hde
             have HDF:=Lib.hid hde
             clear hst hst' hde
             go_wp2_with fail
             refine (HST.out _).mono ?_
             rintro e w5 ⟨rfl,hb5⟩
             have HB5:=Lib.hid (HBW.out.trans (hb5.mono HBW.out.size))
             clear hb5
             go_wp2
             go_ret
             exact ⟨ret_int (by have:=HDF.out;omega),HB5.out⟩
         · rw [if_neg (by intro h;exact h8 h.1)] at hde
           have e8:(t.kind == 8)=false:=by simpa using h8
           have HDF:=Lib.hid hde
           clear h8 hde
           go_wp2
           go_ret
           exact ⟨ret_int (by have:=HDF.out;omega),HBW.out⟩
end Go.Proofs.YtoepdfpnkmccoaaDoor
namespace Go.Proofs.YtoepdfpnkmccoaaDoor
open Go.RowKit
namespace Tr
mutual
def ndT:Tr→Nat
 | .node _ _ _ _ _ s _ _ _ _=>1+ndS s
def ndS:List Tr→Nat
 | []=>0
 | t :: l=>ndT t+ndS l
end
theorem ndT_eq (t:Tr):t.ndT=1+ndS t.subs:=by cases t;rw [ndT];rfl
end Tr
end Go.Proofs.YtoepdfpnkmccoaaDoor
namespace Go.Proofs.YtoepdfpnkmccoaaDoor
namespace Im
def numB (n:Nat):List UInt8:=if n < 128 then [UInt8.ofNat n] else UInt8.ofNat (128+n % 128) :: numB (n / 128)
termination_by n
decreasing_by omega
theorem numB_small {n:Nat} (h:n < 128):numB n=[UInt8.ofNat n]:=by rw [numB,if_pos h]
theorem numB_big {n:Nat} (h:¬ n < 128):numB n=UInt8.ofNat (128+n % 128) :: numB (n / 128):=by rw [numB,if_neg h]
theorem numB_len:∀ k n:Nat,n < 128 ^ (k+1)→(numB n).length ≤ k+1
 | 0,n,h=>by rw [numB_small (by simpa using h)];simp
 | k+1,n,h=>by
   by_cases hn:n < 128
   · rw [numB_small hn];simp
   · have h2:n / 128 < 128 ^ (k+1):=by rw [Nat.pow_succ] at h;omega
     have:=numB_len k (n / 128) h2
     rw [numB_big hn,List.length_cons];omega
theorem numB_len9 {n:Nat} (h:n ≤ 9223372036854775807):(numB n).length ≤ 9:=numB_len 8 n (by omega)
def wordB (x:BitVec 64) (k:Nat):List UInt8:=(List.range k).map fun j=>UInt8.ofNat (x.toNat / 256 ^ j % 256)
theorem wordB_zero (x:BitVec 64):wordB x 0=[]:=rfl
theorem wordB_succ (x:BitVec 64) (k:Nat):wordB x (k+1)=wordB x k ++ [UInt8.ofNat (x.toNat / 256 ^ k % 256)]:=by
 unfold wordB;rw [List.range_succ,List.map_append];rfl
theorem wordB_len (x:BitVec 64) (k:Nat):(wordB x k).length=k:=by simp [wordB]
def wd (a b c d:BitVec 64) (i:Nat):BitVec 64:=if i=0 then a else if i=1 then b else if i=2 then c else d
def setB (a b c d:BitVec 64):Nat→List UInt8
 | 0=>[]
 | i+1=>setB a b c d i ++ wordB (wd a b c d i) 8
theorem setB_len (a b c d:BitVec 64):∀ i,(setB a b c d i).length=8 * i
 | 0=>rfl
 | i+1=>by rw [setB,List.length_append,setB_len a b c d i,wordB_len];omega
def headB (t:Tr):List UInt8 :=
 UInt8.ofNat t.kind.toNat :: (if t.kind=2 then setB t.w0 t.w1 t.w2 t.w3 4 else if t.kind=5 ∨ t.kind=6 then numB t.subs.length else if t.kind=7 then numB t.num.toNat
   else if t.kind=8 then numB t.least.toNat ++ numB (t.most+1).toNat ++ [if t.bare then 1 else 0] else [])
mutual
def imT:Tr→List UInt8
 | .node k a b c d s n lo hi br=>headB (.node k a b c d s n lo hi br) ++ imS s
def imS:List Tr→List UInt8
 | []=>[]
 | t :: l=>imT t ++ imS l
end
theorem imT_eq (t:Tr):imT t=headB t ++ imS t.subs:=by cases t;rw [imT];rfl
theorem imS_append:∀ a b:List Tr,imS (a ++ b)=imS a ++ imS b
 | [],b=>by simp [imS]
 | t :: a,b=>by rw [List.cons_append,imS,imS,imS_append a b,List.append_assoc]
theorem imS_take (l:List Tr) (m:Nat) (x:Tr) (h:l[m]? = some x):imS (l.take (m+1))=imS (l.take m) ++ imT x:=by
 rw [List.take_add_one,h,Option.toList_some,imS_append];simp [imS]
theorem imS_le (l:List Tr) (m:Nat):(imS (l.take m)).length ≤ (imS l).length:=by
 have h:imS (l.take m ++ l.drop m)=imS l:=by rw [List.take_append_drop]
 rw [← h,imS_append,List.length_append];omega
theorem imT_le {x:Tr} : ∀ {l:List Tr},x ∈ l→(imT x).length ≤ (imS l).length
 | [],h=>by cases h
 | t :: l,h=>by
   rw [imS,List.length_append]
   rcases List.mem_cons.1 h with rfl | h
   · omega
   · have:=imT_le h;omega
theorem ndS_len:∀ l:List Tr,l.length ≤ Tr.ndS l
 | []=>by simp
 | t :: l=>by have:=ndS_len l;have:=Tr.ndT_eq t;rw [Tr.ndS,List.length_cons];omega
theorem headB_len {t:Tr} (h:t.fieldsOk) (hn:t.subs.length ≤ 9223372036854775807):(headB t).length ≤ 40:=by
 have h1:=numB_len9 hn
 have h2:=setB_len t.w0 t.w1 t.w2 t.w3 4
 have h3:t.num ≤ 999→(numB t.num.toNat).length ≤ 9:=fun h=>numB_len9 (by omega)
 have h4:t.least ≤ 255→(numB t.least.toNat).length ≤ 9:=fun h=>numB_len9 (by omega)
 have h5:t.most ≤ 255→(numB (t.most+1).toNat).length ≤ 9:=fun h=>numB_len9 (by omega)
 unfold headB
 unfold Tr.fieldsOk at h
 rw [List.length_cons]
 split
 · omega
 · split
   · omega
   · split
     · rename_i hk
       have:=h3 (by rcases h with ⟨h | h | h,-⟩ | ⟨h,-⟩ | ⟨h | h,-⟩ | ⟨h,-,-,-,-,-,-,h,-⟩ | ⟨h,-⟩ <;> omega)
       omega
     · split
       · rename_i hk
         have hb:t.least ≤ 255∧t.most ≤ 255:=by
           rcases h with ⟨h | h | h,-⟩ | ⟨h,-⟩ | ⟨h | h,-⟩ | ⟨h,-⟩ | ⟨h,-,-,-,-,-,-,-,h1,h2,-⟩ <;> omega
         have:=h4 hb.1;have:=h5 hb.2
         simp only [List.length_append,List.length_cons,List.length_nil];omega
       · simp
theorem imS_nd:∀ {l:List Tr},(∀ t,t ∈ l→(imT t).length ≤ 40 * t.ndT)→(imS l).length ≤ 40 * Tr.ndS l
 | [],_=>by simp [imS]
 | t :: l,h=>by
   have h1:=h t List.mem_cons_self
   have h2:=imS_nd (l:=l) fun u hu=>h u (List.mem_cons_of_mem _ hu)
   rw [imS,Tr.ndS,List.length_append];omega
theorem imT_nd (t:Tr) (hf:t.InForm) (hn:t.ndT ≤ 9223372036854775807):(imT t).length ≤ 40 * t.ndT:=by
 induction t using Tr.rec_subs with
 | h t ih =>
   have hl:=ndS_len t.subs
   have he:=Tr.ndT_eq t
   have hsub:∀ u,u ∈ t.subs→u.ndT ≤ Tr.ndS t.subs:=by
     intro u hu
     generalize t.subs=l at hu
     clear ih hl he
     induction l with
     | nil=>cases hu
     | cons x l ih2 =>
       rw [Tr.ndS]
       rcases List.mem_cons.1 hu with rfl | hu
       · omega
       · have:=ih2 hu;omega
   have h1:=imS_nd (l:=t.subs) fun u hu=>ih u hu (hf.sub hu) (by have:=hsub u hu;omega)
   have h2:=headB_len hf.fields (by omega)
   rw [imT_eq,List.length_append,he];omega
def head:List UInt8:=[84,82,87,76,1]
end Im
end Go.Proofs.YtoepdfpnkmccoaaDoor
namespace Go.Proofs.YtoepdfpnkmccoaaDoor
open Go.RowKit
theorem append_both {P:Program} (w:World) {ops:Array Oper} {rest:List Oper} {o:Oper} {a:Act} {Q:Exit→Act→World→Prop} (hgd:o.guard=none) (s x:Operand) (t:TypeId)
   (ho:o.op=.call { callee:=.builtin .append,args:=#[s,x],argTypes:=#[t,t] })
   (base:Nat) (e:TypeId) (i:TypeInfo) (z:Value) (size bytes:Nat) (ht:P.underlying t=some (.slice e)) (hi:P.info? e=some i) (hz:i.zero=some z)
   (hsize:i.size=size) (hby:i.bytes=bytes) (hzs:z.cells.size=size) (hsz:0 < size)
   (v:Value) (n:Nat) (xs:List Value) (hs:a.eval s=v) (hown:w.ownsRow base e size v n xs)
   (p:Option Addr) (m c:Nat) (news:List Value) (hx:a.eval x=.slice p m c) (h0:p=none→m=0∧c=0) (hl:news.length=m * size) (hnews:∀ ad,p=some ad→∀ j u,news[j]? = some u→w.cell? (ad.add j)=some u) (h1:∀ u ∈ news,u.oneCell'=true)
   (h63:n+m ≤ maxLen) (hbytes:(n+m) * bytes ≤ 140737488355328) (hbase:base ≤ w.heap.size)
   (h:∀ v' w',w'.ownsRow base e size v' (n+m) (xs ++ news)→w.grownBy w' v.ownBlock→(v'=.slice none 0 0 ↔ v=.slice none 0 0∧m=0)→wpList P ops Q rest (a.put o.dst v') w'):wpList P ops Q (o :: rest) a w:=by
 cases p with
 | some ad=>exact wpList_append_own w hgd s x t ho base e i z size bytes ht hi hz hsize hby hzs hsz v n xs hs hown ad m c news hx hl (hnews ad rfl) h1 h63 hbytes hbase h
 | none =>
   obtain ⟨rfl,rfl⟩:=h0 rfl
   have hn:news=[]:=List.eq_nil_of_length_eq_zero (by rw [hl];omega)
   subst hn
   exact wpList_append_own_none hgd s x t ho base e i size ht hi v n xs hs hown hx (h v w (by simpa using hown) ⟨rfl,rfl,rfl,Nat.le_refl _,fun _ _ _=>rfl⟩ (by simp))
end Go.Proofs.YtoepdfpnkmccoaaDoor
namespace Go.Proofs.YtoepdfpnkmccoaaDoor
open Go.RowKit
theorem Tryd.infoByteI:(Tryd.prog.info? 5).map (fun i=>(i.zero,i.size,i.bytes))=some (some (.int .u8 0),1,1):=by kernel_rfl
def BR (B:Nat) (w:World) (v:Value) (l:List UInt8):Prop:=w.ownsRow B 5 1 v l.length (Lib.byteCells l)
theorem BR.lt {B:Nat} {w:World} {v:Value} {l:List UInt8} (h:BR B w v l):∀ k,v.ownBlock=some k→B ≤ k∧k < w.heap.size:=fun k hk=>World.ownsRow.lt h k hk
theorem BR.nil (B:Nat) (w:World):BR B w (.slice none 0 0) []:=World.ownsRow_nil _ _ _ _
theorem BR.slice {B:Nat} {w:World} {v:Value} {l:List UInt8} (h:BR B w v l) :
   ∃ p c,v=.slice p l.length c∧(p=none→l.length=0∧c=0)∧(∀ ad,p=some ad→∀ j u,(Lib.byteCells l)[j]? = some u→w.cell? (ad.add j)=some u)∧∀ ad,p=some ad→∃ g,ad=⟨g,0,none⟩∧B ≤ g:=by
 have hcells:=fun g hv=>World.ownsRow.cells h (g:=g) hv
 rcases h.2 with ⟨rfl,hn0⟩ | ⟨g,cap,cur,rfl,hbg,hheap,-⟩
 · refine ⟨none,0,by rw [hn0],fun _=>⟨hn0,rfl⟩,fun ad h=>(by cases h),fun ad h=>(by cases h)⟩
 · refine ⟨some ⟨g,0,none⟩,cap,rfl,fun h=>(by cases h),fun ad had j u hj=>?_,fun ad had=>⟨g,(Option.some.inj had).symm,hbg⟩⟩
   obtain rfl:=Option.some.inj had
   exact hcells g rfl j u hj
theorem BR.mono {B B':Nat} {w:World} {v:Value} {l:List UInt8} (h:BR B w v l) (hb:B' ≤ B):BR B' w v l :=
 ⟨h.1,h.2.imp id fun ⟨g,cap,cur,h1,h2,h3⟩=>⟨g,cap,cur,h1,Nat.le_trans hb h2,h3⟩⟩
theorem BR.below {B:Nat} {w w':World} {v:Value} {l:List UInt8} (h:BR B w v l) (hb:Below w.heap.size w w'):BR B w' v l :=
 World.ownsRow.kept h (row:=none) ⟨hb.os,hb.tape,hb.output,hb.size,fun k hk _=>hb.block k hk⟩ (by
   cases h:Value.ownBlock v with
   | none=>exact .inl rfl
   | some g=>exact .inr (by simp))
structure ApS (B:Nat) (w0:World) (v0:Value) (w:World) (v:Value) (l:List UInt8):Prop where
 row:BR B w v l
 grown:w0.grownBy w v0.ownBlock
 own:v.ownBlock=v0.ownBlock ∨ ∃ k,v.ownBlock=some k∧w0.heap.size ≤ k
theorem ApS.refl {B:Nat} {w:World} {v:Value} {l:List UInt8} (h:BR B w v l):ApS B w v w v l :=
 ⟨h,⟨rfl,rfl,rfl,Nat.le_refl _,fun _ _ _=>rfl⟩,.inl rfl⟩
theorem grownBy_trans {w0 w w':World} {r r':Option Nat} (h:w0.grownBy w r) (h':w.grownBy w' r') (hr:r'=r ∨ ∃ k,r'=some k∧w0.heap.size ≤ k):w0.grownBy w' r :=
 ⟨h'.os.trans h.os,h'.tape.trans h.tape,h'.output.trans h.output,Nat.le_trans h.size h'.size,fun k hk hne=>by
   rw [h'.block k (Nat.lt_of_lt_of_le hk h.size) (by
     rcases hr with rfl | ⟨m,rfl,hm⟩
     · exact hne
     · intro e;injection e;omega),h.block k hk hne]⟩
theorem ApS.trans {B:Nat} {w0 w w':World} {v0 v v':Value} {l l':List UInt8} (h:ApS B w0 v0 w v l) (h':ApS B w v w' v' l'):ApS B w0 v0 w' v' l' :=
 ⟨h'.row,grownBy_trans h.grown h'.grown h.own,by
   rcases h'.own with e | ⟨k,e,hk⟩
   · rw [e];exact h.own
   · exact .inr ⟨k,e,Nat.le_trans h.grown.size hk⟩⟩
theorem ApS.later {B:Nat} {w0 w w':World} {v0 v:Value} {l:List UInt8} (h:ApS B w0 v0 w v l) (hb:Below w.heap.size w w'):ApS B w0 v0 w' v l :=
 ⟨h.row.below hb,grownBy_trans h.grown (r':=v.ownBlock) ⟨hb.os,hb.tape,hb.output,hb.size,fun k hk _=>hb.block k hk⟩ h.own,h.own⟩
theorem ApS.alloc {B:Nat} {w0 w:World} {v0 v:Value} {l:List UInt8} (h:ApS B w0 v0 w v l) (o:Obj):ApS B w0 v0 (w.alloc o) v l:=h.later ((Below.refl _ _).alloc (Nat.le_refl _) _)
theorem ApS.keep {B:Nat} {w0 w:World} {v0 v:Value} {l:List UInt8} (h:ApS B w0 v0 w v l) {k:Nat} {o:Obj} (hk:w0.heap[k]? = some o) (hne:v0.ownBlock ≠ some k):w.heap[k]? = some o :=
 (h.grown.block k (Array.getElem?_eq_some_iff.1 hk).1 (Ne.symm hne)).trans hk
theorem ApS.below {B:Nat} {w0 w:World} {v0 v:Value} {l:List UInt8} (h:ApS B w0 v0 w v l) (h0:∀ k,v0.ownBlock=some k→B ≤ k∧k < w0.heap.size) (hB:B ≤ w0.heap.size):Below B w0 w :=
 (Below.refl B w0).grown h.grown hB (fun k hk=>(h0 k hk).1)
theorem ApS.early {B:Nat} {w w':World} {v0 v:Value} {l:List UInt8} {o:Obj} (h:ApS B (w.alloc o) v0 w' v l):ApS B w v0 w' v l :=
 ⟨h.row,grownBy_trans (World.grownBy_alloc w o v0.ownBlock) h.grown (.inl rfl),h.own.imp id fun ⟨k,e,hk⟩=>⟨k,e,by simp at hk;omega⟩⟩
def Full (B:Nat) (w:World) (v:Value) (l:List UInt8):Prop:=∃ g fz cs,v=.slice (some ⟨g,0,none⟩) l.length l.length∧B ≤ g∧w.heap[g]? = some (.cells cs 5 fz)∧cs.toList=Lib.byteCells l
def BRs (B:Nat) (w:World) (v:Value) (l:List UInt8):Prop:=BR B w v l ∨ Full B w v l
theorem BRs.lt {B:Nat} {w:World} {v:Value} {l:List UInt8} (h:BRs B w v l):∀ k,v.ownBlock=some k→B ≤ k∧k < w.heap.size:=by
 intro k hk
 rcases h with h | ⟨g,fz,cs,rfl,hg,hh,-⟩
 · exact h.lt k hk
 · simp [Value.ownBlock] at hk
   subst hk
   exact ⟨hg,(Array.getElem?_eq_some_iff.1 hh).1⟩
theorem BRs.below {B:Nat} {w w':World} {v:Value} {l:List UInt8} (h:BRs B w v l) (hb:Below w.heap.size w w'):BRs B w' v l:=by
 rcases h with h | ⟨g,fz,cs,e,hg,hh,hc⟩
 · exact .inl (h.below hb)
 · exact .inr ⟨g,fz,cs,e,hg,keep_blk hb hh,hc⟩
theorem BRs.alloc {B:Nat} {w:World} {v:Value} {l:List UInt8} (h:BRs B w v l) (o:Obj):BRs B (w.alloc o) v l:=h.below ((Below.refl _ _).alloc (Nat.le_refl _) _)
def AppEnd (B:Nat) (l:List UInt8) (v0:Value) (w:World) (e:Ending) (w':World):Prop:=∃ v,e=.returned v∧ApS B w v0 w' v l
theorem byteCells_append (l m:List UInt8):Lib.byteCells (l ++ m)=Lib.byteCells l ++ Lib.byteCells m:=by unfold Lib.byteCells;rw [List.map_append]
theorem byteCells_one (l:List UInt8):∀ u ∈ Lib.byteCells l,u.oneCell'=true:=by
 intro u hu
 unfold Lib.byteCells at hu
 obtain ⟨x,-,rfl⟩:=List.mem_map.1 hu
 rfl
theorem byteCells_len (l:List UInt8):(Lib.byteCells l).length=l.length:=by unfold Lib.byteCells;simp
theorem wp_app1 {w w0:World} {B:Nat} {v0 v:Value} {l:List UInt8} {ops:Array Oper} {rest:List Oper} {o:Oper} {a:Act} {Q:Exit→Act→World→Prop} (hgd:o.guard=none) (s x:Operand)
   (ho:o.op=.call { callee:=.builtin .append,args:=#[s,x],argTypes:=#[22,22] }) (c:UInt8) (g:Nat) (n:Int) (hn:n=(c.toNat:Int)) (hs:a.eval s=v) (hx:a.eval x=.slice (some ⟨g,0,none⟩) 1 1)
   (hg:w.cell? ⟨g,0,none⟩=some (.int .u8 n)) (hap:ApS B w0 v0 w v l) (hB:B ≤ w0.heap.size) (hlen:l.length+1 ≤ 140737488355328)
   (h:∀ v' w',ApS B w0 v0 w' v' (l ++ [c])→wpList Tryd.prog ops Q rest (a.put o.dst v') w'):wpList Tryd.prog ops Q (o :: rest) a w:=by
 obtain ⟨ie,hi,hz0,hz1,hz2⟩:=info_parts Tryd.infoByteI
 refine wpList_append_fresh w hgd s x 22 ho B 5 ie _ 1 1 Tryd.underlying22 hi hz0 hz1 hz2 rfl (by decide) v l.length _ hs hap.row ⟨g,0,none⟩ 1 1 [.int .u8 n] hx rfl ?_ ?_ (by omega) (by unfold maxLen;omega) (by omega) (Nat.le_trans hB hap.grown.size) ?_
 · intro j u hj
   match j,hj with
   | 0,hj=>simp at hj;subst hj;exact hg
 · intro u hu;simp at hu;subst hu;rfl
 · intro v' w' hown hgr hblk
   refine h v' w' (hap.trans ⟨?_,hgr, ?_⟩)
   · unfold BR
     rw [byteCells_append,List.length_append]
     subst hn
     exact hown
   · rcases hblk with e | e
     · exact .inl e
     · exact .inr ⟨_,e,Nat.le_refl _⟩
theorem wp_app1s {w:World} {B:Nat} {v:Value} {l:List UInt8} {ops:Array Oper} {rest:List Oper} {o:Oper} {a:Act} {Q:Exit→Act→World→Prop} (hgd:o.guard=none) (s x:Operand)
   (ho:o.op=.call { callee:=.builtin .append,args:=#[s,x],argTypes:=#[22,22] }) (c:UInt8) (g:Nat) (n:Int) (hn:n=(c.toNat:Int)) (hs:a.eval s=v) (hx:a.eval x=.slice (some ⟨g,0,none⟩) 1 1)
   (hg:w.cell? ⟨g,0,none⟩=some (.int .u8 n)) (hrow:BRs B w v l) (hB:B ≤ w.heap.size) (hlen:l.length+1 ≤ 140737488355328)
   (h:∀ v' w',ApS B w v w' v' (l ++ [c])→wpList Tryd.prog ops Q rest (a.put o.dst v') w'):wpList Tryd.prog ops Q (o :: rest) a w:=by
 rcases hrow with hrow | ⟨b,fz,cs,rfl,hb,hh,hcs⟩
 · exact wp_app1 hgd s x ho c g n hn hs hx hg (ApS.refl hrow) hB hlen h
 · obtain ⟨ie,hi,hz0,hz1,hz2⟩:=info_parts Tryd.infoByteI
   have hnews:∀ j u,[Value.int .u8 n][j]? = some u→w.cell? ((⟨g,0,none⟩:Addr).add j)=some u:=by
     intro j u hj
     match j,hj with
     | 0,hj=>simp at hj;subst hj;exact hg
   have holds:∀ j u,(Lib.byteCells l)[j]? = some u→w.cell? ((⟨b,0,none⟩:Addr).add j)=some u:=by
     intro j u hj
     have hadd:(⟨b,0,none⟩:Addr).add j=⟨b,j,none⟩:=by unfold Addr.add;split <;> simp_all
     rw [hadd,cell_of_row w b j cs 5 fz hh,← Array.getElem?_toList,hcs,hj]
   have hr:=run_append_grow (P:=Tryd.prog) w 22 o.type 5 ie _ Tryd.underlying22 hi hz0 ⟨b,0,none⟩ l.length l.length (Lib.byteCells l) (by rw [byteCells_len,hz1];omega) holds ⟨g,0,none⟩ 1 1 [.int .u8 n] (by rw [hz1];rfl) hnews (by omega) (by omega) (growslice_fits (by omega) (by rw [hz2];omega))
   refine wpList_plain hgd fun K hK=>?_
   unfold Oper.wp execOp
   simp only [ho,resolve,invoke,builtin,Sem.run_bind,Sem.run_pure,Result.andThen_ok,List.map_toArray,List.map_cons,List.map_nil,hs,hx,hr]
   refine hK _ _ (h _ _ ⟨?_,⟨rfl,rfl,rfl,by simp,fun k hk hne=>(World.grownBy_alloc w.drew _ _).block k hk hne⟩,.inr ⟨w.heap.size,rfl,Nat.le_refl _⟩⟩)
   have hge:=grownCap_ge w (l.length+1) l.length 5
   have hcm:grownCap w (l.length+1) l.length 5 ≤ maxLen:=grownCap_le_maxLen w (l.length+1) l.length 5 (by unfold maxLen;omega)
   have hll:(Lib.byteCells (l ++ [c])).length=(l ++ [c]).length:=byteCells_len _
   have hlc:(l ++ [c]).length=l.length+1:=by simp
   unfold BR
   rw [hlc]
   refine ⟨by rw [hll,hlc];omega,.inr ⟨w.heap.size,_,_,rfl,hB,heap_alloc_new w.drew _,hge,hcm, ?_, ?_⟩⟩
   · simp only [Array.size_append,List.size_toArray,size_zeroCells,byteCells_len,List.length_cons,List.length_nil,Value.cells]
     omega
   · subst hn
     rw [byteCells_append] at hll ⊢
     simp only [Array.toList_append,List.append_assoc]
     rw [← List.append_assoc,show (l.length+1) * 1=(Lib.byteCells l ++ [Value.int .u8 (c.toNat:Int)]).length by rw [List.length_append,byteCells_len];simp]
     exact List.take_left
theorem wp_appL {w w0:World} {B:Nat} {v:Value} {l m:List UInt8} {ops:Array Oper} {rest:List Oper} {o:Oper} {a:Act} {Q:Exit→Act→World→Prop} (hgd:o.guard=none) (s x:Operand)
   (ho:o.op=.call { callee:=.builtin .append,args:=#[s,x],argTypes:=#[22,22] }) (p:Option Addr) (cap:Nat) (hs:a.eval s=v) (hx:a.eval x=.slice p m.length cap)
   (hp:p=none→m.length=0∧cap=0) (hc:∀ ad,p=some ad→∀ j u,(Lib.byteCells m)[j]? = some u→w.cell? (ad.add j)=some u) (hrow:BR B w v l) (hb:Below B w0 w) (hB:B ≤ w.heap.size) (hlen:l.length+m.length ≤ 140737488355328)
   (h:∀ v' w',BR B w' v' (l ++ m)→Below B w0 w'→wpList Tryd.prog ops Q rest (a.put o.dst v') w'):wpList Tryd.prog ops Q (o :: rest) a w:=by
 obtain ⟨ie,hi,hz0,hz1,hz2⟩:=info_parts Tryd.infoByteI
 refine append_both w hgd s x 22 ho B 5 ie _ 1 1 Tryd.underlying22 hi hz0 hz1 hz2 rfl (by decide) v l.length _ hs hrow p m.length cap (Lib.byteCells m) hx hp (by rw [byteCells_len];omega) hc (byteCells_one m) (by unfold maxLen;omega) (by omega) hB ?_
 intro v' w' hown hgr _
 refine h v' w' ?_ (hb.grown hgr hB fun k hk=>(hrow.lt k hk).1)
 unfold BR
 rw [byteCells_append,List.length_append]
 exact hown
theorem wp_appLF {w w0:World} {B:Nat} {v:Value} {l m:List UInt8} {ops:Array Oper} {rest:List Oper} {o:Oper} {a:Act} {Q:Exit→Act→World→Prop} (hgd:o.guard=none) (s x:Operand)
   (ho:o.op=.call { callee:=.builtin .append,args:=#[s,x],argTypes:=#[22,22] }) (p:Option Addr) (cap:Nat) (hs:a.eval s=v) (hx:a.eval x=.slice p m.length cap)
   (hp:p=none→m.length=0∧cap=0) (hm:0 < m.length) (hc:∀ ad,p=some ad→∀ j u,(Lib.byteCells m)[j]? = some u→w.cell? (ad.add j)=some u) (hrow:Full B w v l) (hb:Below B w0 w) (hB:B ≤ w.heap.size) (hlen:l.length+m.length ≤ 140737488355328)
   (h:∀ v' w',BR B w' v' (l ++ m)→Below B w0 w'→wpList Tryd.prog ops Q rest (a.put o.dst v') w'):wpList Tryd.prog ops Q (o :: rest) a w:=by
 obtain ⟨b,fz,cs,rfl,hbg,hh,hcs⟩:=hrow
 cases p with
 | none=>have:=(hp rfl).1;omega
 | some ad =>
   obtain ⟨ie,hi,hz0,hz1,hz2⟩:=info_parts Tryd.infoByteI
   have holds:∀ j u,(Lib.byteCells l)[j]? = some u→w.cell? ((⟨b,0,none⟩:Addr).add j)=some u:=by
     intro j u hj
     have hadd:(⟨b,0,none⟩:Addr).add j=⟨b,j,none⟩:=by unfold Addr.add;split <;> simp_all
     rw [hadd,cell_of_row w b j cs 5 fz hh,← Array.getElem?_toList,hcs,hj]
   have hr:=run_append_grow (P:=Tryd.prog) w 22 o.type 5 ie _ Tryd.underlying22 hi hz0 ⟨b,0,none⟩ l.length l.length (Lib.byteCells l) (by rw [byteCells_len,hz1];omega) holds ad m.length cap (Lib.byteCells m) (by rw [byteCells_len,hz1];omega) (hc ad rfl) (by omega) (by omega) (growslice_fits (by omega) (by rw [hz2];omega))
   refine wpList_plain hgd fun K hK=>?_
   unfold Oper.wp execOp
   simp only [ho,resolve,invoke,builtin,Sem.run_bind,Sem.run_pure,Result.andThen_ok,List.map_toArray,List.map_cons,List.map_nil,hs,hx,hr]
   have hge:=grownCap_ge w (l.length+m.length) l.length 5
   have hcm:grownCap w (l.length+m.length) l.length 5 ≤ maxLen:=grownCap_le_maxLen w (l.length+m.length) l.length 5 (by unfold maxLen;omega)
   have hll:(Lib.byteCells (l ++ m)).length=(l ++ m).length:=byteCells_len _
   have hlc:(l ++ m).length=l.length+m.length:=List.length_append
   refine hK _ _ (h _ _ ?_ (hb.trans ⟨rfl,rfl,rfl,by simp,fun k hk=>(World.grownBy_alloc w.drew _ (some w.heap.size)).block k (by show k < w.heap.size;omega) (by intro e;injection e;omega)⟩))
   unfold BR
   rw [hlc]
   refine ⟨by rw [hll,hlc];omega,.inr ⟨w.heap.size,_,_,rfl,hB,heap_alloc_new w.drew _,hge,hcm, ?_, ?_⟩⟩
   · simp only [Array.size_append,List.size_toArray,size_zeroCells,byteCells_len,Value.cells]
     simp
     omega
   · rw [byteCells_append] at hll ⊢
     simp only [Array.toList_append,List.append_assoc]
     rw [← List.append_assoc,show (l.length+m.length) * 1=(Lib.byteCells l ++ Lib.byteCells m).length by rw [List.length_append,byteCells_len,byteCells_len];omega]
     exact List.take_left
theorem BR.new (B:Nat) (w:World) (l:List UInt8) (cs:Array Value) (n:Nat) (hcs:cs.toList=Lib.byteCells l) (hn:n=l.length) (hB:B ≤ w.heap.size) (hl:l.length ≤ 1000):BR B (w.alloc (.cells cs 5)) (.slice (some ⟨w.heap.size,0,none⟩) n n) l:=by
 subst hn
 have hsz:cs.size=l.length:=by rw [← Array.length_toList,hcs,byteCells_len]
 refine ⟨by rw [byteCells_len];omega,.inr ⟨w.heap.size,l.length,cs,rfl,hB,heap_alloc_new _ _,Nat.le_refl _,by unfold maxLen;omega,by omega, ?_⟩⟩
 rw [hcs,List.take_of_length_le (by rw [byteCells_len];omega)]
def BytesEnd (l:List UInt8) (w:World) (e:Ending) (w':World):Prop:=∃ v,e=.returned v∧BR w.heap.size w' v l∧Below w.heap.size w w'
theorem wp_app1L {w w0:World} {B:Nat} {v:Value} {l:List UInt8} {ops:Array Oper} {rest:List Oper} {o:Oper} {a:Act} {Q:Exit→Act→World→Prop} (hgd:o.guard=none) (s x:Operand)
   (ho:o.op=.call { callee:=.builtin .append,args:=#[s,x],argTypes:=#[22,22] }) (c:UInt8) (g:Nat) (n:Int) (hn:n=(c.toNat:Int)) (hs:a.eval s=v) (hx:a.eval x=.slice (some ⟨g,0,none⟩) 1 1)
   (hg:w.cell? ⟨g,0,none⟩=some (.int .u8 n)) (hrow:BR B w v l) (hb:Below B w0 w) (hB:B ≤ w.heap.size) (hlen:l.length+1 ≤ 140737488355328)
   (h:∀ v' w',BR B w' v' (l ++ [c])→Below B w0 w'→wpList Tryd.prog ops Q rest (a.put o.dst v') w'):wpList Tryd.prog ops Q (o :: rest) a w:=by
 refine wp_appL (m:=[c]) hgd s x ho (some ⟨g,0,none⟩) 1 hs hx (by simp) ?_ hrow hb hB hlen h
 intro ad had j u hj
 obtain rfl:=Option.some.inj had
 match j,hj with
 | 0,hj=>simp [Lib.byteCells] at hj;subst hj;rw [← hn];exact hg
end Go.Proofs.YtoepdfpnkmccoaaDoor
namespace Go.Proofs.YtoepdfpnkmccoaaDoor
theorem toList_loop (s:ByteArray):∀ n i r,s.size - i=n→ByteArray.toList.loop s i r=r.reverse ++ s.data.toList.drop i:=by
 intro n
 induction n with
 | zero =>
   intro i r h
   unfold ByteArray.toList.loop
   rw [if_neg (by omega),List.drop_eq_nil_of_le (by simp;show s.data.size ≤ i;have:s.data.size=s.size:=rfl;omega),List.append_nil]
 | succ n ih =>
   intro i r h
   have hi:i < s.size:=by omega
   unfold ByteArray.toList.loop
   rw [if_pos hi,ih (i+1) _ (by omega)]
   have hl:i < s.data.toList.length:=by simpa using hi
   rw [List.drop_eq_getElem_cons hl]
   have:s.get! i=s.data.toList[i]:=by
     show s.data[i]! = _
     rw [getElem!_pos s.data i hi];simp
   rw [this];simp
theorem toList_eq (s:ByteArray):s.toList=s.data.toList:=by
 show ByteArray.toList.loop s 0 []=_
 rw [toList_loop s s.size 0 [] (by omega)];simp
end Go.Proofs.YtoepdfpnkmccoaaDoor
namespace Go.Proofs.YtoepdfpnkmccoaaDoor
open Go.RowKit
def bx (l:List UInt8):ByteArray:=⟨l.toArray⟩
theorem bx_list (l:List UInt8):(bx l).toList=l:=by rw [toList_eq];simp [bx]
def BsAt (w:World) (v:Value) (l:List UInt8):Prop :=
 (v=.slice none 0 0∧l=[]) ∨ ∃ g o c,v=.slice (some ⟨g,o,none⟩) l.length c∧l.length ≤ c∧∀ j (hj:j < l.length),w.cell? ⟨g,o+j,none⟩=some (.int .u8 (l[j].toNat:Int))
theorem byteCells_get {l:List UInt8} {j:Nat} (hj:j < l.length):(Lib.byteCells l)[j]? = some (.int .u8 (l[j].toNat:Int)):=by
 unfold Lib.byteCells;rw [List.getElem?_map,List.getElem?_eq_getElem hj];rfl
theorem BR.reads {B:Nat} {w:World} {v:Value} {l:List UInt8} (h:BR B w v l):BsAt w v l:=by
 rcases h.2 with ⟨rfl,hn⟩ | ⟨g,cap,cur,rfl,hb,hg,hnc,hcm,hcs,ht⟩
 · exact .inl ⟨rfl,List.length_eq_zero_iff.1 hn⟩
 · refine .inr ⟨g,0,cap,rfl,hnc,fun j hj=>?_⟩
   have:=World.ownsRow.cells h (g:=g) rfl j _ (byteCells_get hj)
   have hadd:(⟨g,0,none⟩:Addr).add j=⟨g,0+j,none⟩:=by unfold Addr.add;split <;> simp_all
   rw [hadd] at this;exact this
theorem BsAt.keep {w w':World} {v:Value} {l:List UInt8} (h:BsAt w v l) (hk:∀ b,b < w.heap.size→w'.heap[b]? = w.heap[b]?):BsAt w' v l:=by
 rcases h with h | ⟨g,o,c,e,hc,hr⟩
 · exact .inl h
 · refine .inr ⟨g,o,c,e,hc,fun j hj=>?_⟩
   have h1:=hr j hj
   rw [← h1]
   unfold World.cell?
   rw [hk g (block_lt_of_cell h1)]
theorem BsAt.below {w w':World} {v:Value} {l:List UInt8} (h:BsAt w v l) (hb:Below w.heap.size w w'):BsAt w' v l:=h.keep fun b hb'=>hb.block b hb'
theorem to_str {w:World} {v:Value} {l:List UInt8} (h:BsAt w v l):(convert 22 9 v).run Tryd.prog w=.ok (.string (bx l)) w:=by
 rcases h with ⟨rfl,rfl⟩ | ⟨g,o,c,rfl,hc,hr⟩
 · exact run_convert_bytes_nil (P:=Tryd.prog) w 22 5 Tryd.underlying22 Tryd.underlying5 0 0 9 Tryd.underlying9
 · refine run_convert_bytes_back (P:=Tryd.prog) w 22 9 5 ⟨g,o,none⟩ c l Tryd.underlying22 Tryd.underlying5 Tryd.underlying9 fun j hj=>?_
   have hadd:(⟨g,o,none⟩:Addr).add j=⟨g,o+j,none⟩:=by unfold Addr.add;split <;> simp_all
   rw [hadd];exact hr j hj
theorem BsAt.len {w:World} {v:Value} {l:List UInt8} (h:BsAt w v l):∃ p c,v=.slice p l.length c∧l.length ≤ c:=by
 rcases h with ⟨rfl,rfl⟩ | ⟨g,o,c,rfl,hc,-⟩
 · exact ⟨none,0,rfl,Nat.le_refl _⟩
 · exact ⟨_,c,rfl,hc⟩
theorem results_row_one {P:Program} {fn:Func} {p q:Tmp} {ty:TypeId} (h:fn.results=#[.cell p ty,.tmp q]) (tmps:Array Value) (w:World) (g:Nat) (t:TypeId) (cs:Array Value) (fr:Nat × Nat) (d:TypeDesc) (y:Value)
   (hp:tmps.getD p undef=.pointer (some ⟨g,0,none⟩)) (hy:tmps.getD q undef=y) (hg:w.heap[g]? = some (.cells cs t fr))
   (hu:P.underlying ty=some d) (hd:(match d with | .struct _ | .array _ _=>true | _=>false)=true) (hi:(P.info? ty).map (·.size)=some cs.size) :
   (results fn tmps).run P w=.ok (.tuple #[.agg cs,y]) w:=by
 have hp':tmps[p]?.getD undef=.pointer (some ⟨g,0,none⟩):=by simpa using hp
 have hy':tmps[q]?.getD undef=y:=by simpa using hy
 simp [results,h,hp',hy',asAddr,run_loadVar_row w g t ty cs fr d hg hu hd hi]
end Go.Proofs.YtoepdfpnkmccoaaDoor
namespace Go.Proofs.YtoepdfpnkmccoaaDoor
namespace Im
def valB:List UInt8→Nat
 | []=>0
 | b :: l=>b.toNat % 128+128 * valB l
def lastB:List UInt8→Option Nat
 | []=>none
 | b :: l=>if b.toNat < 128 then some 0 else match lastB l with
   | some k=>some (k+1)
   | none=>none
theorem lastB_spec:∀ {l:List UInt8} {k:Nat},lastB l=some k→k < l.length∧(∀ j,j < k→128 ≤ (l.getD j 0).toNat)∧(l.getD k 0).toNat < 128
 | [],k,h=>by simp [lastB] at h
 | b :: l,k,h=>by
   rw [lastB] at h
   split at h
   · rename_i hb
     obtain rfl:0=k:=Option.some.inj h
     exact ⟨by simp,fun j hj=>by omega,by simpa using hb⟩
   · rename_i hb
     split at h
     · rename_i k' hk
       obtain rfl:k'+1=k:=Option.some.inj h
       obtain ⟨h1,h2,h3⟩:=lastB_spec hk
       refine ⟨by simp;omega,fun j hj=>?_,by simpa using h3⟩
       cases j with
       | zero=>simp;omega
       | succ j=>have:=h2 j (by omega);simpa using this
     · cases h
theorem lastB_of:∀ {l:List UInt8} {k:Nat},k < l.length→(∀ j,j < k→128 ≤ (l.getD j 0).toNat)→(l.getD k 0).toNat < 128→lastB l=some k
 | [],k,h,_,_=>by simp at h
 | b :: l,0,_,_,h=>by rw [lastB,if_pos (by simpa using h)]
 | b :: l,k+1,hk,h1,h2=>by
   have h0:=h1 0 (by omega)
   rw [lastB,if_neg (by simpa using h0),lastB_of (l:=l) (k:=k) (by simpa using hk) (fun j hj=>by have:=h1 (j+1) (by omega);simpa using this) (by simpa using h2)]
theorem lastB_no:∀ {l:List UInt8},(∀ j,j < l.length→128 ≤ (l.getD j 0).toNat)→lastB l=none
 | [],_=>rfl
 | b :: l,h=>by
   have h0:=h 0 (by simp)
   rw [lastB,if_neg (by simpa using h0),lastB_no (l:=l) (fun j hj=>by have:=h (j+1) (by simpa using hj);simpa using this)]
def rdNum (l:List UInt8):Option (Nat × List UInt8) :=
 match lastB l with
 | none=>none
 | some k=>if 0 < k∧(l.getD k 0).toNat=0 then none else if 2147483647 < valB (l.take (k+1)) then none else some (valB (l.take (k+1)),l.drop (k+1))
def valW:List UInt8→Nat
 | []=>0
 | b :: l=>b.toNat+256 * valW l
def wordOf (l:List UInt8) (i:Nat):BitVec 64:=BitVec.ofNat 64 (valW ((l.drop (8 * i)).take 8))
def rdS (f:List UInt8→Option (Tr × List UInt8)):Nat→List UInt8→Option (List Tr × List UInt8)
 | 0,l=>some ([],l)
 | n+1,l=>match f l with
   | none=>none
   | some (t,r)=>match rdS f n r with
     | none=>none
     | some (ts,r')=>some (t :: ts,r')
def rdBare:List UInt8→Option (Bool × List UInt8)
 | []=>none
 | b :: l=>if 1 < b.toNat then none else some (b.toNat == 1,l)
def rdRep (l:List UInt8):Option (Int × Int × Bool × List UInt8) :=
 match rdNum l with
 | none=>none
 | some (lo,l1)=>match rdNum l1 with
   | none=>none
   | some (hi,l2)=>match rdBare l2 with
     | none=>none
     | some (br,l3)=>some ((lo:Int),(hi:Int) - 1,br,l3)
def rdHead (k:Int) (l:List UInt8):Option (Tr × Nat × List UInt8) :=
 if k=2 then (if 32 ≤ l.length then some (.node 2 (wordOf l 0) (wordOf l 1) (wordOf l 2) (wordOf l 3) [] 0 0 0 false,0,l.drop 32) else none)
 else if k=5 ∨ k=6 then (match rdNum l with
   | none=>none
   | some (n,r)=>some (.node k 0#64 0#64 0#64 0#64 [] 0 0 0 false,n,r))
 else if k=7 then (match rdNum l with
   | none=>none
   | some (n,r)=>some (.node k 0#64 0#64 0#64 0#64 [] n 0 0 false,1,r))
 else if k=8 then (match rdRep l with
   | none=>none
   | some (lo,hi,br,r)=>some (.node k 0#64 0#64 0#64 0#64 [] 0 lo hi br,1,r))
 else some (.node k 0#64 0#64 0#64 0#64 [] 0 0 0 false,0,l)
def withSubs (t:Tr) (ts:List Tr):Tr:=.node t.kind t.w0 t.w1 t.w2 t.w3 ts t.num t.least t.most t.bare
def rdT:Nat→List UInt8→Option (Tr × List UInt8)
 | 0,_=>none
 | _+1,[]=>none
 | room+1,k :: l=>match rdHead k.toNat l with
   | none=>none
   | some (h,n,r)=>match rdS (rdT room) n r with
     | none=>none
     | some (ts,r')=>some (withSubs h ts,r')
end Im
end Go.Proofs.YtoepdfpnkmccoaaDoor
namespace Go.Proofs.YtoepdfpnkmccoaaDoor
open Go.RowKit
theorem small_any (c:UInt8) (w:World):Calls Tryd.prog 97 #[.int .u8 (c.toNat:Int)] w fun e w'=>e=.returned (.bool (decide (c.toNat < 128)))∧w'=w:=by
 have h:decide ((c.toNat:Int) < 128)=decide (c.toNat < 128):=by
   by_cases h:c.toNat < 128
   · rw [decide_eq_true h,decide_eq_true (by omega)]
   · rw [decide_eq_false h,decide_eq_false (by omega)]
 go_enter Tryd.func97,Tryd.ntmps97
 go_wp2
 go_ret
 exact ⟨by simp,rfl⟩
def idxV (l:List UInt8):Int:=match Im.lastB l with
 | some k=>k
 | none=>-1
theorem index_any (l:List UInt8) (hl:l.length ≤ 140737488351232) (v:Value) (w:World) (hv:BsAt w v l):Calls Tryd.prog 96 #[v,.func (.func 97) #[] #[]] w fun e w'=>e=.returned (.int .i64 (idxV l))∧w'=w:=by
 have HV:=Lib.hid hv
 obtain ⟨p,c,rfl,hc⟩:=hv.len
 have HS:=Lib.hid (fun c w=>small_any c w)
 clear hv
 go_enter Tryd.func96,Tryd.ntmps96
 go_wp2
 go_loopw [8] (fun iv wr=>∃ m:Nat,iv=.int .i64 m∧m ≤ l.length∧Hid (∀ j,j < m→128 ≤ (l.getD j 0).toNat)∧w=wr) (fun iv _=>l.length - (intOf iv).toNat)
 case atStart=>exact ⟨0,rfl,Nat.zero_le _,Lib.hid (fun j hj=>absurd hj (Nat.not_lt_zero _)),rfl⟩
 case round =>
   obtain ⟨m,rfl,hm,HALL,rfl⟩:=hrel
   have wm:IntKind.i64.wrap ((m:Int)+1)=(m:Int)+1:=IntWalk.i64_in _ (by omega)
   by_cases hlt:m < l.length
   · have hgd:l.getD m 0=l[m]:=by simp [List.getD,List.getElem?_eq_getElem hlt]
     rcases HV.out with ⟨h1,h2⟩ | ⟨g,o,c',he,hc',hr⟩
     · subst h2;simp at hlt
     injection he with he1 he2 he3
     subst he1
     have hcell:=hr m hlt
     have HGD:=Lib.hid hgd
     clear hgd hr he2 he3 hc'
     generalize l[m]=b at *
     go_wp2_with fail
     refine (HS.out b _).mono ?_
     rintro e w1 ⟨rfl,rfl⟩
     by_cases hb:b.toNat < 128
     · have e1:decide (b.toNat < 128)=true:=decide_eq_true hb
       have hi:idxV l=(m:Int):=by unfold idxV;rw [Im.lastB_of hlt HALL.out (by rw [HGD.out];exact hb)]
       rw [e1]
       have HI:=Lib.hid hi
       clear hi hb
       go_wp2
       go_ret
       exact ⟨by rw [HI.out];rfl,rfl⟩
     · have e1:decide (b.toNat < 128)=false:=decide_eq_false hb
       rw [e1]
       have HN:=Lib.hid (show ∀ j,j < m+1→128 ≤ (l.getD j 0).toNat from fun j hj=>by
         rcases Nat.lt_or_ge j m with h | h
         · exact HALL.out j h
         · obtain rfl:j=m:=by omega
           rw [HGD.out];omega)
       clear hb
       go_wp2
       exact ⟨⟨m+1,by go_num,by omega,HN,trivial⟩,by simp [intOf];omega⟩
   · obtain rfl:m=l.length:=by omega
     have hi:idxV l = -1:=by unfold idxV;rw [Im.lastB_no HALL.out]
     have HI:=Lib.hid hi
     clear hi
     go_wp2
     go_ret
     exact ⟨by rw [HI.out];rfl,rfl⟩
def RdI (W0 w:World) (R:Nat) (l:List UInt8):Prop:=∃ v,w.heap[R]? = some (.cells #[v] 81)∧BsAt W0 v l
theorem cut_size (w:World):(sizeOf (Tryd.prog.elem 22)).run Tryd.prog w=.ok 1 w:=by kernel_rfl
theorem cut_hi (g o L c n:Nat) (h:n ≤ c) (w:World):(Instr.slice 22 (.slice (some ⟨g,o,none⟩) L c) none (some (.int .i64 (n:Int))) none).run Tryd.prog w=.ok (.slice (some ⟨g,o,none⟩) n c) w:=by
 have ha:(⟨g,o,none⟩:Addr).add 0=⟨g,o,none⟩:=by unfold Addr.add;simp
 rw [run_slice_h w 22 (some ⟨g,o,none⟩) L c Tryd.underlying22 .i64 (n:Int) (by omega) (by omega),cut_size]
 simp only [Result.andThen,sliced,Option.map_some,Int.toNat_natCast,Nat.zero_mul,Nat.sub_zero,ha,ite_self]
theorem cut_lo (g o L c n:Nat) (h:n ≤ L) (hL:L ≤ c):∃ o',(n < L→o'=o+n)∧∀ w:World,(Instr.slice 22 (.slice (some ⟨g,o,none⟩) L c) (some (.int .i64 (n:Int))) none none).run Tryd.prog w=.ok (.slice (some ⟨g,o',none⟩) (L - n) (c - n)) w:=by
 have ha:∀ n,(⟨g,o,none⟩:Addr).add n=⟨g,o+n,none⟩:=fun n=>by unfold Addr.add;split <;> simp_all
 have key:∀ w,(Instr.slice 22 (.slice (some ⟨g,o,none⟩) L c) (some (.int .i64 (n:Int))) none none).run Tryd.prog w=.ok (sliced (some ⟨g,o,none⟩) n L c 1) w:=fun w=>by
   rw [run_slice_l w 22 (some ⟨g,o,none⟩) L c Tryd.underlying22 .i64 (n:Int) (by omega) (by omega),cut_size]
   simp only [Result.andThen,Int.toNat_natCast]
 by_cases hc:c=n
 · refine ⟨o,fun h2=>by omega,fun w=>?_⟩
   rw [key]
   unfold sliced
   rw [if_pos hc]
 · refine ⟨o+n,fun _=>rfl,fun w=>?_⟩
   rw [key]
   unfold sliced
   rw [if_neg hc,Option.map_some,ha,Nat.mul_one]
theorem BsAt.take {w:World} {g o c:Nat} {l:List UInt8} (hr:∀ j (hj:j < l.length),w.cell? ⟨g,o+j,none⟩=some (.int .u8 (l[j].toNat:Int))) {n:Nat} (hn:n ≤ l.length) (hc:l.length ≤ c):BsAt w (.slice (some ⟨g,o,none⟩) n c) (l.take n):=by
 have hl:(l.take n).length=n:=by rw [List.length_take];omega
 refine .inr ⟨g,o,c,by rw [hl],by omega,fun j hj=>?_⟩
 rw [hl] at hj
 rw [hr j (by omega)];simp
theorem BsAt.drop {w:World} {g o o' c:Nat} {l:List UInt8} (hr:∀ j (hj:j < l.length),w.cell? ⟨g,o+j,none⟩=some (.int .u8 (l[j].toNat:Int))) {n:Nat} (hn:n ≤ l.length) (hc:l.length ≤ c) (ho:n < l.length→o'=o+n):BsAt w (.slice (some ⟨g,o',none⟩) (l.length - n) (c - n)) (l.drop n):=by
 have hl:(l.drop n).length=l.length - n:=List.length_drop
 refine .inr ⟨g,o',c - n,by rw [hl],by omega,fun j hj=>?_⟩
 rw [hl] at hj
 rw [ho (by omega),show o+n+j=o+(n+j) by omega,hr (n+j) (by omega)];simp
theorem take_yes (W0 w:World) (R:Nat) (l:List UInt8) (n:Nat) (hn0:0 < n) (hn:n ≤ l.length) (hl:l.length ≤ 140737488351232) (hr:RdI W0 w R l) :
   Calls Tryd.prog 57 #[.pointer (some ⟨R,0,none⟩),.int .i64 n] w fun e w'=>(∃ v,e=.returned (.tuple #[v,.bool true])∧BsAt W0 v (l.take n))∧RdI W0 w' R (l.drop n)∧w.grownBy w' (some R):=by
 obtain ⟨v,hh,hb⟩:=hr
 rcases hb with ⟨rfl,h2⟩ | ⟨g,o,c,rfl,hc,hrd⟩
 · subst h2;simp at hn;omega
 have c0:w.cell? ⟨R,0,none⟩=some (.slice (some ⟨g,o,none⟩) l.length c):=by simp [World.cell?,hh]
 have f0:w.frozen? ⟨R,0,none⟩=false:=by simp [World.frozen?,hh]
 have hz:decide ((l.length:Int) < n)=false:=by simp;omega
 have hz':decide (l.length < n)=false:=by simp;omega
 have ch:=cut_hi g o l.length c n (by omega)
 obtain ⟨o',ho,cl⟩:=cut_lo g o l.length c n hn hc
 have HT:=Lib.hid (BsAt.take hrd hn hc);have HD:=Lib.hid (BsAt.drop hrd hn hc ho)
 have HS:=Lib.hid (show (w.setCell ⟨R,0,none⟩ (.slice (some ⟨g,o',none⟩) (l.length - n) (c - n))).heap[R]? = some (.cells #[.slice (some ⟨g,o',none⟩) (l.length - n) (c - n)] 81) by simp [World.setCell,Array.getElem?_modify,hh])
 have HG:=Lib.hid (show w.grownBy (w.setCell ⟨R,0,none⟩ (.slice (some ⟨g,o',none⟩) (l.length - n) (c - n))) (some R) from ⟨rfl,rfl,rfl,by simp,fun k hk hne=>Below.heap_setCell _ _ _ _ (fun e=>hne (by rw [e]))⟩)
 clear hh hrd ho
 generalize l.length=L at *
 generalize l.take n=l1 at *
 generalize l.drop n=l2 at *
 generalize L - n=L2 at *
 generalize c - n=c2 at *
 go_enter Tryd.func57,Tryd.ntmps57
 go_wp2
 go_ret2
 exact ⟨⟨_,rfl,HT.out⟩,⟨_,HS.out,HD.out⟩,HG.out⟩
theorem take_no (W0 w:World) (R:Nat) (l:List UInt8) (n:Nat) (hn:l.length < n) (hr:RdI W0 w R l) :
   Calls Tryd.prog 57 #[.pointer (some ⟨R,0,none⟩),.int .i64 n] w fun e w'=>e=.returned (.tuple #[.slice none 0 0,.bool false])∧w'=w:=by
 obtain ⟨v,hh,hb⟩:=hr
 obtain ⟨p,c,rfl,hc⟩:=hb.len
 have c0:w.cell? ⟨R,0,none⟩=some (.slice p l.length c):=by simp [World.cell?,hh]
 have hz:decide ((l.length:Int) < n)=true:=by simp;omega
 have hz':decide (l.length < n)=true:=by simp;omega
 go_enter Tryd.func57,Tryd.ntmps57
 go_wp2
 go_ret2
 exact ⟨rfl,rfl⟩
end Go.Proofs.YtoepdfpnkmccoaaDoor
namespace Go.Proofs.YtoepdfpnkmccoaaDoor
open Go.RowKit
namespace Tr
def noSet (t:Tr):Bool:=Oc.U t.w0 == 0 && (Oc.U t.w1 == 0 && (Oc.U t.w2 == 0 && Oc.U t.w3 == 0))
def noCounts (t:Tr):Bool:=t.least == 0 && t.most == 0 && !t.bare
def countsV (lo hi:Int) (br:Bool):Bool:=!(decide (lo < 0) || decide (255 < lo) || (br && lo != 0)) && (hi == -1 || (decide (lo ≤ hi) && decide (hi ≤ 255)))
def countsB (t:Tr):Bool:=countsV t.least t.most t.bare
def fieldsB (t:Tr):Bool :=
 if t.kind=1 ∨ t.kind=3 ∨ t.kind=4 then t.noSet && (t.num == 0) && t.noCounts && (t.subs.length == 0)
 else if t.kind=2 then (t.num == 0) && t.noCounts && (t.subs.length == 0)
 else if t.kind=5 ∨ t.kind=6 then t.noSet && (t.num == 0) && t.noCounts && decide (2 ≤ t.subs.length)
 else if t.kind=7 then t.noSet && t.noCounts && (t.subs.length == 1) && decide (1 ≤ t.num) && decide (t.num ≤ 999)
 else if t.kind=8 then t.noSet && (t.num == 0) && (t.subs.length == 1) && t.countsB
 else false
mutual
def formB:Tr→Bool
 | .node k a b c d s n lo hi br=>fieldsB (.node k a b c d s n lo hi br) && formS s
def formS:List Tr→Bool
 | []=>true
 | t :: l=>formB t && formS l
end
theorem formB_eq (t:Tr):t.formB=(t.fieldsB && formS t.subs):=by cases t;rw [formB];rfl
theorem formS_append:∀ a b:List Tr,formS (a ++ b)=(formS a && formS b)
 | [],b=>by simp [formS]
 | t :: a,b=>by rw [List.cons_append,formS,formS,formS_append a b,Bool.and_assoc]
theorem formS_take (l:List Tr) (m:Nat) (x:Tr) (h:l[m]? = some x):formS (l.take (m+1))=(formS (l.take m) && x.formB):=by
 rw [List.take_add_one,h,Option.toList_some,formS_append,formS,formS];simp
theorem formS_no {l:List Tr} {m:Nat} (h:formS (l.take m)=false):formS l=false:=by
 have e:=congrArg formS (List.take_append_drop m l)
 rw [formS_append,h] at e
 rw [← e];rfl
theorem U_zero {x:BitVec 64} : (Oc.U x == 0)=true ↔ x=0#64:=by
 rw [beq_iff_eq]
 refine ⟨fun h=>Oc.U_inj (h.trans (by decide)),fun h=>by subst h;decide⟩
theorem noSet_iff (t:Tr):t.noSet=true ↔ t.w0=0#64∧t.w1=0#64∧t.w2=0#64∧t.w3=0#64:=by
 unfold noSet;rw [Bool.and_eq_true,Bool.and_eq_true,Bool.and_eq_true,U_zero,U_zero,U_zero,U_zero]
theorem fieldsB_iff (t:Tr):t.fieldsB=true ↔ t.fieldsOk:=by
 have hs:=noSet_iff t
 have hn:t.noCounts=true ↔ t.least=0∧t.most=0∧t.bare=false:=by
   unfold noCounts;simp [and_assoc]
 have hc:t.countsB=true ↔ 0 ≤ t.least∧t.least ≤ 255∧(t.most = -1 ∨ (t.least ≤ t.most∧t.most ≤ 255))∧(t.bare=true→t.least=0):=by
   unfold countsB countsV
   cases t.bare <;> simp <;> omega
 unfold fieldsB fieldsOk
 by_cases h1:t.kind=1 ∨ t.kind=3 ∨ t.kind=4
 · rw [if_pos h1]
   simp only [Bool.and_eq_true,hs,hn,beq_iff_eq,List.length_eq_zero_iff]
   constructor
   · rintro ⟨⟨⟨⟨a,b,c,d⟩,e⟩,f,g,h⟩,i⟩;exact .inl ⟨h1,a,b,c,d,i,e,f,g,h⟩
   · rintro (⟨-,a,b,c,d,i,e,f,g,h⟩ | ⟨h,-⟩ | ⟨h,-⟩ | ⟨h,-⟩ | ⟨h,-⟩)
     · exact ⟨⟨⟨⟨a,b,c,d⟩,e⟩,f,g,h⟩,i⟩
     all_goals omega
 rw [if_neg h1]
 by_cases h2:t.kind=2
 · rw [if_pos h2]
   simp only [Bool.and_eq_true,hn,beq_iff_eq,List.length_eq_zero_iff]
   constructor
   · rintro ⟨⟨e,f,g,h⟩,i⟩;exact .inr (.inl ⟨h2,i,e,f,g,h⟩)
   · rintro (⟨h,-⟩ | ⟨-,i,e,f,g,h⟩ | ⟨h,-⟩ | ⟨h,-⟩ | ⟨h,-⟩)
     · omega
     · exact ⟨⟨e,f,g,h⟩,i⟩
     all_goals omega
 rw [if_neg h2]
 by_cases h5:t.kind=5 ∨ t.kind=6
 · rw [if_pos h5]
   simp only [Bool.and_eq_true,hs,hn,beq_iff_eq,decide_eq_true_eq]
   constructor
   · rintro ⟨⟨⟨⟨a,b,c,d⟩,e⟩,f,g,h⟩,i⟩;exact .inr (.inr (.inl ⟨h5,a,b,c,d,i,e,f,g,h⟩))
   · rintro (⟨h,-⟩ | ⟨h,-⟩ | ⟨-,a,b,c,d,i,e,f,g,h⟩ | ⟨h,-⟩ | ⟨h,-⟩)
     · omega
     · omega
     · exact ⟨⟨⟨⟨a,b,c,d⟩,e⟩,f,g,h⟩,i⟩
     all_goals omega
 rw [if_neg h5]
 by_cases h7:t.kind=7
 · rw [if_pos h7]
   simp only [Bool.and_eq_true,hs,hn,beq_iff_eq,decide_eq_true_eq]
   constructor
   · rintro ⟨⟨⟨⟨⟨a,b,c,d⟩,f,g,h⟩,i⟩,j⟩,l⟩;exact .inr (.inr (.inr (.inl ⟨h7,a,b,c,d,i,j,l,f,g,h⟩)))
   · rintro (⟨h,-⟩ | ⟨h,-⟩ | ⟨h,-⟩ | ⟨-,a,b,c,d,i,j,l,f,g,h⟩ | ⟨h,-⟩)
     · omega
     · omega
     · omega
     · exact ⟨⟨⟨⟨⟨a,b,c,d⟩,f,g,h⟩,i⟩,j⟩,l⟩
     · omega
 rw [if_neg h7]
 by_cases h8:t.kind=8
 · rw [if_pos h8]
   simp only [Bool.and_eq_true,hs,hc,beq_iff_eq]
   constructor
   · rintro ⟨⟨⟨⟨a,b,c,d⟩,e⟩,i⟩,f,g,h,j⟩;exact .inr (.inr (.inr (.inr ⟨h8,a,b,c,d,i,e,f,g,h,j⟩)))
   · rintro (⟨h,-⟩ | ⟨h,-⟩ | ⟨h,-⟩ | ⟨h,-⟩ | ⟨-,a,b,c,d,i,e,f,g,h,j⟩)
     · omega
     · omega
     · omega
     · omega
     · exact ⟨⟨⟨⟨a,b,c,d⟩,e⟩,i⟩,f,g,h,j⟩
 rw [if_neg h8]
 constructor
 · intro h;cases h
 · rintro (⟨h,-⟩ | ⟨h,-⟩ | ⟨h,-⟩ | ⟨h,-⟩ | ⟨h,-⟩) <;> omega
theorem formS_all:∀ {l:List Tr},(∀ t,t ∈ l→(t.formB=true ↔ t.InForm))→(formS l=true ↔ ∀ t,t ∈ l→t.InForm)
 | [],_=>by simp [formS]
 | t :: l,h=>by
   rw [formS,Bool.and_eq_true,h t List.mem_cons_self,formS_all (fun u hu=>h u (List.mem_cons_of_mem _ hu))]
   constructor
   · rintro ⟨h1,h2⟩ u hu
     rcases List.mem_cons.1 hu with rfl | hu
     · exact h1
     · exact h2 u hu
   · intro h1;exact ⟨h1 t List.mem_cons_self,fun u hu=>h1 u (List.mem_cons_of_mem _ hu)⟩
theorem formB_iff (t:Tr):t.formB=true ↔ t.InForm:=by
 induction t using Tr.rec_subs with
 | h t ih =>
   rw [formB_eq,Bool.and_eq_true,fieldsB_iff,formS_all (fun u hu=>ih u hu)]
   exact ⟨fun h=>.mk t h.1 h.2,fun h=>⟨h.fields,fun u hu=>h.sub hu⟩⟩
end Tr
theorem counts_any (k:Int) (a b c d:BitVec 64) (us:List Tr) (n lo hi:Int) (br:Bool) (p:Option Addr) (l cap:Nat) (w:World) :
   Calls Tryd.prog 116 #[.agg #[.int .i64 k,.int .u64 (Oc.U a),.int .u64 (Oc.U b),.int .u64 (Oc.U c),.int .u64 (Oc.U d),.slice p l cap,.int .i64 n,.int .i64 lo,.int .i64 hi,.bool br]] w fun e w'=>e=.returned (.bool (Tr.countsB (.node k a b c d us n lo hi br)))∧Below w.heap.size w w':=by
 obtain ⟨R,hR⟩:∃ R,Tr.countsV lo hi br=R:=⟨_,rfl⟩
 rw [show Tr.countsB (.node k a b c d us n lo hi br)=Tr.countsV lo hi br from rfl,hR]
 unfold Tr.countsV at hR
 have c1:decide (lo < 0)=true ∨ decide (lo < 0)=false:=by cases decide (lo < 0) <;> simp
 have c2:decide (255 < lo)=true ∨ decide (255 < lo)=false:=by cases decide (255 < lo) <;> simp
 have c3:(lo != 0)=true ∨ (lo != 0)=false:=by cases (lo != 0) <;> simp
 have c4:(hi == -1)=true ∨ (hi == -1)=false:=by cases (hi == -1) <;> simp
 have c5:decide (lo ≤ hi)=true ∨ decide (lo ≤ hi)=false:=by cases decide (lo ≤ hi) <;> simp
 have c6:decide (hi ≤ 255)=true ∨ decide (hi ≤ 255)=false:=by cases decide (hi ≤ 255) <;> simp
 rcases c1 with c1 | c1 <;> rcases c2 with c2 | c2 <;> rcases c3 with c3 | c3 <;> rcases c4 with c4 | c4 <;> rcases c5 with c5 | c5 <;> rcases c6 with c6 | c6 <;> cases br <;> (
   rw [c1,c2,c3,c4,c5,c6] at hR
   subst hR
   go_enter Tryd.func116,Tryd.ntmps116
   go_wp2
   go_ret
   exact ⟨rfl,by go_grown⟩)
theorem bool_or (x:Bool):x=true ∨ x=false:=by cases x <;> simp
theorem treefields_any (k:Int) (a b c d:BitVec 64) (us:List Tr) (n lo hi:Int) (br:Bool) (p:Option Addr) (cap:Nat) (hlen:us.length * 96 ≤ 140737488351232) (w:World) :
   Calls Tryd.prog 88 #[.agg #[.int .i64 k,.int .u64 (Oc.U a),.int .u64 (Oc.U b),.int .u64 (Oc.U c),.int .u64 (Oc.U d),.slice p us.length cap,.int .i64 n,.int .i64 lo,.int .i64 hi,.bool br]] w fun e w'=>e=.returned (.bool (Tr.fieldsB (.node k a b c d us n lo hi br)))∧Below w.heap.size w w':=by
 have he:=eq4
 obtain ⟨S,hS⟩:∃ S,(Oc.U a == 0 && (Oc.U b == 0 && (Oc.U c == 0 && Oc.U d == 0)))=S:=⟨_,rfl⟩
 obtain ⟨NB,hN⟩:∃ NB,(n == 0)=NB:=⟨_,rfl⟩
 obtain ⟨C,hC⟩:∃ C,(lo == 0 && hi == 0 && !br)=C:=⟨_,rfl⟩
 obtain ⟨R,hR⟩:∃ R,Tr.fieldsB (.node k a b c d us n lo hi br)=R:=⟨_,rfl⟩
 have HCT:=Lib.hid (counts_any k a b c d us n lo hi br p us.length cap)
 rw [hR]
 have hR2:(if k=1 ∨ k=3 ∨ k=4 then S && NB && C && (us.length == 0) else if k=2 then NB && C && (us.length == 0) else if k=5 ∨ k=6 then S && NB && C && decide (2 ≤ us.length) else if k=7 then S && C && (us.length == 1) && decide (1 ≤ n) && decide (n ≤ 999) else if k=8 then S && NB && (us.length == 1) && Tr.countsB (.node k a b c d us n lo hi br) else false)=R:=by
   rw [← hR,← hS,← hN,← hC];rfl
 clear hR
 obtain ⟨Q,hQ⟩:∃ Q,Tr.countsB (.node k a b c d us n lo hi br)=Q:=⟨_,rfl⟩
 rw [hQ] at HCT hR2
 have hl0:((us.length:Int) == 0)=(us.length == 0):=by
   by_cases h:us.length=0
   · rw [h];rfl
   · have e1:(us.length == 0)=false:=by rw [beq_eq_false_iff_ne];exact h
     have e2:((us.length:Int) == 0)=false:=by rw [beq_eq_false_iff_ne];omega
     rw [e1,e2]
 have hl1:((us.length:Int) == 1)=(us.length == 1):=by
   by_cases h:us.length=1
   · rw [h];rfl
   · have e1:(us.length == 1)=false:=by simpa using h
     have e2:((us.length:Int) == 1)=false:=by simp;omega
     rw [e1,e2]
 have hl2:decide ((2:Int) ≤ us.length)=decide (2 ≤ us.length):=by
   by_cases h:2 ≤ us.length
   · have e1:decide (2 ≤ us.length)=true:=by simpa using h
     have e2:decide ((2:Int) ≤ us.length)=true:=by simp;omega
     rw [e1,e2]
   · have e1:decide (2 ≤ us.length)=false:=by simpa using h
     have e2:decide ((2:Int) ≤ us.length)=false:=by simp;omega
     rw [e1,e2]
 have HL0:=Lib.hid hl0;have HL1:=Lib.hid hl1;have HL2:=Lib.hid hl2;have HR:=Lib.hid hR2;have HC:=Lib.hid hC
 clear hl0 hl1 hl2 hR2 hC hQ hlen
 have Z0:=Lib.hid (heap_alloc_new w (.cells #[.int .i64 k,.int .u64 (Oc.U a),.int .u64 (Oc.U b),.int .u64 (Oc.U c),.int .u64 (Oc.U d),.slice p us.length cap,.int .i64 n,.int .i64 lo,.int .i64 hi,.bool br] 29))
 have HW:=Lib.hid (show Below w.heap.size w (w.alloc (.cells #[.int .i64 k,.int .u64 (Oc.U a),.int .u64 (Oc.U b),.int .u64 (Oc.U c),.int .u64 (Oc.U d),.slice p us.length cap,.int .i64 n,.int .i64 lo,.int .i64 hi,.bool br] 29)) from (Below.refl _ _).alloc (Nat.le_refl _) _)
 go_enter Tryd.func88,Tryd.ntmps88
 go_upto_region 4 with (fail)
 generalize w.alloc (.cells #[.int .i64 k,.int .u64 (Oc.U a),.int .u64 (Oc.U b),.int .u64 (Oc.U c),.int .u64 (Oc.U d),.slice p us.length cap,.int .i64 n,.int .i64 lo,.int .i64 hi,.bool br] 29)=W0 at *
 obtain ⟨d0,d1,d2,d3,d4,d5,d6,d7,d8,d9⟩:=allTen Z0.out
 go_cut [6] (fun u wx=>u=.bool C∧W0=wx)
 case first =>
   have hC:=HC.out
   rcases bool_or (lo == 0) with q1 | q1 <;> rcases bool_or (hi == 0) with q2 | q2 <;> cases br <;> (
     rw [q1,q2] at hC
     subst hC
     go_wp2
     go_meet
     exact ⟨rfl,rfl⟩)
 case rest =>
   obtain ⟨rfl,rfl⟩:=hcut
   clear HC
   have hR:=HR.out
   have hl0:=HL0.out;have hl1:=HL1.out;have hl2:=HL2.out
   clear HR HL0 HL1 HL2
   by_cases kk1:k=1
   · subst kk1
     rw [if_pos (by decide)] at hR
     clear hl1 hl2
     cases S <;> cases NB <;> cases C <;> rcases bool_or (us.length == 0) with q3 | q3 <;> (
       rw [q3] at hR
       rw [q3] at hl0
       subst hR
       go_wp2
       go_ret
       exact ⟨rfl,HW.out⟩)
   have n1:(k == 1)=false:=by simpa using kk1
   by_cases kk3:k=3
   · subst kk3
     rw [if_pos (by decide)] at hR
     clear hl1 hl2
     cases S <;> cases NB <;> cases C <;> rcases bool_or (us.length == 0) with q3 | q3 <;> (
       rw [q3] at hR
       rw [q3] at hl0
       subst hR
       go_wp2
       go_ret
       exact ⟨rfl,HW.out⟩)
   have n3:(k == 3)=false:=by simpa using kk3
   by_cases kk4:k=4
   · subst kk4
     rw [if_pos (by decide)] at hR
     clear hl1 hl2
     cases S <;> cases NB <;> cases C <;> rcases bool_or (us.length == 0) with q3 | q3 <;> (
       rw [q3] at hR
       rw [q3] at hl0
       subst hR
       go_wp2
       go_ret
       exact ⟨rfl,HW.out⟩)
   have n4:(k == 4)=false:=by simpa using kk4
   by_cases kk2:k=2
   · subst kk2
     rw [if_neg (by decide),if_pos rfl] at hR
     clear hl1 hl2
     cases NB <;> cases C <;> rcases bool_or (us.length == 0) with q2 | q2 <;> (
       rw [q2] at hR
       rw [q2] at hl0
       subst hR
       go_wp2
       go_ret
       exact ⟨rfl,HW.out⟩)
   have n2:(k == 2)=false:=by simpa using kk2
   by_cases kk5:k=5
   · subst kk5
     rw [if_neg (by decide),if_neg (by decide),if_pos (by decide)] at hR
     clear hl0 hl1
     cases S <;> cases NB <;> cases C <;> rcases bool_or (decide (2 ≤ us.length)) with q3 | q3 <;> (
       rw [q3] at hR
       rw [q3] at hl2
       subst hR
       go_wp2
       go_ret
       exact ⟨rfl,HW.out⟩)
   have n5:(k == 5)=false:=by simpa using kk5
   by_cases kk6:k=6
   · subst kk6
     rw [if_neg (by decide),if_neg (by decide),if_pos (by decide)] at hR
     clear hl0 hl1
     cases S <;> cases NB <;> cases C <;> rcases bool_or (decide (2 ≤ us.length)) with q3 | q3 <;> (
       rw [q3] at hR
       rw [q3] at hl2
       subst hR
       go_wp2
       go_ret
       exact ⟨rfl,HW.out⟩)
   have n6:(k == 6)=false:=by simpa using kk6
   by_cases kk7:k=7
   · subst kk7
     rw [if_neg (by decide),if_neg (by decide),if_neg (by decide),if_pos rfl] at hR
     clear hl0 hl2
     cases S <;> cases C <;> rcases bool_or (us.length == 1) with q2 | q2 <;> rcases bool_or (decide (1 ≤ n)) with q3 | q3 <;> rcases bool_or (decide (n ≤ 999)) with q4 | q4 <;> (
       rw [q2,q3,q4] at hR
       rw [q2] at hl1
       subst hR
       go_wp2
       go_ret
       exact ⟨rfl,HW.out⟩)
   have n7:(k == 7)=false:=by simpa using kk7
   by_cases kk8:k=8
   · subst kk8
     rw [if_neg (by decide),if_neg (by decide),if_neg (by decide),if_neg (by decide),if_pos rfl] at hR
     clear hl0 hl2
     rcases bool_or (us.length == 1) with q1 | q1
     · cases S with
       | true =>
         cases NB with
         | true =>
           rw [q1,Bool.true_and,Bool.true_and,Bool.true_and] at hR
           rw [q1] at hl1
           subst hR
           go_wp2_with fail
           refine (HCT.out _).mono ?_;rintro e w2 ⟨rfl,hb2⟩
           have HB2:=Lib.hid (HW.out.trans (hb2.mono HW.out.size))
           clear hb2
           go_wp2
           go_ret
           exact ⟨rfl,HB2.out⟩
         | false =>
           rw [q1] at hR hl1
           subst hR
           go_wp2
           go_ret
           exact ⟨rfl,HW.out⟩
       | false =>
         rw [q1] at hR hl1
         subst hR
         cases NB <;> (
           go_wp2
           go_ret
           exact ⟨rfl,HW.out⟩)
     · rw [q1] at hR hl1
       rw [Bool.and_false,Bool.false_and] at hR
       subst hR
       cases S <;> cases NB <;> (
         go_wp2
         go_ret
         exact ⟨rfl,HW.out⟩)
   have n8:(k == 8)=false:=by simpa using kk8
   rw [if_neg (by omega),if_neg kk2,if_neg (by omega),if_neg kk7,if_neg kk8] at hR
   subst hR
   clear hl0 hl1 hl2 kk1 kk2 kk3 kk4 kk5 kk6 kk7 kk8
   go_wp2
   go_ret
   exact ⟨rfl,HW.out⟩
theorem treeinform_any:∀ t:Tr,∀ (w:World) (B:Nat→Prop) (v:Value),NodeV w B v t→Calls Tryd.prog 49 #[v] w fun e w'=>e=.returned (.bool t.formB)∧Below w.heap.size w w':=by
 intro t
 induction t using Tr.rec_subs with
 | h t ih =>
   intro w B v hv
   obtain ⟨s,rfl,hs⟩:=hv
   obtain ⟨p,cap,rfl,hlen⟩:=hs.slice
   have hfl:=fun w=>treefields_any t.kind t.w0 t.w1 t.w2 t.w3 t.subs t.num t.least t.most t.bare p cap hlen w
   rw [← Tr.eta t] at hfl
   rw [Tr.formB_eq]
   have HF:=Lib.hid hfl
   clear hfl
   generalize hts:t.subs=ts at *
   have IH:=Lib.hid ih;have HS:=Lib.hid hs
   clear ih hs hts
   unfold Tr.cells at *
   generalize t.fieldsB=FB at *
   obtain ⟨R,hR⟩:∃ R,(FB && Tr.formS ts)=R:=⟨_,rfl⟩
   rw [hR]
   have HR:=Lib.hid hR
   clear hR
   have Z0:=Lib.hid (heap_alloc_new w (.cells #[.int .i64 t.kind,.int .u64 (Oc.U t.w0),.int .u64 (Oc.U t.w1),.int .u64 (Oc.U t.w2),.int .u64 (Oc.U t.w3),.slice p ts.length cap,.int .i64 t.num,.int .i64 t.least,.int .i64 t.most,.bool t.bare] 29))
   have HW:=Lib.hid (show Below w.heap.size w (w.alloc (.cells #[.int .i64 t.kind,.int .u64 (Oc.U t.w0),.int .u64 (Oc.U t.w1),.int .u64 (Oc.U t.w2),.int .u64 (Oc.U t.w3),.slice p ts.length cap,.int .i64 t.num,.int .i64 t.least,.int .i64 t.most,.bool t.bare] 29)) from (Below.refl _ _).alloc (Nat.le_refl _) _)
   go_enter Tryd.func49,Tryd.ntmps49
   go_wp2_with (first
     | (refine wpList_load_row rfl 29 (.tmp 1) rfl w.heap.size rfl 29 _ (0,0) _ Z0.out Tryd.underlying29 rfl (by kernel_rfl) ?_)
     | fail)
   refine (HF.out _).mono ?_
   rintro e W0 ⟨rfl,hb1⟩
   have Z1:=Lib.hid (keep_blk (hb1.mono (Nat.le_refl _)) Z0.out)
   have HB1:=Lib.hid (HW.out.trans (hb1.mono HW.out.size))
   obtain ⟨d0,d1,d2,d3,d4,d5,d6,d7,d8,d9⟩:=allTen Z1.out
   clear hb1 Z0 HW HF
   cases FB with
   | false =>
     have hr:=HR.out
     rw [Bool.false_and] at hr
     subst hr
     go_wp2
     go_ret
     exact ⟨rfl,HB1.out⟩
   | true =>
     have hr:=HR.out
     rw [Bool.true_and] at hr
     have HR2:=Lib.hid hr
     clear hr HR
     go_wp2
     clear d0 d1 d2 d3 d4 d5 d6 d7 d8 d9
     go_loopw [11] (fun iv wr=>∃ m:Nat,iv=.int .i64 m∧m ≤ ts.length∧Hid (Tr.formS (ts.take m)=true)∧Hid (Below w.heap.size w wr)) (fun iv _=>ts.length - (intOf iv).toNat)
     case atStart=>exact ⟨0,rfl,Nat.zero_le _,Lib.hid rfl,HB1⟩
     case round =>
       obtain ⟨m,rfl,hm,HT,HB⟩:=hrel
       have wm:IntKind.i64.wrap ((m:Int)+1)=(m:Int)+1:=IntWalk.i64_in _ (by omega)
       by_cases hlt:m < ts.length
       · obtain ⟨x,hx⟩:∃ x,ts[m]? = some x:=⟨_,List.getElem?_eq_getElem hlt⟩
         obtain ⟨b1,o1,s1,rfl,-,t1,sub1⟩:=HS.out.get hx
         obtain ⟨d0,d1,d2,d3,d4,d5,d6,d7,d8,d9⟩:=t1.keep (HB.out.block _ t1.lt)
         have hmem:=List.mem_of_getElem? hx
         obtain ⟨p1,c1,rfl,hl1⟩:=sub1.slice
         have HC:=Lib.hid (fun w9 hb=>IH.out x hmem w9 B (.agg (x.cells (.slice p1 x.subs.length c1))) ⟨_,rfl,sub1.later hb⟩)
         have hst:=Tr.formS_take ts m x hx
         rw [HT.out,Bool.true_and] at hst
         have HST:=Lib.hid hst
         clear t1 sub1 hmem hx hst
         unfold Tr.cells at HC
         have hbx:Below wr.heap.size wr (wr.alloc (.cells #[.int .i64 x.kind,.int .u64 (Oc.U x.w0),.int .u64 (Oc.U x.w1),.int .u64 (Oc.U x.w2),.int .u64 (Oc.U x.w3),.slice p1 x.subs.length c1,.int .i64 x.num,.int .i64 x.least,.int .i64 x.most,.bool x.bare] 29)):=(Below.refl _ _).alloc (Nat.le_refl _) _
         have HBX:=Lib.hid (HB.out.trans (hbx.mono HB.out.size))
         have ZX:=Lib.hid (heap_alloc_new wr (.cells #[.int .i64 x.kind,.int .u64 (Oc.U x.w0),.int .u64 (Oc.U x.w1),.int .u64 (Oc.U x.w2),.int .u64 (Oc.U x.w3),.slice p1 x.subs.length c1,.int .i64 x.num,.int .i64 x.least,.int .i64 x.most,.bool x.bare] 29))
         clear hbx
         go_upto_region 6 with (fail)
         generalize wr.alloc (.cells #[.int .i64 x.kind,.int .u64 (Oc.U x.w0),.int .u64 (Oc.U x.w1),.int .u64 (Oc.U x.w2),.int .u64 (Oc.U x.w3),.slice p1 x.subs.length c1,.int .i64 x.num,.int .i64 x.least,.int .i64 x.most,.bool x.bare] 29)=w1 at *
         clear d0 d1 d2 d3 d4 d5 d6 d7 d8 d9
         go_wp2_with (first
           | (refine wpList_load_row rfl 29 (.tmp 4) rfl wr.heap.size rfl 29 _ (0,0) _ ZX.out Tryd.underlying29 rfl (by kernel_rfl) ?_)
           | fail)
         refine (HC.out w1 HBX.out).mono ?_
         rintro e w2 ⟨rfl,hb2⟩
         have HB2:=Lib.hid (HBX.out.trans (hb2.mono HBX.out.size))
         clear hb2 HC ZX
         cases hxf:x.formB with
         | false =>
           rw [hxf] at HST
           have hr:=HR2.out
           rw [Tr.formS_no HST.out] at hr
           subst hr
           clear hxf
           go_wp2
           go_ret
           exact ⟨rfl,HB2.out⟩
         | true =>
           rw [hxf] at HST
           clear hxf
           go_wp2
           exact ⟨⟨m+1,by go_num,by omega,HST,HB2⟩,by simp [intOf];omega⟩
       · obtain rfl:m=ts.length:=by omega
         rw [List.take_length] at *
         have hr:=HR2.out
         rw [HT.out] at hr
         subst hr
         go_wp2
         go_ret
         exact ⟨rfl,HB.out⟩
end Go.Proofs.YtoepdfpnkmccoaaDoor
namespace Go.Proofs.YtoepdfpnkmccoaaDoor
open Go.RowKit Go.Extern.Stop Go.Stop Go.Extern
inductive Chain (w:World) (a:Addr):Nat→Value→Prop
 | base:Chain w a 0 (.iface 171 (.pointer (some a)))
theorem Chain.iface {w:World} {a:Addr} {n:Nat} {v:Value} (h:Chain w a n v):∃ t p,v=.iface t p:=by cases h <;> exact ⟨_,_,rfl⟩
theorem Chain.of_cells {w w':World} {a:Addr} {n:Nat} {v:Value} (h:Chain w a n v) (hc:∀ p x,w.cell? ⟨p,1,none⟩=some x→w'.cell? ⟨p,1,none⟩=some x):Chain w' a n v:=by
 induction h with
 | base=>have _:=hc;exact .base
def cmpX : Array Value → Sem Value := Extern.ReflectliteType.method fun t => do Extern.Rtype.noPackHeld "Comparable" t; pure (.bool (← typeInfo t).comparable)
theorem Tryd.isTypeOf {N:Nat} (hN:N=Tryd.prog.globals.size) (v:Value) (w:World):(Extern.ReflectliteType.typeOf #[.iface 171 v]).run Tryd.prog w=.ok (.iface 150 (.agg #[.pointer (some ⟨N,171,none⟩)])) w:=by subst hN;kernel_rfl
theorem Tryd.isComparable {N:Nat} (hN:N=Tryd.prog.globals.size) (w:World):(cmpX #[.agg #[.pointer (some ⟨N,171,none⟩)]]).run Tryd.prog w=.ok (.bool true) w:=by subst hN;kernel_rfl
theorem Tryd.isMethodComparable (n : Nat) (v : Value) (w : World) : (Go.method (n + 1) 150 v "Comparable").run Tryd.prog w = .ok (143, v) w := by kernel_rfl
theorem Tryd.isComp:(Tryd.prog.info? 171).map (·.comparable)=some true:=by kernel_rfl
theorem Tryd.isSize:(Tryd.prog.info? 196).map (·.size)=some 1:=by kernel_rfl
theorem Tryd.noIsE (v:Value) (xT:TypeId) (w:World):(Instr.typeAssert (.iface 171 v) xT 152 true).run Tryd.prog w=.ok (.tuple #[.nilIface,.bool false]) w:=run_typeAssert_lacksB Tryd.underlying152 (by kernel_rfl) (by kernel_rfl) v xT w
theorem Tryd.noUnwrapE (v:Value) (xT:TypeId) (w:World):(Instr.typeAssert (.iface 171 v) xT 155 true).run Tryd.prog w=.ok (.tuple #[.nilIface,.bool false]) w:=run_typeAssert_lacksB Tryd.underlying155 (by kernel_rfl) (by kernel_rfl) v xT w
theorem Tryd.noUnwrapsE (v:Value) (xT:TypeId) (w:World):(Instr.typeAssert (.iface 171 v) xT 157 true).run Tryd.prog w=.ok (.tuple #[.nilIface,.bool false]) w:=run_typeAssert_lacksB Tryd.underlying157 (by kernel_rfl) (by kernel_rfl) v xT w
theorem is_in (a b:Addr) (n:Nat) (v:Value) (w:World) (hch:Chain w a n v) (ca cb:Array Value) (ta tb:TypeId) (ha:w.heap[a.block]? = some (.cells ca ta (0,0))) (hb:w.heap[b.block]? = some (.cells cb tb (0,0))) :
   Calls Tryd.prog 65 #[v,.iface 171 (.pointer (some b)),.bool true] w fun e w'=>e=.returned (.bool (decide (a=b)))∧w=w':=by
 obtain ⟨i,hi,hcmp⟩:=Option.map_eq_some_iff.1 Tryd.isComp
 obtain ⟨j,hj,hjs⟩:=Option.map_eq_some_iff.1 Tryd.isSize
 have nE:=Tryd.noIsE
 have uE:=Tryd.noUnwrapE
 have vE:=Tryd.noUnwrapsE
 have heq:(binOp .eql 31 (.iface 171 (.pointer (some a))) (.iface 171 (.pointer (some b)))).run Tryd.prog w=.ok (.bool (decide (a=b))) w:=by
   by_cases hab:a=b
   · subst hab
     rw [run_eql_iface_ptr_same (P:=Tryd.prog) w a Tryd.underlying31 Tryd.underlying171 hi hcmp hj];simp
   · rw [run_eql_iface_ptr_other (P:=Tryd.prog) w Tryd.underlying31 Tryd.underlying171 hi hcmp hj (by rw [hjs];decide) hab ha hb];simp [hab]
 generalize decide (a=b)=r at heq ⊢
 clear hi hcmp hj hjs ha hb
 have HCH:=Lib.hid hch
 clear hch
 go_enter Tryd.func65,Tryd.ntmps65
 go_wp2_with fail
 go_loopg [0] n (fun k x wr=>wr=w∧Hid (Chain w a k x))
 case atStart=>exact ⟨rfl,HCH.out⟩
 case round =>
   obtain ⟨rfl,HC⟩:=hrel
   rcases HC.out with ⟨⟩
   · cases r with
     | true =>
       go_wp2
       go_ret
       exact ⟨rfl,rfl⟩
     | false =>
       go_wp2
       go_ret
       exact ⟨rfl,rfl⟩
theorem is_any (a b:Addr) (n:Nat) (v:Value) (w:World) (hch:Chain w a n v) (ca cb:Array Value) (ta tb:TypeId) (ha:w.heap[a.block]? = some (.cells ca ta (0,0))) (hb:w.heap[b.block]? = some (.cells cb tb (0,0))) :
   Calls Tryd.prog 37 #[v,.iface 171 (.pointer (some b))] w fun e w'=>e=.returned (.bool (decide (a=b)))∧w=w':=by
 have h8:=@run_callFunc_extern Tryd.prog 64 _ Extern.ReflectliteType.typeOf Tryd.func64 (by kernel_rfl) (by kernel_rfl) (by kernel_rfl) (by kernel_rfl)
 have h32:=@run_callFunc_extern Tryd.prog 143 _ cmpX Tryd.func143 (by kernel_rfl) (by kernel_rfl) (by kernel_rfl) (by kernel_rfl)
 obtain ⟨N,hN⟩:∃ N,N=Tryd.prog.globals.size:=⟨_,rfl⟩
 have tT:=Tryd.isTypeOf hN
 have cT:=Tryd.isComparable hN
 clear hN
 have mR:=Tryd.isMethodComparable
 have hin:=is_in a b n v w hch ca cb ta tb ha hb
 obtain ⟨t,q,rfl⟩:=hch.iface
 have HIN:=Lib.hid hin
 clear hin ha hb hch
 go_enter Tryd.func37,Tryd.ntmps37
 go_wp2_with (go_at_call 65;refine HIN.out.mono ?_;rintro e w' ⟨rfl,rfl⟩)
 go_ret
 exact ⟨rfl,rfl⟩
end Go.Proofs.YtoepdfpnkmccoaaDoor
namespace Go.Proofs.YtoepdfpnkmccoaaDoor
open Go.ChangeShapes Go.WideShapes Go.ChangeAt Go.RowKit
def Sent (W:World) (g:Nat) (t:List UInt8) (a:Addr):Prop :=
 W.cell? ⟨g,0,none⟩=some (.iface 171 (.pointer (some a)))∧g < W.heap.size∧a.block < W.heap.size∧(∃ s,W.cell? a=some (.string s)∧s.data.toList=t∧s.size ≤ maxLen)∧∃ c ty,W.heap[a.block]? = some (.cells c ty (0,0))
theorem Sent.below {W W':World} {g:Nat} {t:List UInt8} {a:Addr} (h:Sent W g t a) (hb:Below W.heap.size W W'):Sent W' g t a:=by
 obtain ⟨h1,h2,h3,⟨s,h4,h5,h6⟩,c,ty,h7⟩:=h
 exact ⟨(hb.cell (p:=⟨g,0,none⟩) h2).trans h1,Nat.lt_of_lt_of_le h2 hb.size,Nat.lt_of_lt_of_le h3 hb.size,⟨s,(hb.cell h3).trans h4,h5,h6⟩,c,ty,(hb.block _ h3).trans h7⟩
theorem Sent.apart {W:World} {g g':Nat} {t t':List UInt8} {a a':Addr} (h:Sent W g t a) (h':Sent W g' t' a') (hne:t ≠ t'):a ≠ a':=by
 rintro rfl
 obtain ⟨-,-,-,⟨s,h4,h5,-⟩,-⟩:=h
 obtain ⟨-,-,-,⟨s',h4',h5',-⟩,-⟩:=h'
 rw [h4] at h4'
 simp only [Option.some.injEq,Value.string.injEq] at h4'
 subst h4'
 exact hne (h5.symm.trans h5')
def sentDatum (t : List UInt8) : DataW Unit := .iface "*errors.errorString" (.ptr (.agg [.lit (.string t)]))
theorem Tryd.starE : "*" ++ "errors.errorString" = "*errors.errorString" := by decide
theorem Tryd.rowE (u : TypeId) (h : Tryd.prog.typeName? 3 u = some "*errors.errorString") : u = 171 :=
 typeName_ptr_named (nm := "errors.errorString") (by rw [Tryd.starE]; kernel_rfl) (by kernel_rfl) (by decide) u (by rw [Tryd.starE]; exact h)
theorem Tryd.cellsE:Tryd.prog.cellsOf 196=1:=by kernel_rfl
theorem Tryd.cellsStr:Tryd.prog.cellsOf 9=1:=by kernel_rfl
theorem block_lt {W:World} {b:Nat} {o:Obj} (h:W.heap[b]? = some o):b < W.heap.size:=(Array.getElem?_eq_some_iff.1 h).1
theorem sent_head_any {P:Program} {n nm:String} {text:List UInt8} {r:List (String × DataW Unit)} {W:World} {g:Nat} {ti tp te ts:TypeId} {ms:Array (String × TypeId)} {f:Field}
   (h:laidMet P ((n,.iface nm (.ptr (.agg [.lit (.string text)]))) :: r) W)
   (hg:P.globalNamed n=some g) (ht:(P.globals[g]?).map (·.type)=some ti) (hi:P.underlying ti=some (.interface ms)) (hrow:∀ u,P.typeName? 3 u=some nm→u=tp)
   (hp:P.underlying tp=some (.pointer te)) (he:P.underlying te=some (.struct #[f])) (hft:f.type=ts) (hfo:f.offset=0) (hs:P.underlying ts=some .string) (hc:P.cellsOf te=1) (hcs:P.cellsOf ts=1) :
   ∃ (a:Addr) (s:ByteArray) (c0 c1:Array Value) (t0 t1:TypeId),W.cell? ⟨g,0,none⟩=some (.iface tp (.pointer (some a)))∧W.cell? a=some (.string s)∧s.data.toList=text∧s.size ≤ maxLen∧W.heap[a.block]? = some (.cells c0 t0 (0,0))∧W.heap[g]? = some (.cells c1 t1 (0,0)):=by
 obtain ⟨ps,⟨g0,t0,cs0,f0,p0,q0,hg0,ht0,hv0,hd0,_,e0⟩,_,hrows⟩:=h
 obtain rfl:=Option.some.inj (hg.symm.trans hg0)
 obtain rfl:=Option.some.inj (ht.symm.trans ht0)
 subst e0
 obtain ⟨l0⟩:=cs0
 have ok0:∀ u v,l0=[.iface u v]→Value.okWide P W .any 0 u v:=fun u v e=>by
   subst e
   exact (hrows g 0 (by simp [MemPlace.row])).2 u v (by simpa using World.var?_cell hg0 hv0 0)
 obtain ⟨a0,s0,rfl,hc0,hs0,hz0,rfl⟩:=errorString_of_trod hi hrow hp he hft hfo hs hc hcs hd0 ok0
 obtain ⟨c0,t1,hb0⟩:=(hrows a0.block a0.off (by simp [MemPlace.row])).1
 obtain ⟨c1,t2,hb1⟩:=(hrows g 0 (by simp [MemPlace.row])).1
 exact ⟨a0,s0,c0,c1,t1,t2,by simpa using World.var?_cell hg0 hv0 0,hc0,hs0,hz0,hb0,hb1⟩
theorem sent_head {n:String} {t:List UInt8} {r:List (String × DataW Unit)} {W:World} {g:Nat} (h:laidMet Tryd.prog ((n,sentDatum t) :: r) W) (hg:Tryd.prog.globalNamed n=some g) (ht:(Tryd.prog.globals[g]?).map (·.type)=some 31) :
   ∃ a,Sent W g t a:=by
 obtain ⟨a,s,c0,c1,t0,t1,h1,h2,h3,h4,h5,h6⟩:=sent_head_any h hg ht Tryd.underlying31 Tryd.rowE Tryd.underlying171 Tryd.underlying196 rfl rfl Tryd.underlying9 Tryd.cellsE Tryd.cellsStr
 exact ⟨a,h1,block_lt h6,block_lt h5,⟨s,h2,h3,h4⟩,c0,t0,h5⟩
theorem sent_of:∀ {l:List (String × DataW Unit)} {W:World},laidMet Tryd.prog l W→∀ {n t g},(n,sentDatum t) ∈ l→Tryd.prog.globalNamed n=some g→(Tryd.prog.globals[g]?).map (·.type)=some 31→∃ a,Sent W g t a
 | [],_,_,_,_,_,hm,_,_=>by cases hm
 | x :: l,W,h,n,t,g,hm,hg,ht=>by
   rcases List.mem_cons.1 hm with e | hm
   · subst e;exact sent_head h hg ht
   · exact sent_of h.tail hm hg ht
end Go.Proofs.YtoepdfpnkmccoaaDoor
namespace Go.Proofs.YtoepdfpnkmccoaaDoor
open Go.ChangeShapes Go.WideShapes Go.ChangeAt Go.RowKit
def errWords:List (List UInt8):=[[98,114,97,99,107,101,116],[112,97,114,101,110,116,104,101,115,105,115],[98,114,97,99,101],[99,111,117,110,116],[114,97,110,103,101],[99,108,97,115,115],[99,111,108,108,97,116,105,110,103],[101,115,99,97,112,101],[114,101,112,101,97,116],[116,111,111,32,98,105,103],[110,101,115,116,105,110,103],[108,111,110,103],[116,114,101,101],[100,101,101,112],[97,114,103,117,109,101,110,116],[110,111,32,109,97,116,99,104],[105,109,97,103,101],[109,97,110,121],[111,112,116,105,111,110],[99,111,109,109,97,110,100],[99,108,111,115,101,100]]
def errPre:List UInt8:=[116,114,97,119,108,58,32]
def errVars:List Nat:=[1,2,3,4,5,6,7,8,9,10,11,12,13,14,15,16,0,17,18,19,20]
def Errs (W:World) (A:Nat→Addr):Prop:=∀ k,k < 21→Sent W (errVars.getD k 0) (errPre ++ errWords.getD k []) (A k)
theorem Errs.below {W W':World} {A:Nat→Addr} (h:Errs W A) (hb:Below W.heap.size W W'):Errs W' A:=fun k hk=>(h k hk).below hb
theorem errWords_apart:∀ i,i < 21→∀ j,j < 21→i ≠ j→errPre ++ errWords.getD i [] ≠ errPre ++ errWords.getD j []:=by decide +kernel
theorem Errs.apart {W:World} {A:Nat→Addr} (h:Errs W A) {i j:Nat} (hi:i < 21) (hj:j < 21) (hne:i ≠ j):A i ≠ A j:=(h i hi).apart (h j hj) (errWords_apart i hi j hj hne)
def errList : List (String × DataW Unit) := [("trawl/api.ErrBracket", Rows.laid_trawl_api_ErrBracket), ("trawl/api.ErrParen", Rows.laid_trawl_api_ErrParen), ("trawl/api.ErrBrace", Rows.laid_trawl_api_ErrBrace), ("trawl/api.ErrCount", Rows.laid_trawl_api_ErrCount), ("trawl/api.ErrRange", Rows.laid_trawl_api_ErrRange), ("trawl/api.ErrClass", Rows.laid_trawl_api_ErrClass), ("trawl/api.ErrCollate", Rows.laid_trawl_api_ErrCollate), ("trawl/api.ErrEscape", Rows.laid_trawl_api_ErrEscape), ("trawl/api.ErrRepeat", Rows.laid_trawl_api_ErrRepeat), ("trawl/api.ErrTooBig", Rows.laid_trawl_api_ErrTooBig), ("trawl/api.ErrNest", Rows.laid_trawl_api_ErrNest), ("trawl/api.ErrLong", Rows.laid_trawl_api_ErrLong), ("trawl/api.ErrTree", Rows.laid_trawl_api_ErrTree), ("trawl/api.ErrDeep", Rows.laid_trawl_api_ErrDeep), ("trawl/api.ErrArgument", Rows.laid_trawl_api_ErrArgument), ("trawl/api.ErrNoMatch", Rows.laid_trawl_api_ErrNoMatch), ("trawl/api.ErrImage", Rows.laid_trawl_api_ErrImage), ("trawl/api.ErrMany", Rows.laid_trawl_api_ErrMany), ("trawl/api.ErrOption", Rows.laid_trawl_api_ErrOption), ("trawl/api.ErrCommand", Rows.laid_trawl_api_ErrCommand), ("trawl/api.ErrClosed", Rows.laid_trawl_api_ErrClosed)]
theorem errs_one {W:World} {l:List (String × DataW Unit)} (h:laidMet Tryd.prog l W) (hl:∀ x,x ∈ errList→x ∈ l):∀ k,k < 21→∃ a,Sent W (errVars.getD k 0) (errPre ++ errWords.getD k []) a
 | 0, _ => sent_of h (hl _ (show ("trawl/api.ErrBracket", sentDatum (errPre ++ errWords.getD 0 [])) ∈ errList from List.mem_cons_self)) (by kernel_rfl) (by kernel_rfl)
 | 1, _ => sent_of h (hl _ (show ("trawl/api.ErrParen", sentDatum (errPre ++ errWords.getD 1 [])) ∈ errList from (List.mem_cons_of_mem _ List.mem_cons_self))) (by kernel_rfl) (by kernel_rfl)
 | 2, _ => sent_of h (hl _ (show ("trawl/api.ErrBrace", sentDatum (errPre ++ errWords.getD 2 [])) ∈ errList from (List.mem_cons_of_mem _ (List.mem_cons_of_mem _ List.mem_cons_self)))) (by kernel_rfl) (by kernel_rfl)
 | 3, _ => sent_of h (hl _ (show ("trawl/api.ErrCount", sentDatum (errPre ++ errWords.getD 3 [])) ∈ errList from (List.mem_cons_of_mem _ (List.mem_cons_of_mem _ (List.mem_cons_of_mem _ List.mem_cons_self))))) (by kernel_rfl) (by kernel_rfl)
 | 4, _ => sent_of h (hl _ (show ("trawl/api.ErrRange", sentDatum (errPre ++ errWords.getD 4 [])) ∈ errList from (List.mem_cons_of_mem _ (List.mem_cons_of_mem _ (List.mem_cons_of_mem _ (List.mem_cons_of_mem _ List.mem_cons_self)))))) (by kernel_rfl) (by kernel_rfl)
 | 5, _ => sent_of h (hl _ (show ("trawl/api.ErrClass", sentDatum (errPre ++ errWords.getD 5 [])) ∈ errList from (List.mem_cons_of_mem _ (List.mem_cons_of_mem _ (List.mem_cons_of_mem _ (List.mem_cons_of_mem _ (List.mem_cons_of_mem _ List.mem_cons_self))))))) (by kernel_rfl) (by kernel_rfl)
 | 6, _ => sent_of h (hl _ (show ("trawl/api.ErrCollate", sentDatum (errPre ++ errWords.getD 6 [])) ∈ errList from (List.mem_cons_of_mem _ (List.mem_cons_of_mem _ (List.mem_cons_of_mem _ (List.mem_cons_of_mem _ (List.mem_cons_of_mem _ (List.mem_cons_of_mem _ List.mem_cons_self)))))))) (by kernel_rfl) (by kernel_rfl)
 | 7, _ => sent_of h (hl _ (show ("trawl/api.ErrEscape", sentDatum (errPre ++ errWords.getD 7 [])) ∈ errList from (List.mem_cons_of_mem _ (List.mem_cons_of_mem _ (List.mem_cons_of_mem _ (List.mem_cons_of_mem _ (List.mem_cons_of_mem _ (List.mem_cons_of_mem _ (List.mem_cons_of_mem _ List.mem_cons_self))))))))) (by kernel_rfl) (by kernel_rfl)
 | 8, _ => sent_of h (hl _ (show ("trawl/api.ErrRepeat", sentDatum (errPre ++ errWords.getD 8 [])) ∈ errList from (List.mem_cons_of_mem _ (List.mem_cons_of_mem _ (List.mem_cons_of_mem _ (List.mem_cons_of_mem _ (List.mem_cons_of_mem _ (List.mem_cons_of_mem _ (List.mem_cons_of_mem _ (List.mem_cons_of_mem _ List.mem_cons_self)))))))))) (by kernel_rfl) (by kernel_rfl)
 | 9, _ => sent_of h (hl _ (show ("trawl/api.ErrTooBig", sentDatum (errPre ++ errWords.getD 9 [])) ∈ errList from (List.mem_cons_of_mem _ (List.mem_cons_of_mem _ (List.mem_cons_of_mem _ (List.mem_cons_of_mem _ (List.mem_cons_of_mem _ (List.mem_cons_of_mem _ (List.mem_cons_of_mem _ (List.mem_cons_of_mem _ (List.mem_cons_of_mem _ List.mem_cons_self))))))))))) (by kernel_rfl) (by kernel_rfl)
 | 10, _ => sent_of h (hl _ (show ("trawl/api.ErrNest", sentDatum (errPre ++ errWords.getD 10 [])) ∈ errList from (List.mem_cons_of_mem _ (List.mem_cons_of_mem _ (List.mem_cons_of_mem _ (List.mem_cons_of_mem _ (List.mem_cons_of_mem _ (List.mem_cons_of_mem _ (List.mem_cons_of_mem _ (List.mem_cons_of_mem _ (List.mem_cons_of_mem _ (List.mem_cons_of_mem _ List.mem_cons_self)))))))))))) (by kernel_rfl) (by kernel_rfl)
 | 11, _ => sent_of h (hl _ (show ("trawl/api.ErrLong", sentDatum (errPre ++ errWords.getD 11 [])) ∈ errList from (List.mem_cons_of_mem _ (List.mem_cons_of_mem _ (List.mem_cons_of_mem _ (List.mem_cons_of_mem _ (List.mem_cons_of_mem _ (List.mem_cons_of_mem _ (List.mem_cons_of_mem _ (List.mem_cons_of_mem _ (List.mem_cons_of_mem _ (List.mem_cons_of_mem _ (List.mem_cons_of_mem _ List.mem_cons_self))))))))))))) (by kernel_rfl) (by kernel_rfl)
 | 12, _ => sent_of h (hl _ (show ("trawl/api.ErrTree", sentDatum (errPre ++ errWords.getD 12 [])) ∈ errList from (List.mem_cons_of_mem _ (List.mem_cons_of_mem _ (List.mem_cons_of_mem _ (List.mem_cons_of_mem _ (List.mem_cons_of_mem _ (List.mem_cons_of_mem _ (List.mem_cons_of_mem _ (List.mem_cons_of_mem _ (List.mem_cons_of_mem _ (List.mem_cons_of_mem _ (List.mem_cons_of_mem _ (List.mem_cons_of_mem _ List.mem_cons_self)))))))))))))) (by kernel_rfl) (by kernel_rfl)
 | 13, _ => sent_of h (hl _ (show ("trawl/api.ErrDeep", sentDatum (errPre ++ errWords.getD 13 [])) ∈ errList from (List.mem_cons_of_mem _ (List.mem_cons_of_mem _ (List.mem_cons_of_mem _ (List.mem_cons_of_mem _ (List.mem_cons_of_mem _ (List.mem_cons_of_mem _ (List.mem_cons_of_mem _ (List.mem_cons_of_mem _ (List.mem_cons_of_mem _ (List.mem_cons_of_mem _ (List.mem_cons_of_mem _ (List.mem_cons_of_mem _ (List.mem_cons_of_mem _ List.mem_cons_self))))))))))))))) (by kernel_rfl) (by kernel_rfl)
 | 14, _ => sent_of h (hl _ (show ("trawl/api.ErrArgument", sentDatum (errPre ++ errWords.getD 14 [])) ∈ errList from (List.mem_cons_of_mem _ (List.mem_cons_of_mem _ (List.mem_cons_of_mem _ (List.mem_cons_of_mem _ (List.mem_cons_of_mem _ (List.mem_cons_of_mem _ (List.mem_cons_of_mem _ (List.mem_cons_of_mem _ (List.mem_cons_of_mem _ (List.mem_cons_of_mem _ (List.mem_cons_of_mem _ (List.mem_cons_of_mem _ (List.mem_cons_of_mem _ (List.mem_cons_of_mem _ List.mem_cons_self)))))))))))))))) (by kernel_rfl) (by kernel_rfl)
 | 15, _ => sent_of h (hl _ (show ("trawl/api.ErrNoMatch", sentDatum (errPre ++ errWords.getD 15 [])) ∈ errList from (List.mem_cons_of_mem _ (List.mem_cons_of_mem _ (List.mem_cons_of_mem _ (List.mem_cons_of_mem _ (List.mem_cons_of_mem _ (List.mem_cons_of_mem _ (List.mem_cons_of_mem _ (List.mem_cons_of_mem _ (List.mem_cons_of_mem _ (List.mem_cons_of_mem _ (List.mem_cons_of_mem _ (List.mem_cons_of_mem _ (List.mem_cons_of_mem _ (List.mem_cons_of_mem _ (List.mem_cons_of_mem _ List.mem_cons_self))))))))))))))))) (by kernel_rfl) (by kernel_rfl)
 | 16, _ => sent_of h (hl _ (show ("trawl/api.ErrImage", sentDatum (errPre ++ errWords.getD 16 [])) ∈ errList from (List.mem_cons_of_mem _ (List.mem_cons_of_mem _ (List.mem_cons_of_mem _ (List.mem_cons_of_mem _ (List.mem_cons_of_mem _ (List.mem_cons_of_mem _ (List.mem_cons_of_mem _ (List.mem_cons_of_mem _ (List.mem_cons_of_mem _ (List.mem_cons_of_mem _ (List.mem_cons_of_mem _ (List.mem_cons_of_mem _ (List.mem_cons_of_mem _ (List.mem_cons_of_mem _ (List.mem_cons_of_mem _ (List.mem_cons_of_mem _ List.mem_cons_self)))))))))))))))))) (by kernel_rfl) (by kernel_rfl)
 | 17, _ => sent_of h (hl _ (show ("trawl/api.ErrMany", sentDatum (errPre ++ errWords.getD 17 [])) ∈ errList from (List.mem_cons_of_mem _ (List.mem_cons_of_mem _ (List.mem_cons_of_mem _ (List.mem_cons_of_mem _ (List.mem_cons_of_mem _ (List.mem_cons_of_mem _ (List.mem_cons_of_mem _ (List.mem_cons_of_mem _ (List.mem_cons_of_mem _ (List.mem_cons_of_mem _ (List.mem_cons_of_mem _ (List.mem_cons_of_mem _ (List.mem_cons_of_mem _ (List.mem_cons_of_mem _ (List.mem_cons_of_mem _ (List.mem_cons_of_mem _ (List.mem_cons_of_mem _ List.mem_cons_self))))))))))))))))))) (by kernel_rfl) (by kernel_rfl)
 | 18, _ => sent_of h (hl _ (show ("trawl/api.ErrOption", sentDatum (errPre ++ errWords.getD 18 [])) ∈ errList from (List.mem_cons_of_mem _ (List.mem_cons_of_mem _ (List.mem_cons_of_mem _ (List.mem_cons_of_mem _ (List.mem_cons_of_mem _ (List.mem_cons_of_mem _ (List.mem_cons_of_mem _ (List.mem_cons_of_mem _ (List.mem_cons_of_mem _ (List.mem_cons_of_mem _ (List.mem_cons_of_mem _ (List.mem_cons_of_mem _ (List.mem_cons_of_mem _ (List.mem_cons_of_mem _ (List.mem_cons_of_mem _ (List.mem_cons_of_mem _ (List.mem_cons_of_mem _ (List.mem_cons_of_mem _ List.mem_cons_self)))))))))))))))))))) (by kernel_rfl) (by kernel_rfl)
 | 19, _ => sent_of h (hl _ (show ("trawl/api.ErrCommand", sentDatum (errPre ++ errWords.getD 19 [])) ∈ errList from (List.mem_cons_of_mem _ (List.mem_cons_of_mem _ (List.mem_cons_of_mem _ (List.mem_cons_of_mem _ (List.mem_cons_of_mem _ (List.mem_cons_of_mem _ (List.mem_cons_of_mem _ (List.mem_cons_of_mem _ (List.mem_cons_of_mem _ (List.mem_cons_of_mem _ (List.mem_cons_of_mem _ (List.mem_cons_of_mem _ (List.mem_cons_of_mem _ (List.mem_cons_of_mem _ (List.mem_cons_of_mem _ (List.mem_cons_of_mem _ (List.mem_cons_of_mem _ (List.mem_cons_of_mem _ (List.mem_cons_of_mem _ List.mem_cons_self))))))))))))))))))))) (by kernel_rfl) (by kernel_rfl)
 | 20, _ => sent_of h (hl _ (show ("trawl/api.ErrClosed", sentDatum (errPre ++ errWords.getD 20 [])) ∈ errList from (List.mem_cons_of_mem _ (List.mem_cons_of_mem _ (List.mem_cons_of_mem _ (List.mem_cons_of_mem _ (List.mem_cons_of_mem _ (List.mem_cons_of_mem _ (List.mem_cons_of_mem _ (List.mem_cons_of_mem _ (List.mem_cons_of_mem _ (List.mem_cons_of_mem _ (List.mem_cons_of_mem _ (List.mem_cons_of_mem _ (List.mem_cons_of_mem _ (List.mem_cons_of_mem _ (List.mem_cons_of_mem _ (List.mem_cons_of_mem _ (List.mem_cons_of_mem _ (List.mem_cons_of_mem _ (List.mem_cons_of_mem _ (List.mem_cons_of_mem _ List.mem_cons_self)))))))))))))))))))))) (by kernel_rfl) (by kernel_rfl)
 | k+21,hk=>absurd hk (by omega)
theorem errs_of {W:World} {l:List (String × DataW Unit)} (h:laidMet Tryd.prog l W) (hl:∀ x,x ∈ errList→x ∈ l):∃ A,Errs W A:=by
 have k:=errs_one h hl
 exact ⟨fun i=>if h:i < 21 then Classical.choose (k i h) else ⟨0,0,none⟩,fun i hi=>by
   show Sent W _ _ (dite _ _ _)
   rw [dif_pos hi];exact Classical.choose_spec (k i hi)⟩
end Go.Proofs.YtoepdfpnkmccoaaDoor
namespace Go.Proofs.YtoepdfpnkmccoaaDoor
open Go.RowKit
def errCells (A:Nat→Addr):Array Value:=#[.iface 171 (.pointer (some (A 0))),.iface 171 (.pointer (some (A 1))),.iface 171 (.pointer (some (A 2))),.iface 171 (.pointer (some (A 3))),.iface 171 (.pointer (some (A 4))),.iface 171 (.pointer (some (A 5))),.iface 171 (.pointer (some (A 6))),.iface 171 (.pointer (some (A 7))),.iface 171 (.pointer (some (A 8))),.iface 171 (.pointer (some (A 9))),.iface 171 (.pointer (some (A 10))),.iface 171 (.pointer (some (A 11))),.iface 171 (.pointer (some (A 12))),.iface 171 (.pointer (some (A 13))),.iface 171 (.pointer (some (A 14))),.iface 171 (.pointer (some (A 15))),.iface 171 (.pointer (some (A 16))),.iface 171 (.pointer (some (A 17))),.iface 171 (.pointer (some (A 18))),.iface 171 (.pointer (some (A 19))),.iface 171 (.pointer (some (A 20)))]
theorem errCells_get (A:Nat→Addr):∀ k,k < 21→(errCells A)[k]? = some (.iface 171 (.pointer (some (A k))))
 | 0,_=>rfl
 | 1,_=>rfl
 | 2,_=>rfl
 | 3,_=>rfl
 | 4,_=>rfl
 | 5,_=>rfl
 | 6,_=>rfl
 | 7,_=>rfl
 | 8,_=>rfl
 | 9,_=>rfl
 | 10,_=>rfl
 | 11,_=>rfl
 | 12,_=>rfl
 | 13,_=>rfl
 | 14,_=>rfl
 | 15,_=>rfl
 | 16,_=>rfl
 | 17,_=>rfl
 | 18,_=>rfl
 | 19,_=>rfl
 | 20,_=>rfl
 | k+21,hk=>absurd hk (by omega)
end Go.Proofs.YtoepdfpnkmccoaaDoor
namespace Go.Proofs.YtoepdfpnkmccoaaDoor
open Go.RowKit Go.Extern.Stop Go.Stop Go.Extern
theorem num_nil (w:World):Calls Tryd.prog 12 #[.nilIface] w fun e w'=>e=.returned (.int .i64 0)∧w=w':=by
 go_enter Tryd.func12,Tryd.ntmps12
 go_wp2
 go_ret
 exact ⟨rfl,rfl⟩
def found (k i:Nat):Int:=if k < i then (k:Int)+1 else -1
theorem found_no {k i:Nat} (h:i ≤ k):found k i = -1:=by unfold found;rw [if_neg (by omega)]
theorem found_yes {k i:Nat} (h:k < i):found k i=(k:Int)+1:=by unfold found;rw [if_pos h]
theorem num_any (A:Nat→Addr) (k n:Nat) (v:Value) (w:World) (hA:Errs w A) (hk:k < 21) (hch:Chain w (A k) n v) :
   Calls Tryd.prog 12 #[v] w fun e w'=>e=.returned (.int .i64 ((k:Int)+1))∧Below w.heap.size w w':=by
 have HA:=Lib.hid hA
 obtain ⟨t,q,rfl⟩:=hch.iface
 have HC:=Lib.hid hch
 clear hch
 have g0:w.cell? ⟨1,0,none⟩=some (.iface 171 (.pointer (some (A 0)))):=(hA 0 (by omega)).1
 have g1:w.cell? ⟨2,0,none⟩=some (.iface 171 (.pointer (some (A 1)))):=(hA 1 (by omega)).1
 have g2:w.cell? ⟨3,0,none⟩=some (.iface 171 (.pointer (some (A 2)))):=(hA 2 (by omega)).1
 have g3:w.cell? ⟨4,0,none⟩=some (.iface 171 (.pointer (some (A 3)))):=(hA 3 (by omega)).1
 have g4:w.cell? ⟨5,0,none⟩=some (.iface 171 (.pointer (some (A 4)))):=(hA 4 (by omega)).1
 have g5:w.cell? ⟨6,0,none⟩=some (.iface 171 (.pointer (some (A 5)))):=(hA 5 (by omega)).1
 have g6:w.cell? ⟨7,0,none⟩=some (.iface 171 (.pointer (some (A 6)))):=(hA 6 (by omega)).1
 have g7:w.cell? ⟨8,0,none⟩=some (.iface 171 (.pointer (some (A 7)))):=(hA 7 (by omega)).1
 have g8:w.cell? ⟨9,0,none⟩=some (.iface 171 (.pointer (some (A 8)))):=(hA 8 (by omega)).1
 have g9:w.cell? ⟨10,0,none⟩=some (.iface 171 (.pointer (some (A 9)))):=(hA 9 (by omega)).1
 have g10:w.cell? ⟨11,0,none⟩=some (.iface 171 (.pointer (some (A 10)))):=(hA 10 (by omega)).1
 have g11:w.cell? ⟨12,0,none⟩=some (.iface 171 (.pointer (some (A 11)))):=(hA 11 (by omega)).1
 have g12:w.cell? ⟨13,0,none⟩=some (.iface 171 (.pointer (some (A 12)))):=(hA 12 (by omega)).1
 have g13:w.cell? ⟨14,0,none⟩=some (.iface 171 (.pointer (some (A 13)))):=(hA 13 (by omega)).1
 have g14:w.cell? ⟨15,0,none⟩=some (.iface 171 (.pointer (some (A 14)))):=(hA 14 (by omega)).1
 have g15:w.cell? ⟨16,0,none⟩=some (.iface 171 (.pointer (some (A 15)))):=(hA 15 (by omega)).1
 have g16:w.cell? ⟨0,0,none⟩=some (.iface 171 (.pointer (some (A 16)))):=(hA 16 (by omega)).1
 have g17:w.cell? ⟨17,0,none⟩=some (.iface 171 (.pointer (some (A 17)))):=(hA 17 (by omega)).1
 have g18:w.cell? ⟨18,0,none⟩=some (.iface 171 (.pointer (some (A 18)))):=(hA 18 (by omega)).1
 have g19:w.cell? ⟨19,0,none⟩=some (.iface 171 (.pointer (some (A 19)))):=(hA 19 (by omega)).1
 have g20:w.cell? ⟨20,0,none⟩=some (.iface 171 (.pointer (some (A 20)))):=(hA 20 (by omega)).1
 clear hA
 go_enter Tryd.func12,Tryd.ntmps12
 go_wp2_with fail
 generalize hW0:World.alloc w _=W
 have e0:W.heap[w.heap.size]? = some (.cells (errCells A) 31):=by rw [← hW0];exact heap_alloc_new _ _
 have hbW:Below w.heap.size w W:=by rw [← hW0];exact (Below.refl _ _).alloc (Nat.le_refl _) _
 have hszW:W.heap.size=w.heap.size+1:=by rw [← hW0];simp
 have E0:=Lib.hid e0
 clear hW0 e0 g0 g1 g2 g3 g4 g5 g6 g7 g8 g9 g10 g11 g12 g13 g14 g15 g16 g17 g18 g19 g20
 have HW:=Lib.hid (HA.out.below hbW)
 have HCW:=Lib.hid (HC.out.of_cells (w':=W) fun p x hx=>(hbW.cell (p:=⟨p,1,none⟩) (block_lt_of_cell hx)).trans hx)
 clear HA HC
 have HF:Hid (found k 0 = -1):=Lib.hid (found_no (Nat.zero_le _))
 go_loopw [33,4] (fun i f wr=>∃ m:Nat,i=.int .i64 m∧m ≤ 21∧f=.int .i64 (found k m)∧wr=W) (fun i _ _=>21 - (intOf i).toNat)
 case atStart=>exact ⟨0,rfl,Nat.zero_le _,by rw [HF.out],rfl⟩
 case round =>
   obtain ⟨m,rfl,hm,rfl,rfl⟩:=hrel
   by_cases hlt:m < 21
   · have hma:=HW.out m hlt
     have hka:=HW.out k hk
     have l0:wr.cell? ⟨w.heap.size,m,none⟩=some (.iface 171 (.pointer (some (A m)))):=by simp only [World.cell?,E0.out];exact errCells_get A m hlt
     obtain ⟨-,-,-,-,c1,ty1,r1⟩:=hma
     obtain ⟨-,-,-,-,c2,ty2,r2⟩:=hka
     have his:=is_any (A k) (A m) n (.iface t q) wr HCW.out c2 c1 ty2 ty1 r2 r1
     have HIS:=Lib.hid his
     clear his r1 r2
     have hmm:IntKind.i64.wrap ((m:Int)+1)=(m:Int)+1:=IntWalk.i64_in _ (by omega)
     rcases Nat.lt_trichotomy m k with h | h | h
     · have hd:decide (A k=A m)=false:=by simpa using Errs.apart HW.out hk hlt (by omega)
       rw [hd] at HIS
       rw [found_no (Nat.le_of_lt h)]
       have HN:=Lib.hid (found_no (show m+1 ≤ k by omega))
       clear hd
       go_wp2_with (go_at_call 37;refine HIS.out.mono ?_;rintro e w' ⟨rfl,rfl⟩)
       exact ⟨⟨m+1,by go_num,by omega,by rw [HN.out],trivial⟩,by simp [intOf];omega⟩
     · subst h
       have hd:decide (A m=A m)=true:=by simp
       rw [hd] at HIS
       rw [found_no (Nat.le_refl _)]
       have HN:=Lib.hid (found_yes (show m < m+1 by omega))
       clear hd
       go_wp2_with (go_at_call 37;refine HIS.out.mono ?_;rintro e w' ⟨rfl,rfl⟩)
       exact ⟨⟨m+1,by go_num,by omega,by rw [HN.out],trivial⟩,by simp [intOf];omega⟩
     · have hd:decide (A k=A m)=false:=by simpa using Errs.apart HW.out hk hlt (by omega)
       rw [hd] at HIS
       rw [found_yes h]
       have HN:=Lib.hid (found_yes (show k < m+1 by omega))
       clear hd
       go_wp2_with (go_at_call 37;refine HIS.out.mono ?_;rintro e w' ⟨rfl,rfl⟩)
       exact ⟨⟨m+1,by go_num,by omega,by rw [HN.out],trivial⟩,by simp [intOf];omega⟩
   · obtain rfl:m=21:=by omega
     rw [found_yes hk]
     go_wp2
     go_ret
     exact ⟨rfl,hbW⟩
end Go.Proofs.YtoepdfpnkmccoaaDoor
namespace Go.Proofs.YtoepdfpnkmccoaaDoor
open Go.RowKit
namespace Tr
def checkC (t:Tr):Nat:=if t.formB=false then 13 else if 200 < t.dpT then 14 else if 2000 < t.szT then 10 else 0
theorem checkC_zero {t:Tr} : t.checkC=0 ↔ t.InForm∧t.dpT ≤ 200∧t.szT ≤ 2000:=by
 unfold checkC
 rw [← formB_iff]
 cases t.formB with
 | false=>simp
 | true =>
   rw [if_neg (by decide)]
   split
   · simp;omega
   · split
     · simp;omega
     · simp;omega
theorem checkC_lt (t:Tr):t.checkC < 22:=by
 unfold checkC;split;omega;split;omega;split <;> omega
end Tr
def sentV (A:Nat→Addr) (c:Nat):Value:=if c=0 then .nilIface else .iface 171 (.pointer (some (A (c - 1))))
theorem sentV_num (A:Nat→Addr) (c:Nat) (hc:c < 22) (w:World) (hE:Errs w A):Calls Tryd.prog 12 #[sentV A c] w fun e w'=>e=.returned (.int .i64 (c:Int))∧Below w.heap.size w w':=by
 unfold sentV
 by_cases h:c=0
 · subst h
   rw [if_pos rfl]
   refine (num_nil w).mono ?_
   rintro e w' ⟨rfl,rfl⟩
   exact ⟨rfl,Below.refl _ _⟩
 · rw [if_neg h]
   have:=num_any A (c - 1) 0 _ w hE (by omega) .base
   refine this.mono ?_
   rintro e w' ⟨rfl,hb⟩
   exact ⟨ret_int (by omega),hb⟩
theorem treecheck_any (A:Nat→Addr) (t:Tr) (hd:t.dpT ≤ 1000000) (w:World) (hE:Errs w A) (B:Nat→Prop) (v:Value) (hv:NodeV w B v t):Calls Tryd.prog 27 #[v] w fun e w'=>e=.returned (sentV A t.checkC)∧Below w.heap.size w w':=by
 obtain ⟨s,rfl,hs⟩:=hv
 have H1:=Lib.hid (fun w' hb=>treeinform_any t w' B (.agg (t.cells s)) ⟨s,rfl,TreesAt.later (w':=w') hs hb⟩)
 have H2:=Lib.hid (fun w' hb=>treedepth_any t hd w' B (.agg (t.cells s)) ⟨s,rfl,TreesAt.later (w':=w') hs hb⟩)
 have H3:=Lib.hid (fun (hf:t.InForm) w' hb=>treesize_any t hf w' B (.agg (t.cells s)) ⟨s,rfl,TreesAt.later (w':=w') hs hb⟩)
 have HE:=Lib.hid (fun w' (hb:Below w.heap.size w w')=>hE.below hb)
 obtain ⟨p,cap,rfl,hlen⟩:=hs.slice
 have Z0:=Lib.hid (heap_alloc_new w (.cells (t.cells (.slice p t.subs.length cap)) 29))
 have hfi:=Tr.formB_iff t
 have HFI:=Lib.hid hfi
 have HCC:=Lib.hid (show t.checkC=if t.formB=false then 13 else if 200 < t.dpT then 14 else if 2000 < t.szT then 10 else 0 from rfl)
 clear hs hd hE hfi
 unfold Tr.cells at *
 go_enter Tryd.func27,Tryd.ntmps27
 go_wp2_with (first
   | (refine wpList_load_row rfl 29 (.tmp 1) rfl w.heap.size rfl 29 _ (0,0) _ Z0.out Tryd.underlying29 rfl (by kernel_rfl) ?_)
   | fail)
 refine (H1.out _ ((Below.refl _ _).alloc (Nat.le_refl _) _)).mono ?_
 rintro e w1 ⟨rfl,hb1⟩
 have Z1:=Lib.hid (keep_blk hb1 Z0.out)
 have HB1:=Lib.hid (((Below.refl w.heap.size w).alloc (Nat.le_refl _) _).trans (hb1.mono (by simp)))
 clear hb1 Z0
 cases hfb:t.formB with
 | false =>
   have hcc:=HCC.out
   rw [if_pos hfb] at hcc
   have HCV:=Lib.hid (show sentV A t.checkC=.iface 171 (.pointer (some (A 12))) by rw [hcc];rfl)
   have g:=((HE.out w1 HB1.out) 12 (by omega)).1
   have G:w1.cell? ⟨13,0,none⟩=some (.iface 171 (.pointer (some (A 12)))):=g
   clear hcc g HCC HFI hfb
   go_wp2
   go_ret
   exact ⟨congrArg Ending.returned HCV.out.symm,HB1.out⟩
 | true =>
   have hform:=HFI.out.1 hfb
   have H3':=Lib.hid (H3.out hform)
   have hcc:=HCC.out
   rw [if_neg (by rw [hfb];decide)] at hcc
   have HC2:=Lib.hid hcc
   clear hcc HCC HFI hfb hform H3
   go_wp2_with (first
     | (refine wpList_load_row rfl 29 (.tmp 1) rfl w.heap.size rfl 29 _ (0,0) _ Z1.out Tryd.underlying29 rfl (by kernel_rfl) ?_)
     | fail)
   refine (H2.out _ HB1.out).mono ?_
   rintro e w2 ⟨rfl,hb2⟩
   have Z2:=Lib.hid (keep_blk hb2 Z1.out)
   have HB2:=Lib.hid (HB1.out.trans (hb2.mono HB1.out.size))
   clear hb2 Z1
   by_cases hd:200 < t.dpT
   · have hcc:=HC2.out
     rw [if_pos hd] at hcc
     have HCV:=Lib.hid (show sentV A t.checkC=.iface 171 (.pointer (some (A 13))) by rw [hcc];rfl)
     have G:w2.cell? ⟨14,0,none⟩=some (.iface 171 (.pointer (some (A 13)))):=((HE.out w2 HB2.out) 13 (by omega)).1
     have e1:decide ((200:Int) < t.dpT)=true:=by simp;omega
     have e1':decide (200 < t.dpT)=true:=by simpa using hd
     clear hcc HC2 hd
     generalize t.dpT=D at *
     go_wp2
     go_ret
     exact ⟨congrArg Ending.returned HCV.out.symm,HB2.out⟩
   · have e1:decide ((200:Int) < t.dpT)=false:=by simp;omega
     have e1':decide (200 < t.dpT)=false:=by simpa using hd
     have hcc:=HC2.out
     rw [if_neg hd] at hcc
     have HC3:=Lib.hid hcc
     clear hcc HC2 hd
     generalize t.dpT=D at *
     go_wp2_with (first
       | (refine wpList_load_row rfl 29 (.tmp 1) rfl w.heap.size rfl 29 _ (0,0) _ Z2.out Tryd.underlying29 rfl (by kernel_rfl) ?_)
       | fail)
     refine (H3'.out _ HB2.out).mono ?_
     rintro e w3 ⟨rfl,hb3⟩
     have HB3:=Lib.hid (HB2.out.trans (hb3.mono HB2.out.size))
     clear hb3 Z2
     by_cases hz:2000 < t.szT
     · have hcc:=HC3.out
       rw [if_pos hz] at hcc
       have HCV:=Lib.hid (show sentV A t.checkC=.iface 171 (.pointer (some (A 9))) by rw [hcc];rfl)
       have G:w3.cell? ⟨10,0,none⟩=some (.iface 171 (.pointer (some (A 9)))):=((HE.out w3 HB3.out) 9 (by omega)).1
       have z1:decide ((2000:Int) < t.szT)=true:=by simp;omega
       have z1':decide (2000 < t.szT)=true:=by simpa using hz
       clear hcc HC3 hz
       generalize t.szT=ZT at *
       go_wp2
       go_ret
       exact ⟨congrArg Ending.returned HCV.out.symm,HB3.out⟩
     · have z1:decide ((2000:Int) < t.szT)=false:=by simp;omega
       have z1':decide (2000 < t.szT)=false:=by simpa using hz
       have hcc:=HC3.out
       rw [if_neg hz] at hcc
       have HCV:=Lib.hid (show sentV A t.checkC=.nilIface by rw [hcc];rfl)
       clear hcc HC3 hz
       generalize t.szT=ZT at *
       go_wp2
       go_ret
       exact ⟨congrArg Ending.returned HCV.out.symm,HB3.out⟩
end Go.Proofs.YtoepdfpnkmccoaaDoor
namespace Go.Proofs.YtoepdfpnkmccoaaDoor
open Go.RowKit
theorem hasprefix_nil (v:Value) (c:Nat) (g:Nat) (hv:v=.slice (some ⟨g,0,none⟩) 5 c) (w:World):Calls Tryd.prog 56 #[.slice none 0 0,v] w fun e w'=>e=.returned (.bool false)∧w'=w:=by
 subst hv
 go_enter Tryd.func56,Tryd.ntmps56
 go_wp2
 go_ret
 exact ⟨rfl,rfl⟩
theorem cutprefix_nil (v:Value) (c:Nat) (g:Nat) (hv:v=.slice (some ⟨g,0,none⟩) 5 c) (w:World):Calls Tryd.prog 33 #[.slice none 0 0,v] w fun e w'=>e=.returned (.tuple #[.slice none 0 0,.bool false])∧w'=w:=by
 have H:=Lib.hid (fun w=>hasprefix_nil v c g hv w)
 subst hv
 go_enter Tryd.func33,Tryd.ntmps33
 go_wp2_with fail
 refine (H.out _).mono ?_
 rintro e w1 ⟨rfl,rfl⟩
 go_wp2
 go_ret2
 exact ⟨rfl,rfl⟩
theorem decode_nil (A:Nat→Addr) (w:World) (hE:Errs w A):Calls Tryd.prog 10 #[.slice none 0 0] w fun e w'=>e=.returned (.tuple #[.agg #[.int .i64 0,.int .u64 0,.int .u64 0,.int .u64 0,.int .u64 0,.slice none 0 0,.int .i64 0,.int .i64 0,.int .i64 0,.bool false],sentV A 17])∧Below w.heap.size w w':=by
 have HP:=Lib.hid (fun v c g hv w=>cutprefix_nil v c g hv w)
 have HE:=Lib.hid hE
 have hcv:∀ w:World,(convert 22 22 (.slice (some ⟨w.heap.size,0,none⟩) 5 5)).run Tryd.prog (w.alloc (.cells #[.int .u8 84,.int .u8 82,.int .u8 87,.int .u8 76,.int .u8 1] 5))=.ok (.slice (some ⟨w.heap.size,0,none⟩) 5 5) (w.alloc (.cells #[.int .u8 84,.int .u8 82,.int .u8 87,.int .u8 76,.int .u8 1] 5 (5,6))) :=
   fun w=>Lib.run_convert_bytes_const w 22 5 #[.int .u8 84,.int .u8 82,.int .u8 87,.int .u8 76,.int .u8 1] 5 5 Tryd.underlying22 Tryd.underlying5
 clear hE
 have hb0:∀ o,Below w.heap.size w (w.alloc o):=fun o=>(Below.refl _ _).alloc (Nat.le_refl _) o
 have HB0:=Lib.hid hb0
 clear hb0
 go_enter Tryd.func10,Tryd.ntmps10
 go_upto_region 1 with (fail)
 generalize hW1:World.alloc w _=W1
 have HB1:=Lib.hid (show Below w.heap.size w W1 from hW1 ▸ HB0.out _)
 have Z1:=Lib.hid (show W1.heap[w.heap.size]? = _ from hW1 ▸ heap_alloc_new w _)
 clear hW1
 have HB2:=Lib.hid (HB1.out.alloc HB1.out.size (.cells #[.int .u8 84,.int .u8 82,.int .u8 87,.int .u8 76,.int .u8 1] 5 (5,6)))
 have Z2:=Lib.hid (heap_alloc_lt (o:=.cells #[.int .u8 84,.int .u8 82,.int .u8 87,.int .u8 76,.int .u8 1] 5 (5,6)) Z1.out)
 go_wp2_with fail
 refine (HP.out _ _ _ rfl _).mono ?_
 rintro e w1 ⟨rfl,rfl⟩
 generalize hW2:World.alloc W1 _=W2 at *
 have G:=(HE.out 16 (by omega)).1
 have G':w.cell? ⟨0,0,none⟩=some (.iface 171 (.pointer (some (A 16)))):=G
 have HG:=Lib.hid G'
 have hs2:w.heap.size < W2.heap.size:=(Array.getElem?_eq_some_iff.1 Z2.out).1
 clear G G'
 go_upto_region 3 with (fail)
 refine Ri.wp_region_frame (by kernel_rfl) (by kernel_rfl) (by kernel_rfl) (by kernel_rfl)
   (fun L v w'=>Below w.heap.size w w'∧W2.heap.size ≤ w'.heap.size∧(L 2=true→w'.heap[w.heap.size]? = some (.cells #[.int .i64 0,.int .u64 0,.int .u64 0,.int .u64 0,.int .u64 0,.slice none 0 0,.int .i64 0,.int .i64 0,.int .i64 0,.bool false] 29))∧(L 2=false→w'.heap[w.heap.size]? = some (.cells #[.int .i64 0,.int .u64 0,.int .u64 0,.int .u64 0,.int .u64 0,.slice none 0 0,.int .i64 0,.int .i64 0,.int .i64 0,.bool false] 29))∧(L 0=true→v 0=.agg #[.int .i64 0,.int .u64 0,.int .u64 0,.int .u64 0,.int .u64 0,.slice none 0 0,.int .i64 0,.int .i64 0,.int .i64 0,.bool false])∧(L 1=true→v 1=.iface 171 (.pointer (some (A 16))))∧(L 3=true→v 3=.iface 171 (.pointer (some (A 16)))))
   ?_ ?_ ?_
 · exact ⟨HB2.out.drew,Nat.le_refl _,(by simp),(fun _=>Z2.out),by simp,by simp,by simp⟩
 · intro i hi9 L v w9 xa hI hL hd hv ho
   have hi':i=0 ∨ i=1 ∨ i=2 ∨ i=3:=by simp at hi9;omega
   obtain ⟨hb,hz,qn,qo,q0,q1,q3⟩:=hI
   rcases hi' with rfl | rfl | rfl | rfl
   · refine Ri.step_plain rfl rfl (fun K' hK=>?_)
     go_simp
     exact hK _ _ ⟨_,_,rfl,rfl,hb,hz,qn,qo,fun _=>rfl,q1,q3⟩
   · refine Ri.step_plain rfl rfl (fun K' hK=>?_)
     obtain g9:=(hb.cell (p:=⟨0,0,none⟩) (block_lt_of_cell HG.out)).trans HG.out
     go_simp
     exact hK _ _ ⟨_,_,rfl,rfl,hb,hz,qn,qo,q0,fun _=>rfl,q3⟩
   · have l0:L 0=true:=by have:=hd _ rfl;simp [Region.binds] at this;simp [this]
     have f0:=(hv 0 17 rfl l0).trans (q0 l0)
     have e2:xa.tmps.getD 2 undef=.pointer (some ⟨w.heap.size,0,none⟩):=ho 2 (by kernel_rfl)
     refine Ri.step_plain rfl rfl (fun K' hK=>?_)
     refine wp_store_row _ _ _ rfl w.heap.size #[.int .i64 0,.int .u64 0,.int .u64 0,.int .u64 0,.int .u64 0,.slice none 0 0,.int .i64 0,.int .i64 0,.int .i64 0,.bool false] e2 f0 29 _ (qo hL) (by kernel_rfl) (by kernel_rfl) (by simp [Value.oneCell']) ?_
     exact hK _ _ ⟨_,undef,rfl,rfl,below_setRow hb (Nat.le_refl _) _,by simpa using hz,(fun _=>heap_setRow (qo hL)),(fun h=>by cases h),q0,q1,q3⟩
   · have l0:L 1=true:=by have:=hd _ rfl;simp [Region.binds] at this;simp [this]
     have f1:=(hv 1 18 rfl l0).trans (q1 l0)
     refine Ri.step_plain rfl rfl (fun K' hK=>?_)
     go_simp
     exact hK _ _ ⟨_,_,rfl,rfl,hb,hz,qn,qo,q0,q1,fun _=>rfl⟩
 · rintro v w9 ⟨hb,hz,qn,-,-,-,q3⟩
   have zN:=qn rfl;clear qn
   have q3':v 3=.iface 171 (.pointer (some (A 16))):=q3 rfl
   simp only [Ri.frame,List.zipIdx,List.foldl_cons,List.foldl_nil,if_true,List.setIfInBounds_toArray,List.set_cons_zero,List.set_cons_succ,Nat.reduceAdd,q3']
   clear q3 q3'
   generalize v 0=y0;generalize v 1=y1
   have HBw:=Lib.hid hb
   have ZN:=Lib.hid zN
   clear hb zN
   go_wp2
   exact bodyPost_ret (results_row_one rfl _ _ w.heap.size 29 #[.int .i64 0,.int .u64 0,.int .u64 0,.int .u64 0,.int .u64 0,.slice none 0 0,.int .i64 0,.int .i64 0,.int .i64 0,.bool false] (0,0) _ _ rfl rfl ZN.out Tryd.underlying29 rfl (by kernel_rfl)) rfl ⟨rfl,HBw.out⟩
end Go.Proofs.YtoepdfpnkmccoaaDoor
namespace Go.Proofs.YtoepdfpnkmccoaaDoor
open Go.RowKit
theorem bytesequal_any (a b:List UInt8) (va vb:Value) (w:World) (ha:BsAt w va a) (hb:BsAt w vb b):Calls Tryd.prog 95 #[va,vb] w fun e w'=>e=.returned (.bool (decide (a=b)))∧w'=w:=by
 have ca:=to_str ha;have cb:=to_str hb
 have he:((bx a).toList == (bx b).toList)=decide (a=b):=by
   rw [bx_list,bx_list]
   by_cases h:a=b
   · subst h;simp
   · simp [h]
 have HE:=Lib.hid he
 clear ha hb he
 generalize bx a=xa at *;generalize bx b=xb at *
 go_enter Tryd.func95,Tryd.ntmps95
 go_wp2
 go_ret
 exact ⟨by rw [← HE.out];rfl,rfl⟩
def isHead (l:List UInt8):Bool:=decide (l.take 5=Im.head)
theorem isHead_short {l:List UInt8} (h:l.length < 5):isHead l=false:=by
 unfold isHead
 refine decide_eq_false fun e=>?_
 have:=congrArg List.length e
 rw [List.length_take] at this
 simp [Im.head] at this
 omega
theorem hasprefix_any (l:List UInt8) (hl:l.length ≤ 140737488351232) (v:Value) (q:Nat) (w:World) (hv:BsAt w v l) (hq:BsAt w (.slice (some ⟨q,0,none⟩) 5 5) Im.head) :
   Calls Tryd.prog 56 #[v,.slice (some ⟨q,0,none⟩) 5 5] w fun e w'=>e=.returned (.bool (isHead l))∧w'=w:=by
 by_cases h5:l.length < 5
 · obtain ⟨p,c,rfl,hc⟩:=hv.len
   have HI:=Lib.hid (isHead_short h5)
   have d1:decide ((5:Int) ≤ l.length)=false:=decide_eq_false (by omega)
   have d2:decide (5 ≤ l.length)=false:=decide_eq_false (by omega)
   clear hv hq
   generalize l.length=L at *
   go_enter Tryd.func56,Tryd.ntmps56
   go_wp2
   go_ret
   exact ⟨by rw [HI.out];rfl,rfl⟩
 · rcases hv with ⟨rfl,h2⟩ | ⟨g,o,c,rfl,hc,hrd⟩
   · subst h2;simp at h5
   have ch:=cut_hi g o l.length c 5 (by omega)
   have HT:=Lib.hid (bytesequal_any (l.take 5) Im.head _ _ w (BsAt.take hrd (n:=5) (by omega) hc) hq)
   have hlt:(l.take 5).length=5:=by rw [List.length_take];omega
   have d1:decide ((5:Int) ≤ l.length)=true:=decide_eq_true (by omega)
   have d2:decide (5 ≤ l.length)=true:=decide_eq_true (by omega)
   have HI:=Lib.hid (show decide (l.take 5=Im.head)=isHead l from rfl)
   clear hrd hq hlt
   generalize l.length=L at *
   go_enter Tryd.func56,Tryd.ntmps56
   go_wp2_with fail
   refine HT.out.mono ?_
   rintro e w1 ⟨rfl,rfl⟩
   rw [HI.out]
   go_wp2
   go_ret
   exact ⟨by rfl,rfl⟩
theorem cutprefix_any (l:List UInt8) (hl:l.length ≤ 140737488351232) (v:Value) (q:Nat) (w:World) (hv:BsAt w v l) (hq:BsAt w (.slice (some ⟨q,0,none⟩) 5 5) Im.head) :
   Calls Tryd.prog 33 #[v,.slice (some ⟨q,0,none⟩) 5 5] w fun e w'=>(∃ v',e=.returned (.tuple #[v',.bool (isHead l)])∧(isHead l=true→BsAt w v' (l.drop 5)))∧w'=w:=by
 have H:=Lib.hid (hasprefix_any l hl v q w hv hq)
 cases hh:isHead l with
 | false =>
   rw [hh] at H
   clear hv hq
   go_enter Tryd.func33,Tryd.ntmps33
   go_wp2_with fail
   refine H.out.mono ?_
   rintro e w1 ⟨rfl,rfl⟩
   go_wp2
   go_ret2
   exact ⟨⟨_,rfl,fun h=>by cases h⟩,rfl⟩
 | true =>
   have h5:5 ≤ l.length:=by
     rcases Nat.lt_or_ge l.length 5 with h | h
     · rw [isHead_short h] at hh;cases hh
     · exact h
   rcases hv with ⟨rfl,h2⟩ | ⟨g,o,c,rfl,hc,hrd⟩
   · subst h2;simp at h5
   obtain ⟨o',ho,cl⟩:=cut_lo g o l.length c 5 h5 hc
   have cl':∀ w:World,(Instr.slice 22 (.slice (some ⟨g,o,none⟩) l.length c) (some (.int .i64 5)) none none).run Tryd.prog w=.ok (.slice (some ⟨g,o',none⟩) (l.length - 5) (c - 5)) w:=cl
   have HD:=Lib.hid (BsAt.drop hrd h5 hc ho)
   rw [hh] at H
   clear cl hq hrd ho hh
   generalize l.drop 5=l2 at *
   generalize l.length=L at *
   generalize L - 5=L2 at *
   generalize c - 5=c2 at *
   go_enter Tryd.func33,Tryd.ntmps33
   go_wp2_with fail
   refine H.out.mono ?_
   rintro e w1 ⟨rfl,rfl⟩
   go_wp2
   go_ret2
   exact ⟨⟨_,rfl,fun _=>HD.out⟩,rfl⟩
end Go.Proofs.YtoepdfpnkmccoaaDoor
namespace Go.Proofs.YtoepdfpnkmccoaaDoor
open Go.RowKit Go.Shelf
attribute [local go_sem] Oper.semAt_some
def backL (l:List UInt8):Nat→List (Nat × UInt8)
 | 0=>[]
 | k+1=>(k,l.getD k 0) :: backL l k
def Keeps2 (b c:Nat) (W W':World):Prop:=W'.heap[b]? = W.heap[b]?∧W'.heap[c]? = W.heap[c]?
theorem Keeps2.trans {b c:Nat} {A B C:World} (h:Keeps2 b c A B) (k:Keeps2 b c B C):Keeps2 b c A C:=⟨k.1.trans h.1,k.2.trans h.2⟩
theorem keeps2_put {b c n:Nat} (hb:b < n) (hc:c < n) (W:World) (l:Nat) (o o':Obj) (hl:n ≤ l) (_:W.heap[l]? = some o) (_:o.isCells=false) (_:o.isWalk=false):Keeps2 b c W (W.putObj l o') :=
 ⟨World.putObj_heap_other (by omega),World.putObj_heap_other (by omega)⟩
def backArgs (x:Nat × UInt8):Array Value:=#[.int .i64 (x.1:Int),.int .u8 (x.2.toNat:Int)]
theorem back1_in (n:Nat) (hn:1 ≤ n) (q bs g o c:Nat) (l:List UInt8) (hl:l.length ≤ 140737488351232) (J Jx:List (Nat × UInt8)→World→Prop) (W:World)
   (hY:∀ pre x W1,J pre W1→pre.length < l.length→YieldAt Fence.wide (n - 1) Tryd.prog q (backArgs x) W1 fun e W' =>
     (e=.returned (.bool true)∧J (pre ++ [x]) W'∧Keeps2 bs g W1 W') ∨ (e=.returned (.bool false)∧Jx (pre ++ [x]) W'))
   (hbs:W.heap[bs]? = some (.cells #[.slice (some ⟨g,o,none⟩) l.length c] 22)) (hc:∀ j (hj:j < l.length),W.cell? ⟨g,o+j,none⟩=some (.int .u8 (l[j].toNat:Int))) (h0:J [] W) :
   CallsIn Fence.wide n Tryd.prog 117 #[.func (.yield q) #[] #[],.pointer (some ⟨bs,0,none⟩)] W fun e W'=>(∃ v,e=.returned v) ∧
     ((∃ ys,ys=backL l l.length∧J ys W') ∨ (∃ pre,pre <+: backL l l.length∧Jx pre W')):=by
 refine callsIn_of_wp Tryd.func117 rfl trivial ?_ rfl
 simp only [Tryd.ntmps117,List.size_toArray,List.length_cons,List.length_nil,Nat.reduceAdd,Nat.reduceSub,Array.replicate_succ,Array.replicate_zero,List.push_toArray,List.append_toArray,List.nil_append,List.cons_append]
 have c0:W.cell? ⟨bs,0,none⟩=some (.slice (some ⟨g,o,none⟩) l.length c):=by simp [World.cell?,hbs]
 have HC:=Lib.hid hc;have HBS:=Lib.hid hbs;have HY:=Lib.hid hY;have HJ0:=Lib.hid h0
 have wl:IntKind.i64.wrap ((l.length:Int) - 1)=(l.length:Int) - 1:=IntWalk.i64_in _ (by omega)
 clear hc hbs hY h0
 gi_wp2_with fail
 gi_loopw [3] (fun iv wr=>∃ (k:Nat) (pre:List (Nat × UInt8)),iv=.int .i64 ((k:Int) - 1)∧k ≤ l.length∧Hid (backL l l.length=pre ++ backL l k)∧Hid (pre.length+k=l.length)∧Hid (J pre wr)∧Hid (Keeps2 bs g W wr)) (fun iv _=>(intOf iv+1).toNat)
 case atStart=>exact ⟨l.length,[],rfl,Nat.le_refl _,Lib.hid rfl,Lib.hid (by simp),HJ0,Lib.hid ⟨rfl,rfl⟩⟩
 case round =>
   obtain ⟨k,pre,rfl,hk,HX,HPL,HJ,HK⟩:=hrel
   cases k with
   | zero =>
     have e1:decide ((0:Int) ≤ ((0:Nat):Int) - 1)=false:=by decide
     gi_wp2_with fail
     go_end0
     exact ⟨⟨_,rfl⟩,.inl ⟨pre,by rw [HX.out];simp [backL],HJ.out⟩⟩
   | succ k =>
     have ek:((k+1:Nat):Int) - 1=(k:Int):=by omega
     rw [ek]
     have hkl:k < l.length:=by omega
     have hb1:wr.heap[bs]? = W.heap[bs]?:=HK.out.1
     have c1:wr.cell? ⟨bs,0,none⟩=some (.slice (some ⟨g,o,none⟩) l.length c):=by rw [← c0];unfold World.cell?;rw [hb1]
     have hg1:wr.heap[g]? = W.heap[g]?:=HK.out.2
     have c2:wr.cell? ⟨g,o+k,none⟩=some (.int .u8 (l[k].toNat:Int)):=by rw [← HC.out k hkl];unfold World.cell?;rw [hg1]
     have hgd:l[k]=l.getD k 0:=by simp [List.getD,List.getElem?_eq_getElem hkl]
     rw [hgd] at c2
     have HX2:=Lib.hid (HX.out.trans (show pre ++ backL l (k+1)=(pre ++ [(k,l.getD k 0)]) ++ backL l k by rw [backL];simp))
     obtain ⟨fn,tmps,assign,body,hy,hR⟩:=HY.out pre (k,l.getD k 0) wr HJ.out (by have:=HPL.out;omega)
     have wk:IntKind.i64.wrap ((k:Int) - 1)=(k:Int) - 1:=IntWalk.i64_in _ (by omega)
     clear hb1 hg1 hgd ek HX HJ
     generalize l.getD k 0=b at *
     dsimp only [backArgs] at hy
     gi_wp2_with fail
     refine hR.mono ?_
     rintro e W6 (⟨rfl,hJ6,hk6⟩ | ⟨rfl,hJx6⟩)
     · have HJ6:=Lib.hid hJ6;have HK6:=Lib.hid (HK.out.trans hk6)
       clear hJ6 hk6
       gi_wp2_with fail
       exact ⟨⟨k,pre ++ [(k,b)],rfl,by omega,HX2,Lib.hid (by have:=HPL.out;simp;omega),HJ6,HK6⟩,by simp [intOf]⟩
     · gi_wp2_with fail
       refine bodyPost_ret (results_none rfl _ _ _) rfl ?_
       exact ⟨⟨_,rfl⟩,.inr ⟨pre ++ [(k,b)],⟨backL l k,by rw [HX2.out]⟩,hJx6⟩⟩
end Go.Proofs.YtoepdfpnkmccoaaDoor
