/- Part 3 of what these proofs need. -/
import Derived.ChangeOld
import Derived.Deep.Slices
import Derived.Laws.IdiomArrays
import Derived.Lib.SmallJoins
import Derived.SizedLaws
import Derived.DataReads
import Derived.LaidLaws
import Derived.Test.YtknlkgegbcbcfaaDoorOc2
set_option maxRecDepth 100000
set_option maxHeartbeats 16000000
namespace Go.Proofs.YtknlkgegbcbcfaaDoor
open Go.RowKit
theorem alloc_list:∀ (os:List Obj) (w:World) (k:Nat),k < os.length→(os.foldl World.alloc w).heap[w.heap.size+k]? = os[k]?
 | [],_,k,h=>by simp at h
 | o :: os,w,0,_=>by
   show (os.foldl World.alloc (w.alloc o)).heap[w.heap.size+0]? = some o
   have:∀ (os:List Obj) (v:World) (g:Nat) (x:Obj),v.heap[g]? = some x→(os.foldl World.alloc v).heap[g]? = some x:=by
     intro os
     induction os with
     | nil=>intro v g x h;exact h
     | cons y os ih=>intro v g x h;exact ih _ g x (heap_alloc_lt h)
   exact this os _ _ _ (heap_alloc_new w o)
 | o :: os,w,k+1,h=>by
   show (os.foldl World.alloc (w.alloc o)).heap[w.heap.size+(k+1)]? = os[k]?
   have:=alloc_list os (w.alloc o) k (by simpa using h)
   rw [show (w.alloc o).heap.size=w.heap.size+1 by simp] at this
   rw [show w.heap.size+(k+1)=w.heap.size+1+k by omega]
   exact this
theorem alloc_below:∀ (os:List Obj) (w:World),Below w.heap.size w (os.foldl World.alloc w)
 | [],w=>Below.refl _ _
 | o :: os,w=>by
   have h1:Below w.heap.size w (w.alloc o):=(Below.refl _ _).alloc (Nat.le_refl _) o
   exact h1.trans ((alloc_below os (w.alloc o)).mono h1.size)
theorem trees_one {w:World} {b c:Nat} {t:Tr} {s:Value} {ty:TypeId} (h:w.heap[b]? = some (.cells (t.cells s) ty)) (hs:TreesAt w (fun _=>True) s t.subs):TreesAt w (fun _=>True) (.slice (some ⟨b,0,none⟩) 1 c) [t]:=by
 refine .mk (some ⟨b,0,none⟩) c [t] (fun _=>s) (by simp) (fun i u hi=>?_) (fun i u hi=>?_)
 · match i,hi with
   | 0,hi =>
     simp only [List.getElem?_cons_zero,Option.some.injEq] at hi
     subst hi
     exact ⟨b,0,rfl,trivial,by constructor <;> (unfold World.cell?;rw [h];rfl)⟩
 · match i,hi with
   | 0,hi =>
     simp only [List.getElem?_cons_zero,Option.some.injEq] at hi
     subst hi
     exact hs
theorem trees_two {w:World} {b c:Nat} {t u:Tr} {s r:Value} {ty:TypeId} (h:w.heap[b]? = some (.cells #[.int .i64 t.kind,.int .u64 (Oc.U t.w0),.int .u64 (Oc.U t.w1),.int .u64 (Oc.U t.w2),.int .u64 (Oc.U t.w3),s,.int .i64 t.num,.int .i64 t.least,.int .i64 t.most,.bool t.bare,.int .i64 u.kind,.int .u64 (Oc.U u.w0),.int .u64 (Oc.U u.w1),.int .u64 (Oc.U u.w2),.int .u64 (Oc.U u.w3),r,.int .i64 u.num,.int .i64 u.least,.int .i64 u.most,.bool u.bare] ty)) (hs:TreesAt w (fun _=>True) s t.subs) (hr:TreesAt w (fun _=>True) r u.subs):TreesAt w (fun _=>True) (.slice (some ⟨b,0,none⟩) 2 c) [t,u]:=by
 refine .mk (some ⟨b,0,none⟩) c [t,u] (fun i=>if i=0 then s else r) (by simp) (fun i x hi=>?_) (fun i x hi=>?_)
 · match i,hi with
   | 0,hi =>
     simp only [List.getElem?_cons_zero,Option.some.injEq] at hi
     subst hi
     exact ⟨b,0,rfl,trivial,by constructor <;> (unfold World.cell?;rw [h];rfl)⟩
   | 1,hi =>
     simp only [List.getElem?_cons_succ,List.getElem?_cons_zero,Option.some.injEq] at hi
     subst hi
     exact ⟨b,0,rfl,trivial,by constructor <;> (unfold World.cell?;rw [h];rfl)⟩
 · match i,hi with
   | 0,hi =>
     simp only [List.getElem?_cons_zero,Option.some.injEq] at hi
     subst hi
     exact hs
   | 1,hi =>
     simp only [List.getElem?_cons_succ,List.getElem?_cons_zero,Option.some.injEq] at hi
     subst hi
     exact hr
theorem pas_one {w:World} {b:Nat} {t:Pa} {s:Value} {ty:TypeId} (h:w.heap[b]? = some (.cells (t.cells s) ty)) (hs:PasAt w (fun _=>True) s t.subs):PasAt w (fun _=>True) (.slice (some ⟨b,0,none⟩) 1 1) [t]:=by
 refine .mk (some ⟨b,0,none⟩) 1 [t] (fun _=>s) (by simp) (by simp) (fun i u hi=>?_) (fun i u hi=>?_)
 · match i,hi with
   | 0,hi =>
     simp only [List.getElem?_cons_zero,Option.some.injEq] at hi
     subst hi
     exact ⟨b,0,rfl,trivial,by constructor <;> (unfold World.cell?;rw [h];rfl)⟩
 · match i,hi with
   | 0,hi =>
     simp only [List.getElem?_cons_zero,Option.some.injEq] at hi
     subst hi
     exact hs
theorem pas_two {w:World} {b:Nat} {t u:Pa} {s r:Value} {ty:TypeId} (h:w.heap[b]? = some (.cells #[.int .i64 t.lo,.int .i64 t.hi,.int .i64 t.pick,s,.int .i64 u.lo,.int .i64 u.hi,.int .i64 u.pick,r] ty)) (hs:PasAt w (fun _=>True) s t.subs) (hr:PasAt w (fun _=>True) r u.subs):PasAt w (fun _=>True) (.slice (some ⟨b,0,none⟩) 2 2) [t,u]:=by
 refine .mk (some ⟨b,0,none⟩) 2 [t,u] (fun i=>if i=0 then s else r) (by simp) (by simp) (fun i x hi=>?_) (fun i x hi=>?_)
 · match i,hi with
   | 0,hi =>
     simp only [List.getElem?_cons_zero,Option.some.injEq] at hi
     subst hi
     exact ⟨b,0,rfl,trivial,by constructor <;> (unfold World.cell?;rw [h];rfl)⟩
   | 1,hi =>
     simp only [List.getElem?_cons_succ,List.getElem?_cons_zero,Option.some.injEq] at hi
     subst hi
     exact ⟨b,0,rfl,trivial,by constructor <;> (unfold World.cell?;rw [h];rfl)⟩
 · match i,hi with
   | 0,hi =>
     simp only [List.getElem?_cons_zero,Option.some.injEq] at hi
     subst hi
     exact hs
   | 1,hi =>
     simp only [List.getElem?_cons_succ,List.getElem?_cons_zero,Option.some.injEq] at hi
     subst hi
     exact hr
def rkA:Tr:=.node 2 0#64 8589934592#64 0#64 0#64 [] 0 0 0 false
def rkB:Tr:=.node 2 0#64 17179869184#64 0#64 0#64 [] 0 0 0 false
def rkG2:Tr:=.node 7 0#64 0#64 0#64 0#64 [rkA] 2 0 0 false
def rkAlt:Tr:=.node 6 0#64 0#64 0#64 0#64 [rkG2,rkB] 0 0 0 false
def rkG1:Tr:=.node 7 0#64 0#64 0#64 0#64 [rkAlt] 1 0 0 false
def rkT:Tr:=.node 8 0#64 0#64 0#64 0#64 [rkG1] 0 0 (-1) false
def rkX:Sc:=Sc.new ⟨#[97,98]⟩ 0 0
def rkP3:Pa:=.node 0 1 0 []
def rkP2:Pa:=.node 0 1 0 [rkP3]
def rkP1:Pa:=.node 0 1 0 [rkP2]
def rkOne:Pa:=.node 0 1 0 [rkP1]
def rkQ2:Pa:=.node 1 2 0 []
def rkQ1:Pa:=.node 1 2 1 [rkQ2]
def rkTwo:Pa:=.node 1 2 0 [rkQ1]
def rkWhole:Pa:=.node 0 2 0 [rkOne,rkTwo]
theorem rk_chk:Rk.chk rkX rkT rkWhole=true:=by decide +kernel
theorem rk_dp:rkT.dpT ≤ 1000000:=by decide +kernel
theorem rk_spans:spL 3 (Rk.shown (Rk.of rkWhole rkT))=[(0,2),(1,2),(-1,-1)]:=by decide +kernel
theorem rk_cmp:Pa.cmpT rkOne rkTwo = -1:=by decide +kernel
theorem rk_sz:rkX.t.size ≤ 4611686018427387904:=by decide +kernel
def ScVL (w:World) (v:Value):Prop:=∃ g,v=.pointer (some ⟨g,0,none⟩)∧ScAt w g rkX
theorem ScVL.below {w w':World} {v:Value} (h:ScVL w v) (hb:Below w.heap.size w w'):ScVL w' v:=by obtain ⟨g,e,hx⟩:=h;exact ⟨g,e,hx.below hb⟩
def PaLs (w:World) (v:Value):Prop:=∃ g,v=.slice (some ⟨g,0,none⟩) 2 2∧PasAt w (fun _=>True) (.slice (some ⟨g,0,none⟩) 2 2) [rkOne,rkTwo]
theorem PaLs.below {w w':World} {v:Value} (h:PaLs w v) (hb:Below w.heap.size w w'):PaLs w' v:=by obtain ⟨g,e,h⟩:=h;exact ⟨g,e,h.later hb⟩
def PaVs (w:World) (v:Value):Prop:=∃ g,v=.agg #[.int .i64 0,.int .i64 2,.int .i64 0,.slice (some ⟨g,0,none⟩) 2 2]∧PasAt w (fun _=>True) (.slice (some ⟨g,0,none⟩) 2 2) [rkOne,rkTwo]
theorem PaVs.below {w w':World} {v:Value} (h:PaVs w v) (hb:Below w.heap.size w w'):PaVs w' v:=by obtain ⟨g,e,h⟩:=h;exact ⟨g,e,h.later hb⟩
theorem paw_of {w:World} {g:Nat} (h:PasAt w (fun _=>True) (.slice (some ⟨g,0,none⟩) 2 2) [rkOne,rkTwo]):PaV w (fun _=>True) (.agg #[.int .i64 0,.int .i64 2,.int .i64 0,.slice (some ⟨g,0,none⟩) 2 2]) rkWhole:=⟨_,rfl,h⟩
def SpTup (w:World) (v:Value):Prop:=∃ g,v=.tuple #[.slice (some ⟨g,0,none⟩) 3 3,.bool true]∧w.heap[g]? = some (.cells (sp 3 (Rk.shown (Rk.of rkWhole rkT))) 70)
theorem SpTup.below {w w':World} {v:Value} (h:SpTup w v) (hb:Below w.heap.size w w'):SpTup w' v:=by obtain ⟨g,e,hx⟩:=h;exact ⟨g,e,keep_blk hb hx⟩
def SpSl (w:World) (v:Value):Prop:=∃ g,v=.slice (some ⟨g,0,none⟩) 3 3∧w.heap[g]? = some (.cells (sp 3 (Rk.shown (Rk.of rkWhole rkT))) 70)
theorem SpSl.below {w w':World} {v:Value} (h:SpSl w v) (hb:Below w.heap.size w w'):SpSl w' v:=by obtain ⟨g,e,hx⟩:=h;exact ⟨g,e,keep_blk hb hx⟩
theorem rklives_any (A:Nat→Addr) (w:World) (hE:ErrsC w A):Calls Tryd.prog 29 #[] w fun e w'=>e=.returned (.bool true)∧Below w.heap.size w w':=by
 have HE:=Lib.hid hE
 clear hE
 have HL0:=Lib.hid (alloc_list [Obj.cells #[.int .i64 2,.int .u64 0,.int .u64 8589934592,.int .u64 0,.int .u64 0,.slice none 0 0,.int .i64 0,.int .i64 0,.int .i64 0,.bool false] 37,Obj.cells #[.int .i64 2,.int .u64 0,.int .u64 17179869184,.int .u64 0,.int .u64 0,.slice none 0 0,.int .i64 0,.int .i64 0,.int .i64 0,.bool false] 37,Obj.cells #[.int .i64 2,.int .u64 0,.int .u64 8589934592,.int .u64 0,.int .u64 0,.slice none 0 0,.int .i64 0,.int .i64 0,.int .i64 0,.bool false] 37,Obj.cells #[.int .i64 7,.int .u64 0,.int .u64 0,.int .u64 0,.int .u64 0,.slice (some ⟨w.heap.size+1+1,0,none⟩) 1 1,.int .i64 2,.int .i64 0,.int .i64 0,.bool false,.int .i64 2,.int .u64 0,.int .u64 17179869184,.int .u64 0,.int .u64 0,.slice none 0 0,.int .i64 0,.int .i64 0,.int .i64 0,.bool false] 37,Obj.cells #[.int .i64 6,.int .u64 0,.int .u64 0,.int .u64 0,.int .u64 0,.slice (some ⟨w.heap.size+1+1+1,0,none⟩) 2 2,.int .i64 0,.int .i64 0,.int .i64 0,.bool false] 37,Obj.cells #[.int .i64 6,.int .u64 0,.int .u64 0,.int .u64 0,.int .u64 0,.slice (some ⟨w.heap.size+1+1+1,0,none⟩) 2 2,.int .i64 0,.int .i64 0,.int .i64 0,.bool false] 37,Obj.cells #[.int .i64 7,.int .u64 0,.int .u64 0,.int .u64 0,.int .u64 0,.slice (some ⟨w.heap.size+1+1+1+1+1,0,none⟩) 1 1,.int .i64 1,.int .i64 0,.int .i64 0,.bool false] 37,Obj.cells #[.int .i64 8,.int .u64 0,.int .u64 0,.int .u64 0,.int .u64 0,.slice (some ⟨w.heap.size+1+1+1+1+1+1,0,none⟩) 1 1,.int .i64 0,.int .i64 0,.int .i64 (-1),.bool false] 37,Obj.cells #[.int .i64 0,.int .i64 1,.int .i64 0,.slice none 0 0] 57,Obj.cells #[.int .i64 0,.int .i64 1,.int .i64 0,.slice (some ⟨w.heap.size+1+1+1+1+1+1+1+1,0,none⟩) 1 1] 57,Obj.cells #[.int .i64 0,.int .i64 1,.int .i64 0,.slice (some ⟨w.heap.size+1+1+1+1+1+1+1+1+1,0,none⟩) 1 1] 57,Obj.cells #[.int .i64 0,.int .i64 1,.int .i64 0,.slice (some ⟨w.heap.size+1+1+1+1+1+1+1+1+1+1,0,none⟩) 1 1] 57,Obj.cells #[.int .i64 1,.int .i64 2,.int .i64 0,.slice none 0 0] 57,Obj.cells #[.int .i64 1,.int .i64 2,.int .i64 1,.slice (some ⟨w.heap.size+1+1+1+1+1+1+1+1+1+1+1+1,0,none⟩) 1 1] 57,Obj.cells #[.int .i64 1,.int .i64 2,.int .i64 0,.slice (some ⟨w.heap.size+1+1+1+1+1+1+1+1+1+1+1+1+1,0,none⟩) 1 1] 57] w)
 have HBW:=Lib.hid (show Below w.heap.size w (World.alloc (World.alloc (World.alloc (World.alloc (World.alloc (World.alloc (World.alloc (World.alloc (World.alloc (World.alloc (World.alloc (World.alloc (World.alloc (World.alloc (World.alloc w (.cells #[.int .i64 2,.int .u64 0,.int .u64 8589934592,.int .u64 0,.int .u64 0,.slice none 0 0,.int .i64 0,.int .i64 0,.int .i64 0,.bool false] 37)) (.cells #[.int .i64 2,.int .u64 0,.int .u64 17179869184,.int .u64 0,.int .u64 0,.slice none 0 0,.int .i64 0,.int .i64 0,.int .i64 0,.bool false] 37)) (.cells #[.int .i64 2,.int .u64 0,.int .u64 8589934592,.int .u64 0,.int .u64 0,.slice none 0 0,.int .i64 0,.int .i64 0,.int .i64 0,.bool false] 37)) (.cells #[.int .i64 7,.int .u64 0,.int .u64 0,.int .u64 0,.int .u64 0,.slice (some ⟨w.heap.size+1+1,0,none⟩) 1 1,.int .i64 2,.int .i64 0,.int .i64 0,.bool false,.int .i64 2,.int .u64 0,.int .u64 17179869184,.int .u64 0,.int .u64 0,.slice none 0 0,.int .i64 0,.int .i64 0,.int .i64 0,.bool false] 37)) (.cells #[.int .i64 6,.int .u64 0,.int .u64 0,.int .u64 0,.int .u64 0,.slice (some ⟨w.heap.size+1+1+1,0,none⟩) 2 2,.int .i64 0,.int .i64 0,.int .i64 0,.bool false] 37)) (.cells #[.int .i64 6,.int .u64 0,.int .u64 0,.int .u64 0,.int .u64 0,.slice (some ⟨w.heap.size+1+1+1,0,none⟩) 2 2,.int .i64 0,.int .i64 0,.int .i64 0,.bool false] 37)) (.cells #[.int .i64 7,.int .u64 0,.int .u64 0,.int .u64 0,.int .u64 0,.slice (some ⟨w.heap.size+1+1+1+1+1,0,none⟩) 1 1,.int .i64 1,.int .i64 0,.int .i64 0,.bool false] 37)) (.cells #[.int .i64 8,.int .u64 0,.int .u64 0,.int .u64 0,.int .u64 0,.slice (some ⟨w.heap.size+1+1+1+1+1+1,0,none⟩) 1 1,.int .i64 0,.int .i64 0,.int .i64 (-1),.bool false] 37)) (.cells #[.int .i64 0,.int .i64 1,.int .i64 0,.slice none 0 0] 57)) (.cells #[.int .i64 0,.int .i64 1,.int .i64 0,.slice (some ⟨w.heap.size+1+1+1+1+1+1+1+1,0,none⟩) 1 1] 57)) (.cells #[.int .i64 0,.int .i64 1,.int .i64 0,.slice (some ⟨w.heap.size+1+1+1+1+1+1+1+1+1,0,none⟩) 1 1] 57)) (.cells #[.int .i64 0,.int .i64 1,.int .i64 0,.slice (some ⟨w.heap.size+1+1+1+1+1+1+1+1+1+1,0,none⟩) 1 1] 57)) (.cells #[.int .i64 1,.int .i64 2,.int .i64 0,.slice none 0 0] 57)) (.cells #[.int .i64 1,.int .i64 2,.int .i64 1,.slice (some ⟨w.heap.size+1+1+1+1+1+1+1+1+1+1+1+1,0,none⟩) 1 1] 57)) (.cells #[.int .i64 1,.int .i64 2,.int .i64 0,.slice (some ⟨w.heap.size+1+1+1+1+1+1+1+1+1+1+1+1+1,0,none⟩) 1 1] 57)) from alloc_below [Obj.cells #[.int .i64 2,.int .u64 0,.int .u64 8589934592,.int .u64 0,.int .u64 0,.slice none 0 0,.int .i64 0,.int .i64 0,.int .i64 0,.bool false] 37,Obj.cells #[.int .i64 2,.int .u64 0,.int .u64 17179869184,.int .u64 0,.int .u64 0,.slice none 0 0,.int .i64 0,.int .i64 0,.int .i64 0,.bool false] 37,Obj.cells #[.int .i64 2,.int .u64 0,.int .u64 8589934592,.int .u64 0,.int .u64 0,.slice none 0 0,.int .i64 0,.int .i64 0,.int .i64 0,.bool false] 37,Obj.cells #[.int .i64 7,.int .u64 0,.int .u64 0,.int .u64 0,.int .u64 0,.slice (some ⟨w.heap.size+1+1,0,none⟩) 1 1,.int .i64 2,.int .i64 0,.int .i64 0,.bool false,.int .i64 2,.int .u64 0,.int .u64 17179869184,.int .u64 0,.int .u64 0,.slice none 0 0,.int .i64 0,.int .i64 0,.int .i64 0,.bool false] 37,Obj.cells #[.int .i64 6,.int .u64 0,.int .u64 0,.int .u64 0,.int .u64 0,.slice (some ⟨w.heap.size+1+1+1,0,none⟩) 2 2,.int .i64 0,.int .i64 0,.int .i64 0,.bool false] 37,Obj.cells #[.int .i64 6,.int .u64 0,.int .u64 0,.int .u64 0,.int .u64 0,.slice (some ⟨w.heap.size+1+1+1,0,none⟩) 2 2,.int .i64 0,.int .i64 0,.int .i64 0,.bool false] 37,Obj.cells #[.int .i64 7,.int .u64 0,.int .u64 0,.int .u64 0,.int .u64 0,.slice (some ⟨w.heap.size+1+1+1+1+1,0,none⟩) 1 1,.int .i64 1,.int .i64 0,.int .i64 0,.bool false] 37,Obj.cells #[.int .i64 8,.int .u64 0,.int .u64 0,.int .u64 0,.int .u64 0,.slice (some ⟨w.heap.size+1+1+1+1+1+1,0,none⟩) 1 1,.int .i64 0,.int .i64 0,.int .i64 (-1),.bool false] 37,Obj.cells #[.int .i64 0,.int .i64 1,.int .i64 0,.slice none 0 0] 57,Obj.cells #[.int .i64 0,.int .i64 1,.int .i64 0,.slice (some ⟨w.heap.size+1+1+1+1+1+1+1+1,0,none⟩) 1 1] 57,Obj.cells #[.int .i64 0,.int .i64 1,.int .i64 0,.slice (some ⟨w.heap.size+1+1+1+1+1+1+1+1+1,0,none⟩) 1 1] 57,Obj.cells #[.int .i64 0,.int .i64 1,.int .i64 0,.slice (some ⟨w.heap.size+1+1+1+1+1+1+1+1+1+1,0,none⟩) 1 1] 57,Obj.cells #[.int .i64 1,.int .i64 2,.int .i64 0,.slice none 0 0] 57,Obj.cells #[.int .i64 1,.int .i64 2,.int .i64 1,.slice (some ⟨w.heap.size+1+1+1+1+1+1+1+1+1+1+1+1,0,none⟩) 1 1] 57,Obj.cells #[.int .i64 1,.int .i64 2,.int .i64 0,.slice (some ⟨w.heap.size+1+1+1+1+1+1+1+1+1+1+1+1+1,0,none⟩) 1 1] 57] w)
 have Z0:=Lib.hid (show ((World.alloc (World.alloc (World.alloc (World.alloc (World.alloc (World.alloc (World.alloc (World.alloc (World.alloc (World.alloc (World.alloc (World.alloc (World.alloc (World.alloc (World.alloc w (.cells #[.int .i64 2,.int .u64 0,.int .u64 8589934592,.int .u64 0,.int .u64 0,.slice none 0 0,.int .i64 0,.int .i64 0,.int .i64 0,.bool false] 37)) (.cells #[.int .i64 2,.int .u64 0,.int .u64 17179869184,.int .u64 0,.int .u64 0,.slice none 0 0,.int .i64 0,.int .i64 0,.int .i64 0,.bool false] 37)) (.cells #[.int .i64 2,.int .u64 0,.int .u64 8589934592,.int .u64 0,.int .u64 0,.slice none 0 0,.int .i64 0,.int .i64 0,.int .i64 0,.bool false] 37)) (.cells #[.int .i64 7,.int .u64 0,.int .u64 0,.int .u64 0,.int .u64 0,.slice (some ⟨w.heap.size+1+1,0,none⟩) 1 1,.int .i64 2,.int .i64 0,.int .i64 0,.bool false,.int .i64 2,.int .u64 0,.int .u64 17179869184,.int .u64 0,.int .u64 0,.slice none 0 0,.int .i64 0,.int .i64 0,.int .i64 0,.bool false] 37)) (.cells #[.int .i64 6,.int .u64 0,.int .u64 0,.int .u64 0,.int .u64 0,.slice (some ⟨w.heap.size+1+1+1,0,none⟩) 2 2,.int .i64 0,.int .i64 0,.int .i64 0,.bool false] 37)) (.cells #[.int .i64 6,.int .u64 0,.int .u64 0,.int .u64 0,.int .u64 0,.slice (some ⟨w.heap.size+1+1+1,0,none⟩) 2 2,.int .i64 0,.int .i64 0,.int .i64 0,.bool false] 37)) (.cells #[.int .i64 7,.int .u64 0,.int .u64 0,.int .u64 0,.int .u64 0,.slice (some ⟨w.heap.size+1+1+1+1+1,0,none⟩) 1 1,.int .i64 1,.int .i64 0,.int .i64 0,.bool false] 37)) (.cells #[.int .i64 8,.int .u64 0,.int .u64 0,.int .u64 0,.int .u64 0,.slice (some ⟨w.heap.size+1+1+1+1+1+1,0,none⟩) 1 1,.int .i64 0,.int .i64 0,.int .i64 (-1),.bool false] 37)) (.cells #[.int .i64 0,.int .i64 1,.int .i64 0,.slice none 0 0] 57)) (.cells #[.int .i64 0,.int .i64 1,.int .i64 0,.slice (some ⟨w.heap.size+1+1+1+1+1+1+1+1,0,none⟩) 1 1] 57)) (.cells #[.int .i64 0,.int .i64 1,.int .i64 0,.slice (some ⟨w.heap.size+1+1+1+1+1+1+1+1+1,0,none⟩) 1 1] 57)) (.cells #[.int .i64 0,.int .i64 1,.int .i64 0,.slice (some ⟨w.heap.size+1+1+1+1+1+1+1+1+1+1,0,none⟩) 1 1] 57)) (.cells #[.int .i64 1,.int .i64 2,.int .i64 0,.slice none 0 0] 57)) (.cells #[.int .i64 1,.int .i64 2,.int .i64 1,.slice (some ⟨w.heap.size+1+1+1+1+1+1+1+1+1+1+1+1,0,none⟩) 1 1] 57)) (.cells #[.int .i64 1,.int .i64 2,.int .i64 0,.slice (some ⟨w.heap.size+1+1+1+1+1+1+1+1+1+1+1+1+1,0,none⟩) 1 1] 57))).heap[w.heap.size]? = some (.cells (rkA.cells (.slice none 0 0)) 37) from HL0.out 0 (by show (0:Nat) < 15;decide))
 have Z1:=Lib.hid (show ((World.alloc (World.alloc (World.alloc (World.alloc (World.alloc (World.alloc (World.alloc (World.alloc (World.alloc (World.alloc (World.alloc (World.alloc (World.alloc (World.alloc (World.alloc w (.cells #[.int .i64 2,.int .u64 0,.int .u64 8589934592,.int .u64 0,.int .u64 0,.slice none 0 0,.int .i64 0,.int .i64 0,.int .i64 0,.bool false] 37)) (.cells #[.int .i64 2,.int .u64 0,.int .u64 17179869184,.int .u64 0,.int .u64 0,.slice none 0 0,.int .i64 0,.int .i64 0,.int .i64 0,.bool false] 37)) (.cells #[.int .i64 2,.int .u64 0,.int .u64 8589934592,.int .u64 0,.int .u64 0,.slice none 0 0,.int .i64 0,.int .i64 0,.int .i64 0,.bool false] 37)) (.cells #[.int .i64 7,.int .u64 0,.int .u64 0,.int .u64 0,.int .u64 0,.slice (some ⟨w.heap.size+1+1,0,none⟩) 1 1,.int .i64 2,.int .i64 0,.int .i64 0,.bool false,.int .i64 2,.int .u64 0,.int .u64 17179869184,.int .u64 0,.int .u64 0,.slice none 0 0,.int .i64 0,.int .i64 0,.int .i64 0,.bool false] 37)) (.cells #[.int .i64 6,.int .u64 0,.int .u64 0,.int .u64 0,.int .u64 0,.slice (some ⟨w.heap.size+1+1+1,0,none⟩) 2 2,.int .i64 0,.int .i64 0,.int .i64 0,.bool false] 37)) (.cells #[.int .i64 6,.int .u64 0,.int .u64 0,.int .u64 0,.int .u64 0,.slice (some ⟨w.heap.size+1+1+1,0,none⟩) 2 2,.int .i64 0,.int .i64 0,.int .i64 0,.bool false] 37)) (.cells #[.int .i64 7,.int .u64 0,.int .u64 0,.int .u64 0,.int .u64 0,.slice (some ⟨w.heap.size+1+1+1+1+1,0,none⟩) 1 1,.int .i64 1,.int .i64 0,.int .i64 0,.bool false] 37)) (.cells #[.int .i64 8,.int .u64 0,.int .u64 0,.int .u64 0,.int .u64 0,.slice (some ⟨w.heap.size+1+1+1+1+1+1,0,none⟩) 1 1,.int .i64 0,.int .i64 0,.int .i64 (-1),.bool false] 37)) (.cells #[.int .i64 0,.int .i64 1,.int .i64 0,.slice none 0 0] 57)) (.cells #[.int .i64 0,.int .i64 1,.int .i64 0,.slice (some ⟨w.heap.size+1+1+1+1+1+1+1+1,0,none⟩) 1 1] 57)) (.cells #[.int .i64 0,.int .i64 1,.int .i64 0,.slice (some ⟨w.heap.size+1+1+1+1+1+1+1+1+1,0,none⟩) 1 1] 57)) (.cells #[.int .i64 0,.int .i64 1,.int .i64 0,.slice (some ⟨w.heap.size+1+1+1+1+1+1+1+1+1+1,0,none⟩) 1 1] 57)) (.cells #[.int .i64 1,.int .i64 2,.int .i64 0,.slice none 0 0] 57)) (.cells #[.int .i64 1,.int .i64 2,.int .i64 1,.slice (some ⟨w.heap.size+1+1+1+1+1+1+1+1+1+1+1+1,0,none⟩) 1 1] 57)) (.cells #[.int .i64 1,.int .i64 2,.int .i64 0,.slice (some ⟨w.heap.size+1+1+1+1+1+1+1+1+1+1+1+1+1,0,none⟩) 1 1] 57))).heap[w.heap.size+1]? = some (.cells (rkB.cells (.slice none 0 0)) 37) from HL0.out 1 (by show (1:Nat) < 15;decide))
 have Z2:=Lib.hid (show ((World.alloc (World.alloc (World.alloc (World.alloc (World.alloc (World.alloc (World.alloc (World.alloc (World.alloc (World.alloc (World.alloc (World.alloc (World.alloc (World.alloc (World.alloc w (.cells #[.int .i64 2,.int .u64 0,.int .u64 8589934592,.int .u64 0,.int .u64 0,.slice none 0 0,.int .i64 0,.int .i64 0,.int .i64 0,.bool false] 37)) (.cells #[.int .i64 2,.int .u64 0,.int .u64 17179869184,.int .u64 0,.int .u64 0,.slice none 0 0,.int .i64 0,.int .i64 0,.int .i64 0,.bool false] 37)) (.cells #[.int .i64 2,.int .u64 0,.int .u64 8589934592,.int .u64 0,.int .u64 0,.slice none 0 0,.int .i64 0,.int .i64 0,.int .i64 0,.bool false] 37)) (.cells #[.int .i64 7,.int .u64 0,.int .u64 0,.int .u64 0,.int .u64 0,.slice (some ⟨w.heap.size+1+1,0,none⟩) 1 1,.int .i64 2,.int .i64 0,.int .i64 0,.bool false,.int .i64 2,.int .u64 0,.int .u64 17179869184,.int .u64 0,.int .u64 0,.slice none 0 0,.int .i64 0,.int .i64 0,.int .i64 0,.bool false] 37)) (.cells #[.int .i64 6,.int .u64 0,.int .u64 0,.int .u64 0,.int .u64 0,.slice (some ⟨w.heap.size+1+1+1,0,none⟩) 2 2,.int .i64 0,.int .i64 0,.int .i64 0,.bool false] 37)) (.cells #[.int .i64 6,.int .u64 0,.int .u64 0,.int .u64 0,.int .u64 0,.slice (some ⟨w.heap.size+1+1+1,0,none⟩) 2 2,.int .i64 0,.int .i64 0,.int .i64 0,.bool false] 37)) (.cells #[.int .i64 7,.int .u64 0,.int .u64 0,.int .u64 0,.int .u64 0,.slice (some ⟨w.heap.size+1+1+1+1+1,0,none⟩) 1 1,.int .i64 1,.int .i64 0,.int .i64 0,.bool false] 37)) (.cells #[.int .i64 8,.int .u64 0,.int .u64 0,.int .u64 0,.int .u64 0,.slice (some ⟨w.heap.size+1+1+1+1+1+1,0,none⟩) 1 1,.int .i64 0,.int .i64 0,.int .i64 (-1),.bool false] 37)) (.cells #[.int .i64 0,.int .i64 1,.int .i64 0,.slice none 0 0] 57)) (.cells #[.int .i64 0,.int .i64 1,.int .i64 0,.slice (some ⟨w.heap.size+1+1+1+1+1+1+1+1,0,none⟩) 1 1] 57)) (.cells #[.int .i64 0,.int .i64 1,.int .i64 0,.slice (some ⟨w.heap.size+1+1+1+1+1+1+1+1+1,0,none⟩) 1 1] 57)) (.cells #[.int .i64 0,.int .i64 1,.int .i64 0,.slice (some ⟨w.heap.size+1+1+1+1+1+1+1+1+1+1,0,none⟩) 1 1] 57)) (.cells #[.int .i64 1,.int .i64 2,.int .i64 0,.slice none 0 0] 57)) (.cells #[.int .i64 1,.int .i64 2,.int .i64 1,.slice (some ⟨w.heap.size+1+1+1+1+1+1+1+1+1+1+1+1,0,none⟩) 1 1] 57)) (.cells #[.int .i64 1,.int .i64 2,.int .i64 0,.slice (some ⟨w.heap.size+1+1+1+1+1+1+1+1+1+1+1+1+1,0,none⟩) 1 1] 57))).heap[w.heap.size+1+1]? = some (.cells (rkA.cells (.slice none 0 0)) 37) from HL0.out 2 (by show (2:Nat) < 15;decide))
 have Z3:=Lib.hid (show ((World.alloc (World.alloc (World.alloc (World.alloc (World.alloc (World.alloc (World.alloc (World.alloc (World.alloc (World.alloc (World.alloc (World.alloc (World.alloc (World.alloc (World.alloc w (.cells #[.int .i64 2,.int .u64 0,.int .u64 8589934592,.int .u64 0,.int .u64 0,.slice none 0 0,.int .i64 0,.int .i64 0,.int .i64 0,.bool false] 37)) (.cells #[.int .i64 2,.int .u64 0,.int .u64 17179869184,.int .u64 0,.int .u64 0,.slice none 0 0,.int .i64 0,.int .i64 0,.int .i64 0,.bool false] 37)) (.cells #[.int .i64 2,.int .u64 0,.int .u64 8589934592,.int .u64 0,.int .u64 0,.slice none 0 0,.int .i64 0,.int .i64 0,.int .i64 0,.bool false] 37)) (.cells #[.int .i64 7,.int .u64 0,.int .u64 0,.int .u64 0,.int .u64 0,.slice (some ⟨w.heap.size+1+1,0,none⟩) 1 1,.int .i64 2,.int .i64 0,.int .i64 0,.bool false,.int .i64 2,.int .u64 0,.int .u64 17179869184,.int .u64 0,.int .u64 0,.slice none 0 0,.int .i64 0,.int .i64 0,.int .i64 0,.bool false] 37)) (.cells #[.int .i64 6,.int .u64 0,.int .u64 0,.int .u64 0,.int .u64 0,.slice (some ⟨w.heap.size+1+1+1,0,none⟩) 2 2,.int .i64 0,.int .i64 0,.int .i64 0,.bool false] 37)) (.cells #[.int .i64 6,.int .u64 0,.int .u64 0,.int .u64 0,.int .u64 0,.slice (some ⟨w.heap.size+1+1+1,0,none⟩) 2 2,.int .i64 0,.int .i64 0,.int .i64 0,.bool false] 37)) (.cells #[.int .i64 7,.int .u64 0,.int .u64 0,.int .u64 0,.int .u64 0,.slice (some ⟨w.heap.size+1+1+1+1+1,0,none⟩) 1 1,.int .i64 1,.int .i64 0,.int .i64 0,.bool false] 37)) (.cells #[.int .i64 8,.int .u64 0,.int .u64 0,.int .u64 0,.int .u64 0,.slice (some ⟨w.heap.size+1+1+1+1+1+1,0,none⟩) 1 1,.int .i64 0,.int .i64 0,.int .i64 (-1),.bool false] 37)) (.cells #[.int .i64 0,.int .i64 1,.int .i64 0,.slice none 0 0] 57)) (.cells #[.int .i64 0,.int .i64 1,.int .i64 0,.slice (some ⟨w.heap.size+1+1+1+1+1+1+1+1,0,none⟩) 1 1] 57)) (.cells #[.int .i64 0,.int .i64 1,.int .i64 0,.slice (some ⟨w.heap.size+1+1+1+1+1+1+1+1+1,0,none⟩) 1 1] 57)) (.cells #[.int .i64 0,.int .i64 1,.int .i64 0,.slice (some ⟨w.heap.size+1+1+1+1+1+1+1+1+1+1,0,none⟩) 1 1] 57)) (.cells #[.int .i64 1,.int .i64 2,.int .i64 0,.slice none 0 0] 57)) (.cells #[.int .i64 1,.int .i64 2,.int .i64 1,.slice (some ⟨w.heap.size+1+1+1+1+1+1+1+1+1+1+1+1,0,none⟩) 1 1] 57)) (.cells #[.int .i64 1,.int .i64 2,.int .i64 0,.slice (some ⟨w.heap.size+1+1+1+1+1+1+1+1+1+1+1+1+1,0,none⟩) 1 1] 57))).heap[w.heap.size+1+1+1]? = some (.cells #[.int .i64 rkG2.kind,.int .u64 (Oc.U rkG2.w0),.int .u64 (Oc.U rkG2.w1),.int .u64 (Oc.U rkG2.w2),.int .u64 (Oc.U rkG2.w3),.slice (some ⟨w.heap.size+1+1,0,none⟩) 1 1,.int .i64 rkG2.num,.int .i64 rkG2.least,.int .i64 rkG2.most,.bool rkG2.bare,.int .i64 rkB.kind,.int .u64 (Oc.U rkB.w0),.int .u64 (Oc.U rkB.w1),.int .u64 (Oc.U rkB.w2),.int .u64 (Oc.U rkB.w3),.slice none 0 0,.int .i64 rkB.num,.int .i64 rkB.least,.int .i64 rkB.most,.bool rkB.bare] 37) from HL0.out 3 (by show (3:Nat) < 15;decide))
 have Z4:=Lib.hid (show ((World.alloc (World.alloc (World.alloc (World.alloc (World.alloc (World.alloc (World.alloc (World.alloc (World.alloc (World.alloc (World.alloc (World.alloc (World.alloc (World.alloc (World.alloc w (.cells #[.int .i64 2,.int .u64 0,.int .u64 8589934592,.int .u64 0,.int .u64 0,.slice none 0 0,.int .i64 0,.int .i64 0,.int .i64 0,.bool false] 37)) (.cells #[.int .i64 2,.int .u64 0,.int .u64 17179869184,.int .u64 0,.int .u64 0,.slice none 0 0,.int .i64 0,.int .i64 0,.int .i64 0,.bool false] 37)) (.cells #[.int .i64 2,.int .u64 0,.int .u64 8589934592,.int .u64 0,.int .u64 0,.slice none 0 0,.int .i64 0,.int .i64 0,.int .i64 0,.bool false] 37)) (.cells #[.int .i64 7,.int .u64 0,.int .u64 0,.int .u64 0,.int .u64 0,.slice (some ⟨w.heap.size+1+1,0,none⟩) 1 1,.int .i64 2,.int .i64 0,.int .i64 0,.bool false,.int .i64 2,.int .u64 0,.int .u64 17179869184,.int .u64 0,.int .u64 0,.slice none 0 0,.int .i64 0,.int .i64 0,.int .i64 0,.bool false] 37)) (.cells #[.int .i64 6,.int .u64 0,.int .u64 0,.int .u64 0,.int .u64 0,.slice (some ⟨w.heap.size+1+1+1,0,none⟩) 2 2,.int .i64 0,.int .i64 0,.int .i64 0,.bool false] 37)) (.cells #[.int .i64 6,.int .u64 0,.int .u64 0,.int .u64 0,.int .u64 0,.slice (some ⟨w.heap.size+1+1+1,0,none⟩) 2 2,.int .i64 0,.int .i64 0,.int .i64 0,.bool false] 37)) (.cells #[.int .i64 7,.int .u64 0,.int .u64 0,.int .u64 0,.int .u64 0,.slice (some ⟨w.heap.size+1+1+1+1+1,0,none⟩) 1 1,.int .i64 1,.int .i64 0,.int .i64 0,.bool false] 37)) (.cells #[.int .i64 8,.int .u64 0,.int .u64 0,.int .u64 0,.int .u64 0,.slice (some ⟨w.heap.size+1+1+1+1+1+1,0,none⟩) 1 1,.int .i64 0,.int .i64 0,.int .i64 (-1),.bool false] 37)) (.cells #[.int .i64 0,.int .i64 1,.int .i64 0,.slice none 0 0] 57)) (.cells #[.int .i64 0,.int .i64 1,.int .i64 0,.slice (some ⟨w.heap.size+1+1+1+1+1+1+1+1,0,none⟩) 1 1] 57)) (.cells #[.int .i64 0,.int .i64 1,.int .i64 0,.slice (some ⟨w.heap.size+1+1+1+1+1+1+1+1+1,0,none⟩) 1 1] 57)) (.cells #[.int .i64 0,.int .i64 1,.int .i64 0,.slice (some ⟨w.heap.size+1+1+1+1+1+1+1+1+1+1,0,none⟩) 1 1] 57)) (.cells #[.int .i64 1,.int .i64 2,.int .i64 0,.slice none 0 0] 57)) (.cells #[.int .i64 1,.int .i64 2,.int .i64 1,.slice (some ⟨w.heap.size+1+1+1+1+1+1+1+1+1+1+1+1,0,none⟩) 1 1] 57)) (.cells #[.int .i64 1,.int .i64 2,.int .i64 0,.slice (some ⟨w.heap.size+1+1+1+1+1+1+1+1+1+1+1+1+1,0,none⟩) 1 1] 57))).heap[w.heap.size+1+1+1+1]? = some (.cells #[.int .i64 6,.int .u64 0,.int .u64 0,.int .u64 0,.int .u64 0,.slice (some ⟨w.heap.size+1+1+1,0,none⟩) 2 2,.int .i64 0,.int .i64 0,.int .i64 0,.bool false] 37) from HL0.out 4 (by show (4:Nat) < 15;decide))
 have Z5:=Lib.hid (show ((World.alloc (World.alloc (World.alloc (World.alloc (World.alloc (World.alloc (World.alloc (World.alloc (World.alloc (World.alloc (World.alloc (World.alloc (World.alloc (World.alloc (World.alloc w (.cells #[.int .i64 2,.int .u64 0,.int .u64 8589934592,.int .u64 0,.int .u64 0,.slice none 0 0,.int .i64 0,.int .i64 0,.int .i64 0,.bool false] 37)) (.cells #[.int .i64 2,.int .u64 0,.int .u64 17179869184,.int .u64 0,.int .u64 0,.slice none 0 0,.int .i64 0,.int .i64 0,.int .i64 0,.bool false] 37)) (.cells #[.int .i64 2,.int .u64 0,.int .u64 8589934592,.int .u64 0,.int .u64 0,.slice none 0 0,.int .i64 0,.int .i64 0,.int .i64 0,.bool false] 37)) (.cells #[.int .i64 7,.int .u64 0,.int .u64 0,.int .u64 0,.int .u64 0,.slice (some ⟨w.heap.size+1+1,0,none⟩) 1 1,.int .i64 2,.int .i64 0,.int .i64 0,.bool false,.int .i64 2,.int .u64 0,.int .u64 17179869184,.int .u64 0,.int .u64 0,.slice none 0 0,.int .i64 0,.int .i64 0,.int .i64 0,.bool false] 37)) (.cells #[.int .i64 6,.int .u64 0,.int .u64 0,.int .u64 0,.int .u64 0,.slice (some ⟨w.heap.size+1+1+1,0,none⟩) 2 2,.int .i64 0,.int .i64 0,.int .i64 0,.bool false] 37)) (.cells #[.int .i64 6,.int .u64 0,.int .u64 0,.int .u64 0,.int .u64 0,.slice (some ⟨w.heap.size+1+1+1,0,none⟩) 2 2,.int .i64 0,.int .i64 0,.int .i64 0,.bool false] 37)) (.cells #[.int .i64 7,.int .u64 0,.int .u64 0,.int .u64 0,.int .u64 0,.slice (some ⟨w.heap.size+1+1+1+1+1,0,none⟩) 1 1,.int .i64 1,.int .i64 0,.int .i64 0,.bool false] 37)) (.cells #[.int .i64 8,.int .u64 0,.int .u64 0,.int .u64 0,.int .u64 0,.slice (some ⟨w.heap.size+1+1+1+1+1+1,0,none⟩) 1 1,.int .i64 0,.int .i64 0,.int .i64 (-1),.bool false] 37)) (.cells #[.int .i64 0,.int .i64 1,.int .i64 0,.slice none 0 0] 57)) (.cells #[.int .i64 0,.int .i64 1,.int .i64 0,.slice (some ⟨w.heap.size+1+1+1+1+1+1+1+1,0,none⟩) 1 1] 57)) (.cells #[.int .i64 0,.int .i64 1,.int .i64 0,.slice (some ⟨w.heap.size+1+1+1+1+1+1+1+1+1,0,none⟩) 1 1] 57)) (.cells #[.int .i64 0,.int .i64 1,.int .i64 0,.slice (some ⟨w.heap.size+1+1+1+1+1+1+1+1+1+1,0,none⟩) 1 1] 57)) (.cells #[.int .i64 1,.int .i64 2,.int .i64 0,.slice none 0 0] 57)) (.cells #[.int .i64 1,.int .i64 2,.int .i64 1,.slice (some ⟨w.heap.size+1+1+1+1+1+1+1+1+1+1+1+1,0,none⟩) 1 1] 57)) (.cells #[.int .i64 1,.int .i64 2,.int .i64 0,.slice (some ⟨w.heap.size+1+1+1+1+1+1+1+1+1+1+1+1+1,0,none⟩) 1 1] 57))).heap[w.heap.size+1+1+1+1+1]? = some (.cells (rkAlt.cells (.slice (some ⟨w.heap.size+1+1+1,0,none⟩) 2 2)) 37) from HL0.out 5 (by show (5:Nat) < 15;decide))
 have Z6:=Lib.hid (show ((World.alloc (World.alloc (World.alloc (World.alloc (World.alloc (World.alloc (World.alloc (World.alloc (World.alloc (World.alloc (World.alloc (World.alloc (World.alloc (World.alloc (World.alloc w (.cells #[.int .i64 2,.int .u64 0,.int .u64 8589934592,.int .u64 0,.int .u64 0,.slice none 0 0,.int .i64 0,.int .i64 0,.int .i64 0,.bool false] 37)) (.cells #[.int .i64 2,.int .u64 0,.int .u64 17179869184,.int .u64 0,.int .u64 0,.slice none 0 0,.int .i64 0,.int .i64 0,.int .i64 0,.bool false] 37)) (.cells #[.int .i64 2,.int .u64 0,.int .u64 8589934592,.int .u64 0,.int .u64 0,.slice none 0 0,.int .i64 0,.int .i64 0,.int .i64 0,.bool false] 37)) (.cells #[.int .i64 7,.int .u64 0,.int .u64 0,.int .u64 0,.int .u64 0,.slice (some ⟨w.heap.size+1+1,0,none⟩) 1 1,.int .i64 2,.int .i64 0,.int .i64 0,.bool false,.int .i64 2,.int .u64 0,.int .u64 17179869184,.int .u64 0,.int .u64 0,.slice none 0 0,.int .i64 0,.int .i64 0,.int .i64 0,.bool false] 37)) (.cells #[.int .i64 6,.int .u64 0,.int .u64 0,.int .u64 0,.int .u64 0,.slice (some ⟨w.heap.size+1+1+1,0,none⟩) 2 2,.int .i64 0,.int .i64 0,.int .i64 0,.bool false] 37)) (.cells #[.int .i64 6,.int .u64 0,.int .u64 0,.int .u64 0,.int .u64 0,.slice (some ⟨w.heap.size+1+1+1,0,none⟩) 2 2,.int .i64 0,.int .i64 0,.int .i64 0,.bool false] 37)) (.cells #[.int .i64 7,.int .u64 0,.int .u64 0,.int .u64 0,.int .u64 0,.slice (some ⟨w.heap.size+1+1+1+1+1,0,none⟩) 1 1,.int .i64 1,.int .i64 0,.int .i64 0,.bool false] 37)) (.cells #[.int .i64 8,.int .u64 0,.int .u64 0,.int .u64 0,.int .u64 0,.slice (some ⟨w.heap.size+1+1+1+1+1+1,0,none⟩) 1 1,.int .i64 0,.int .i64 0,.int .i64 (-1),.bool false] 37)) (.cells #[.int .i64 0,.int .i64 1,.int .i64 0,.slice none 0 0] 57)) (.cells #[.int .i64 0,.int .i64 1,.int .i64 0,.slice (some ⟨w.heap.size+1+1+1+1+1+1+1+1,0,none⟩) 1 1] 57)) (.cells #[.int .i64 0,.int .i64 1,.int .i64 0,.slice (some ⟨w.heap.size+1+1+1+1+1+1+1+1+1,0,none⟩) 1 1] 57)) (.cells #[.int .i64 0,.int .i64 1,.int .i64 0,.slice (some ⟨w.heap.size+1+1+1+1+1+1+1+1+1+1,0,none⟩) 1 1] 57)) (.cells #[.int .i64 1,.int .i64 2,.int .i64 0,.slice none 0 0] 57)) (.cells #[.int .i64 1,.int .i64 2,.int .i64 1,.slice (some ⟨w.heap.size+1+1+1+1+1+1+1+1+1+1+1+1,0,none⟩) 1 1] 57)) (.cells #[.int .i64 1,.int .i64 2,.int .i64 0,.slice (some ⟨w.heap.size+1+1+1+1+1+1+1+1+1+1+1+1+1,0,none⟩) 1 1] 57))).heap[w.heap.size+1+1+1+1+1+1]? = some (.cells (rkG1.cells (.slice (some ⟨w.heap.size+1+1+1+1+1,0,none⟩) 1 1)) 37) from HL0.out 6 (by show (6:Nat) < 15;decide))
 have Z7:=Lib.hid (show ((World.alloc (World.alloc (World.alloc (World.alloc (World.alloc (World.alloc (World.alloc (World.alloc (World.alloc (World.alloc (World.alloc (World.alloc (World.alloc (World.alloc (World.alloc w (.cells #[.int .i64 2,.int .u64 0,.int .u64 8589934592,.int .u64 0,.int .u64 0,.slice none 0 0,.int .i64 0,.int .i64 0,.int .i64 0,.bool false] 37)) (.cells #[.int .i64 2,.int .u64 0,.int .u64 17179869184,.int .u64 0,.int .u64 0,.slice none 0 0,.int .i64 0,.int .i64 0,.int .i64 0,.bool false] 37)) (.cells #[.int .i64 2,.int .u64 0,.int .u64 8589934592,.int .u64 0,.int .u64 0,.slice none 0 0,.int .i64 0,.int .i64 0,.int .i64 0,.bool false] 37)) (.cells #[.int .i64 7,.int .u64 0,.int .u64 0,.int .u64 0,.int .u64 0,.slice (some ⟨w.heap.size+1+1,0,none⟩) 1 1,.int .i64 2,.int .i64 0,.int .i64 0,.bool false,.int .i64 2,.int .u64 0,.int .u64 17179869184,.int .u64 0,.int .u64 0,.slice none 0 0,.int .i64 0,.int .i64 0,.int .i64 0,.bool false] 37)) (.cells #[.int .i64 6,.int .u64 0,.int .u64 0,.int .u64 0,.int .u64 0,.slice (some ⟨w.heap.size+1+1+1,0,none⟩) 2 2,.int .i64 0,.int .i64 0,.int .i64 0,.bool false] 37)) (.cells #[.int .i64 6,.int .u64 0,.int .u64 0,.int .u64 0,.int .u64 0,.slice (some ⟨w.heap.size+1+1+1,0,none⟩) 2 2,.int .i64 0,.int .i64 0,.int .i64 0,.bool false] 37)) (.cells #[.int .i64 7,.int .u64 0,.int .u64 0,.int .u64 0,.int .u64 0,.slice (some ⟨w.heap.size+1+1+1+1+1,0,none⟩) 1 1,.int .i64 1,.int .i64 0,.int .i64 0,.bool false] 37)) (.cells #[.int .i64 8,.int .u64 0,.int .u64 0,.int .u64 0,.int .u64 0,.slice (some ⟨w.heap.size+1+1+1+1+1+1,0,none⟩) 1 1,.int .i64 0,.int .i64 0,.int .i64 (-1),.bool false] 37)) (.cells #[.int .i64 0,.int .i64 1,.int .i64 0,.slice none 0 0] 57)) (.cells #[.int .i64 0,.int .i64 1,.int .i64 0,.slice (some ⟨w.heap.size+1+1+1+1+1+1+1+1,0,none⟩) 1 1] 57)) (.cells #[.int .i64 0,.int .i64 1,.int .i64 0,.slice (some ⟨w.heap.size+1+1+1+1+1+1+1+1+1,0,none⟩) 1 1] 57)) (.cells #[.int .i64 0,.int .i64 1,.int .i64 0,.slice (some ⟨w.heap.size+1+1+1+1+1+1+1+1+1+1,0,none⟩) 1 1] 57)) (.cells #[.int .i64 1,.int .i64 2,.int .i64 0,.slice none 0 0] 57)) (.cells #[.int .i64 1,.int .i64 2,.int .i64 1,.slice (some ⟨w.heap.size+1+1+1+1+1+1+1+1+1+1+1+1,0,none⟩) 1 1] 57)) (.cells #[.int .i64 1,.int .i64 2,.int .i64 0,.slice (some ⟨w.heap.size+1+1+1+1+1+1+1+1+1+1+1+1+1,0,none⟩) 1 1] 57))).heap[w.heap.size+1+1+1+1+1+1+1]? = some (.cells #[.int .i64 8,.int .u64 0,.int .u64 0,.int .u64 0,.int .u64 0,.slice (some ⟨w.heap.size+1+1+1+1+1+1,0,none⟩) 1 1,.int .i64 0,.int .i64 0,.int .i64 (-1),.bool false] 37) from HL0.out 7 (by show (7:Nat) < 15;decide))
 have Z8:=Lib.hid (show ((World.alloc (World.alloc (World.alloc (World.alloc (World.alloc (World.alloc (World.alloc (World.alloc (World.alloc (World.alloc (World.alloc (World.alloc (World.alloc (World.alloc (World.alloc w (.cells #[.int .i64 2,.int .u64 0,.int .u64 8589934592,.int .u64 0,.int .u64 0,.slice none 0 0,.int .i64 0,.int .i64 0,.int .i64 0,.bool false] 37)) (.cells #[.int .i64 2,.int .u64 0,.int .u64 17179869184,.int .u64 0,.int .u64 0,.slice none 0 0,.int .i64 0,.int .i64 0,.int .i64 0,.bool false] 37)) (.cells #[.int .i64 2,.int .u64 0,.int .u64 8589934592,.int .u64 0,.int .u64 0,.slice none 0 0,.int .i64 0,.int .i64 0,.int .i64 0,.bool false] 37)) (.cells #[.int .i64 7,.int .u64 0,.int .u64 0,.int .u64 0,.int .u64 0,.slice (some ⟨w.heap.size+1+1,0,none⟩) 1 1,.int .i64 2,.int .i64 0,.int .i64 0,.bool false,.int .i64 2,.int .u64 0,.int .u64 17179869184,.int .u64 0,.int .u64 0,.slice none 0 0,.int .i64 0,.int .i64 0,.int .i64 0,.bool false] 37)) (.cells #[.int .i64 6,.int .u64 0,.int .u64 0,.int .u64 0,.int .u64 0,.slice (some ⟨w.heap.size+1+1+1,0,none⟩) 2 2,.int .i64 0,.int .i64 0,.int .i64 0,.bool false] 37)) (.cells #[.int .i64 6,.int .u64 0,.int .u64 0,.int .u64 0,.int .u64 0,.slice (some ⟨w.heap.size+1+1+1,0,none⟩) 2 2,.int .i64 0,.int .i64 0,.int .i64 0,.bool false] 37)) (.cells #[.int .i64 7,.int .u64 0,.int .u64 0,.int .u64 0,.int .u64 0,.slice (some ⟨w.heap.size+1+1+1+1+1,0,none⟩) 1 1,.int .i64 1,.int .i64 0,.int .i64 0,.bool false] 37)) (.cells #[.int .i64 8,.int .u64 0,.int .u64 0,.int .u64 0,.int .u64 0,.slice (some ⟨w.heap.size+1+1+1+1+1+1,0,none⟩) 1 1,.int .i64 0,.int .i64 0,.int .i64 (-1),.bool false] 37)) (.cells #[.int .i64 0,.int .i64 1,.int .i64 0,.slice none 0 0] 57)) (.cells #[.int .i64 0,.int .i64 1,.int .i64 0,.slice (some ⟨w.heap.size+1+1+1+1+1+1+1+1,0,none⟩) 1 1] 57)) (.cells #[.int .i64 0,.int .i64 1,.int .i64 0,.slice (some ⟨w.heap.size+1+1+1+1+1+1+1+1+1,0,none⟩) 1 1] 57)) (.cells #[.int .i64 0,.int .i64 1,.int .i64 0,.slice (some ⟨w.heap.size+1+1+1+1+1+1+1+1+1+1,0,none⟩) 1 1] 57)) (.cells #[.int .i64 1,.int .i64 2,.int .i64 0,.slice none 0 0] 57)) (.cells #[.int .i64 1,.int .i64 2,.int .i64 1,.slice (some ⟨w.heap.size+1+1+1+1+1+1+1+1+1+1+1+1,0,none⟩) 1 1] 57)) (.cells #[.int .i64 1,.int .i64 2,.int .i64 0,.slice (some ⟨w.heap.size+1+1+1+1+1+1+1+1+1+1+1+1+1,0,none⟩) 1 1] 57))).heap[w.heap.size+1+1+1+1+1+1+1+1]? = some (.cells (rkP3.cells (.slice none 0 0)) 57) from HL0.out 8 (by show (8:Nat) < 15;decide))
 have Z9:=Lib.hid (show ((World.alloc (World.alloc (World.alloc (World.alloc (World.alloc (World.alloc (World.alloc (World.alloc (World.alloc (World.alloc (World.alloc (World.alloc (World.alloc (World.alloc (World.alloc w (.cells #[.int .i64 2,.int .u64 0,.int .u64 8589934592,.int .u64 0,.int .u64 0,.slice none 0 0,.int .i64 0,.int .i64 0,.int .i64 0,.bool false] 37)) (.cells #[.int .i64 2,.int .u64 0,.int .u64 17179869184,.int .u64 0,.int .u64 0,.slice none 0 0,.int .i64 0,.int .i64 0,.int .i64 0,.bool false] 37)) (.cells #[.int .i64 2,.int .u64 0,.int .u64 8589934592,.int .u64 0,.int .u64 0,.slice none 0 0,.int .i64 0,.int .i64 0,.int .i64 0,.bool false] 37)) (.cells #[.int .i64 7,.int .u64 0,.int .u64 0,.int .u64 0,.int .u64 0,.slice (some ⟨w.heap.size+1+1,0,none⟩) 1 1,.int .i64 2,.int .i64 0,.int .i64 0,.bool false,.int .i64 2,.int .u64 0,.int .u64 17179869184,.int .u64 0,.int .u64 0,.slice none 0 0,.int .i64 0,.int .i64 0,.int .i64 0,.bool false] 37)) (.cells #[.int .i64 6,.int .u64 0,.int .u64 0,.int .u64 0,.int .u64 0,.slice (some ⟨w.heap.size+1+1+1,0,none⟩) 2 2,.int .i64 0,.int .i64 0,.int .i64 0,.bool false] 37)) (.cells #[.int .i64 6,.int .u64 0,.int .u64 0,.int .u64 0,.int .u64 0,.slice (some ⟨w.heap.size+1+1+1,0,none⟩) 2 2,.int .i64 0,.int .i64 0,.int .i64 0,.bool false] 37)) (.cells #[.int .i64 7,.int .u64 0,.int .u64 0,.int .u64 0,.int .u64 0,.slice (some ⟨w.heap.size+1+1+1+1+1,0,none⟩) 1 1,.int .i64 1,.int .i64 0,.int .i64 0,.bool false] 37)) (.cells #[.int .i64 8,.int .u64 0,.int .u64 0,.int .u64 0,.int .u64 0,.slice (some ⟨w.heap.size+1+1+1+1+1+1,0,none⟩) 1 1,.int .i64 0,.int .i64 0,.int .i64 (-1),.bool false] 37)) (.cells #[.int .i64 0,.int .i64 1,.int .i64 0,.slice none 0 0] 57)) (.cells #[.int .i64 0,.int .i64 1,.int .i64 0,.slice (some ⟨w.heap.size+1+1+1+1+1+1+1+1,0,none⟩) 1 1] 57)) (.cells #[.int .i64 0,.int .i64 1,.int .i64 0,.slice (some ⟨w.heap.size+1+1+1+1+1+1+1+1+1,0,none⟩) 1 1] 57)) (.cells #[.int .i64 0,.int .i64 1,.int .i64 0,.slice (some ⟨w.heap.size+1+1+1+1+1+1+1+1+1+1,0,none⟩) 1 1] 57)) (.cells #[.int .i64 1,.int .i64 2,.int .i64 0,.slice none 0 0] 57)) (.cells #[.int .i64 1,.int .i64 2,.int .i64 1,.slice (some ⟨w.heap.size+1+1+1+1+1+1+1+1+1+1+1+1,0,none⟩) 1 1] 57)) (.cells #[.int .i64 1,.int .i64 2,.int .i64 0,.slice (some ⟨w.heap.size+1+1+1+1+1+1+1+1+1+1+1+1+1,0,none⟩) 1 1] 57))).heap[w.heap.size+1+1+1+1+1+1+1+1+1]? = some (.cells (rkP2.cells (.slice (some ⟨w.heap.size+1+1+1+1+1+1+1+1,0,none⟩) 1 1)) 57) from HL0.out 9 (by show (9:Nat) < 15;decide))
 have Z10:=Lib.hid (show ((World.alloc (World.alloc (World.alloc (World.alloc (World.alloc (World.alloc (World.alloc (World.alloc (World.alloc (World.alloc (World.alloc (World.alloc (World.alloc (World.alloc (World.alloc w (.cells #[.int .i64 2,.int .u64 0,.int .u64 8589934592,.int .u64 0,.int .u64 0,.slice none 0 0,.int .i64 0,.int .i64 0,.int .i64 0,.bool false] 37)) (.cells #[.int .i64 2,.int .u64 0,.int .u64 17179869184,.int .u64 0,.int .u64 0,.slice none 0 0,.int .i64 0,.int .i64 0,.int .i64 0,.bool false] 37)) (.cells #[.int .i64 2,.int .u64 0,.int .u64 8589934592,.int .u64 0,.int .u64 0,.slice none 0 0,.int .i64 0,.int .i64 0,.int .i64 0,.bool false] 37)) (.cells #[.int .i64 7,.int .u64 0,.int .u64 0,.int .u64 0,.int .u64 0,.slice (some ⟨w.heap.size+1+1,0,none⟩) 1 1,.int .i64 2,.int .i64 0,.int .i64 0,.bool false,.int .i64 2,.int .u64 0,.int .u64 17179869184,.int .u64 0,.int .u64 0,.slice none 0 0,.int .i64 0,.int .i64 0,.int .i64 0,.bool false] 37)) (.cells #[.int .i64 6,.int .u64 0,.int .u64 0,.int .u64 0,.int .u64 0,.slice (some ⟨w.heap.size+1+1+1,0,none⟩) 2 2,.int .i64 0,.int .i64 0,.int .i64 0,.bool false] 37)) (.cells #[.int .i64 6,.int .u64 0,.int .u64 0,.int .u64 0,.int .u64 0,.slice (some ⟨w.heap.size+1+1+1,0,none⟩) 2 2,.int .i64 0,.int .i64 0,.int .i64 0,.bool false] 37)) (.cells #[.int .i64 7,.int .u64 0,.int .u64 0,.int .u64 0,.int .u64 0,.slice (some ⟨w.heap.size+1+1+1+1+1,0,none⟩) 1 1,.int .i64 1,.int .i64 0,.int .i64 0,.bool false] 37)) (.cells #[.int .i64 8,.int .u64 0,.int .u64 0,.int .u64 0,.int .u64 0,.slice (some ⟨w.heap.size+1+1+1+1+1+1,0,none⟩) 1 1,.int .i64 0,.int .i64 0,.int .i64 (-1),.bool false] 37)) (.cells #[.int .i64 0,.int .i64 1,.int .i64 0,.slice none 0 0] 57)) (.cells #[.int .i64 0,.int .i64 1,.int .i64 0,.slice (some ⟨w.heap.size+1+1+1+1+1+1+1+1,0,none⟩) 1 1] 57)) (.cells #[.int .i64 0,.int .i64 1,.int .i64 0,.slice (some ⟨w.heap.size+1+1+1+1+1+1+1+1+1,0,none⟩) 1 1] 57)) (.cells #[.int .i64 0,.int .i64 1,.int .i64 0,.slice (some ⟨w.heap.size+1+1+1+1+1+1+1+1+1+1,0,none⟩) 1 1] 57)) (.cells #[.int .i64 1,.int .i64 2,.int .i64 0,.slice none 0 0] 57)) (.cells #[.int .i64 1,.int .i64 2,.int .i64 1,.slice (some ⟨w.heap.size+1+1+1+1+1+1+1+1+1+1+1+1,0,none⟩) 1 1] 57)) (.cells #[.int .i64 1,.int .i64 2,.int .i64 0,.slice (some ⟨w.heap.size+1+1+1+1+1+1+1+1+1+1+1+1+1,0,none⟩) 1 1] 57))).heap[w.heap.size+1+1+1+1+1+1+1+1+1+1]? = some (.cells (rkP1.cells (.slice (some ⟨w.heap.size+1+1+1+1+1+1+1+1+1,0,none⟩) 1 1)) 57) from HL0.out 10 (by show (10:Nat) < 15;decide))
 have Z11:=Lib.hid (show ((World.alloc (World.alloc (World.alloc (World.alloc (World.alloc (World.alloc (World.alloc (World.alloc (World.alloc (World.alloc (World.alloc (World.alloc (World.alloc (World.alloc (World.alloc w (.cells #[.int .i64 2,.int .u64 0,.int .u64 8589934592,.int .u64 0,.int .u64 0,.slice none 0 0,.int .i64 0,.int .i64 0,.int .i64 0,.bool false] 37)) (.cells #[.int .i64 2,.int .u64 0,.int .u64 17179869184,.int .u64 0,.int .u64 0,.slice none 0 0,.int .i64 0,.int .i64 0,.int .i64 0,.bool false] 37)) (.cells #[.int .i64 2,.int .u64 0,.int .u64 8589934592,.int .u64 0,.int .u64 0,.slice none 0 0,.int .i64 0,.int .i64 0,.int .i64 0,.bool false] 37)) (.cells #[.int .i64 7,.int .u64 0,.int .u64 0,.int .u64 0,.int .u64 0,.slice (some ⟨w.heap.size+1+1,0,none⟩) 1 1,.int .i64 2,.int .i64 0,.int .i64 0,.bool false,.int .i64 2,.int .u64 0,.int .u64 17179869184,.int .u64 0,.int .u64 0,.slice none 0 0,.int .i64 0,.int .i64 0,.int .i64 0,.bool false] 37)) (.cells #[.int .i64 6,.int .u64 0,.int .u64 0,.int .u64 0,.int .u64 0,.slice (some ⟨w.heap.size+1+1+1,0,none⟩) 2 2,.int .i64 0,.int .i64 0,.int .i64 0,.bool false] 37)) (.cells #[.int .i64 6,.int .u64 0,.int .u64 0,.int .u64 0,.int .u64 0,.slice (some ⟨w.heap.size+1+1+1,0,none⟩) 2 2,.int .i64 0,.int .i64 0,.int .i64 0,.bool false] 37)) (.cells #[.int .i64 7,.int .u64 0,.int .u64 0,.int .u64 0,.int .u64 0,.slice (some ⟨w.heap.size+1+1+1+1+1,0,none⟩) 1 1,.int .i64 1,.int .i64 0,.int .i64 0,.bool false] 37)) (.cells #[.int .i64 8,.int .u64 0,.int .u64 0,.int .u64 0,.int .u64 0,.slice (some ⟨w.heap.size+1+1+1+1+1+1,0,none⟩) 1 1,.int .i64 0,.int .i64 0,.int .i64 (-1),.bool false] 37)) (.cells #[.int .i64 0,.int .i64 1,.int .i64 0,.slice none 0 0] 57)) (.cells #[.int .i64 0,.int .i64 1,.int .i64 0,.slice (some ⟨w.heap.size+1+1+1+1+1+1+1+1,0,none⟩) 1 1] 57)) (.cells #[.int .i64 0,.int .i64 1,.int .i64 0,.slice (some ⟨w.heap.size+1+1+1+1+1+1+1+1+1,0,none⟩) 1 1] 57)) (.cells #[.int .i64 0,.int .i64 1,.int .i64 0,.slice (some ⟨w.heap.size+1+1+1+1+1+1+1+1+1+1,0,none⟩) 1 1] 57)) (.cells #[.int .i64 1,.int .i64 2,.int .i64 0,.slice none 0 0] 57)) (.cells #[.int .i64 1,.int .i64 2,.int .i64 1,.slice (some ⟨w.heap.size+1+1+1+1+1+1+1+1+1+1+1+1,0,none⟩) 1 1] 57)) (.cells #[.int .i64 1,.int .i64 2,.int .i64 0,.slice (some ⟨w.heap.size+1+1+1+1+1+1+1+1+1+1+1+1+1,0,none⟩) 1 1] 57))).heap[w.heap.size+1+1+1+1+1+1+1+1+1+1+1]? = some (.cells #[.int .i64 0,.int .i64 1,.int .i64 0,.slice (some ⟨w.heap.size+1+1+1+1+1+1+1+1+1+1,0,none⟩) 1 1] 57) from HL0.out 11 (by show (11:Nat) < 15;decide))
 have Z12:=Lib.hid (show ((World.alloc (World.alloc (World.alloc (World.alloc (World.alloc (World.alloc (World.alloc (World.alloc (World.alloc (World.alloc (World.alloc (World.alloc (World.alloc (World.alloc (World.alloc w (.cells #[.int .i64 2,.int .u64 0,.int .u64 8589934592,.int .u64 0,.int .u64 0,.slice none 0 0,.int .i64 0,.int .i64 0,.int .i64 0,.bool false] 37)) (.cells #[.int .i64 2,.int .u64 0,.int .u64 17179869184,.int .u64 0,.int .u64 0,.slice none 0 0,.int .i64 0,.int .i64 0,.int .i64 0,.bool false] 37)) (.cells #[.int .i64 2,.int .u64 0,.int .u64 8589934592,.int .u64 0,.int .u64 0,.slice none 0 0,.int .i64 0,.int .i64 0,.int .i64 0,.bool false] 37)) (.cells #[.int .i64 7,.int .u64 0,.int .u64 0,.int .u64 0,.int .u64 0,.slice (some ⟨w.heap.size+1+1,0,none⟩) 1 1,.int .i64 2,.int .i64 0,.int .i64 0,.bool false,.int .i64 2,.int .u64 0,.int .u64 17179869184,.int .u64 0,.int .u64 0,.slice none 0 0,.int .i64 0,.int .i64 0,.int .i64 0,.bool false] 37)) (.cells #[.int .i64 6,.int .u64 0,.int .u64 0,.int .u64 0,.int .u64 0,.slice (some ⟨w.heap.size+1+1+1,0,none⟩) 2 2,.int .i64 0,.int .i64 0,.int .i64 0,.bool false] 37)) (.cells #[.int .i64 6,.int .u64 0,.int .u64 0,.int .u64 0,.int .u64 0,.slice (some ⟨w.heap.size+1+1+1,0,none⟩) 2 2,.int .i64 0,.int .i64 0,.int .i64 0,.bool false] 37)) (.cells #[.int .i64 7,.int .u64 0,.int .u64 0,.int .u64 0,.int .u64 0,.slice (some ⟨w.heap.size+1+1+1+1+1,0,none⟩) 1 1,.int .i64 1,.int .i64 0,.int .i64 0,.bool false] 37)) (.cells #[.int .i64 8,.int .u64 0,.int .u64 0,.int .u64 0,.int .u64 0,.slice (some ⟨w.heap.size+1+1+1+1+1+1,0,none⟩) 1 1,.int .i64 0,.int .i64 0,.int .i64 (-1),.bool false] 37)) (.cells #[.int .i64 0,.int .i64 1,.int .i64 0,.slice none 0 0] 57)) (.cells #[.int .i64 0,.int .i64 1,.int .i64 0,.slice (some ⟨w.heap.size+1+1+1+1+1+1+1+1,0,none⟩) 1 1] 57)) (.cells #[.int .i64 0,.int .i64 1,.int .i64 0,.slice (some ⟨w.heap.size+1+1+1+1+1+1+1+1+1,0,none⟩) 1 1] 57)) (.cells #[.int .i64 0,.int .i64 1,.int .i64 0,.slice (some ⟨w.heap.size+1+1+1+1+1+1+1+1+1+1,0,none⟩) 1 1] 57)) (.cells #[.int .i64 1,.int .i64 2,.int .i64 0,.slice none 0 0] 57)) (.cells #[.int .i64 1,.int .i64 2,.int .i64 1,.slice (some ⟨w.heap.size+1+1+1+1+1+1+1+1+1+1+1+1,0,none⟩) 1 1] 57)) (.cells #[.int .i64 1,.int .i64 2,.int .i64 0,.slice (some ⟨w.heap.size+1+1+1+1+1+1+1+1+1+1+1+1+1,0,none⟩) 1 1] 57))).heap[w.heap.size+1+1+1+1+1+1+1+1+1+1+1+1]? = some (.cells (rkQ2.cells (.slice none 0 0)) 57) from HL0.out 12 (by show (12:Nat) < 15;decide))
 have Z13:=Lib.hid (show ((World.alloc (World.alloc (World.alloc (World.alloc (World.alloc (World.alloc (World.alloc (World.alloc (World.alloc (World.alloc (World.alloc (World.alloc (World.alloc (World.alloc (World.alloc w (.cells #[.int .i64 2,.int .u64 0,.int .u64 8589934592,.int .u64 0,.int .u64 0,.slice none 0 0,.int .i64 0,.int .i64 0,.int .i64 0,.bool false] 37)) (.cells #[.int .i64 2,.int .u64 0,.int .u64 17179869184,.int .u64 0,.int .u64 0,.slice none 0 0,.int .i64 0,.int .i64 0,.int .i64 0,.bool false] 37)) (.cells #[.int .i64 2,.int .u64 0,.int .u64 8589934592,.int .u64 0,.int .u64 0,.slice none 0 0,.int .i64 0,.int .i64 0,.int .i64 0,.bool false] 37)) (.cells #[.int .i64 7,.int .u64 0,.int .u64 0,.int .u64 0,.int .u64 0,.slice (some ⟨w.heap.size+1+1,0,none⟩) 1 1,.int .i64 2,.int .i64 0,.int .i64 0,.bool false,.int .i64 2,.int .u64 0,.int .u64 17179869184,.int .u64 0,.int .u64 0,.slice none 0 0,.int .i64 0,.int .i64 0,.int .i64 0,.bool false] 37)) (.cells #[.int .i64 6,.int .u64 0,.int .u64 0,.int .u64 0,.int .u64 0,.slice (some ⟨w.heap.size+1+1+1,0,none⟩) 2 2,.int .i64 0,.int .i64 0,.int .i64 0,.bool false] 37)) (.cells #[.int .i64 6,.int .u64 0,.int .u64 0,.int .u64 0,.int .u64 0,.slice (some ⟨w.heap.size+1+1+1,0,none⟩) 2 2,.int .i64 0,.int .i64 0,.int .i64 0,.bool false] 37)) (.cells #[.int .i64 7,.int .u64 0,.int .u64 0,.int .u64 0,.int .u64 0,.slice (some ⟨w.heap.size+1+1+1+1+1,0,none⟩) 1 1,.int .i64 1,.int .i64 0,.int .i64 0,.bool false] 37)) (.cells #[.int .i64 8,.int .u64 0,.int .u64 0,.int .u64 0,.int .u64 0,.slice (some ⟨w.heap.size+1+1+1+1+1+1,0,none⟩) 1 1,.int .i64 0,.int .i64 0,.int .i64 (-1),.bool false] 37)) (.cells #[.int .i64 0,.int .i64 1,.int .i64 0,.slice none 0 0] 57)) (.cells #[.int .i64 0,.int .i64 1,.int .i64 0,.slice (some ⟨w.heap.size+1+1+1+1+1+1+1+1,0,none⟩) 1 1] 57)) (.cells #[.int .i64 0,.int .i64 1,.int .i64 0,.slice (some ⟨w.heap.size+1+1+1+1+1+1+1+1+1,0,none⟩) 1 1] 57)) (.cells #[.int .i64 0,.int .i64 1,.int .i64 0,.slice (some ⟨w.heap.size+1+1+1+1+1+1+1+1+1+1,0,none⟩) 1 1] 57)) (.cells #[.int .i64 1,.int .i64 2,.int .i64 0,.slice none 0 0] 57)) (.cells #[.int .i64 1,.int .i64 2,.int .i64 1,.slice (some ⟨w.heap.size+1+1+1+1+1+1+1+1+1+1+1+1,0,none⟩) 1 1] 57)) (.cells #[.int .i64 1,.int .i64 2,.int .i64 0,.slice (some ⟨w.heap.size+1+1+1+1+1+1+1+1+1+1+1+1+1,0,none⟩) 1 1] 57))).heap[w.heap.size+1+1+1+1+1+1+1+1+1+1+1+1+1]? = some (.cells (rkQ1.cells (.slice (some ⟨w.heap.size+1+1+1+1+1+1+1+1+1+1+1+1,0,none⟩) 1 1)) 57) from HL0.out 13 (by show (13:Nat) < 15;decide))
 have Z14:=Lib.hid (show ((World.alloc (World.alloc (World.alloc (World.alloc (World.alloc (World.alloc (World.alloc (World.alloc (World.alloc (World.alloc (World.alloc (World.alloc (World.alloc (World.alloc (World.alloc w (.cells #[.int .i64 2,.int .u64 0,.int .u64 8589934592,.int .u64 0,.int .u64 0,.slice none 0 0,.int .i64 0,.int .i64 0,.int .i64 0,.bool false] 37)) (.cells #[.int .i64 2,.int .u64 0,.int .u64 17179869184,.int .u64 0,.int .u64 0,.slice none 0 0,.int .i64 0,.int .i64 0,.int .i64 0,.bool false] 37)) (.cells #[.int .i64 2,.int .u64 0,.int .u64 8589934592,.int .u64 0,.int .u64 0,.slice none 0 0,.int .i64 0,.int .i64 0,.int .i64 0,.bool false] 37)) (.cells #[.int .i64 7,.int .u64 0,.int .u64 0,.int .u64 0,.int .u64 0,.slice (some ⟨w.heap.size+1+1,0,none⟩) 1 1,.int .i64 2,.int .i64 0,.int .i64 0,.bool false,.int .i64 2,.int .u64 0,.int .u64 17179869184,.int .u64 0,.int .u64 0,.slice none 0 0,.int .i64 0,.int .i64 0,.int .i64 0,.bool false] 37)) (.cells #[.int .i64 6,.int .u64 0,.int .u64 0,.int .u64 0,.int .u64 0,.slice (some ⟨w.heap.size+1+1+1,0,none⟩) 2 2,.int .i64 0,.int .i64 0,.int .i64 0,.bool false] 37)) (.cells #[.int .i64 6,.int .u64 0,.int .u64 0,.int .u64 0,.int .u64 0,.slice (some ⟨w.heap.size+1+1+1,0,none⟩) 2 2,.int .i64 0,.int .i64 0,.int .i64 0,.bool false] 37)) (.cells #[.int .i64 7,.int .u64 0,.int .u64 0,.int .u64 0,.int .u64 0,.slice (some ⟨w.heap.size+1+1+1+1+1,0,none⟩) 1 1,.int .i64 1,.int .i64 0,.int .i64 0,.bool false] 37)) (.cells #[.int .i64 8,.int .u64 0,.int .u64 0,.int .u64 0,.int .u64 0,.slice (some ⟨w.heap.size+1+1+1+1+1+1,0,none⟩) 1 1,.int .i64 0,.int .i64 0,.int .i64 (-1),.bool false] 37)) (.cells #[.int .i64 0,.int .i64 1,.int .i64 0,.slice none 0 0] 57)) (.cells #[.int .i64 0,.int .i64 1,.int .i64 0,.slice (some ⟨w.heap.size+1+1+1+1+1+1+1+1,0,none⟩) 1 1] 57)) (.cells #[.int .i64 0,.int .i64 1,.int .i64 0,.slice (some ⟨w.heap.size+1+1+1+1+1+1+1+1+1,0,none⟩) 1 1] 57)) (.cells #[.int .i64 0,.int .i64 1,.int .i64 0,.slice (some ⟨w.heap.size+1+1+1+1+1+1+1+1+1+1,0,none⟩) 1 1] 57)) (.cells #[.int .i64 1,.int .i64 2,.int .i64 0,.slice none 0 0] 57)) (.cells #[.int .i64 1,.int .i64 2,.int .i64 1,.slice (some ⟨w.heap.size+1+1+1+1+1+1+1+1+1+1+1+1,0,none⟩) 1 1] 57)) (.cells #[.int .i64 1,.int .i64 2,.int .i64 0,.slice (some ⟨w.heap.size+1+1+1+1+1+1+1+1+1+1+1+1+1,0,none⟩) 1 1] 57))).heap[w.heap.size+1+1+1+1+1+1+1+1+1+1+1+1+1+1]? = some (.cells #[.int .i64 1,.int .i64 2,.int .i64 0,.slice (some ⟨w.heap.size+1+1+1+1+1+1+1+1+1+1+1+1+1,0,none⟩) 1 1] 57) from HL0.out 14 (by show (14:Nat) < 15;decide))
 go_enter Tryd.func29,Tryd.ntmps29
 go_upto_region 6 with (fail)
 clear HL0
 generalize (World.alloc (World.alloc (World.alloc (World.alloc (World.alloc (World.alloc (World.alloc (World.alloc (World.alloc (World.alloc (World.alloc (World.alloc (World.alloc (World.alloc (World.alloc w (.cells #[.int .i64 2,.int .u64 0,.int .u64 8589934592,.int .u64 0,.int .u64 0,.slice none 0 0,.int .i64 0,.int .i64 0,.int .i64 0,.bool false] 37)) (.cells #[.int .i64 2,.int .u64 0,.int .u64 17179869184,.int .u64 0,.int .u64 0,.slice none 0 0,.int .i64 0,.int .i64 0,.int .i64 0,.bool false] 37)) (.cells #[.int .i64 2,.int .u64 0,.int .u64 8589934592,.int .u64 0,.int .u64 0,.slice none 0 0,.int .i64 0,.int .i64 0,.int .i64 0,.bool false] 37)) (.cells #[.int .i64 7,.int .u64 0,.int .u64 0,.int .u64 0,.int .u64 0,.slice (some ⟨w.heap.size+1+1,0,none⟩) 1 1,.int .i64 2,.int .i64 0,.int .i64 0,.bool false,.int .i64 2,.int .u64 0,.int .u64 17179869184,.int .u64 0,.int .u64 0,.slice none 0 0,.int .i64 0,.int .i64 0,.int .i64 0,.bool false] 37)) (.cells #[.int .i64 6,.int .u64 0,.int .u64 0,.int .u64 0,.int .u64 0,.slice (some ⟨w.heap.size+1+1+1,0,none⟩) 2 2,.int .i64 0,.int .i64 0,.int .i64 0,.bool false] 37)) (.cells #[.int .i64 6,.int .u64 0,.int .u64 0,.int .u64 0,.int .u64 0,.slice (some ⟨w.heap.size+1+1+1,0,none⟩) 2 2,.int .i64 0,.int .i64 0,.int .i64 0,.bool false] 37)) (.cells #[.int .i64 7,.int .u64 0,.int .u64 0,.int .u64 0,.int .u64 0,.slice (some ⟨w.heap.size+1+1+1+1+1,0,none⟩) 1 1,.int .i64 1,.int .i64 0,.int .i64 0,.bool false] 37)) (.cells #[.int .i64 8,.int .u64 0,.int .u64 0,.int .u64 0,.int .u64 0,.slice (some ⟨w.heap.size+1+1+1+1+1+1,0,none⟩) 1 1,.int .i64 0,.int .i64 0,.int .i64 (-1),.bool false] 37)) (.cells #[.int .i64 0,.int .i64 1,.int .i64 0,.slice none 0 0] 57)) (.cells #[.int .i64 0,.int .i64 1,.int .i64 0,.slice (some ⟨w.heap.size+1+1+1+1+1+1+1+1,0,none⟩) 1 1] 57)) (.cells #[.int .i64 0,.int .i64 1,.int .i64 0,.slice (some ⟨w.heap.size+1+1+1+1+1+1+1+1+1,0,none⟩) 1 1] 57)) (.cells #[.int .i64 0,.int .i64 1,.int .i64 0,.slice (some ⟨w.heap.size+1+1+1+1+1+1+1+1+1+1,0,none⟩) 1 1] 57)) (.cells #[.int .i64 1,.int .i64 2,.int .i64 0,.slice none 0 0] 57)) (.cells #[.int .i64 1,.int .i64 2,.int .i64 1,.slice (some ⟨w.heap.size+1+1+1+1+1+1+1+1+1+1+1+1,0,none⟩) 1 1] 57)) (.cells #[.int .i64 1,.int .i64 2,.int .i64 0,.slice (some ⟨w.heap.size+1+1+1+1+1+1+1+1+1+1+1+1+1,0,none⟩) 1 1] 57))=W at *
 have H2:=trees_one (t:=rkA) (c:=1) Z2.out .nil
 have H3:=trees_two (t:=rkG2) (u:=rkB) (c:=2) Z3.out H2 .nil
 have H5:=trees_one (t:=rkAlt) (c:=1) Z5.out H3
 have HN:=Lib.hid (trees_one (t:=rkG1) (c:=1) Z6.out H5)
 have P8:=pas_one (t:=rkP3) Z8.out .nil
 have P9:=pas_one (t:=rkP2) Z9.out P8
 have HP1:=Lib.hid (pas_one (t:=rkP1) Z10.out P9)
 have P12:=pas_one (t:=rkQ2) Z12.out .nil
 have HP2:=Lib.hid (pas_one (t:=rkQ1) Z13.out P12)
 have HNV:=Lib.hid (show NodeV W (fun _=>True) (.agg #[.int .i64 8,.int .u64 0,.int .u64 0,.int .u64 0,.int .u64 0,.slice (some ⟨w.heap.size+1+1+1+1+1+1,0,none⟩) 1 1,.int .i64 0,.int .i64 0,.int .i64 (-1),.bool false]) rkT from ⟨.slice (some ⟨w.heap.size+1+1+1+1+1+1,0,none⟩) 1 1,by kernel_rfl,HN.out⟩)
 have HSPC:=Lib.hid (fun w9 (hb:Below W.heap.size W w9) g8 (hx8:ScAt w9 g8 rkX) vq (hq:PaV w9 (fun _=>True) vq rkWhole)=>show Calls Tryd.prog 34 #[.agg #[.int .i64 8,.int .u64 0,.int .u64 0,.int .u64 0,.int .u64 0,.slice (some ⟨w.heap.size+1+1+1+1+1+1,0,none⟩) 1 1,.int .i64 0,.int .i64 0,.int .i64 (-1),.bool false],.pointer (some ⟨g8,0,none⟩),vq,.int .i64 2] w9 (SpYes 3 (Rk.shown (Rk.of rkWhole rkT)) w9) from rkspans_yes A rkX g8 rk_sz rkT rk_dp rkWhole 2 (by decide) rk_chk w9 (HE.out.below (HBW.out.trans (hb.mono HBW.out.size))) hx8 (fun _=>True) (fun _=>True) _ _ (HNV.out.later hb) hq)
 clear H2 H3 H5 P8 P9 P12
 refine Ri.wp_region_frame (by kernel_rfl) (by kernel_rfl) (by kernel_rfl) (by kernel_rfl)
   (fun L v w'=>Below W.heap.size W w'∧(L 0=true→v 0=.agg #[.int .i64 8,.int .u64 0,.int .u64 0,.int .u64 0,.int .u64 0,.slice (some ⟨w.heap.size+1+1+1+1+1+1,0,none⟩) 1 1,.int .i64 0,.int .i64 0,.int .i64 (-1),.bool false])∧(L 1=true→ScVL w' (v 1))∧(L 2=true→v 2=.agg #[.int .i64 0,.int .i64 1,.int .i64 0,.slice (some ⟨w.heap.size+1+1+1+1+1+1+1+1+1+1,0,none⟩) 1 1])∧(L 3=true→v 3=.agg #[.int .i64 1,.int .i64 2,.int .i64 0,.slice (some ⟨w.heap.size+1+1+1+1+1+1+1+1+1+1+1+1+1,0,none⟩) 1 1])∧(L 4=true→PaLs w' (v 4))∧(L 5=true→PaVs w' (v 5))∧(L 6=true→SpTup w' (v 6))∧(L 7=true→SpTup w' (v 7))∧(L 8=true→SpSl w' (v 8))∧(L 9=true→v 9=.bool true)∧(L 10=true→SpSl w' (v 10))∧(L 11=true→v 11=.bool true))
   ?_ ?_ ?_
 · exact ⟨(Below.refl _ _).drew,by simp,by simp,by simp,by simp,by simp,by simp,by simp,by simp,by simp,by simp,by simp,by simp⟩
 · intro i hi9 L v w9 xa hI hL hd hv ho
   have hi':i=0 ∨ i=1 ∨ i=2 ∨ i=3 ∨ i=4 ∨ i=5 ∨ i=6 ∨ i=7 ∨ i=8 ∨ i=9 ∨ i=10 ∨ i=11:=by simp at hi9;omega
   obtain ⟨hb,q0,q1,q2,q3,q4,q5,q6,q7,q8,q9,q10,q11⟩:=hI
   rcases hi' with rfl | rfl | rfl | rfl | rfl | rfl | rfl | rfl | rfl | rfl | rfl | rfl
   · have e4:xa.tmps.getD 4 undef=.pointer (some ⟨w.heap.size+1+1+1+1+1+1+1,0,none⟩):=ho 4 (by kernel_rfl)
     refine Ri.step_plain rfl rfl (fun K' hK=>?_)
     obtain ⟨n0,n1,n2,n3,n4,n5,n6,n7,n8,n9⟩:=allTen (keep_blk hb Z7.out)
     go_simp
     exact hK _ _ ⟨_,_,rfl,rfl,hb,fun _=>rfl,q1,q2,q3,q4,q5,q6,q7,q8,q9,q10,q11⟩
   · refine Ri.step_plain rfl rfl (fun K' hK=>?_)
     go_simp
     refine (scnew_any ⟨#[97,98]⟩ 0 0 _).mono ?_
     rintro e w8 ⟨rfl,hx8,hb8,-⟩
     exact hK _ _ ⟨_,_,rfl,rfl,hb.trans (hb8.mono hb.size),q0,fun _=>⟨_,rfl,hx8⟩,q2,q3,fun l=>(q4 l).below hb8,fun l=>(q5 l).below hb8,fun l=>(q6 l).below hb8,fun l=>(q7 l).below hb8,fun l=>(q8 l).below hb8,q9,fun l=>(q10 l).below hb8,q11⟩
   · have e5:xa.tmps.getD 5 undef=.pointer (some ⟨w.heap.size+1+1+1+1+1+1+1+1+1+1+1,0,none⟩):=ho 5 (by kernel_rfl)
     refine Ri.step_plain rfl rfl (fun K' hK=>?_)
     obtain ⟨d0,d1,d2,d3,-,-,-,-⟩:=four (keep_blk hb Z11.out)
     go_simp
     exact hK _ _ ⟨_,_,rfl,rfl,hb,q0,q1,fun _=>rfl,q3,q4,q5,q6,q7,q8,q9,q10,q11⟩
   · have e6:xa.tmps.getD 6 undef=.pointer (some ⟨w.heap.size+1+1+1+1+1+1+1+1+1+1+1+1+1+1,0,none⟩):=ho 6 (by kernel_rfl)
     refine Ri.step_plain rfl rfl (fun K' hK=>?_)
     obtain ⟨d0,d1,d2,d3,-,-,-,-⟩:=four (keep_blk hb Z14.out)
     go_simp
     exact hK _ _ ⟨_,_,rfl,rfl,hb,q0,q1,q2,fun _=>rfl,q4,q5,q6,q7,q8,q9,q10,q11⟩
   · have l0:L 2=true∧L 3=true:=by have:=hd _ rfl;simp [Region.binds] at this;simp [this]
     have f2:=(hv 2 39 rfl l0.1).trans (q2 l0.1)
     have f3:=(hv 3 40 rfl l0.2).trans (q3 l0.2)
     refine Ri.step_plain rfl rfl (fun K' hK=>?_)
     have g39:=(fun s=>(Array.getD_eq_getD_getElem? (xs:=xa.tmps) (i:=39) (d:=undef)).symm.trans s) f2
     have g40:=(fun s=>(Array.getD_eq_getD_getElem? (xs:=xa.tmps) (i:=40) (d:=undef)).symm.trans s) f3
     go_simp
     exact hK _ _ ⟨_,_,rfl,rfl,hb.alloc hb.size _,q0,fun l=>(q1 l).below ((Below.refl _ _).alloc (Nat.le_refl _) _),q2,q3,fun _=>⟨_,rfl,pas_two (t:=rkOne) (u:=rkTwo) (s:=.slice (some ⟨w.heap.size+1+1+1+1+1+1+1+1+1+1,0,none⟩) 1 1) (r:=.slice (some ⟨w.heap.size+1+1+1+1+1+1+1+1+1+1+1+1+1,0,none⟩) 1 1) (heap_alloc_new _ _) ((HP1.out.later hb).later ((Below.refl _ _).alloc (Nat.le_refl _) _)) ((HP2.out.later hb).later ((Below.refl _ _).alloc (Nat.le_refl _) _))⟩,fun l=>(q5 l).below ((Below.refl _ _).alloc (Nat.le_refl _) _),fun l=>(q6 l).below ((Below.refl _ _).alloc (Nat.le_refl _) _),fun l=>(q7 l).below ((Below.refl _ _).alloc (Nat.le_refl _) _),fun l=>(q8 l).below ((Below.refl _ _).alloc (Nat.le_refl _) _),q9,fun l=>(q10 l).below ((Below.refl _ _).alloc (Nat.le_refl _) _),q11⟩
   · have l0:L 4=true:=by have:=hd _ rfl;simp [Region.binds] at this;simp [this]
     have f4:=hv 4 41 rfl l0
     refine Ri.step_plain rfl rfl (fun K' hK=>?_)
     obtain ⟨g8,e8,hp8⟩:=(q4 l0)
     have f41':=f4.trans e8
     have g41:=(fun s=>(Array.getD_eq_getD_getElem? (xs:=xa.tmps) (i:=41) (d:=undef)).symm.trans s) f41'
     go_simp
     exact hK _ _ ⟨_,_,rfl,rfl,hb,q0,q1,q2,q3,q4,fun _=>⟨g8,rfl,hp8⟩,q6,q7,q8,q9,q10,q11⟩
   · have l0:L 0=true∧L 1=true∧L 5=true:=by have:=hd _ rfl;simp [Region.binds] at this;simp [this]
     have f0:=(hv 0 37 rfl l0.1).trans (q0 l0.1)
     have f1:=hv 1 38 rfl l0.2.1
     have f5:=hv 5 42 rfl l0.2.2
     refine Ri.step_plain rfl rfl (fun K' hK=>?_)
     obtain ⟨g8,e8,hx8⟩:=(q1 l0.2.1)
     obtain ⟨s8,e9,hp8⟩:=(q5 l0.2.2)
     rw [e8] at f1
     rw [e9] at f5
     have hq8:=paw_of hp8
     clear e8 e9 hp8
     go_simp
     refine (HSPC.out _ hb g8 hx8 _ hq8).mono ?_
     rintro e w8 ⟨g9,rfl,hg9,hsp9,hb8⟩
     exact hK _ _ ⟨_,_,rfl,rfl,hb.trans (hb8.mono hb.size),q0,fun l=>(q1 l).below hb8,q2,q3,fun l=>(q4 l).below hb8,fun l=>(q5 l).below hb8,fun _=>⟨g9,rfl,hsp9⟩,fun l=>(q7 l).below hb8,fun l=>(q8 l).below hb8,q9,fun l=>(q10 l).below hb8,q11⟩
   · have l0:L 6=true:=by have:=hd _ rfl;simp [Region.binds] at this;simp [this]
     have f6:=hv 6 43 rfl l0
     refine Ri.step_plain rfl rfl (fun K' hK=>?_)
     have hq9:=(q6 l0)
     go_simp
     exact hK _ _ ⟨_,_,rfl,rfl,hb,q0,q1,q2,q3,q4,q5,q6,fun _=>hq9,q8,q9,q10,q11⟩
   · have l0:L 7=true:=by have:=hd _ rfl;simp [Region.binds] at this;simp [this]
     have f7:=hv 7 36 rfl l0
     refine Ri.step_plain rfl rfl (fun K' hK=>?_)
     obtain ⟨g8,e8,hh8⟩:=(q7 l0)
     have f36:=f7.trans e8
     go_simp
     exact hK _ _ ⟨_,_,rfl,rfl,hb,q0,q1,q2,q3,q4,q5,q6,q7,fun _=>⟨g8,rfl,hh8⟩,q9,q10,q11⟩
   · have l0:L 7=true:=by have:=hd _ rfl;simp [Region.binds] at this;simp [this]
     have f7:=hv 7 36 rfl l0
     refine Ri.step_plain rfl rfl (fun K' hK=>?_)
     obtain ⟨g8,e8,hh8⟩:=(q7 l0)
     have f36:=f7.trans e8
     go_simp
     exact hK _ _ ⟨_,_,rfl,rfl,hb,q0,q1,q2,q3,q4,q5,q6,q7,q8,fun _=>rfl,q10,q11⟩
   · have l0:L 8=true:=by have:=hd _ rfl;simp [Region.binds] at this;simp [this]
     have f8:=hv 8 44 rfl l0
     refine Ri.step_plain rfl rfl (fun K' hK=>?_)
     have hq9:=(q8 l0)
     go_simp
     exact hK _ _ ⟨_,_,rfl,rfl,hb,q0,q1,q2,q3,q4,q5,q6,q7,q8,q9,fun _=>hq9,q11⟩
   · have l0:L 9=true:=by have:=hd _ rfl;simp [Region.binds] at this;simp [this]
     have f9:=(hv 9 45 rfl l0).trans (q9 l0)
     refine Ri.step_plain rfl rfl (fun K' hK=>?_)
     go_simp
     exact hK _ _ ⟨_,_,rfl,rfl,hb,q0,q1,q2,q3,q4,q5,q6,q7,q8,q9,q10,fun _=>rfl⟩
 · rintro v w9 ⟨hb,-,-,-,-,-,-,-,-,-,-,q10,q11⟩
   have q11':v 11=.bool true:=q11 rfl
   have E10:=Lib.hid (q10 rfl)
   simp only [Ri.frame,List.zipIdx,List.foldl_cons,List.foldl_nil,if_true,List.setIfInBounds_toArray,List.set_cons_zero,List.set_cons_succ,Nat.reduceAdd,q11']
   clear q11 q11' q10
   generalize v 0=y0;generalize v 1=y1;generalize v 2=y2;generalize v 3=y3;generalize v 4=y4;generalize v 5=y5;generalize v 6=y6;generalize v 7=y7;generalize v 8=y8;generalize v 9=y9;generalize v 10=y10 at *
   obtain ⟨g,rfl,hg⟩:=E10.out
   have HSP:=Lib.hid (SpsAt.of hg)
   rw [rk_spans] at HSP
   have HB:=Lib.hid (HBW.out.trans (hb.mono HBW.out.size));have X11:=Lib.hid (keep_blk hb Z11.out);have X14:=Lib.hid (keep_blk hb Z14.out)
   have Q1:=Lib.hid (HP1.out.later hb);have Q2:=Lib.hid (HP2.out.later hb)
   clear hg hb E10 Z0 Z1 Z2 Z3 Z4 Z5 Z6 Z7 Z8 Z9 Z10 Z11 Z12 Z13 Z14 HN HP1 HP2 HBW HE
   go_wp2_with fail
   have HLT:=Lib.hid (heap_alloc_new w9 (.cells #[.int .i64 0,.int .i64 2,.int .i64 1,.int .i64 2,.int .i64 (-1),.int .i64 (-1)] 70))
   have HBA:=Lib.hid (show Below w9.heap.size w9 (w9.alloc (.cells #[.int .i64 0,.int .i64 2,.int .i64 1,.int .i64 2,.int .i64 (-1),.int .i64 (-1)] 70)) from (Below.refl _ _).alloc (Nat.le_refl _) _)
   generalize w9.alloc (.cells #[.int .i64 0,.int .i64 2,.int .i64 1,.int .i64 2,.int .i64 (-1),.int .i64 (-1)] 70)=w10 at *
   have HSA:=Lib.hid (HSP.out.below HBA.out)
   have HSB:=Lib.hid (show SpsAt w10 (.slice (some ⟨w9.heap.size,0,none⟩) 3 3) [(0,2),(1,2),(-1,-1)] from ⟨_,3,rfl,fun i s hi=>by
     have hl:=(Array.getElem?_eq_some_iff.1 HLT.out).1
     match i,hi with
     | 0,hi=>simp at hi;subst hi;exact ⟨_,0,rfl,hl,by unfold World.cell?;rw [HLT.out];rfl,by unfold World.cell?;rw [HLT.out];rfl⟩
     | 1,hi=>simp at hi;subst hi;exact ⟨_,0,rfl,hl,by unfold World.cell?;rw [HLT.out];rfl,by unfold World.cell?;rw [HLT.out];rfl⟩
     | 2,hi=>simp at hi;subst hi;exact ⟨_,0,rfl,hl,by unfold World.cell?;rw [HLT.out];rfl,by unfold World.cell?;rw [HLT.out];rfl⟩⟩)
   have HB2:=Lib.hid (HB.out.trans (HBA.out.mono HB.out.size));have V11:=Lib.hid (keep_blk HBA.out X11.out);have V14:=Lib.hid (keep_blk HBA.out X14.out)
   have U1:=Lib.hid (Q1.out.later HBA.out);have U2:=Lib.hid (Q2.out.later HBA.out)
   clear HLT HSP HBA HB X11 X14 Q1 Q2
   refine (samespans_any [(0,2),(1,2),(-1,-1)] [(0,2),(1,2),(-1,-1)] (by decide) (by decide) _ _ _ HSA.out HSB.out).mono ?_
   rintro e w11 ⟨rfl,hb11⟩
   have HB3:=Lib.hid (HB2.out.trans (hb11.mono HB2.out.size));have V11':=Lib.hid (keep_blk hb11 V11.out);have V14':=Lib.hid (keep_blk hb11 V14.out)
   have U1':=Lib.hid (U1.out.later hb11);have U2':=Lib.hid (U2.out.later hb11)
   clear hb11 V11 V14 U1 U2 HB2 HSA HSB
   rw [show decide ([((0:Int),(2:Int)),(1,2),(-1,-1)]=[(0,2),(1,2),(-1,-1)])=true from by decide]
   obtain ⟨d0,d1,d2,d3,-,-,-,-⟩:=four V11'.out
   obtain ⟨e0,e1,e2,e3,-,-,-,-⟩:=four V14'.out
   have HCMP:=Lib.hid (compare_any rkOne rkTwo w11 (fun _=>True) (fun _=>True) (.agg #[.int .i64 0,.int .i64 1,.int .i64 0,.slice (some ⟨w.heap.size+1+1+1+1+1+1+1+1+1+1,0,none⟩) 1 1]) (.agg #[.int .i64 1,.int .i64 2,.int .i64 0,.slice (some ⟨w.heap.size+1+1+1+1+1+1+1+1+1+1+1+1+1,0,none⟩) 1 1]) ⟨_,rfl,U1'.out⟩ ⟨_,rfl,U2'.out⟩)
   rw [rk_cmp] at HCMP
   go_wp2_with fail
   refine HCMP.out.mono ?_
   rintro e w12 ⟨rfl,hb12⟩
   have HB4:=Lib.hid (HB3.out.trans (hb12.mono HB3.out.size))
   clear hb12 d0 d1 d2 d3 e0 e1 e2 e3
   go_wp2
   go_ret
   exact ⟨rfl,HB4.out⟩
end Go.Proofs.YtknlkgegbcbcfaaDoor
namespace Go.Proofs.YtknlkgegbcbcfaaDoor
open Go.RowKit
def SameDoes (t:Pa):Prop:=∀ (u:Pa) (w:World) (B C:Nat→Prop) (va vb:Value),PaV w B va t→PaV w C vb u→Calls Tryd.prog 39 #[va,vb] w fun e w'=>e=.returned (.bool (Pa.cmpT t u == 0))∧Below w.heap.size w w'
theorem sameparse_any:∀ t:Pa,SameDoes t:=by
 intro t
 induction t using Pa.rec_subs with
 | h t ih =>
   intro u w B C va vb ha hb
   obtain ⟨sa,rfl,hsa⟩:=ha
   obtain ⟨sb,rfl,hsb⟩:=hb
   obtain ⟨p,cap,rfl,hla⟩:=hsa.slice
   obtain ⟨q,cbp,rfl,hlb⟩:=hsb.slice
   have HSA:=Lib.hid hsa;have HSB:=Lib.hid hsb;have IH:=Lib.hid ih
   obtain ⟨R,hR⟩:∃ R,(Pa.cmpT t u == 0)=R:=⟨_,rfl⟩
   rw [hR]
   have hsl:t.subs.length ≠ u.subs.length→Pa.cmpS t.subs u.subs ≠ 0:=fun h e=>h (by rw [(Pa.cmpS_zero _ _ (fun x _=>Pa.cmp_zero x)).1 e])
   have HSL:=Lib.hid hsl
   rw [Pa.cmpT_eq] at hR
   have HR:=Lib.hid hR
   clear hsa hsb ih hR hsl
   unfold Pa.cells at *
   generalize t.lo=a0 at *;generalize u.lo=b0 at *;generalize t.hi=a1 at *;generalize u.hi=b1 at *;generalize t.pick=a2 at *;generalize u.pick=b2 at *
   generalize t.subs=ts at *;generalize u.subs=us at *
   by_cases h0:a0=b0
   case neg =>
     have e0:(a0 != b0)=true:=by simpa using h0
     have HF:=Lib.hid (show false=R by have:=HR.out;rw [← this];simp only [beq_eq_false_iff_ne,ne_eq,Bool.false_eq];intro e;exact h0 (Pa.cmpI_zero.1 e).1)
     clear h0 HR HSL
     go_enter Tryd.func39,Tryd.ntmps39
     go_wp2
     go_ret
     exact ⟨ret_bool HF.out,by go_grown⟩
   obtain rfl:=h0
   by_cases h1:a1=b1
   case neg =>
     have e0:(a1 != b1)=true:=by simpa using h1
     have HF:=Lib.hid (show false=R by have:=HR.out;rw [← this];simp only [beq_eq_false_iff_ne,ne_eq,Bool.false_eq];intro e;exact h1 (Pa.cmpI_zero.1 (Pa.cmpI_zero.1 e).2).1.symm)
     clear h1 HR HSL
     go_enter Tryd.func39,Tryd.ntmps39
     go_wp2
     go_ret
     exact ⟨ret_bool HF.out,by go_grown⟩
   obtain rfl:=h1
   by_cases h2:a2=b2
   case neg =>
     have e0:(a2 != b2)=true:=by simpa using h2
     have HF:=Lib.hid (show false=R by have:=HR.out;rw [← this];simp only [beq_eq_false_iff_ne,ne_eq,Bool.false_eq];intro e;exact h2 (Pa.cmpI_zero.1 (Pa.cmpI_zero.1 (Pa.cmpI_zero.1 e).2).2).1)
     clear h2 HR HSL
     go_enter Tryd.func39,Tryd.ntmps39
     go_wp2
     go_ret
     exact ⟨ret_bool HF.out,by go_grown⟩
   obtain rfl:=h2
   have HR0:=Lib.hid (show (Pa.cmpS ts us == 0)=R by
     have:=HR.out
     rw [← this,Bool.eq_iff_iff,beq_iff_eq,beq_iff_eq,Pa.cmpI_zero,Pa.cmpI_zero,Pa.cmpI_zero]
     simp)
   clear HR
   by_cases hx:ts.length=us.length
   case neg =>
     have e1:((ts.length:Int) != (us.length:Int))=true:=by simp;omega
     have e2:(ts.length != us.length)=true:=by simpa using hx
     have e3:(ts.length == us.length)=false:=by simpa using hx
     have HF:=Lib.hid (show false=R by have:=HR0.out;rw [← this];simp only [beq_eq_false_iff_ne,ne_eq,Bool.false_eq];exact HSL.out hx)
     clear hx HSL
     go_enter Tryd.func39,Tryd.ntmps39
     go_wp2
     go_ret
     exact ⟨ret_bool HF.out,by go_grown⟩
   have hlen:us.length=ts.length:=hx.symm
   have HLU:=Lib.hid hlen
   clear hx HSL
   rw [hlen] at HSB hlb ⊢
   clear hlen
   go_enter Tryd.func39,Tryd.ntmps39
   go_wp2
   go_loopw [37] (fun iv wr=>∃ i:Nat,iv=.int .i64 i∧i ≤ ts.length∧Hid ((Pa.cmpS (ts.drop i) (us.drop i) == 0)=R)∧Hid (Below w.heap.size w wr) ∧
     Hid (wr.heap[w.heap.size]? = some (.cells #[.int .i64 a0,.int .i64 a1,.int .i64 a2,.slice p ts.length cap] 57))∧Hid (wr.heap[w.heap.size+1]? = some (.cells #[.int .i64 a0,.int .i64 a1,.int .i64 a2,.slice q ts.length cbp] 57))) (fun iv _=>ts.length - (intOf iv).toNat)
   case atStart=>exact ⟨0,rfl,Nat.zero_le _,by rw [List.drop_zero,List.drop_zero];exact HR0,Lib.hid (by go_grown),Lib.hid (two_new _ _ _).1,Lib.hid (two_new _ _ _).2⟩
   case round =>
     obtain ⟨i,rfl,hi,HL,HB,Z0,Z1⟩:=hrel
     have wi:IntKind.i64.wrap ((i:Int)+1)=(i:Int)+1:=IntWalk.i64_in _ (by omega)
     have hlu:ts.length ≤ us.length:=by have:=HLU.out;omega
     by_cases hlt:i < ts.length
     · obtain ⟨x,hx⟩:∃ x,ts[i]? = some x:=⟨_,List.getElem?_eq_getElem (by omega)⟩
       obtain ⟨y,hy⟩:∃ y,us[i]? = some y:=⟨_,List.getElem?_eq_getElem (by omega)⟩
       obtain ⟨b1,o1,s1,rfl,-,t1,sub1⟩:=HSA.out.get hx
       obtain ⟨b2,o2,s2,rfl,-,t2,sub2⟩:=HSB.out.get hy
       have hmem:=List.mem_of_getElem? hx
       have hd1:ts.drop i=x :: ts.drop (i+1):=by rw [List.drop_eq_getElem_cons (by omega),(List.getElem?_eq_some_iff.1 hx).2]
       have hd2:us.drop i=y :: us.drop (i+1):=by rw [List.drop_eq_getElem_cons (by omega),(List.getElem?_eq_some_iff.1 hy).2]
       have hl:=HL.out
       rw [hd1,hd2,Pa.cmpS_cc] at hl
       have T1:=Lib.hid t1;have T2:=Lib.hid t2
       have l1:=t1.lt;have l2:=t2.lt
       have hs:=fun w9 (hb:Below wr.heap.size wr w9)=>IH.out x hmem y w9 B C (.agg #[.int .i64 x.lo,.int .i64 x.hi,.int .i64 x.pick,s1]) (.agg #[.int .i64 y.lo,.int .i64 y.hi,.int .i64 y.pick,s2]) ⟨s1,rfl,sub1.later (HB.out.trans (hb.mono HB.out.size))⟩ ⟨s2,rfl,sub2.later (HB.out.trans (hb.mono HB.out.size))⟩
       clear t1 sub1 t2 sub2 hmem hx hy hd1 hd2 HL
       generalize Pa.cmpT x y=z at *
       have HS:=Lib.hid hs;have HLL:=Lib.hid hl
       clear hs hl
       by_cases hz:z=0
       · have HR2:=Lib.hid (show (Pa.cmpS (ts.drop (i+1)) (us.drop (i+1)) == 0)=R by have:=HLL.out;rw [if_neg (by omega)] at this;exact this)
         rw [show (z == 0)=true from by simpa using hz] at HS
         clear hz HLL
         go_wp2
         refine Ri.wp_region_frame (by kernel_rfl) (by kernel_rfl) (by kernel_rfl) (by kernel_rfl)
           (fun L v w'=>Below wr.heap.size wr w'∧(L 0=true→v 0=.pointer (some ⟨w.heap.size,3,none⟩))∧(L 1=true→v 1=.slice (some ⟨b1,o1,none⟩) ts.length cap)∧(L 2=true→v 2=.int .i64 (i:Int))∧(L 3=true→v 3=.pointer (some ⟨b1,o1+i * 4,none⟩))∧(L 4=true→v 4=.agg #[.int .i64 x.lo,.int .i64 x.hi,.int .i64 x.pick,s1])∧(L 5=true→v 5=.pointer (some ⟨w.heap.size+1,3,none⟩))∧(L 6=true→v 6=.slice (some ⟨b2,o2,none⟩) ts.length cbp)∧(L 7=true→v 7=.int .i64 (i:Int))∧(L 8=true→v 8=.pointer (some ⟨b2,o2+i * 4,none⟩))∧(L 9=true→v 9=.agg #[.int .i64 y.lo,.int .i64 y.hi,.int .i64 y.pick,s2])∧(L 10=true→v 10=.bool true)∧(L 11=true→v 11=.bool false))
           ?_ ?_ ?_
         · exact ⟨(Below.refl _ _).drew,by simp,by simp,by simp,by simp,by simp,by simp,by simp,by simp,by simp,by simp,by simp,by simp⟩
         · intro i hi9 L v w9 xa hI hL hd hv ho
           have hi':i=0 ∨ i=1 ∨ i=2 ∨ i=3 ∨ i=4 ∨ i=5 ∨ i=6 ∨ i=7 ∨ i=8 ∨ i=9 ∨ i=10 ∨ i=11:=by simp at hi9;omega
           obtain ⟨hb,q0,q1,q2,q3,q4,q5,q6,q7,q8,q9,q10,q11⟩:=hI
           rcases hi' with rfl | rfl | rfl | rfl | rfl | rfl | rfl | rfl | rfl | rfl | rfl | rfl
           · have e2:xa.tmps.getD 2 undef=.pointer (some ⟨w.heap.size,0,none⟩):=ho 2 (by kernel_rfl)
             refine Ri.step_plain rfl rfl (fun K' hK=>?_)
             go_simp
             exact hK _ _ ⟨_,_,rfl,rfl,hb,fun _=>rfl,q1,q2,q3,q4,q5,q6,q7,q8,q9,q10,q11⟩
           · have l0:L 0=true:=by have:=hd _ rfl;simp [Region.binds] at this;simp [this]
             have f0:=(hv 0 40 rfl l0).trans (q0 l0)
             refine Ri.step_plain rfl rfl (fun K' hK=>?_)
             obtain ⟨d0,d1,d2,d3,-,-,-,-⟩:=four (keep_blk hb Z0.out)
             go_simp
             exact hK _ _ ⟨_,_,rfl,rfl,hb,q0,fun _=>rfl,q2,q3,q4,q5,q6,q7,q8,q9,q10,q11⟩
           · have e5:xa.tmps.getD 5 undef=.int .i64 (i:Int):=ho 5 (by kernel_rfl)
             refine Ri.step_plain rfl rfl (fun K' hK=>?_)
             go_simp
             exact hK _ _ ⟨_,_,rfl,rfl,hb,q0,q1,fun _=>rfl,q3,q4,q5,q6,q7,q8,q9,q10,q11⟩
           · have l0:L 1=true∧L 2=true:=by have:=hd _ rfl;simp [Region.binds] at this;simp [this]
             have f1:=(hv 1 41 rfl l0.1).trans (q1 l0.1)
             have f2:=(hv 2 42 rfl l0.2).trans (q2 l0.2)
             refine Ri.step_plain rfl rfl (fun K' hK=>?_)
             go_simp
             exact hK _ _ ⟨_,_,rfl,rfl,hb,q0,q1,q2,fun _=>rfl,q4,q5,q6,q7,q8,q9,q10,q11⟩
           · have l0:L 3=true:=by have:=hd _ rfl;simp [Region.binds] at this;simp [this]
             have f3:=(hv 3 43 rfl l0).trans (q3 l0)
             refine Ri.step_plain rfl rfl (fun K' hK=>?_)
             obtain ⟨d0,d1,d2,d3⟩:=(T1.out.keep ((HB.out.trans (hb.mono HB.out.size)).block _ l1))
             go_simp
             exact hK _ _ ⟨_,_,rfl,rfl,hb,q0,q1,q2,q3,fun _=>rfl,q5,q6,q7,q8,q9,q10,q11⟩
           · have e3:xa.tmps.getD 3 undef=.pointer (some ⟨w.heap.size+1,0,none⟩):=ho 3 (by kernel_rfl)
             refine Ri.step_plain rfl rfl (fun K' hK=>?_)
             go_simp
             exact hK _ _ ⟨_,_,rfl,rfl,hb,q0,q1,q2,q3,q4,fun _=>rfl,q6,q7,q8,q9,q10,q11⟩
           · have l0:L 5=true:=by have:=hd _ rfl;simp [Region.binds] at this;simp [this]
             have f5:=(hv 5 45 rfl l0).trans (q5 l0)
             refine Ri.step_plain rfl rfl (fun K' hK=>?_)
             obtain ⟨d0,d1,d2,d3,-,-,-,-⟩:=four (keep_blk hb Z1.out)
             go_simp
             exact hK _ _ ⟨_,_,rfl,rfl,hb,q0,q1,q2,q3,q4,q5,fun _=>rfl,q7,q8,q9,q10,q11⟩
           · have e5:xa.tmps.getD 5 undef=.int .i64 (i:Int):=ho 5 (by kernel_rfl)
             refine Ri.step_plain rfl rfl (fun K' hK=>?_)
             go_simp
             exact hK _ _ ⟨_,_,rfl,rfl,hb,q0,q1,q2,q3,q4,q5,q6,fun _=>rfl,q8,q9,q10,q11⟩
           · have l0:L 6=true∧L 7=true:=by have:=hd _ rfl;simp [Region.binds] at this;simp [this]
             have f6:=(hv 6 46 rfl l0.1).trans (q6 l0.1)
             have f7:=(hv 7 47 rfl l0.2).trans (q7 l0.2)
             refine Ri.step_plain rfl rfl (fun K' hK=>?_)
             go_simp
             exact hK _ _ ⟨_,_,rfl,rfl,hb,q0,q1,q2,q3,q4,q5,q6,q7,fun _=>rfl,q9,q10,q11⟩
           · have l0:L 8=true:=by have:=hd _ rfl;simp [Region.binds] at this;simp [this]
             have f8:=(hv 8 48 rfl l0).trans (q8 l0)
             refine Ri.step_plain rfl rfl (fun K' hK=>?_)
             obtain ⟨d0,d1,d2,d3⟩:=(T2.out.keep ((HB.out.trans (hb.mono HB.out.size)).block _ l2))
             go_simp
             exact hK _ _ ⟨_,_,rfl,rfl,hb,q0,q1,q2,q3,q4,q5,q6,q7,q8,fun _=>rfl,q10,q11⟩
           · have l0:L 4=true∧L 9=true:=by have:=hd _ rfl;simp [Region.binds] at this;simp [this]
             have f4:=(hv 4 44 rfl l0.1).trans (q4 l0.1)
             have f9:=(hv 9 49 rfl l0.2).trans (q9 l0.2)
             refine Ri.step_plain rfl rfl (fun K' hK=>?_)
             go_simp
             refine (HS.out _ hb).mono ?_
             rintro e w8 ⟨rfl,hb8⟩
             exact hK _ _ ⟨_,_,rfl,rfl,hb.trans (hb8.mono hb.size),q0,q1,q2,q3,q4,q5,q6,q7,q8,q9,fun _=>rfl,q11⟩
           · have l0:L 10=true:=by have:=hd _ rfl;simp [Region.binds] at this;simp [this]
             have f10:=(hv 10 50 rfl l0).trans (q10 l0)
             refine Ri.step_plain rfl rfl (fun K' hK=>?_)
             go_simp
             exact hK _ _ ⟨_,_,rfl,rfl,hb,q0,q1,q2,q3,q4,q5,q6,q7,q8,q9,q10,fun _=>rfl⟩
         · rintro v w9 ⟨hb,-,-,-,-,-,-,-,-,-,-,-,q11⟩
           have q11':v 11=.bool false:=q11 rfl
           simp only [Ri.frame,List.zipIdx,List.foldl_cons,List.foldl_nil,if_true,List.setIfInBounds_toArray,List.set_cons_zero,List.set_cons_succ,Nat.reduceAdd,q11']
           clear q11 q11'
           generalize v 0=y0;generalize v 1=y1;generalize v 2=y2;generalize v 3=y3;generalize v 4=y4;generalize v 5=y5;generalize v 6=y6;generalize v 7=y7;generalize v 8=y8;generalize v 9=y9;generalize v 10=y10
           have HB2:=Lib.hid (HB.out.trans (hb.mono HB.out.size));have X0:=Lib.hid (keep_blk hb Z0.out);have X1:=Lib.hid (keep_blk hb Z1.out)
           clear hb
           go_wp2
           exact ⟨⟨i+1,by go_num,by omega,HR2,HB2,X0,X1⟩,by simp [intOf];omega⟩
       · have HR2:=Lib.hid (show false=R by have:=HLL.out;rw [if_pos hz] at this;rw [← this];simpa using hz)
         rw [show (z == 0)=false from by simpa using hz] at HS
         clear hz HLL
         go_wp2
         refine Ri.wp_region_frame (by kernel_rfl) (by kernel_rfl) (by kernel_rfl) (by kernel_rfl)
           (fun L v w'=>Below wr.heap.size wr w'∧(L 0=true→v 0=.pointer (some ⟨w.heap.size,3,none⟩))∧(L 1=true→v 1=.slice (some ⟨b1,o1,none⟩) ts.length cap)∧(L 2=true→v 2=.int .i64 (i:Int))∧(L 3=true→v 3=.pointer (some ⟨b1,o1+i * 4,none⟩))∧(L 4=true→v 4=.agg #[.int .i64 x.lo,.int .i64 x.hi,.int .i64 x.pick,s1])∧(L 5=true→v 5=.pointer (some ⟨w.heap.size+1,3,none⟩))∧(L 6=true→v 6=.slice (some ⟨b2,o2,none⟩) ts.length cbp)∧(L 7=true→v 7=.int .i64 (i:Int))∧(L 8=true→v 8=.pointer (some ⟨b2,o2+i * 4,none⟩))∧(L 9=true→v 9=.agg #[.int .i64 y.lo,.int .i64 y.hi,.int .i64 y.pick,s2])∧(L 10=true→v 10=.bool false)∧(L 11=true→v 11=.bool true))
           ?_ ?_ ?_
         · exact ⟨(Below.refl _ _).drew,by simp,by simp,by simp,by simp,by simp,by simp,by simp,by simp,by simp,by simp,by simp,by simp⟩
         · intro i hi9 L v w9 xa hI hL hd hv ho
           have hi':i=0 ∨ i=1 ∨ i=2 ∨ i=3 ∨ i=4 ∨ i=5 ∨ i=6 ∨ i=7 ∨ i=8 ∨ i=9 ∨ i=10 ∨ i=11:=by simp at hi9;omega
           obtain ⟨hb,q0,q1,q2,q3,q4,q5,q6,q7,q8,q9,q10,q11⟩:=hI
           rcases hi' with rfl | rfl | rfl | rfl | rfl | rfl | rfl | rfl | rfl | rfl | rfl | rfl
           · have e2:xa.tmps.getD 2 undef=.pointer (some ⟨w.heap.size,0,none⟩):=ho 2 (by kernel_rfl)
             refine Ri.step_plain rfl rfl (fun K' hK=>?_)
             go_simp
             exact hK _ _ ⟨_,_,rfl,rfl,hb,fun _=>rfl,q1,q2,q3,q4,q5,q6,q7,q8,q9,q10,q11⟩
           · have l0:L 0=true:=by have:=hd _ rfl;simp [Region.binds] at this;simp [this]
             have f0:=(hv 0 40 rfl l0).trans (q0 l0)
             refine Ri.step_plain rfl rfl (fun K' hK=>?_)
             obtain ⟨d0,d1,d2,d3,-,-,-,-⟩:=four (keep_blk hb Z0.out)
             go_simp
             exact hK _ _ ⟨_,_,rfl,rfl,hb,q0,fun _=>rfl,q2,q3,q4,q5,q6,q7,q8,q9,q10,q11⟩
           · have e5:xa.tmps.getD 5 undef=.int .i64 (i:Int):=ho 5 (by kernel_rfl)
             refine Ri.step_plain rfl rfl (fun K' hK=>?_)
             go_simp
             exact hK _ _ ⟨_,_,rfl,rfl,hb,q0,q1,fun _=>rfl,q3,q4,q5,q6,q7,q8,q9,q10,q11⟩
           · have l0:L 1=true∧L 2=true:=by have:=hd _ rfl;simp [Region.binds] at this;simp [this]
             have f1:=(hv 1 41 rfl l0.1).trans (q1 l0.1)
             have f2:=(hv 2 42 rfl l0.2).trans (q2 l0.2)
             refine Ri.step_plain rfl rfl (fun K' hK=>?_)
             go_simp
             exact hK _ _ ⟨_,_,rfl,rfl,hb,q0,q1,q2,fun _=>rfl,q4,q5,q6,q7,q8,q9,q10,q11⟩
           · have l0:L 3=true:=by have:=hd _ rfl;simp [Region.binds] at this;simp [this]
             have f3:=(hv 3 43 rfl l0).trans (q3 l0)
             refine Ri.step_plain rfl rfl (fun K' hK=>?_)
             obtain ⟨d0,d1,d2,d3⟩:=(T1.out.keep ((HB.out.trans (hb.mono HB.out.size)).block _ l1))
             go_simp
             exact hK _ _ ⟨_,_,rfl,rfl,hb,q0,q1,q2,q3,fun _=>rfl,q5,q6,q7,q8,q9,q10,q11⟩
           · have e3:xa.tmps.getD 3 undef=.pointer (some ⟨w.heap.size+1,0,none⟩):=ho 3 (by kernel_rfl)
             refine Ri.step_plain rfl rfl (fun K' hK=>?_)
             go_simp
             exact hK _ _ ⟨_,_,rfl,rfl,hb,q0,q1,q2,q3,q4,fun _=>rfl,q6,q7,q8,q9,q10,q11⟩
           · have l0:L 5=true:=by have:=hd _ rfl;simp [Region.binds] at this;simp [this]
             have f5:=(hv 5 45 rfl l0).trans (q5 l0)
             refine Ri.step_plain rfl rfl (fun K' hK=>?_)
             obtain ⟨d0,d1,d2,d3,-,-,-,-⟩:=four (keep_blk hb Z1.out)
             go_simp
             exact hK _ _ ⟨_,_,rfl,rfl,hb,q0,q1,q2,q3,q4,q5,fun _=>rfl,q7,q8,q9,q10,q11⟩
           · have e5:xa.tmps.getD 5 undef=.int .i64 (i:Int):=ho 5 (by kernel_rfl)
             refine Ri.step_plain rfl rfl (fun K' hK=>?_)
             go_simp
             exact hK _ _ ⟨_,_,rfl,rfl,hb,q0,q1,q2,q3,q4,q5,q6,fun _=>rfl,q8,q9,q10,q11⟩
           · have l0:L 6=true∧L 7=true:=by have:=hd _ rfl;simp [Region.binds] at this;simp [this]
             have f6:=(hv 6 46 rfl l0.1).trans (q6 l0.1)
             have f7:=(hv 7 47 rfl l0.2).trans (q7 l0.2)
             refine Ri.step_plain rfl rfl (fun K' hK=>?_)
             go_simp
             exact hK _ _ ⟨_,_,rfl,rfl,hb,q0,q1,q2,q3,q4,q5,q6,q7,fun _=>rfl,q9,q10,q11⟩
           · have l0:L 8=true:=by have:=hd _ rfl;simp [Region.binds] at this;simp [this]
             have f8:=(hv 8 48 rfl l0).trans (q8 l0)
             refine Ri.step_plain rfl rfl (fun K' hK=>?_)
             obtain ⟨d0,d1,d2,d3⟩:=(T2.out.keep ((HB.out.trans (hb.mono HB.out.size)).block _ l2))
             go_simp
             exact hK _ _ ⟨_,_,rfl,rfl,hb,q0,q1,q2,q3,q4,q5,q6,q7,q8,fun _=>rfl,q10,q11⟩
           · have l0:L 4=true∧L 9=true:=by have:=hd _ rfl;simp [Region.binds] at this;simp [this]
             have f4:=(hv 4 44 rfl l0.1).trans (q4 l0.1)
             have f9:=(hv 9 49 rfl l0.2).trans (q9 l0.2)
             refine Ri.step_plain rfl rfl (fun K' hK=>?_)
             go_simp
             refine (HS.out _ hb).mono ?_
             rintro e w8 ⟨rfl,hb8⟩
             exact hK _ _ ⟨_,_,rfl,rfl,hb.trans (hb8.mono hb.size),q0,q1,q2,q3,q4,q5,q6,q7,q8,q9,fun _=>rfl,q11⟩
           · have l0:L 10=true:=by have:=hd _ rfl;simp [Region.binds] at this;simp [this]
             have f10:=(hv 10 50 rfl l0).trans (q10 l0)
             refine Ri.step_plain rfl rfl (fun K' hK=>?_)
             go_simp
             exact hK _ _ ⟨_,_,rfl,rfl,hb,q0,q1,q2,q3,q4,q5,q6,q7,q8,q9,q10,fun _=>rfl⟩
         · rintro v w9 ⟨hb,-,-,-,-,-,-,-,-,-,-,-,q11⟩
           have q11':v 11=.bool true:=q11 rfl
           simp only [Ri.frame,List.zipIdx,List.foldl_cons,List.foldl_nil,if_true,List.setIfInBounds_toArray,List.set_cons_zero,List.set_cons_succ,Nat.reduceAdd,q11']
           clear q11 q11'
           generalize v 0=y0;generalize v 1=y1;generalize v 2=y2;generalize v 3=y3;generalize v 4=y4;generalize v 5=y5;generalize v 6=y6;generalize v 7=y7;generalize v 8=y8;generalize v 9=y9;generalize v 10=y10
           have HB2:=Lib.hid (HB.out.trans (hb.mono HB.out.size))
           clear hb
           go_wp2
           go_ret
           exact ⟨ret_bool HR2.out,HB2.out⟩
     · obtain rfl:i=ts.length:=by omega
       have hl:=HL.out
       rw [List.drop_length,List.drop_eq_nil_of_le (by have:=HLU.out;omega),Pa.cmpS_nil] at hl
       have HF:=Lib.hid (show true=R from hl)
       clear hl HL hlt
       go_wp2
       go_ret
       exact ⟨ret_bool HF.out,HB.out⟩
theorem refcompare_any:∀ t:Pa,CmpDoes 38 t:=by
 intro t
 induction t using Pa.rec_subs with
 | h t ih =>
   intro u w B C va vb ha hb
   obtain ⟨sa,rfl,hsa⟩:=ha
   obtain ⟨sb,rfl,hsb⟩:=hb
   obtain ⟨p,cap,rfl,hla⟩:=hsa.slice
   obtain ⟨q,cbp,rfl,hlb⟩:=hsb.slice
   have HSA:=Lib.hid hsa;have HSB:=Lib.hid hsb;have IH:=Lib.hid ih
   rw [Pa.cmpT_eq]
   clear hsa hsb ih
   unfold Pa.cells at *
   generalize t.lo=a0 at *;generalize u.lo=b0 at *;generalize t.hi=a1 at *;generalize u.hi=b1 at *;generalize t.pick=a2 at *;generalize u.pick=b2 at *
   generalize t.subs=ts at *;generalize u.subs=us at *
   rcases Int.lt_trichotomy a0 b0 with h0 | rfl | h0
   · have e0:decide (a0 < b0)=true:=decide_eq_true h0
     have e9:Pa.cmpI a0 b0 (Pa.cmpI b1 a1 (Pa.cmpI a2 b2 (Pa.cmpS ts us))) = -1:=by unfold Pa.cmpI;rw [if_pos h0]
     rw [e9]
     clear h0 e9
     go_enter Tryd.func38,Tryd.ntmps38
     go_wp2
     go_ret
     exact ⟨rfl,by go_grown⟩
   case inr.inr =>
     have e0:decide (a0 < b0)=false:=decide_eq_false (by omega)
     have e1:decide (b0 < a0)=true:=decide_eq_true h0
     have e9:Pa.cmpI a0 b0 (Pa.cmpI b1 a1 (Pa.cmpI a2 b2 (Pa.cmpS ts us)))=1:=by unfold Pa.cmpI;rw [if_neg (by omega),if_pos h0]
     rw [e9]
     clear h0 e9
     go_enter Tryd.func38,Tryd.ntmps38
     go_wp2
     go_ret
     exact ⟨rfl,by go_grown⟩
   rw [show Pa.cmpI a0 a0 (Pa.cmpI b1 a1 (Pa.cmpI a2 b2 (Pa.cmpS ts us)))=Pa.cmpI b1 a1 (Pa.cmpI a2 b2 (Pa.cmpS ts us)) by unfold Pa.cmpI;rw [if_neg (by omega),if_neg (by omega)]]
   have f0:decide (a0 < a0)=false:=decide_eq_false (by omega)
   rcases Int.lt_trichotomy a1 b1 with h1 | rfl | h1
   · have e0:decide (a1 < b1)=true:=decide_eq_true h1
     have e1:decide (b1 < a1)=false:=decide_eq_false (by omega)
     have e9:Pa.cmpI b1 a1 (Pa.cmpI a2 b2 (Pa.cmpS ts us))=1:=by unfold Pa.cmpI;rw [if_neg (by omega),if_pos h1]
     rw [e9]
     clear h1 e9
     go_enter Tryd.func38,Tryd.ntmps38
     go_wp2
     go_ret
     exact ⟨rfl,by go_grown⟩
   case inr.inr =>
     have e1:decide (b1 < a1)=true:=decide_eq_true h1
     have e9:Pa.cmpI b1 a1 (Pa.cmpI a2 b2 (Pa.cmpS ts us)) = -1:=by unfold Pa.cmpI;rw [if_pos h1]
     rw [e9]
     clear h1 e9
     go_enter Tryd.func38,Tryd.ntmps38
     go_wp2
     go_ret
     exact ⟨rfl,by go_grown⟩
   rw [show Pa.cmpI a1 a1 (Pa.cmpI a2 b2 (Pa.cmpS ts us))=Pa.cmpI a2 b2 (Pa.cmpS ts us) by unfold Pa.cmpI;rw [if_neg (by omega),if_neg (by omega)]]
   have f1:decide (a1 < a1)=false:=decide_eq_false (by omega)
   rcases Int.lt_trichotomy a2 b2 with h2 | rfl | h2
   · have e0:decide (a2 < b2)=true:=decide_eq_true h2
     have e9:Pa.cmpI a2 b2 (Pa.cmpS ts us) = -1:=by unfold Pa.cmpI;rw [if_pos h2]
     rw [e9]
     clear h2 e9
     go_enter Tryd.func38,Tryd.ntmps38
     go_wp2
     go_ret
     exact ⟨rfl,by go_grown⟩
   case inr.inr =>
     have e0:decide (a2 < b2)=false:=decide_eq_false (by omega)
     have e1:decide (b2 < a2)=true:=decide_eq_true h2
     have e9:Pa.cmpI a2 b2 (Pa.cmpS ts us)=1:=by unfold Pa.cmpI;rw [if_neg (by omega),if_pos h2]
     rw [e9]
     clear h2 e9
     go_enter Tryd.func38,Tryd.ntmps38
     go_wp2
     go_ret
     exact ⟨rfl,by go_grown⟩
   rw [show Pa.cmpI a2 a2 (Pa.cmpS ts us)=Pa.cmpS ts us by unfold Pa.cmpI;rw [if_neg (by omega),if_neg (by omega)]]
   have f2:decide (a2 < a2)=false:=decide_eq_false (by omega)
   obtain ⟨R,hR⟩:∃ R,Pa.cmpS ts us=R:=⟨_,rfl⟩
   rw [hR]
   have HR:=Lib.hid hR
   clear hR
   go_enter Tryd.func38,Tryd.ntmps38
   go_wp2
   clear f0 f1 f2
   go_loopw [5] (fun iv wr=>∃ i:Nat,iv=.int .i64 i∧i ≤ ts.length∧i ≤ us.length∧Hid (Pa.cmpS (ts.drop i) (us.drop i)=R)∧Hid (Below w.heap.size w wr) ∧
     Hid (wr.heap[w.heap.size]? = some (.cells #[.int .i64 a0,.int .i64 a1,.int .i64 a2,.slice p ts.length cap] 57))∧Hid (wr.heap[w.heap.size+1]? = some (.cells #[.int .i64 a0,.int .i64 a1,.int .i64 a2,.slice q us.length cbp] 57))) (fun iv _=>ts.length - (intOf iv).toNat)
   case atStart=>exact ⟨0,rfl,Nat.zero_le _,Nat.zero_le _,by rw [List.drop_zero,List.drop_zero];exact HR,Lib.hid (by go_grown),Lib.hid (two_new _ _ _).1,Lib.hid (two_new _ _ _).2⟩
   case round =>
     obtain ⟨i,rfl,hi,hj,HL,HB,Z0,Z1⟩:=hrel
     have wi:IntKind.i64.wrap ((i:Int)+1)=(i:Int)+1:=IntWalk.i64_in _ (by omega)
     obtain ⟨m0,m1,m2,m3,-,-,-,-⟩:=four Z0.out
     obtain ⟨n0,n1,n2,n3,-,-,-,-⟩:=four Z1.out
     by_cases hlt:i < ts.length∧i < us.length
     · obtain ⟨x,hx⟩:∃ x,ts[i]? = some x:=⟨_,List.getElem?_eq_getElem (by omega)⟩
       obtain ⟨y,hy⟩:∃ y,us[i]? = some y:=⟨_,List.getElem?_eq_getElem (by omega)⟩
       obtain ⟨b1,o1,s1,rfl,-,t1,sub1⟩:=HSA.out.get hx
       obtain ⟨b2,o2,s2,rfl,-,t2,sub2⟩:=HSB.out.get hy
       have hmem:=List.mem_of_getElem? hx
       have hd1:ts.drop i=x :: ts.drop (i+1):=by rw [List.drop_eq_getElem_cons (by omega),(List.getElem?_eq_some_iff.1 hx).2]
       have hd2:us.drop i=y :: us.drop (i+1):=by rw [List.drop_eq_getElem_cons (by omega),(List.getElem?_eq_some_iff.1 hy).2]
       have hl:=HL.out
       rw [hd1,hd2,Pa.cmpS_cc] at hl
       have T1:=Lib.hid t1;have T2:=Lib.hid t2
       have l1:=t1.lt;have l2:=t2.lt
       have hs:=fun w9 (hb:Below wr.heap.size wr w9)=>IH.out x hmem y w9 B C (.agg #[.int .i64 x.lo,.int .i64 x.hi,.int .i64 x.pick,s1]) (.agg #[.int .i64 y.lo,.int .i64 y.hi,.int .i64 y.pick,s2]) ⟨s1,rfl,sub1.later (HB.out.trans (hb.mono HB.out.size))⟩ ⟨s2,rfl,sub2.later (HB.out.trans (hb.mono HB.out.size))⟩
       clear t1 sub1 t2 sub2 hmem hx hy hd1 hd2 HL
       have hi1:=hlt.1;have hi2:=hlt.2
       have g1:decide ((i:Int) < ts.length)=true:=by simp;omega
       have g2:decide ((i:Int) < us.length)=true:=by simp;omega
       have g3:decide (i < ts.length)=true:=decide_eq_true hi1
       have g4:decide (i < us.length)=true:=decide_eq_true hi2
       generalize Pa.cmpT x y=z at *
       have HS:=Lib.hid hs;have HLL:=Lib.hid hl
       clear hs hl hlt
       by_cases hz:z=0
       · have HR2:=Lib.hid (show Pa.cmpS (ts.drop (i+1)) (us.drop (i+1))=R by have:=HLL.out;rw [if_neg (by omega)] at this;exact this)
         have ez:(z != 0)=false:=by simpa using hz
         clear hz HLL
         go_wp2
         clear m0 m1 m2 m3 n0 n1 n2 n3
         refine Ri.wp_region_frame (by kernel_rfl) (by kernel_rfl) (by kernel_rfl) (by kernel_rfl)
           (fun L v w'=>Below wr.heap.size wr w'∧(L 0=true→v 0=.pointer (some ⟨w.heap.size,3,none⟩))∧(L 1=true→v 1=.slice (some ⟨b1,o1,none⟩) ts.length cap)∧(L 2=true→v 2=.int .i64 (i:Int))∧(L 3=true→v 3=.pointer (some ⟨b1,o1+i * 4,none⟩))∧(L 4=true→v 4=.agg #[.int .i64 x.lo,.int .i64 x.hi,.int .i64 x.pick,s1])∧(L 5=true→v 5=.pointer (some ⟨w.heap.size+1,3,none⟩))∧(L 6=true→v 6=.slice (some ⟨b2,o2,none⟩) us.length cbp)∧(L 7=true→v 7=.int .i64 (i:Int))∧(L 8=true→v 8=.pointer (some ⟨b2,o2+i * 4,none⟩))∧(L 9=true→v 9=.agg #[.int .i64 y.lo,.int .i64 y.hi,.int .i64 y.pick,s2])∧(L 10=true→v 10=.int .i64 z)∧(L 11=true→v 11=.int .i64 z))
           ?_ ?_ ?_
         · exact ⟨(Below.refl _ _).drew,by simp,by simp,by simp,by simp,by simp,by simp,by simp,by simp,by simp,by simp,by simp,by simp⟩
         · intro i hi9 L v w9 xa hI hL hd hv ho
           have hi':i=0 ∨ i=1 ∨ i=2 ∨ i=3 ∨ i=4 ∨ i=5 ∨ i=6 ∨ i=7 ∨ i=8 ∨ i=9 ∨ i=10 ∨ i=11:=by simp at hi9;omega
           obtain ⟨hb,q0,q1,q2,q3,q4,q5,q6,q7,q8,q9,q10,q11⟩:=hI
           rcases hi' with rfl | rfl | rfl | rfl | rfl | rfl | rfl | rfl | rfl | rfl | rfl | rfl
           · have e2:xa.tmps.getD 2 undef=.pointer (some ⟨w.heap.size,0,none⟩):=ho 2 (by kernel_rfl)
             refine Ri.step_plain rfl rfl (fun K' hK=>?_)
             go_simp
             exact hK _ _ ⟨_,_,rfl,rfl,hb,fun _=>rfl,q1,q2,q3,q4,q5,q6,q7,q8,q9,q10,q11⟩
           · have l0:L 0=true:=by have:=hd _ rfl;simp [Region.binds] at this;simp [this]
             have f0:=(hv 0 57 rfl l0).trans (q0 l0)
             refine Ri.step_plain rfl rfl (fun K' hK=>?_)
             obtain ⟨d0,d1,d2,d3,-,-,-,-⟩:=four (keep_blk hb Z0.out)
             go_simp
             exact hK _ _ ⟨_,_,rfl,rfl,hb,q0,fun _=>rfl,q2,q3,q4,q5,q6,q7,q8,q9,q10,q11⟩
           · have e5:xa.tmps.getD 5 undef=.int .i64 (i:Int):=ho 5 (by kernel_rfl)
             refine Ri.step_plain rfl rfl (fun K' hK=>?_)
             go_simp
             exact hK _ _ ⟨_,_,rfl,rfl,hb,q0,q1,fun _=>rfl,q3,q4,q5,q6,q7,q8,q9,q10,q11⟩
           · have l0:L 1=true∧L 2=true:=by have:=hd _ rfl;simp [Region.binds] at this;simp [this]
             have f1:=(hv 1 58 rfl l0.1).trans (q1 l0.1)
             have f2:=(hv 2 59 rfl l0.2).trans (q2 l0.2)
             refine Ri.step_plain rfl rfl (fun K' hK=>?_)
             go_simp
             exact hK _ _ ⟨_,_,rfl,rfl,hb,q0,q1,q2,fun _=>rfl,q4,q5,q6,q7,q8,q9,q10,q11⟩
           · have l0:L 3=true:=by have:=hd _ rfl;simp [Region.binds] at this;simp [this]
             have f3:=(hv 3 60 rfl l0).trans (q3 l0)
             refine Ri.step_plain rfl rfl (fun K' hK=>?_)
             obtain ⟨d0,d1,d2,d3⟩:=(T1.out.keep ((HB.out.trans (hb.mono HB.out.size)).block _ l1))
             go_simp
             exact hK _ _ ⟨_,_,rfl,rfl,hb,q0,q1,q2,q3,fun _=>rfl,q5,q6,q7,q8,q9,q10,q11⟩
           · have e3:xa.tmps.getD 3 undef=.pointer (some ⟨w.heap.size+1,0,none⟩):=ho 3 (by kernel_rfl)
             refine Ri.step_plain rfl rfl (fun K' hK=>?_)
             go_simp
             exact hK _ _ ⟨_,_,rfl,rfl,hb,q0,q1,q2,q3,q4,fun _=>rfl,q6,q7,q8,q9,q10,q11⟩
           · have l0:L 5=true:=by have:=hd _ rfl;simp [Region.binds] at this;simp [this]
             have f5:=(hv 5 62 rfl l0).trans (q5 l0)
             refine Ri.step_plain rfl rfl (fun K' hK=>?_)
             obtain ⟨d0,d1,d2,d3,-,-,-,-⟩:=four (keep_blk hb Z1.out)
             go_simp
             exact hK _ _ ⟨_,_,rfl,rfl,hb,q0,q1,q2,q3,q4,q5,fun _=>rfl,q7,q8,q9,q10,q11⟩
           · have e5:xa.tmps.getD 5 undef=.int .i64 (i:Int):=ho 5 (by kernel_rfl)
             refine Ri.step_plain rfl rfl (fun K' hK=>?_)
             go_simp
             exact hK _ _ ⟨_,_,rfl,rfl,hb,q0,q1,q2,q3,q4,q5,q6,fun _=>rfl,q8,q9,q10,q11⟩
           · have l0:L 6=true∧L 7=true:=by have:=hd _ rfl;simp [Region.binds] at this;simp [this]
             have f6:=(hv 6 63 rfl l0.1).trans (q6 l0.1)
             have f7:=(hv 7 64 rfl l0.2).trans (q7 l0.2)
             refine Ri.step_plain rfl rfl (fun K' hK=>?_)
             go_simp
             exact hK _ _ ⟨_,_,rfl,rfl,hb,q0,q1,q2,q3,q4,q5,q6,q7,fun _=>rfl,q9,q10,q11⟩
           · have l0:L 8=true:=by have:=hd _ rfl;simp [Region.binds] at this;simp [this]
             have f8:=(hv 8 65 rfl l0).trans (q8 l0)
             refine Ri.step_plain rfl rfl (fun K' hK=>?_)
             obtain ⟨d0,d1,d2,d3⟩:=(T2.out.keep ((HB.out.trans (hb.mono HB.out.size)).block _ l2))
             go_simp
             exact hK _ _ ⟨_,_,rfl,rfl,hb,q0,q1,q2,q3,q4,q5,q6,q7,q8,fun _=>rfl,q10,q11⟩
           · have l0:L 4=true∧L 9=true:=by have:=hd _ rfl;simp [Region.binds] at this;simp [this]
             have f4:=(hv 4 61 rfl l0.1).trans (q4 l0.1)
             have f9:=(hv 9 66 rfl l0.2).trans (q9 l0.2)
             refine Ri.step_plain rfl rfl (fun K' hK=>?_)
             go_simp
             refine (HS.out _ hb).mono ?_
             rintro e w8 ⟨rfl,hb8⟩
             exact hK _ _ ⟨_,_,rfl,rfl,hb.trans (hb8.mono hb.size),q0,q1,q2,q3,q4,q5,q6,q7,q8,q9,fun _=>rfl,q11⟩
           · have l0:L 10=true:=by have:=hd _ rfl;simp [Region.binds] at this;simp [this]
             have f10:=(hv 10 67 rfl l0).trans (q10 l0)
             refine Ri.step_plain rfl rfl (fun K' hK=>?_)
             go_simp
             exact hK _ _ ⟨_,_,rfl,rfl,hb,q0,q1,q2,q3,q4,q5,q6,q7,q8,q9,q10,fun _=>rfl⟩
         · rintro v w9 ⟨hb,-,-,-,-,-,-,-,-,-,-,-,q11⟩
           have q11':v 11=.int .i64 z:=q11 rfl
           simp only [Ri.frame,List.zipIdx,List.foldl_cons,List.foldl_nil,if_true,List.setIfInBounds_toArray,List.set_cons_zero,List.set_cons_succ,Nat.reduceAdd,q11']
           clear q11 q11'
           generalize v 0=y0;generalize v 1=y1;generalize v 2=y2;generalize v 3=y3;generalize v 4=y4;generalize v 5=y5;generalize v 6=y6;generalize v 7=y7;generalize v 8=y8;generalize v 9=y9;generalize v 10=y10
           have HB2:=Lib.hid (HB.out.trans (hb.mono HB.out.size));have X0:=Lib.hid (keep_blk hb Z0.out);have X1:=Lib.hid (keep_blk hb Z1.out)
           clear hb
           go_wp2
           exact ⟨⟨i+1,by go_num,by omega,by omega,HR2,HB2,X0,X1⟩,by simp [intOf];omega⟩
       · have HR2:=Lib.hid (show z=R by have:=HLL.out;rw [if_pos hz] at this;exact this)
         have ez:(z != 0)=true:=by simpa using hz
         clear hz HLL
         go_wp2
         clear m0 m1 m2 m3 n0 n1 n2 n3
         refine Ri.wp_region_frame (by kernel_rfl) (by kernel_rfl) (by kernel_rfl) (by kernel_rfl)
           (fun L v w'=>Below wr.heap.size wr w'∧(L 0=true→v 0=.pointer (some ⟨w.heap.size,3,none⟩))∧(L 1=true→v 1=.slice (some ⟨b1,o1,none⟩) ts.length cap)∧(L 2=true→v 2=.int .i64 (i:Int))∧(L 3=true→v 3=.pointer (some ⟨b1,o1+i * 4,none⟩))∧(L 4=true→v 4=.agg #[.int .i64 x.lo,.int .i64 x.hi,.int .i64 x.pick,s1])∧(L 5=true→v 5=.pointer (some ⟨w.heap.size+1,3,none⟩))∧(L 6=true→v 6=.slice (some ⟨b2,o2,none⟩) us.length cbp)∧(L 7=true→v 7=.int .i64 (i:Int))∧(L 8=true→v 8=.pointer (some ⟨b2,o2+i * 4,none⟩))∧(L 9=true→v 9=.agg #[.int .i64 y.lo,.int .i64 y.hi,.int .i64 y.pick,s2])∧(L 10=true→v 10=.int .i64 z)∧(L 11=true→v 11=.int .i64 z))
           ?_ ?_ ?_
         · exact ⟨(Below.refl _ _).drew,by simp,by simp,by simp,by simp,by simp,by simp,by simp,by simp,by simp,by simp,by simp,by simp⟩
         · intro i hi9 L v w9 xa hI hL hd hv ho
           have hi':i=0 ∨ i=1 ∨ i=2 ∨ i=3 ∨ i=4 ∨ i=5 ∨ i=6 ∨ i=7 ∨ i=8 ∨ i=9 ∨ i=10 ∨ i=11:=by simp at hi9;omega
           obtain ⟨hb,q0,q1,q2,q3,q4,q5,q6,q7,q8,q9,q10,q11⟩:=hI
           rcases hi' with rfl | rfl | rfl | rfl | rfl | rfl | rfl | rfl | rfl | rfl | rfl | rfl
           · have e2:xa.tmps.getD 2 undef=.pointer (some ⟨w.heap.size,0,none⟩):=ho 2 (by kernel_rfl)
             refine Ri.step_plain rfl rfl (fun K' hK=>?_)
             go_simp
             exact hK _ _ ⟨_,_,rfl,rfl,hb,fun _=>rfl,q1,q2,q3,q4,q5,q6,q7,q8,q9,q10,q11⟩
           · have l0:L 0=true:=by have:=hd _ rfl;simp [Region.binds] at this;simp [this]
             have f0:=(hv 0 57 rfl l0).trans (q0 l0)
             refine Ri.step_plain rfl rfl (fun K' hK=>?_)
             obtain ⟨d0,d1,d2,d3,-,-,-,-⟩:=four (keep_blk hb Z0.out)
             go_simp
             exact hK _ _ ⟨_,_,rfl,rfl,hb,q0,fun _=>rfl,q2,q3,q4,q5,q6,q7,q8,q9,q10,q11⟩
           · have e5:xa.tmps.getD 5 undef=.int .i64 (i:Int):=ho 5 (by kernel_rfl)
             refine Ri.step_plain rfl rfl (fun K' hK=>?_)
             go_simp
             exact hK _ _ ⟨_,_,rfl,rfl,hb,q0,q1,fun _=>rfl,q3,q4,q5,q6,q7,q8,q9,q10,q11⟩
           · have l0:L 1=true∧L 2=true:=by have:=hd _ rfl;simp [Region.binds] at this;simp [this]
             have f1:=(hv 1 58 rfl l0.1).trans (q1 l0.1)
             have f2:=(hv 2 59 rfl l0.2).trans (q2 l0.2)
             refine Ri.step_plain rfl rfl (fun K' hK=>?_)
             go_simp
             exact hK _ _ ⟨_,_,rfl,rfl,hb,q0,q1,q2,fun _=>rfl,q4,q5,q6,q7,q8,q9,q10,q11⟩
           · have l0:L 3=true:=by have:=hd _ rfl;simp [Region.binds] at this;simp [this]
             have f3:=(hv 3 60 rfl l0).trans (q3 l0)
             refine Ri.step_plain rfl rfl (fun K' hK=>?_)
             obtain ⟨d0,d1,d2,d3⟩:=(T1.out.keep ((HB.out.trans (hb.mono HB.out.size)).block _ l1))
             go_simp
             exact hK _ _ ⟨_,_,rfl,rfl,hb,q0,q1,q2,q3,fun _=>rfl,q5,q6,q7,q8,q9,q10,q11⟩
           · have e3:xa.tmps.getD 3 undef=.pointer (some ⟨w.heap.size+1,0,none⟩):=ho 3 (by kernel_rfl)
             refine Ri.step_plain rfl rfl (fun K' hK=>?_)
             go_simp
             exact hK _ _ ⟨_,_,rfl,rfl,hb,q0,q1,q2,q3,q4,fun _=>rfl,q6,q7,q8,q9,q10,q11⟩
           · have l0:L 5=true:=by have:=hd _ rfl;simp [Region.binds] at this;simp [this]
             have f5:=(hv 5 62 rfl l0).trans (q5 l0)
             refine Ri.step_plain rfl rfl (fun K' hK=>?_)
             obtain ⟨d0,d1,d2,d3,-,-,-,-⟩:=four (keep_blk hb Z1.out)
             go_simp
             exact hK _ _ ⟨_,_,rfl,rfl,hb,q0,q1,q2,q3,q4,q5,fun _=>rfl,q7,q8,q9,q10,q11⟩
           · have e5:xa.tmps.getD 5 undef=.int .i64 (i:Int):=ho 5 (by kernel_rfl)
             refine Ri.step_plain rfl rfl (fun K' hK=>?_)
             go_simp
             exact hK _ _ ⟨_,_,rfl,rfl,hb,q0,q1,q2,q3,q4,q5,q6,fun _=>rfl,q8,q9,q10,q11⟩
           · have l0:L 6=true∧L 7=true:=by have:=hd _ rfl;simp [Region.binds] at this;simp [this]
             have f6:=(hv 6 63 rfl l0.1).trans (q6 l0.1)
             have f7:=(hv 7 64 rfl l0.2).trans (q7 l0.2)
             refine Ri.step_plain rfl rfl (fun K' hK=>?_)
             go_simp
             exact hK _ _ ⟨_,_,rfl,rfl,hb,q0,q1,q2,q3,q4,q5,q6,q7,fun _=>rfl,q9,q10,q11⟩
           · have l0:L 8=true:=by have:=hd _ rfl;simp [Region.binds] at this;simp [this]
             have f8:=(hv 8 65 rfl l0).trans (q8 l0)
             refine Ri.step_plain rfl rfl (fun K' hK=>?_)
             obtain ⟨d0,d1,d2,d3⟩:=(T2.out.keep ((HB.out.trans (hb.mono HB.out.size)).block _ l2))
             go_simp
             exact hK _ _ ⟨_,_,rfl,rfl,hb,q0,q1,q2,q3,q4,q5,q6,q7,q8,fun _=>rfl,q10,q11⟩
           · have l0:L 4=true∧L 9=true:=by have:=hd _ rfl;simp [Region.binds] at this;simp [this]
             have f4:=(hv 4 61 rfl l0.1).trans (q4 l0.1)
             have f9:=(hv 9 66 rfl l0.2).trans (q9 l0.2)
             refine Ri.step_plain rfl rfl (fun K' hK=>?_)
             go_simp
             refine (HS.out _ hb).mono ?_
             rintro e w8 ⟨rfl,hb8⟩
             exact hK _ _ ⟨_,_,rfl,rfl,hb.trans (hb8.mono hb.size),q0,q1,q2,q3,q4,q5,q6,q7,q8,q9,fun _=>rfl,q11⟩
           · have l0:L 10=true:=by have:=hd _ rfl;simp [Region.binds] at this;simp [this]
             have f10:=(hv 10 67 rfl l0).trans (q10 l0)
             refine Ri.step_plain rfl rfl (fun K' hK=>?_)
             go_simp
             exact hK _ _ ⟨_,_,rfl,rfl,hb,q0,q1,q2,q3,q4,q5,q6,q7,q8,q9,q10,fun _=>rfl⟩
         · rintro v w9 ⟨hb,-,-,-,-,-,-,-,-,-,-,-,q11⟩
           have q11':v 11=.int .i64 z:=q11 rfl
           simp only [Ri.frame,List.zipIdx,List.foldl_cons,List.foldl_nil,if_true,List.setIfInBounds_toArray,List.set_cons_zero,List.set_cons_succ,Nat.reduceAdd,q11']
           clear q11 q11'
           generalize v 0=y0;generalize v 1=y1;generalize v 2=y2;generalize v 3=y3;generalize v 4=y4;generalize v 5=y5;generalize v 6=y6;generalize v 7=y7;generalize v 8=y8;generalize v 9=y9;generalize v 10=y10
           have HB2:=Lib.hid (HB.out.trans (hb.mono HB.out.size))
           clear hb
           go_wp2
           go_ret
           exact ⟨ret_int HR2.out,HB2.out⟩
     · have hend:i=ts.length ∨ i=us.length:=by omega
       have hl:=HL.out
       rw [Pa.cmpS_end _ _ (by rcases hend with h | h;exact .inl (List.drop_eq_nil_of_le (by omega));exact .inr (List.drop_eq_nil_of_le (by omega))),List.length_drop,List.length_drop,Pa.cmpI_drop _ _ _ (by omega) (by omega)] at hl
       have HE:=Lib.hid hl
       have hg:(decide ((i:Int) < ts.length)=false∧decide (i < ts.length)=false) ∨ (decide ((i:Int) < ts.length)=true∧decide (i < ts.length)=true∧decide ((i:Int) < us.length)=false∧decide (i < us.length)=false):=by
         by_cases h:i < ts.length
         · exact .inr ⟨by simp;omega,by simp;omega,by simp;omega,by simp;omega⟩
         · exact .inl ⟨by simp;omega,by simp;omega⟩
       rcases Nat.lt_trichotomy us.length ts.length with h3 | h3 | h3
       · have HF:=Lib.hid (show -1=R by have:=HE.out;unfold Pa.cmpI at this;rw [if_pos (by omega)] at this;exact this)
         have k1:decide ((us.length:Int) < ts.length)=true:=by simp;omega
         have k2:decide (us.length < ts.length)=true:=by simp;omega
         clear hl HL HE hlt hend h3
         rcases hg with ⟨q1,q2⟩ | ⟨q1,q2,q3,q4⟩
         all_goals
           go_wp2
           go_ret
           exact ⟨ret_int HF.out,HB.out⟩
       · have HF:=Lib.hid (show 0=R by have:=HE.out;unfold Pa.cmpI at this;rw [if_neg (by omega),if_neg (by omega)] at this;exact this)
         have k1:decide ((us.length:Int) < ts.length)=false:=by simp;omega
         have k2:decide (us.length < ts.length)=false:=by simp;omega
         have k3:decide ((ts.length:Int) < us.length)=false:=by simp;omega
         have k4:decide (ts.length < us.length)=false:=by simp;omega
         clear hl HL HE hlt hend h3
         rcases hg with ⟨q1,q2⟩ | ⟨q1,q2,q3,q4⟩
         all_goals
           go_wp2
           go_ret
           exact ⟨ret_int HF.out,HB.out⟩
       · have HF:=Lib.hid (show 1=R by have:=HE.out;unfold Pa.cmpI at this;rw [if_neg (by omega),if_pos (by omega)] at this;exact this)
         have k1:decide ((us.length:Int) < ts.length)=false:=by simp;omega
         have k2:decide (us.length < ts.length)=false:=by simp;omega
         have k3:decide ((ts.length:Int) < us.length)=true:=by simp;omega
         have k4:decide (ts.length < us.length)=true:=by simp;omega
         clear hl HL HE hlt hend h3
         rcases hg with ⟨q1,q2⟩ | ⟨q1,q2,q3,q4⟩
         all_goals
           go_wp2
           go_ret
           exact ⟨ret_int HF.out,HB.out⟩
end Go.Proofs.YtknlkgegbcbcfaaDoor
namespace Go.Proofs.YtknlkgegbcbcfaaDoor
open Go.RowKit
namespace Pa
mutual
def ndT:Pa→Nat
 | .node _ _ _ s=>1+ndS s
def ndS:List Pa→Nat
 | []=>0
 | t :: l=>ndT t+ndS l
end
theorem ndT_eq (t:Pa):t.ndT=1+ndS t.subs:=by cases t;rw [ndT];rfl
mutual
def leftT:Pa→Int→Int
 | .node _ _ _ s,m=>leftS s (m - 1)
def leftS:List Pa→Int→Int
 | [],m=>m
 | t :: l,m=>if 0 ≤ m then leftS l (leftT t m) else m
end
theorem leftT_eq (t:Pa) (m:Int):t.leftT m=leftS t.subs (m - 1):=by cases t;rw [leftT];rfl
theorem leftS_neg (l:List Pa) {m:Int} (h:m < 0):leftS l m=m:=by
 cases l with
 | nil=>rfl
 | cons t l=>rw [leftS,if_neg (by omega)]
theorem leftS_spec:∀ (l:List Pa),(∀ t,t ∈ l→∀ m,0 ≤ m→t.leftT m ≤ m∧-1 ≤ t.leftT m∧(0 ≤ t.leftT m→t.leftT m=m - t.ndT)∧((t.ndT:Int) ≤ m→0 ≤ t.leftT m))→∀ m,-1 ≤ m→leftS l m ≤ m∧-1 ≤ leftS l m∧(0 ≤ leftS l m→leftS l m=m - ndS l)∧(0 ≤ m→(ndS l:Int) ≤ m→0 ≤ leftS l m)
 | [],_,m,hm=>by rw [leftS,ndS];exact ⟨Int.le_refl _,hm,fun _=>by omega,fun h _=>h⟩
 | t :: l,ih,m,hm=>by
   rw [leftS,ndS]
   split
   · rename_i h0
     obtain ⟨h1,h2,h3,h4⟩:=ih t List.mem_cons_self m h0
     obtain ⟨k1,k2,k3,k4⟩:=leftS_spec l (fun u hu=>ih u (List.mem_cons_of_mem _ hu)) (t.leftT m) h2
     refine ⟨by omega,k2,fun h=>?_,fun _ h=>?_⟩
     · have:=h3 (by omega)
       have:=k3 h
       omega
     · have a:=h4 (by omega)
       have b:=h3 a
       exact k4 a (by omega)
   · rename_i h0
     exact ⟨Int.le_refl _,hm,fun h=>absurd h h0,fun h=>absurd h h0⟩
theorem leftT_spec:∀ (t:Pa) (m:Int),0 ≤ m→t.leftT m ≤ m∧-1 ≤ t.leftT m∧(0 ≤ t.leftT m→t.leftT m=m - t.ndT)∧((t.ndT:Int) ≤ m→0 ≤ t.leftT m):=by
 intro t
 induction t using Pa.rec_subs with
 | h t ih =>
   intro m hm
   rw [leftT_eq,ndT_eq]
   obtain ⟨k1,k2,k3,k4⟩:=leftS_spec t.subs (fun u hu=>ih u hu) (m - 1) (by omega)
   exact ⟨by omega,k2,fun h=>by have:=k3 h;omega,fun h=>k4 (by omega) (by omega)⟩
end Pa
theorem paleft_any:∀ t:Pa,∀ m0:Nat,m0 ≤ 1000000→∀ (w:World) (B:Nat→Prop) (v:Value),PaV w B v t→Calls Tryd.prog 58 #[v,.int .i64 m0] w fun e w'=>e=.returned (.int .i64 (t.leftT m0))∧Below w.heap.size w w':=by
 intro t
 induction t using Pa.rec_subs with
 | h t ih =>
   intro m0 hm0 w B v hv
   obtain ⟨s,rfl,hs⟩:=hv
   obtain ⟨p,cap,rfl,hlen⟩:=hs.slice
   have hsp:=Pa.leftS_spec t.subs (fun u _=>Pa.leftT_spec u)
   rw [Pa.leftT_eq]
   generalize hts:t.subs=ts at *
   have IH:=Lib.hid ih;have HS:=Lib.hid hs;have HSP:=Lib.hid hsp
   clear ih hs hts hsp
   unfold Pa.cells at *
   obtain ⟨R,hR⟩:∃ R,Pa.leftS ts ((m0:Int) - 1)=R:=⟨_,rfl⟩
   rw [hR]
   have HR:=Lib.hid hR
   clear hR
   have w0:IntKind.i64.wrap ((m0:Int) - 1)=(m0:Int) - 1:=IntWalk.i64_in _ (by omega)
   have Z0:=Lib.hid (heap_alloc_new w (.cells #[.int .i64 t.lo,.int .i64 t.hi,.int .i64 t.pick,.slice p ts.length cap] 57))
   have HW:=Lib.hid (show Below w.heap.size w (w.alloc (.cells #[.int .i64 t.lo,.int .i64 t.hi,.int .i64 t.pick,.slice p ts.length cap] 57)) from (Below.refl _ _).alloc (Nat.le_refl _) _)
   go_enter Tryd.func58,Tryd.ntmps58
   go_wp2
   generalize w.alloc (.cells #[.int .i64 t.lo,.int .i64 t.hi,.int .i64 t.pick,.slice p ts.length cap] 57)=W0 at *
   go_loopw [1,5] (fun mv iv wr=>∃ (i:Nat) (m:Int),iv=.int .i64 i∧mv=.int .i64 m∧i ≤ ts.length∧-1 ≤ m∧m ≤ 1000000∧Hid (Pa.leftS (ts.drop i) m=R)∧Hid (Below W0.heap.size W0 wr)) (fun _ iv _=>ts.length - (intOf iv).toNat)
   case atStart=>exact ⟨0,(m0:Int) - 1,rfl,rfl,Nat.zero_le _,by omega,by omega,by rw [List.drop_zero];exact HR,Lib.hid (Below.refl _ _)⟩
   case round =>
     obtain ⟨i,m,rfl,rfl,hi,hm1,hm2,HL,HB⟩:=hrel
     have wi:IntKind.i64.wrap ((i:Int)+1)=(i:Int)+1:=IntWalk.i64_in _ (by omega)
     have HBW:=Lib.hid (HW.out.trans (HB.out.mono HW.out.size))
     have Z1:=Lib.hid (keep_blk (HB.out.mono (Nat.le_refl _)) Z0.out)
     obtain ⟨d0,d1,d2,d3,-,-,-,-⟩:=four Z1.out
     by_cases hlt:i < ts.length
     · by_cases hmz:0 ≤ m
       · obtain ⟨mn,rfl⟩:∃ mn:Nat,m=mn:=⟨m.toNat,by omega⟩
         have gm:decide ((0:Int) ≤ (mn:Int))=true:=by simp
         obtain ⟨x,hx⟩:∃ x,ts[i]? = some x:=⟨_,List.getElem?_eq_getElem hlt⟩
         obtain ⟨b1,o1,s1,rfl,-,t1,sub1⟩:=HS.out.get hx
         obtain ⟨e0,e1,e2,e3⟩:=t1.keep (HBW.out.block _ t1.lt)
         have hmem:=List.mem_of_getElem? hx
         obtain ⟨p1,c1,rfl,hl1⟩:=sub1.slice
         have HC:=Lib.hid (IH.out x hmem mn (by omega) wr B (.agg (x.cells (.slice p1 x.subs.length c1))) ⟨_,rfl,sub1.later HBW.out⟩)
         have hdr:ts.drop i=x :: ts.drop (i+1):=by
           rw [List.drop_eq_getElem_cons hlt,(List.getElem?_eq_some_iff.1 hx).2]
         have hl:=HL.out
         rw [hdr,Pa.leftS,if_pos (by omega)] at hl
         have HL2:=Lib.hid hl
         obtain ⟨k1,k2,-,-⟩:=Pa.leftT_spec x mn (by omega)
         clear t1 sub1 hmem hx hdr hl HL
         unfold Pa.cells at HC
         go_wp2_with fail
         refine HC.out.mono ?_
         rintro e w2 ⟨rfl,hb2⟩
         have HB2:=Lib.hid (HB.out.trans (hb2.mono HB.out.size))
         generalize x.leftT mn=mm at *
         clear e0 e1 e2 e3 hb2 HC d0 d1 d2 d3
         go_wp2
         exact ⟨⟨i+1,mm,by go_num,rfl,by omega,k2,by omega,HL2,HB2⟩,by simp [intOf];omega⟩
       · have gm:decide ((0:Int) ≤ m)=false:=by simp;omega
         have hl:=HL.out
         rw [Pa.leftS_neg _ (by omega)] at hl
         have HL2:=Lib.hid hl
         clear hl HL hmz
         go_wp2
         go_ret
         exact ⟨ret_int HL2.out,HBW.out⟩
     · obtain rfl:i=ts.length:=by omega
       have hl:=HL.out
       rw [List.drop_length,Pa.leftS] at hl
       have HL2:=Lib.hid hl
       clear hl HL
       go_wp2
       go_ret
       exact ⟨ret_int HL2.out,HBW.out⟩
theorem pafew_any (t:Pa) (m:Nat) (hm:m ≤ 1000000) (w:World) (B:Nat→Prop) (v:Value) (hv:PaV w B v t) :
   Calls Tryd.prog 31 #[v,.int .i64 m] w fun e w'=>e=.returned (.bool (decide (t.ndT ≤ m)))∧Below w.heap.size w w':=by
 obtain ⟨s,rfl,hs⟩:=hv
 have H1:=Lib.hid (fun w' (hb:Below w.heap.size w w')=>paleft_any t m hm w' B (.agg (t.cells s)) ⟨s,rfl,PasAt.later (w':=w') hs hb⟩)
 obtain ⟨p,cap,rfl,hlen⟩:=hs.slice
 have hsp:=Pa.leftT_spec t m (by omega)
 have hdec:decide ((0:Int) ≤ t.leftT m)=decide (t.ndT ≤ m):=by
   by_cases h:t.ndT ≤ m
   · rw [decide_eq_true h,decide_eq_true (hsp.2.2.2 (by omega))]
   · rw [decide_eq_false h,decide_eq_false (fun h2=>h (by have:=hsp.2.2.1 h2;omega))]
 have HD:=Lib.hid hdec
 have Z0:=Lib.hid (heap_alloc_new w (.cells (t.cells (.slice p t.subs.length cap)) 57))
 have HW:=Lib.hid (show Below w.heap.size w (w.alloc (.cells (t.cells (.slice p t.subs.length cap)) 57)) from (Below.refl _ _).alloc (Nat.le_refl _) _)
 clear hs hsp hdec
 unfold Pa.cells at *
 go_enter Tryd.func31,Tryd.ntmps31
 go_wp2_with (first
   | (refine wpList_load_row rfl 57 (.tmp 2) rfl w.heap.size rfl 57 _ (0,0) _ Z0.out Tryd.underlying57 rfl (by kernel_rfl) ?_)
   | fail)
 refine (H1.out _ HW.out).mono ?_
 rintro e w1 ⟨rfl,hb1⟩
 have HB1:=Lib.hid (HW.out.trans (hb1.mono HW.out.size))
 clear hb1
 generalize t.leftT m=mm at *
 go_wp2
 go_ret
 exact ⟨ret_bool HD.out,HB1.out⟩
end Go.Proofs.YtknlkgegbcbcfaaDoor
namespace Go.Proofs.YtknlkgegbcbcfaaDoor
open Go.RowKit
theorem rankcompares_any (A:Nat→Addr) (q0 q1:Pa) (w:World) (hE:ErrsC w A) (B0 B1:Nat→Prop) (v0 v1:Value) (h0:PaV w B0 v0 q0) (h1:PaV w B1 v1 q1) :
   Calls Tryd.prog 6 #[v0,v1] w fun e w'=>e=.returned (.bool true)∧Below w.heap.size w w':=by
 have HF0:=Lib.hid (fun w9 (h:Below w.heap.size w w9)=>pafew_any q0 3000 (by omega) w9 B0 v0 (h0.later h))
 have HF1:=Lib.hid (fun w9 (h:Below w.heap.size w w9)=>pafew_any q1 3000 (by omega) w9 B1 v1 (h1.later h))
 have HPC:=Lib.hid (fun w9 (h:Below w.heap.size w w9)=>compare_any q0 q1 w9 B0 B1 v0 v1 (h0.later h) (h1.later h))
 have HRC:=Lib.hid (fun w9 (h:Below w.heap.size w w9)=>refcompare_any q0 q1 w9 B0 B1 v0 v1 (h0.later h) (h1.later h))
 have HSM:=Lib.hid (fun w9 (h:Below w.heap.size w w9)=>sameparse_any q0 q1 w9 B0 B1 v0 v1 (h0.later h) (h1.later h))
 have HLV:=Lib.hid (fun w9 (h:Below w.heap.size w w9)=>rklives_any A w9 (hE.below h))
 obtain ⟨s0,rfl,k0⟩:=h0;obtain ⟨p0,c0,rfl,-⟩:=k0.slice
 obtain ⟨s1,rfl,k1⟩:=h1;obtain ⟨p1,c1,rfl,-⟩:=k1.slice
 clear k0 k1 hE
 generalize Pa.cmpT q0 q1=z at *
 unfold Pa.cells at *
 have HT:=Lib.hid (two_new w (.cells #[.int .i64 q0.lo,.int .i64 q0.hi,.int .i64 q0.pick,.slice p0 q0.subs.length c0] 57) (.cells #[.int .i64 q1.lo,.int .i64 q1.hi,.int .i64 q1.pick,.slice p1 q1.subs.length c1] 57))
 have HW:=Lib.hid (show Below w.heap.size w ((w.alloc (.cells #[.int .i64 q0.lo,.int .i64 q0.hi,.int .i64 q0.pick,.slice p0 q0.subs.length c0] 57)).alloc (.cells #[.int .i64 q1.lo,.int .i64 q1.hi,.int .i64 q1.pick,.slice p1 q1.subs.length c1] 57)) from by go_grown)
 go_enter Tryd.func6,Tryd.ntmps6
 go_upto_region 1 with (fail)
 generalize (w.alloc (.cells #[.int .i64 q0.lo,.int .i64 q0.hi,.int .i64 q0.pick,.slice p0 q0.subs.length c0] 57)).alloc (.cells #[.int .i64 q1.lo,.int .i64 q1.hi,.int .i64 q1.pick,.slice p1 q1.subs.length c1] 57)=w0 at *
 go_wp2_with fail
 refine (HLV.out w0 HW.out).mono ?_
 rintro e w1 ⟨rfl,hb1⟩
 have HB1:=Lib.hid (HW.out.trans (hb1.mono HW.out.size))
 have AZ0:=Lib.hid (keep_blk hb1 HT.out.1);have AZ1:=Lib.hid (keep_blk hb1 HT.out.2)
 clear hb1 HT HW HLV
 by_cases hf0:q0.ndT ≤ 3000
 · have HFW:=Lib.hid (fun w9 (h:Below w.heap.size w w9)=>HF0.out w9 h)
   rw [decide_eq_true hf0] at HFW
   clear hf0
   obtain ⟨u00,u01,u02,u03,-,-,-,-⟩:=four AZ0.out
   obtain ⟨u10,u11,u12,u13,-,-,-,-⟩:=four AZ1.out
   go_wp2_with fail
   refine (HFW.out _ HB1.out).mono ?_
   rintro e w2 ⟨rfl,hb2⟩
   have HB2:=Lib.hid (HB1.out.trans (hb2.mono HB1.out.size))
   have BZ0:=Lib.hid (keep_blk hb2 AZ0.out)
   have BZ1:=Lib.hid (keep_blk hb2 AZ1.out)
   clear u00 u01 u02 u03 u10 u11 u12 u13
   clear hb2 AZ0 AZ1
   clear HFW
   by_cases hf1:q1.ndT ≤ 3000
   · have HFW:=Lib.hid (fun w9 (h:Below w.heap.size w w9)=>HF1.out w9 h)
     rw [decide_eq_true hf1] at HFW
     clear hf1
     obtain ⟨u00,u01,u02,u03,-,-,-,-⟩:=four BZ0.out
     obtain ⟨u10,u11,u12,u13,-,-,-,-⟩:=four BZ1.out
     go_wp2_with fail
     refine (HFW.out _ HB2.out).mono ?_
     rintro e w3 ⟨rfl,hb3⟩
     have HB3:=Lib.hid (HB2.out.trans (hb3.mono HB2.out.size))
     have CZ0:=Lib.hid (keep_blk hb3 BZ0.out)
     have CZ1:=Lib.hid (keep_blk hb3 BZ1.out)
     clear u00 u01 u02 u03 u10 u11 u12 u13
     clear hb3 BZ0 BZ1
     clear HFW
     have Z0:=CZ0;have Z1:=CZ1;have HB:=HB3
     clear CZ0 CZ1 HB3 HF0 HF1
     generalize w3=wr at *
     have hzz:(z == z)=true:=by simp
     have hzz2:((z == 0) == (z == 0))=true:=by simp
     go_wp2
     refine Ri.wp_region_frame (by kernel_rfl) (by kernel_rfl) (by kernel_rfl) (by kernel_rfl)
       (fun L v w'=>Below wr.heap.size wr w'∧(L 0=true→v 0=.agg #[.int .i64 q0.lo,.int .i64 q0.hi,.int .i64 q0.pick,.slice p0 q0.subs.length c0])∧(L 1=true→v 1=.agg #[.int .i64 q1.lo,.int .i64 q1.hi,.int .i64 q1.pick,.slice p1 q1.subs.length c1])∧(L 2=true→v 2=.int .i64 z)∧(L 3=true→v 3=.agg #[.int .i64 q0.lo,.int .i64 q0.hi,.int .i64 q0.pick,.slice p0 q0.subs.length c0])∧(L 4=true→v 4=.agg #[.int .i64 q1.lo,.int .i64 q1.hi,.int .i64 q1.pick,.slice p1 q1.subs.length c1])∧(L 5=true→v 5=.int .i64 z)∧(L 6=true→v 6=.bool true)∧(L 7=true→v 7=.bool true)∧(L 8=true→v 8=.agg #[.int .i64 q0.lo,.int .i64 q0.hi,.int .i64 q0.pick,.slice p0 q0.subs.length c0])∧(L 9=true→v 9=.agg #[.int .i64 q1.lo,.int .i64 q1.hi,.int .i64 q1.pick,.slice p1 q1.subs.length c1])∧(L 10=true→v 10=.int .i64 z)∧(L 11=true→v 11=.bool (z == 0))∧(L 12=true→v 12=.agg #[.int .i64 q0.lo,.int .i64 q0.hi,.int .i64 q0.pick,.slice p0 q0.subs.length c0])∧(L 13=true→v 13=.agg #[.int .i64 q1.lo,.int .i64 q1.hi,.int .i64 q1.pick,.slice p1 q1.subs.length c1])∧(L 14=true→v 14=.bool (z == 0))∧(L 15=true→v 15=.bool true)∧(L 16=true→v 16=.bool true)∧(L 17=true→v 17=.bool true))
       ?_ ?_ ?_
     · exact ⟨(Below.refl _ _).drew,by simp,by simp,by simp,by simp,by simp,by simp,by simp,by simp,by simp,by simp,by simp,by simp,by simp,by simp,by simp,by simp,by simp,by simp⟩
     · intro i hi9 L v w9 xa hI hL hd hv ho
       have hi':i=0 ∨ i=1 ∨ i=2 ∨ i=3 ∨ i=4 ∨ i=5 ∨ i=6 ∨ i=7 ∨ i=8 ∨ i=9 ∨ i=10 ∨ i=11 ∨ i=12 ∨ i=13 ∨ i=14 ∨ i=15 ∨ i=16 ∨ i=17:=by simp at hi9;omega
       obtain ⟨hb,q0,q1,q2,q3,q4,q5,q6,q7,q8,q9,q10,q11,q12,q13,q14,q15,q16,q17⟩:=hI
       rcases hi' with rfl | rfl | rfl | rfl | rfl | rfl | rfl | rfl | rfl | rfl | rfl | rfl | rfl | rfl | rfl | rfl | rfl | rfl
       · have e2:xa.tmps.getD 2 undef=.pointer (some ⟨w.heap.size,0,none⟩):=ho 2 (by kernel_rfl)
         refine Ri.step_plain rfl rfl (fun K' hK=>?_)
         obtain ⟨x0,x1,x2,x3,-,-,-,-⟩:=four (keep_blk hb Z0.out)
         go_simp
         exact hK _ _ ⟨_,_,rfl,rfl,hb,fun _=>rfl,q1,q2,q3,q4,q5,q6,q7,q8,q9,q10,q11,q12,q13,q14,q15,q16,q17⟩
       · have e3:xa.tmps.getD 3 undef=.pointer (some ⟨w.heap.size+1,0,none⟩):=ho 3 (by kernel_rfl)
         refine Ri.step_plain rfl rfl (fun K' hK=>?_)
         obtain ⟨x0,x1,x2,x3,-,-,-,-⟩:=four (keep_blk hb Z1.out)
         go_simp
         exact hK _ _ ⟨_,_,rfl,rfl,hb,q0,fun _=>rfl,q2,q3,q4,q5,q6,q7,q8,q9,q10,q11,q12,q13,q14,q15,q16,q17⟩
       · have l0:L 0=true∧L 1=true:=by have:=hd _ rfl;simp [Region.binds] at this;simp [this]
         have f0:=(hv 0 15 rfl l0.1).trans (q0 l0.1)
         have f1:=(hv 1 16 rfl l0.2).trans (q1 l0.2)
         refine Ri.step_plain rfl rfl (fun K' hK=>?_)
         go_simp
         refine (HPC.out _ (HB.out.trans (hb.mono HB.out.size))).mono ?_
         rintro e w8 ⟨rfl,hb8⟩
         exact hK _ _ ⟨_,_,rfl,rfl,hb.trans (hb8.mono hb.size),q0,q1,fun _=>rfl,q3,q4,q5,q6,q7,q8,q9,q10,q11,q12,q13,q14,q15,q16,q17⟩
       · have e2:xa.tmps.getD 2 undef=.pointer (some ⟨w.heap.size,0,none⟩):=ho 2 (by kernel_rfl)
         refine Ri.step_plain rfl rfl (fun K' hK=>?_)
         obtain ⟨x0,x1,x2,x3,-,-,-,-⟩:=four (keep_blk hb Z0.out)
         go_simp
         exact hK _ _ ⟨_,_,rfl,rfl,hb,q0,q1,q2,fun _=>rfl,q4,q5,q6,q7,q8,q9,q10,q11,q12,q13,q14,q15,q16,q17⟩
       · have e3:xa.tmps.getD 3 undef=.pointer (some ⟨w.heap.size+1,0,none⟩):=ho 3 (by kernel_rfl)
         refine Ri.step_plain rfl rfl (fun K' hK=>?_)
         obtain ⟨x0,x1,x2,x3,-,-,-,-⟩:=four (keep_blk hb Z1.out)
         go_simp
         exact hK _ _ ⟨_,_,rfl,rfl,hb,q0,q1,q2,q3,fun _=>rfl,q5,q6,q7,q8,q9,q10,q11,q12,q13,q14,q15,q16,q17⟩
       · have l0:L 3=true∧L 4=true:=by have:=hd _ rfl;simp [Region.binds] at this;simp [this]
         have f3:=(hv 3 18 rfl l0.1).trans (q3 l0.1)
         have f4:=(hv 4 19 rfl l0.2).trans (q4 l0.2)
         refine Ri.step_plain rfl rfl (fun K' hK=>?_)
         go_simp
         refine (HRC.out _ (HB.out.trans (hb.mono HB.out.size))).mono ?_
         rintro e w8 ⟨rfl,hb8⟩
         exact hK _ _ ⟨_,_,rfl,rfl,hb.trans (hb8.mono hb.size),q0,q1,q2,q3,q4,fun _=>rfl,q6,q7,q8,q9,q10,q11,q12,q13,q14,q15,q16,q17⟩
       · have l0:L 2=true∧L 5=true:=by have:=hd _ rfl;simp [Region.binds] at this;simp [this]
         have f2:=(hv 2 17 rfl l0.1).trans (q2 l0.1)
         have f5:=(hv 5 20 rfl l0.2).trans (q5 l0.2)
         refine Ri.step_plain rfl rfl (fun K' hK=>?_)
         go_simp
         exact hK _ _ ⟨_,_,rfl,rfl,hb,q0,q1,q2,q3,q4,q5,fun _=>rfl,q7,q8,q9,q10,q11,q12,q13,q14,q15,q16,q17⟩
       · have l0:L 6=true:=by have:=hd _ rfl;simp [Region.binds] at this;simp [this]
         have f6:=(hv 6 21 rfl l0).trans (q6 l0)
         refine Ri.step_plain rfl rfl (fun K' hK=>?_)
         go_simp
         exact hK _ _ ⟨_,_,rfl,rfl,hb,q0,q1,q2,q3,q4,q5,q6,fun _=>rfl,q8,q9,q10,q11,q12,q13,q14,q15,q16,q17⟩
       · have l0:L 7=true:=by have:=hd _ rfl;simp [Region.binds] at this;simp [this]
         have f7:=(hv 7 22 rfl l0).trans (q7 l0)
         have e2:xa.tmps.getD 2 undef=.pointer (some ⟨w.heap.size,0,none⟩):=ho 2 (by kernel_rfl)
         refine Ri.step_wanted (b:=true) rfl rfl rfl f7 (fun K' hK=>?_)
         obtain ⟨x0,x1,x2,x3,-,-,-,-⟩:=four (keep_blk hb Z0.out)
         go_simp
         exact hK _ _ ⟨_,_,rfl,rfl,hb,q0,q1,q2,q3,q4,q5,q6,q7,fun _=>rfl,q9,q10,q11,q12,q13,q14,q15,q16,q17⟩
       · have l0:L 7=true:=by have:=hd _ rfl;simp [Region.binds] at this;simp [this]
         have f7:=(hv 7 22 rfl l0).trans (q7 l0)
         have e3:xa.tmps.getD 3 undef=.pointer (some ⟨w.heap.size+1,0,none⟩):=ho 3 (by kernel_rfl)
         refine Ri.step_wanted (b:=true) rfl rfl rfl f7 (fun K' hK=>?_)
         obtain ⟨x0,x1,x2,x3,-,-,-,-⟩:=four (keep_blk hb Z1.out)
         go_simp
         exact hK _ _ ⟨_,_,rfl,rfl,hb,q0,q1,q2,q3,q4,q5,q6,q7,q8,fun _=>rfl,q10,q11,q12,q13,q14,q15,q16,q17⟩
       · have l0:L 7=true∧L 8=true∧L 9=true:=by have:=hd _ rfl;simp [Region.binds] at this;simp [this]
         have f7:=(hv 7 22 rfl l0.1).trans (q7 l0.1)
         have f8:=(hv 8 23 rfl l0.2.1).trans (q8 l0.2.1)
         have f9:=(hv 9 24 rfl l0.2.2).trans (q9 l0.2.2)
         refine Ri.step_wanted (b:=true) rfl rfl rfl f7 (fun K' hK=>?_)
         go_simp
         refine (HPC.out _ (HB.out.trans (hb.mono HB.out.size))).mono ?_
         rintro e w8 ⟨rfl,hb8⟩
         exact hK _ _ ⟨_,_,rfl,rfl,hb.trans (hb8.mono hb.size),q0,q1,q2,q3,q4,q5,q6,q7,q8,q9,fun _=>rfl,q11,q12,q13,q14,q15,q16,q17⟩
       · have l0:L 7=true∧L 10=true:=by have:=hd _ rfl;simp [Region.binds] at this;simp [this]
         have f7:=(hv 7 22 rfl l0.1).trans (q7 l0.1)
         have f10:=(hv 10 25 rfl l0.2).trans (q10 l0.2)
         refine Ri.step_wanted (b:=true) rfl rfl rfl f7 (fun K' hK=>?_)
         go_simp
         exact hK _ _ ⟨_,_,rfl,rfl,hb,q0,q1,q2,q3,q4,q5,q6,q7,q8,q9,q10,fun _=>rfl,q12,q13,q14,q15,q16,q17⟩
       · have l0:L 7=true:=by have:=hd _ rfl;simp [Region.binds] at this;simp [this]
         have f7:=(hv 7 22 rfl l0).trans (q7 l0)
         have e2:xa.tmps.getD 2 undef=.pointer (some ⟨w.heap.size,0,none⟩):=ho 2 (by kernel_rfl)
         refine Ri.step_wanted (b:=true) rfl rfl rfl f7 (fun K' hK=>?_)
         obtain ⟨x0,x1,x2,x3,-,-,-,-⟩:=four (keep_blk hb Z0.out)
         go_simp
         exact hK _ _ ⟨_,_,rfl,rfl,hb,q0,q1,q2,q3,q4,q5,q6,q7,q8,q9,q10,q11,fun _=>rfl,q13,q14,q15,q16,q17⟩
       · have l0:L 7=true:=by have:=hd _ rfl;simp [Region.binds] at this;simp [this]
         have f7:=(hv 7 22 rfl l0).trans (q7 l0)
         have e3:xa.tmps.getD 3 undef=.pointer (some ⟨w.heap.size+1,0,none⟩):=ho 3 (by kernel_rfl)
         refine Ri.step_wanted (b:=true) rfl rfl rfl f7 (fun K' hK=>?_)
         obtain ⟨x0,x1,x2,x3,-,-,-,-⟩:=four (keep_blk hb Z1.out)
         go_simp
         exact hK _ _ ⟨_,_,rfl,rfl,hb,q0,q1,q2,q3,q4,q5,q6,q7,q8,q9,q10,q11,q12,fun _=>rfl,q14,q15,q16,q17⟩
       · have l0:L 7=true∧L 12=true∧L 13=true:=by have:=hd _ rfl;simp [Region.binds] at this;simp [this]
         have f7:=(hv 7 22 rfl l0.1).trans (q7 l0.1)
         have f12:=(hv 12 27 rfl l0.2.1).trans (q12 l0.2.1)
         have f13:=(hv 13 28 rfl l0.2.2).trans (q13 l0.2.2)
         refine Ri.step_wanted (b:=true) rfl rfl rfl f7 (fun K' hK=>?_)
         go_simp
         refine (HSM.out _ (HB.out.trans (hb.mono HB.out.size))).mono ?_
         rintro e w8 ⟨rfl,hb8⟩
         exact hK _ _ ⟨_,_,rfl,rfl,hb.trans (hb8.mono hb.size),q0,q1,q2,q3,q4,q5,q6,q7,q8,q9,q10,q11,q12,q13,fun _=>rfl,q15,q16,q17⟩
       · have l0:L 7=true∧L 11=true∧L 14=true:=by have:=hd _ rfl;simp [Region.binds] at this;simp [this]
         have f7:=(hv 7 22 rfl l0.1).trans (q7 l0.1)
         have f11:=(hv 11 26 rfl l0.2.1).trans (q11 l0.2.1)
         have f14:=(hv 14 29 rfl l0.2.2).trans (q14 l0.2.2)
         refine Ri.step_wanted (b:=true) rfl rfl rfl f7 (fun K' hK=>?_)
         go_simp
         exact hK _ _ ⟨_,_,rfl,rfl,hb,q0,q1,q2,q3,q4,q5,q6,q7,q8,q9,q10,q11,q12,q13,q14,fun _=>rfl,q16,q17⟩
       · have l0:L 7=true∧L 15=true:=by have:=hd _ rfl;simp [Region.binds] at this;simp [this]
         have f7:=(hv 7 22 rfl l0.1).trans (q7 l0.1)
         have f15:=(hv 15 30 rfl l0.2).trans (q15 l0.2)
         refine Ri.step_plain rfl rfl (fun K' hK=>?_)
         go_simp
         exact hK _ _ ⟨_,_,rfl,rfl,hb,q0,q1,q2,q3,q4,q5,q6,q7,q8,q9,q10,q11,q12,q13,q14,q15,fun _=>rfl,q17⟩
       · have l0:L 16=true:=by have:=hd _ rfl;simp [Region.binds] at this;simp [this]
         have f16:=(hv 16 31 rfl l0).trans (q16 l0)
         refine Ri.step_plain rfl rfl (fun K' hK=>?_)
         go_simp
         exact hK _ _ ⟨_,_,rfl,rfl,hb,q0,q1,q2,q3,q4,q5,q6,q7,q8,q9,q10,q11,q12,q13,q14,q15,q16,fun _=>rfl⟩
     · rintro v w9 ⟨hb,-,-,-,-,-,-,-,-,-,-,-,-,-,-,-,-,-,q17⟩
       have q17':v 17=.bool true:=q17 rfl
       simp only [Ri.frame,List.zipIdx,List.foldl_cons,List.foldl_nil,if_true,List.setIfInBounds_toArray,List.set_cons_zero,List.set_cons_succ,Nat.reduceAdd,q17']
       clear q17 q17'
       generalize v 0=y0;generalize v 1=y1;generalize v 2=y2;generalize v 3=y3;generalize v 4=y4;generalize v 5=y5;generalize v 6=y6;generalize v 7=y7;generalize v 8=y8;generalize v 9=y9;generalize v 10=y10;generalize v 11=y11;generalize v 12=y12;generalize v 13=y13;generalize v 14=y14;generalize v 15=y15;generalize v 16=y16
       have HB5:=Lib.hid (HB.out.trans (hb.mono HB.out.size))
       clear hb
       go_wp2
       go_ret
       exact ⟨rfl,HB5.out⟩
   · have HFW:=Lib.hid (fun w9 (h:Below w.heap.size w w9)=>HF1.out w9 h)
     rw [decide_eq_false hf1] at HFW
     clear hf1
     obtain ⟨u00,u01,u02,u03,-,-,-,-⟩:=four BZ0.out
     obtain ⟨u10,u11,u12,u13,-,-,-,-⟩:=four BZ1.out
     go_wp2_with fail
     refine (HFW.out _ HB2.out).mono ?_
     rintro e w3 ⟨rfl,hb3⟩
     have HB3:=Lib.hid (HB2.out.trans (hb3.mono HB2.out.size))
     have CZ0:=Lib.hid (keep_blk hb3 BZ0.out)
     have CZ1:=Lib.hid (keep_blk hb3 BZ1.out)
     clear u00 u01 u02 u03 u10 u11 u12 u13
     clear hb3 BZ0 BZ1
     go_wp2
     go_ret
     exact ⟨rfl,HB3.out⟩
 · have HFW:=Lib.hid (fun w9 (h:Below w.heap.size w w9)=>HF0.out w9 h)
   rw [decide_eq_false hf0] at HFW
   clear hf0
   obtain ⟨u00,u01,u02,u03,-,-,-,-⟩:=four AZ0.out
   obtain ⟨u10,u11,u12,u13,-,-,-,-⟩:=four AZ1.out
   go_wp2_with fail
   refine (HFW.out _ HB1.out).mono ?_
   rintro e w2 ⟨rfl,hb2⟩
   have HB2:=Lib.hid (HB1.out.trans (hb2.mono HB1.out.size))
   have BZ0:=Lib.hid (keep_blk hb2 AZ0.out)
   have BZ1:=Lib.hid (keep_blk hb2 AZ1.out)
   clear u00 u01 u02 u03 u10 u11 u12 u13
   clear hb2 AZ0 AZ1
   go_wp2
   go_ret
   exact ⟨rfl,HB2.out⟩
end Go.Proofs.YtknlkgegbcbcfaaDoor
namespace Go.Proofs.YtknlkgegbcbcfaaDoor
open Go.ChangeShapes Go.WideShapes Go.ChangeAt Go.RowKit
theorem Tryd.own:ownKnob Tryd.prog.godebug=none:=by kernel_rfl
theorem Tryd.laidOut:laidOutB Tryd.prog=true:=by kernel_rfl
end Go.Proofs.YtknlkgegbcbcfaaDoor
namespace Go.Proofs.YtknlkgegbcbcfaaDoor
open Go.ChangeShapes Go.WideShapes Go.ChangeAt Go.RowKit
theorem Tryd.cellsIntO:Tryd.prog.cellsOf 3=1:=by kernel_rfl
theorem weightsAll_mem {H:Type} {P:Program} {e:TypeId} {k:Nat} {d:DataW H} : ∀ {l:List (DataW H)},d ∈ l→k ∈ d.weights P e→k ∈ DataW.weightsAll P e l
 | [],h,_=>by cases h
 | x :: l,h,hk=>by
   rw [DataW.weightsAll]
   rcases List.mem_cons.1 h with rfl | h
   · exact List.mem_append_left _ hk
   · exact List.mem_append_right _ (weightsAll_mem h hk)
theorem add_at {a:Addr} (h:a.spot=none) (m:Nat):a.add m=⟨a.block,a.off+m,none⟩:=by
 unfold Addr.add
 split
 · rename_i h0;subst h0;cases a;simp_all
 · rfl
end Go.Proofs.YtknlkgegbcbcfaaDoor
namespace Go.Proofs.YtknlkgegbcbcfaaDoor
open Go.ChangeShapes Go.WideShapes Go.ChangeAt Go.RowKit
theorem Tryd.cellsParseO:Tryd.prog.cellsOf 57=4:=by kernel_rfl
theorem Tryd.cellsParsesO:Tryd.prog.cellsOf 55=1:=by kernel_rfl
theorem Tryd.bytesParseO:Tryd.prog.bytesOf 57=48:=by kernel_rfl
theorem list4 {α:Type} {l:List α} (h:l.length=4):∃ a0 a1 a2 a3,l=[a0,a1,a2,a3]:=by
 match l,h with
 | [a0,a1,a2,a3],_=>exact ⟨a0,a1,a2,a3,rfl⟩
theorem open_pa {H:Type} {enc:TypeId × Value→H} {W:World} {base:Nat} {spare:Nat→Bool} {held:Bool} : ∀ (fuel:Nat) (cs:List Value) (x:DataW H × List MemPlace),
   DataW.trod enc Tryd.prog W base spare held fuel 57 cs=some x→(∀ k,k ∈ x.1.weights Tryd.prog 57→k ≤ 140737488351232) →
   ∃ (t:Pa) (s:Value),cs=(t.cells s).toList∧PasAt W (fun _=>True) s t.subs:=by
 intro fuel
 induction fuel using Nat.strongRecOn with
 | _ fuel ih =>
   intro cs x h hw
   obtain ⟨xs,n,rfl,rfl,hlen,hxs,hf⟩:=DataW.trod_struct Tryd.underlying57 h
   rw [Tryd.cellsParseO] at hlen
   obtain ⟨c0,c1,c2,c3,rfl⟩:=list4 hlen
   obtain ⟨y0,y1,y2,y3,rfl⟩:=list4 (by simpa using hxs)
   have f0:=hf 0 _ rfl;have f1:=hf 1 _ rfl;have f2:=hf 2 _ rfl;have f3:=hf 3 _ rfl
   simp only [List.getElem_toArray,List.getElem_cons_zero,List.getElem_cons_succ,Tryd.cellsIntO,Tryd.cellsParsesO,List.drop_zero,List.drop_succ_cons,List.take_succ_cons,List.take_zero,List.getElem?_cons_zero,List.getElem?_cons_succ] at f0 f1 f2 f3
   obtain ⟨k,e0,-,-⟩:=DataW.trod_int Tryd.underlying3 f0
   obtain ⟨nn,e1,-,-⟩:=DataW.trod_int Tryd.underlying3 f1
   obtain ⟨lo,e2,-,-⟩:=DataW.trod_int Tryd.underlying3 f2
   simp only [List.cons.injEq,and_true] at e0 e1 e2
   subst e0 e1 e2
   have fin:∀ (ts:List Pa),PasAt W (fun _=>True) c3 ts→∃ (t:Pa) (s:Value),[.int .i64 k,.int .i64 nn,.int .i64 lo,c3]=(t.cells s).toList∧PasAt W (fun _=>True) s t.subs :=
     fun ts hts=>⟨.node k nn lo ts,c3,rfl,hts⟩
   rcases DataW.trod_slice Tryd.underlying55 f3 with ⟨hc5,-⟩ | ⟨ad,len,cap,elems,rest,n',rfl,hc5,hx,-,hcp,-,hel,hall,-,-⟩
   · simp only [List.cons.injEq,and_true] at hc5
     subst hc5
     exact fin [] PasAt.nil
   · simp only [List.cons.injEq,and_true] at hc5
     subst hc5
     rw [Tryd.cellsParseO] at hall
     have hwn:∀ k,k ∈ y3.1.weights Tryd.prog 55→k ≤ 140737488351232:=fun k hk=>hw k (by
       rw [DataW.weights,Tryd.underlying57]
       exact DataW.weights_mem_each (j:=3) rfl rfl k hk)
     have hlen48:len * 48 ≤ 140737488351232:=by
       have:=hwn ((elems.length+rest.length) * 48) (by
         rw [hx]
         simp only [DataW.weights,Tryd.underlying55,Tryd.bytesParseO,List.length_map]
         exact List.mem_cons_self)
       rw [hel] at this
       have h2:len * 48 ≤ (len+rest.length) * 48:=Nat.mul_le_mul_right _ (by omega)
       omega
     have key:∀ i,∃ (t:Pa) (s:Value),i < len→(∃ b o,some ad=some ⟨b,o,none⟩∧FourAt W b (o+i * 4) t s)∧PasAt W (fun _=>True) s t.subs:=by
       intro i
       by_cases hi:i < len
       · have h1:=hall i hi
         rw [List.getElem?_eq_getElem (by omega)] at h1
         obtain ⟨csi,hcs,htr⟩:=Option.bind_eq_some_iff.1 h1
         obtain ⟨t,s,hts,hsub⟩:=ih n' (by omega) csi _ htr (fun k hk=>hwn k (by
           rw [hx]
           simp only [DataW.weights,Tryd.underlying55]
           refine List.mem_cons_of_mem _ (List.mem_append_left _ (weightsAll_mem (d:=elems[i].1) ?_ hk))
           exact List.mem_map.2 ⟨elems[i],List.getElem_mem _,rfl⟩))
         obtain ⟨-,-,hcell⟩:=World.cells?_some hcs
         have hspot:ad.spot=none:=by
           have h0:=hall 0 (by omega)
           rw [List.getElem?_eq_getElem (by omega)] at h0
           obtain ⟨cs0,hcs0,htr0⟩:=Option.bind_eq_some_iff.1 h0
           obtain ⟨t0,s0,hts0,-⟩:=ih n' (by omega) cs0 _ htr0 (fun k hk=>hwn k (by
             rw [hx]
             simp only [DataW.weights,Tryd.underlying55]
             refine List.mem_cons_of_mem _ (List.mem_append_left _ (weightsAll_mem (d:=elems[0].1) ?_ hk))
             exact List.mem_map.2 ⟨elems[0],List.getElem_mem _,rfl⟩))
           have h2:=(World.cells?_some hcs0).2.2 0 (by omega)
           rw [hts0] at h2
           have e:(ad.add (0 * 4)).add 0=ad:=by simp [Addr.add]
           rw [e] at h2
           cases hsp:ad.spot with
           | none=>rfl
           | some z =>
             unfold World.cell? at h2
             rw [hsp] at h2
             split at h2 <;> simp [Pa.cells] at h2
         have hadd:∀ j,(ad.add (i * 4)).add j=⟨ad.block,ad.off+i * 4+j,none⟩:=fun j=>by
           rw [add_at hspot,add_at (a:=⟨ad.block,ad.off+i * 4,none⟩) rfl]
         refine ⟨t,s,fun _=>⟨⟨ad.block,ad.off,by cases ad;simp_all, ?_⟩,hsub⟩⟩
         rw [hts] at hcell
         have get:∀ j u,j < 4→(t.cells s).toList[j]? = some u→W.cell? ⟨ad.block,ad.off+i * 4+j,none⟩=some u:=fun j u hj hu=>by
           rw [← hadd j,hcell j hj,hu]
         exact ⟨get 0 _ (by omega) rfl,get 1 _ (by omega) rfl,get 2 _ (by omega) rfl,get 3 _ (by omega) rfl⟩
       · exact ⟨.node 0 0 0 [],.nilIface,fun h=>absurd h hi⟩
     obtain ⟨T,hT⟩:=Classical.axiomOfChoice key
     obtain ⟨S,hS⟩:=Classical.axiomOfChoice hT
     have hl:((List.range len).map T).length=len:=by simp
     have hg:∀ i t,((List.range len).map T)[i]? = some t→i < len∧t=T i:=fun i t h=>by
       rw [List.getElem?_map] at h
       by_cases hi:i < len
       · rw [List.getElem?_range hi] at h
         exact ⟨hi,(Option.some.inj h).symm⟩
       · rw [List.getElem?_eq_none (by simp;omega)] at h;cases h
     have:=PasAt.mk (w:=W) (B:=fun _=>True) (some ad) cap ((List.range len).map T) S (by rw [hl];exact hlen48) (by rw [hl];exact hcp) (fun i t h=>by
       obtain ⟨hi,rfl⟩:=hg i t h
       obtain ⟨⟨b,o,e,ht⟩,-⟩:=hS i hi
       exact ⟨b,o,e,trivial,ht⟩) (fun i t h=>by
       obtain ⟨hi,rfl⟩:=hg i t h
       exact (hS i hi).2)
     rw [hl] at this
     exact fin _ this
theorem open_parse {H:Type} {enc:TypeId × Value→H} {w:World} {base b0:Nat} {spare:Nat→Bool} {held:Bool} {v:Value} {y:DataW H} {ps:List MemPlace} {r:Reach}
   (hv:Value.okWide Tryd.prog w r b0 57 v) (h:DataW.Trod enc Tryd.prog w base spare held 57 v y ps) (hw:∀ k,k ∈ y.weights Tryd.prog 57→k ≤ 140737488351232):∃ t,PaV w (fun _=>True) v t:=by
 unfold Value.okWide at hv
 rw [Tryd.underlying57] at hv
 obtain ⟨cs,rfl,hsz,-⟩:=hv
 obtain ⟨fuel,hf⟩:=h
 obtain ⟨t,s,e,hs⟩:=open_pa fuel _ _ hf hw
 refine ⟨t,s, ?_,hs⟩
 simp only [Value.cells] at e
 exact congrArg Value.agg (Array.toList_inj.1 e)
end Go.Proofs.YtknlkgegbcbcfaaDoor
namespace Go.Proofs.YtknlkgegbcbcfaaDoor
open Go.ChangeShapes Go.WideShapes Go.ChangeAt Go.RowKit
theorem im_laid_split {P:Program} {l:List (String × DataW Unit)} {W:World} (h:laidMetH P l W):laidMet P (l.filter fun x=>x.2.handleName?.isNone) W:=by
 unfold laidMetH at h
 generalize hfl:(l.filter fun x=>x.2.handleName?.isSome)=fl at h
 cases fl with
 | nil =>
   have e:(l.filter fun x=>x.2.handleName?.isNone)=l:=by
     rw [List.filter_eq_self]
     intro x hx
     have:=List.filter_eq_nil_iff.1 hfl x hx
     cases hh:x.2.handleName? with
     | none=>rfl
     | some y=>rw [hh] at this;simp at this
   rw [e]
   exact h
 | cons x r=>exact h.1
end Go.Proofs.YtknlkgegbcbcfaaDoor
namespace Go.Proofs.YtknlkgegbcbcfaaDoor
open Go.ChangeShapes Go.WideShapes Go.ChangeAt Go.RowKit
def errThree : List (String × DataW Unit) := [("trawl/api.ErrTooBig", Rows.laid_trawl_api_ErrTooBig), ("trawl/api.ErrTree", Rows.laid_trawl_api_ErrTree), ("trawl/api.ErrDeep", Rows.laid_trawl_api_ErrDeep)]
theorem errsC_of {W:World} {l:List (String × DataW Unit)} (h:laidMet Tryd.prog l W) (hl:∀ x,x ∈ errThree→x ∈ l):∃ A,ErrsC W A:=by
 obtain ⟨a9, h9⟩ := sent_of (t := errPre ++ errWords.getD 9 []) (g := errVars.getD 9 0) h (hl _ (show ("trawl/api.ErrTooBig", sentDatum (errPre ++ errWords.getD 9 [])) ∈ errThree from List.mem_cons_self)) (by kernel_rfl) (by kernel_rfl)
 obtain ⟨a12, h12⟩ := sent_of (t := errPre ++ errWords.getD 12 []) (g := errVars.getD 12 0) h (hl _ (show ("trawl/api.ErrTree", sentDatum (errPre ++ errWords.getD 12 [])) ∈ errThree from List.mem_cons_of_mem _ List.mem_cons_self)) (by kernel_rfl) (by kernel_rfl)
 obtain ⟨a13, h13⟩ := sent_of (t := errPre ++ errWords.getD 13 []) (g := errVars.getD 13 0) h (hl _ (show ("trawl/api.ErrDeep", sentDatum (errPre ++ errWords.getD 13 [])) ∈ errThree from List.mem_cons_of_mem _ (List.mem_cons_of_mem _ List.mem_cons_self))) (by kernel_rfl) (by kernel_rfl)
 refine ⟨fun k=>if k=9 then a9 else if k=12 then a12 else a13,fun k hk=>?_⟩
 simp only [List.mem_cons,List.not_mem_nil,or_false] at hk
 rcases hk with rfl | rfl | rfl
 · exact h9
 · exact h12
 · exact h13
theorem rk_env_of {l:List (String × DataW Unit)} {W:World} (h:laidMetH Tryd.prog l W) (hl:∀ x,x ∈ errThree→x ∈ l):∃ A,ErrsC W A :=
 errsC_of (im_laid_split h) (fun x hx=>List.mem_filter.2 ⟨hl x hx,by simp only [errThree,List.mem_cons,List.not_mem_nil,or_false] at hx;rcases hx with rfl | rfl | rfl <;> rfl⟩)
end Go.Proofs.YtknlkgegbcbcfaaDoor
