/- Part 2 of what these proofs need. -/
import Derived.ProofKit
import Derived.OpenShut
import Derived.ChangeOld
import Derived.Deep.Slices
import Derived.Laws.IdiomArrays
import Derived.Lib.SmallJoins
import Derived.SizedLaws
import Derived.DataReads
import Derived.Test.YtedjkbmfpjmlpaaTm1
set_option maxRecDepth 100000
set_option maxHeartbeats 16000000
namespace Go.Proofs.Ytedjkbmfpjmlpaa
open Go.RowKit
namespace Ri
variable {P:Program} {ops:Array Oper} {Q:Exit→Act→World→Prop}
structure Ap (K:Nat→World→Value→List Nat→Prop) (W:World) (L:Nat→Bool) (v:Nat→Value) (B:Nat→List Nat) (w:World):Prop where
 below:Below W.heap.size W w
 fact:∀ k,L k=true→K k w (v k) (B k)
 within:∀ k b,b ∈ B k→W.heap.size ≤ b∧b < w.heap.size
 apart:∀ j k b,j ≠ k→b ∈ B j→b ∉ B k
theorem Ap.step {K:Nat→World→Value→List Nat→Prop} (hK:∀ k w v F w',K k w v F→Below w.heap.size w w'→K k w' v F) {W:World} {L:Nat→Bool} {v:Nat→Value} {B:Nat→List Nat} {w w':World} {i:Nat} {u:Value} {F:List Nat} (h:Ap K W L v B w) (hb:Below w.heap.size w w') (hu:K i w' u F) (hF:∀ b,b ∈ F→w.heap.size ≤ b∧b < w'.heap.size):Ap K W (up L i true) (up v i u) (up B i F) w':=by
 have hsz:=hb.size
 have hW:=h.below.size
 refine ⟨h.below.trans (hb.mono h.below.size),fun k hk=>?_,fun k b hbk=>?_,fun j k b hjk h1 h2=>?_⟩
 · by_cases e:k=i
   · subst e;rw [up_same,up_same];exact hu
   · rw [up_other _ _ _ _ e] at hk
     rw [up_other _ _ _ _ e,up_other _ _ _ _ e]
     exact hK k w _ _ w' (h.fact k hk) hb
 · by_cases e:k=i
   · subst e;rw [up_same] at hbk;have:=hF b hbk;exact ⟨by omega,this.2⟩
   · rw [up_other _ _ _ _ e] at hbk;have:=h.within k b hbk;exact ⟨this.1,by omega⟩
 · by_cases e1:j=i
   · subst e1
     rw [up_same] at h1
     rw [up_other _ _ _ _ (Ne.symm hjk)] at h2
     have:=hF b h1;have:=h.within k b h2;omega
   · rw [up_other _ _ _ _ e1] at h1
     by_cases e2:k=i
     · subst e2
       rw [up_same] at h2
       have:=hF b h2;have:=h.within j b h1;omega
     · rw [up_other _ _ _ _ e2] at h2
       exact h.apart j k b hjk h1 h2
def needs (ops:Array Oper):Nat→Nat→Nat→Bool
 | 0,_,_=>false
 | f+1,i,k=>match ops[i]? with
   | some o=>o.after.any fun e=>Region.binds .any e && (e.on == k || needs ops f e.on k)
   | none=>false
def waitsC (ops:Array Oper) (i:Nat):Bool:=(List.range i).all fun k=>needs ops 3 i k
def Cl (ops:Array Oper) (L:Nat→Bool):Prop:=∀ j,L j=true→∀ o,ops[j]? = some o→∀ e ∈ o.after,Region.binds .any e=true→L e.on=true
theorem needs_done {ops:Array Oper} {L:Nat→Bool} (hc:Cl ops L):∀ (f i k:Nat),(∀ o,ops[i]? = some o→∀ e ∈ o.after,Region.binds .any e=true→L e.on=true)→needs ops f i k=true→L k=true
 | 0,_,_,_,h=>by cases h
 | f+1,i,k,hd,h=>by
   unfold needs at h
   cases ho:ops[i]? with
   | none=>rw [ho] at h;cases h
   | some o =>
     rw [ho] at h
     obtain ⟨e,he,h2⟩:=Array.any_eq_true'.1 h
     rw [Bool.and_eq_true,Bool.or_eq_true,beq_iff_eq] at h2
     have hon:=hd o ho e he h2.1
     rcases h2.2 with h3 | h3
     · rw [← h3];exact hon
     · exact needs_done hc f e.on k (fun o' ho' e' he' hb'=>hc e.on hon o' ho' e' he' hb') h3
theorem waits_all {ops:Array Oper} {i:Nat} (hw:waitsC ops i=true) {L:Nat→Bool} (hc:Cl ops L) (hd:∀ o,ops[i]? = some o→∀ e ∈ o.after,Region.binds .any e=true→L e.on=true):∀ k,k < i→L k=true:=fun k hk =>
 needs_done hc 3 i k hd (List.all_eq_true.1 hw k (List.mem_range.2 hk))
theorem Cl.step {ops:Array Oper} {L:Nat→Bool} (hc:Cl ops L) {i:Nat} (hd:∀ o,ops[i]? = some o→∀ e ∈ o.after,Region.binds .any e=true→L e.on=true):Cl ops (up L i true):=by
 intro j hj o ho e he hb
 have key:L e.on=true:=by
   by_cases e1:j=i
   · subst e1;exact hd o ho e he hb
   · rw [up_other _ _ _ _ e1] at hj;exact hc j hj o ho e he hb
 by_cases e2:e.on=i
 · rw [e2];exact up_same _ _ _
 · rw [up_other _ _ _ _ e2];exact key
theorem wp_region_chain {id:Nat} {a:Act} {w:World} (hm:P.follows .mixedOrders=true) (hb:backward ops=true) (hap:apart ops=true) (hsz0:(ops.toList.all fun o=>o.dst.all fun d=>decide (d < a.tmps.size))=true)
   (n N:Nat) (hn:ops.size=n) (hN:N ≤ n) (hw:((List.range n).all fun i=>decide (i < N) || waitsC ops i)=true) (K:Nat→World→Value→List Nat→Prop) (Fin:Nat→(Nat→Value)→(Nat→List Nat)→World→Prop)
   (hK:∀ k w v F w',K k w v F→Below w.heap.size w w'→K k w' v F)
   (step:∀ i,i < N→∀ (L:Nat→Bool) (v:Nat→Value) (B:Nat→List Nat) (w':World) (a':Act),Ap K w L v B w'→L i=false→(∀ o,ops[i]? = some o→∀ e ∈ o.after,Region.binds .any e=true→L e.on=true) →
     (∀ j d:Nat,(ops[j]?).bind (·.dst)=some d→L j=true→a'.tmps.getD d undef=v j)→(∀ d,ops.toList.all (fun o=>o.dst != some d)=true→a'.tmps.getD d undef=a.tmps.getD d undef) →
     wpOp P ops Q i (fun b w''=>∃ (o:Oper) (u:Value) (F:List Nat),ops[i]? = some o∧b=a'.put o.dst u∧Below w'.heap.size w' w''∧K i w'' u F∧∀ b,b ∈ F→w'.heap.size ≤ b∧b < w''.heap.size) a' w')
   (first:∀ (v:Nat→Value) (B:Nat→List Nat) (w':World),Below w.heap.size w w'→(∀ k,k < N→K k w' (v k) (B k))→(∀ k b,b ∈ B k→w.heap.size ≤ b∧b < w'.heap.size)→(∀ j k b,j ≠ k→b ∈ B j→b ∉ B k)→Fin N v B w')
   (put:∀ i,N ≤ i→i < n→∀ (L:Nat→Bool) (v:Nat→Value) (B:Nat→List Nat) (w':World) (a':Act),Fin i v B w'→(∀ k,k < i→L k=true) →
     (∀ j d:Nat,(ops[j]?).bind (·.dst)=some d→L j=true→a'.tmps.getD d undef=v j)→(∀ d,ops.toList.all (fun o=>o.dst != some d)=true→a'.tmps.getD d undef=a.tmps.getD d undef) →
     wpOp P ops Q i (fun b w''=>∃ (o:Oper) (u:Value),ops[i]? = some o∧b=a'.put o.dst u∧Fin (i+1) (up v i u) B w'') a' w')
   (fin:∀ (v:Nat→Value) (B:Nat→List Nat) (w':World),Fin n v B w'→Q .normal (frame ops a (fun _=>true) v) w'):(Code.region id ops true).wp P Q a w:=by
 have hwi:∀ i,N ≤ i→i < n→waitsC ops i=true:=fun i h1 h2=>by
   have:=List.all_eq_true.1 hw i (List.mem_range.2 h2)
   simpa [show ¬ i < N by omega] using this
 refine wp_region_frame hm hb hap hsz0 (fun L v w'=>Cl ops L∧∃ B,((∀ i,N ≤ i→i < n→L i=false)∧Ap K w L v B w') ∨ ∃ j,N ≤ j∧j ≤ n∧(∀ k,k < j→L k=true)∧(∀ k,j ≤ k→k < n→L k=false)∧Fin j v B w')
   ⟨(fun j h=>by cases h),fun _=>[],.inl ⟨fun _ _ _=>rfl,(Below.refl _ _).drew,(fun k h=>by cases h),(fun k b h=>by cases h),(fun j k b _ h=>by cases h)⟩⟩ ?_ ?_
 · intro i hi L v w' a' hI hL hd hv ho
   rw [hn] at hi
   obtain ⟨hc,B,hI⟩:=hI
   -- an operation of the chain: all ahead of it are done
   have chain:N ≤ i→Fin i v B w'→(∀ k,i ≤ k→k < n→L k=false)→wpOp P ops Q i (fun b w''=>∃ (o:Oper) (u:Value),ops[i]? = some o∧b=a'.put o.dst u∧Cl ops (up L i true)∧∃ B,((∀ q,N ≤ q→q < n→up L i true q=false)∧Ap K w (up L i true) (up v i u) B w'') ∨ ∃ j,N ≤ j∧j ≤ n∧(∀ k,k < j→up L i true k=true)∧(∀ k,j ≤ k→k < n→up L i true k=false)∧Fin j (up v i u) B w'') a' w':=fun hNi hF hrest=>by
     have hall:=waits_all (hwi i hNi hi) hc hd
     refine wpOp_mono ?_ (put i hNi hi L v B w' a' hF hall hv ho)
     rintro b w'' ⟨o,u,h1,h2,h3⟩
     refine ⟨o,u,h1,h2,hc.step hd,B,.inr ⟨i+1,by omega,by omega,fun k hk=>?_,fun k hk hkn=>?_,h3⟩⟩
     · by_cases e:k=i
       · subst e;exact up_same _ _ _
       · rw [up_other _ _ _ _ e];exact hall k (by omega)
     · rw [up_other _ _ _ _ (by omega)];exact hrest k (by omega) hkn
   rcases hI with ⟨hno,hA⟩ | ⟨j,hNj,hjn,hdone,hrest,hF⟩
   · by_cases hiN:i < N
     · refine wpOp_mono ?_ (step i hiN L v B w' a' hA hL hd hv ho)
       rintro b w'' ⟨o,u,F,h1,h2,h3,h4,h5⟩
       exact ⟨o,u,h1,h2,hc.step hd,up B i F,.inl ⟨fun q h6 h7=>by rw [up_other _ _ _ _ (by omega)];exact hno q h6 h7,hA.step hK h3 h4 h5⟩⟩
     · have hall:=waits_all (hwi i (by omega) hi) hc hd
       have hiN2:i=N:=by
         by_cases e:i=N
         · exact e
         · have h1:=hall N (by omega)
           rw [hno N (Nat.le_refl _) (by omega)] at h1;cases h1
       subst hiN2
       exact chain (Nat.le_refl _) (first v B w' hA.below (fun k hk=>hA.fact k (hall k hk)) hA.within hA.apart) (fun k h1 h2=>hno k h1 h2)
   · have hij:i=j:=by
       have h1:¬ i < j:=fun h=>by rw [hdone i h] at hL;cases hL
       by_cases e:i=j
       · exact e
       · have hall:=waits_all (hwi i (by omega) hi) hc hd
         have h2:=hall j (by omega)
         rw [hrest j (Nat.le_refl _) (by omega)] at h2;cases h2
     subst hij
     exact chain hNj hF hrest
 · intro v w' hI
   obtain ⟨-,B,hI⟩:=hI
   rw [hn] at hI
   rcases hI with ⟨hno,hA⟩ | ⟨j,hNj,hjn,hdone,hrest,hF⟩
   · have hNn:N=n:=by
       by_cases e:N=n
       · exact e
       · have h1:=hno N (Nat.le_refl _) (by omega)
         simp at h1;omega
     subst hNn
     exact fin v B w' (first v B w' hA.below (fun k hk=>hA.fact k (by simpa using hk)) hA.within hA.apart)
   · have hjn2:j=n:=by
       by_cases e:j=n
       · exact e
       · have h1:=hrest j (Nat.le_refl _) (by omega)
         simp at h1;omega
     subst hjn2
     exact fin v B w' hF
end Ri
end Go.Proofs.Ytedjkbmfpjmlpaa
namespace Go.Proofs.Ytedjkbmfpjmlpaa
open Go.RowKit
def TmK (m o:Tr) (pm:Option Addr) (cm:Nat) (k:Nat) (w:World) (v:Value) (F:List Nat):Prop :=
 match k with
 | 0=>v=.agg (m.cells (.slice pm m.subs.length cm))
 | 1=>∃ pa ca,v=.agg (o.cells (.slice pa o.subs.length ca))∧Owned w (.slice pa o.subs.length ca) o.subs F
 | 2=>v=.agg (m.cells (.slice pm m.subs.length cm))
 | 3=>∃ pa ca,v=.agg (o.cells (.slice pa o.subs.length ca))∧Owned w (.slice pa o.subs.length ca) o.subs F
 | 4=>∃ g,v=.pointer (some ⟨g,0,none⟩)∧F=[g]∧w.heap[g]? = some (.cells noNode 27)
 | 5=>∃ g,v=.pointer (some ⟨g,0,none⟩)∧F=[g]∧w.heap[g]? = some (.cells noNode 27)
 | _=>True
theorem TmK.later {m o:Tr} {pm:Option Addr} {cm k:Nat} {w w':World} {v:Value} {F:List Nat} (h:TmK m o pm cm k w v F) (hb:Below w.heap.size w w'):TmK m o pm cm k w' v F:=by
 match k,h with
 | 0,h=>exact h
 | 1,⟨pa,ca,h1,h2⟩=>exact ⟨pa,ca,h1,h2.later hb⟩
 | 2,h=>exact h
 | 3,⟨pa,ca,h1,h2⟩=>exact ⟨pa,ca,h1,h2.later hb⟩
 | 4,⟨g,h1,h2,h3⟩=>exact ⟨g,h1,h2,keep_blk hb h3⟩
 | 5,⟨g,h1,h2,h3⟩=>exact ⟨g,h1,h2,keep_blk hb h3⟩
 | _+6,_=>trivial
def TmFin (W:World) (o:Tr) (j:Nat) (v:Nat→Value) (_B:Nat→List Nat) (w:World):Prop :=
 ∃ pa ca pb cb ga gb Fa Fb,v 1=.agg (o.cells (.slice pa o.subs.length ca))∧v 3=.agg (o.cells (.slice pb o.subs.length cb))∧v 4=.pointer (some ⟨ga,0,none⟩)∧v 5=.pointer (some ⟨gb,0,none⟩) ∧
   Owned w (.slice pa o.subs.length ca) o.subs Fa∧Owned w (.slice pb o.subs.length cb) o.subs Fb∧w.heap[ga]? = some (.cells (if 6 < j then o.cells (.slice pa o.subs.length ca) else noNode) 27)∧w.heap[gb]? = some (.cells (if 7 < j then o.cells (.slice pb o.subs.length cb) else noNode) 27) ∧
   Below W.heap.size W w∧(∀ b,b ∈ Fa→W.heap.size ≤ b∧b ≠ ga∧b ≠ gb∧b ∉ Fb)∧(∀ b,b ∈ Fb→W.heap.size ≤ b∧b ≠ ga∧b ≠ gb)∧ga ≠ gb∧W.heap.size ≤ ga∧W.heap.size ≤ gb
theorem turnmakes_any (t:Tr) (w:World) (B:Nat→Prop) (v:Value) (hv:NodeV w B v t) :
   Calls Try.prog 3 #[v] w fun e w'=>e=.returned (.bool true)∧Below w.heap.size w w':=by
 obtain ⟨s,rfl,hs⟩:=hv
 obtain ⟨p,cap,rfl,-⟩:=hs.slice
 have HV:=Lib.hid (fun w9 (hb:Below w.heap.size w w9)=>(show NodeV w9 B (.agg (t.cells (.slice p t.subs.length cap))) t from ⟨_,rfl,hs.later hb⟩))
 clear hs
 have HF:=Lib.hid (fun w9 (hb:Below w.heap.size w w9)=>few_any t 3000 (by omega) w9 B _ (HV.out w9 hb))
 have HT:=Lib.hid (heap_alloc_new w (.cells (t.cells (.slice p t.subs.length cap)) 27))
 have HW:=Lib.hid (show Below w.heap.size w (w.alloc (.cells (t.cells (.slice p t.subs.length cap)) 27)) from (Below.refl _ _).alloc (Nat.le_refl _) _)
 have hwz:(w.alloc (.cells (t.cells (.slice p t.subs.length cap)) 27)).heap.size=w.heap.size+1:=by simp
 have HWZ:=Lib.hid hwz
 clear hwz
 unfold Tr.cells at *
 go_enter Try.func3,Try.ntmps3
 go_upto_region 1 with (fail)
 generalize w.alloc _=w0 at *
 go_wp2_with fail
 refine (tulives_any w0).mono ?_
 rintro e w1 ⟨rfl,hb1⟩
 have HB1:=Lib.hid (HW.out.trans (hb1.mono HW.out.size));have T1:=Lib.hid (keep_blk hb1 HT.out)
 have HZ1:=Lib.hid (show w.heap.size+1 ≤ w1.heap.size from by have:=hb1.size;have:=HWZ.out;omega)
 clear hb1 HW HT HWZ
 go_wp2_with (first
   | (refine wpList_load_row rfl 27 (.tmp 1) rfl w.heap.size rfl 27 _ (0,0) _ T1.out Try.underlying27 rfl (by kernel_rfl) ?_)
   | fail)
 refine (HF.out w1 HB1.out).mono ?_
 rintro e u2 ⟨rfl,hb2⟩
 have HB:=Lib.hid (HB1.out.trans (hb2.mono HB1.out.size));have X0:=Lib.hid (keep_blk hb2 T1.out)
 have HZ2:=Lib.hid (show w.heap.size+1 ≤ u2.heap.size from by have:=hb2.size;have:=HZ1.out;omega)
 clear hb2 HF HB1 T1 HZ1
 by_cases hf:t.ndT ≤ 3000
 case neg =>
   rw [decide_eq_false hf]
   go_wp2
   go_ret
   exact ⟨rfl,HB.out⟩
 rw [decide_eq_true hf]
 have HCP:=Lib.hid (fun w9 (hb:Below w.heap.size w w9)=>copynode_own t w9 B _ (HV.out w9 hb))
 have HTU:=Lib.hid (fun w9 (B9:Nat→Prop) (v9:Value) (hv9:NodeV w9 B9 v9 t)=>tuapi_any t w9 B9 v9 hv9)
 have HRX:=Lib.hid (fun w9 (hb:Below w.heap.size w w9)=>turef_any t w9 B _ (HV.out w9 hb))
 generalize t.turT=o at *
 clear hf
 go_wp2_with (first
   | (refine wpList_load_row rfl 27 (.tmp 1) rfl w.heap.size rfl 27 _ (0,0) _ X0.out Try.underlying27 rfl (by kernel_rfl) ?_)
   | fail)
 refine (HCP.out u2 HB.out).mono ?_
 rintro e u3 ⟨sm,Fm,rfl,hom,hFm,hbc⟩
 obtain ⟨pm,cm,rfl,-⟩:=hom.slice
 have hb4:Below u2.heap.size u2 (u3.alloc (.cells #[.int .i64 t.kind,.int .u64 (Oc.U t.w0),.int .u64 (Oc.U t.w1),.int .u64 (Oc.U t.w2),.int .u64 (Oc.U t.w3),.slice pm t.subs.length cm,.int .i64 t.num,.int .i64 t.least,.int .i64 t.most,.bool t.bare] 27)):=hbc.alloc hbc.size _
 have hz4:(u3.alloc (.cells #[.int .i64 t.kind,.int .u64 (Oc.U t.w0),.int .u64 (Oc.U t.w1),.int .u64 (Oc.U t.w2),.int .u64 (Oc.U t.w3),.slice pm t.subs.length cm,.int .i64 t.num,.int .i64 t.least,.int .i64 t.most,.bool t.bare] 27)).heap.size=u3.heap.size+1:=by simp
 have HFM:=Lib.hid (show ∀ b,b ∈ Fm→w.heap.size+1 ≤ b∧b < u3.heap.size from fun b hb=>⟨by have:=hFm b hb;have:=HZ2.out;omega,hom.lt b hb⟩)
 have XM:=Lib.hid (heap_alloc_new u3 (.cells #[.int .i64 t.kind,.int .u64 (Oc.U t.w0),.int .u64 (Oc.U t.w1),.int .u64 (Oc.U t.w2),.int .u64 (Oc.U t.w3),.slice pm t.subs.length cm,.int .i64 t.num,.int .i64 t.least,.int .i64 t.most,.bool t.bare] 27))
 have HOM:=Lib.hid (hom.later ((Below.refl u3.heap.size u3).alloc (Nat.le_refl _) (.cells #[.int .i64 t.kind,.int .u64 (Oc.U t.w0),.int .u64 (Oc.U t.w1),.int .u64 (Oc.U t.w2),.int .u64 (Oc.U t.w3),.slice pm t.subs.length cm,.int .i64 t.num,.int .i64 t.least,.int .i64 t.most,.bool t.bare] 27)))
 have X0n:=Lib.hid (keep_blk hb4 X0.out);have HBn:=Lib.hid (HB.out.trans (hb4.mono HB.out.size))
 have HZ3:=Lib.hid (show w.heap.size+1 ≤ u3.heap.size from by have:=hbc.size;have:=HZ2.out;omega)
 have HZ4:=Lib.hid hz4
 clear hom hFm hbc hb4 hz4 HCP X0 HB HZ2
 unfold Tr.cells
 go_upto_region 6 with (fail)
 generalize u3.alloc _=u4 at *
 have X0:=X0n;have HB:=HBn
 clear X0n HBn
 have HVM:=Lib.hid (fun w9 (hb:Below u4.heap.size u4 w9)=>(show NodeV w9 (fun b=>b ∈ Fm) (.agg (t.cells (.slice pm t.subs.length cm))) t from ⟨_,rfl,HOM.out.trees.later hb⟩))
 have hmt:t.cells (.slice pm t.subs.length cm)=#[.int .i64 t.kind,.int .u64 (Oc.U t.w0),.int .u64 (Oc.U t.w1),.int .u64 (Oc.U t.w2),.int .u64 (Oc.U t.w3),.slice pm t.subs.length cm,.int .i64 t.num,.int .i64 t.least,.int .i64 t.most,.bool t.bare]:=rfl
 refine Ri.wp_region_chain (by kernel_rfl) (by kernel_rfl) (by kernel_rfl) (by kernel_rfl) 8 6 (by kernel_rfl) (by omega) (by kernel_rfl) (TmK t o pm cm) (TmFin u4 o) (fun k w v F w' h hb=>h.later hb) ?_ ?_ ?_ ?_
 · intro i hi L v B9 w9 xa hA hL hd hv ho
   have hi':i=0 ∨ i=1 ∨ i=2 ∨ i=3 ∨ i=4 ∨ i=5:=by omega
   rcases hi' with rfl | rfl | rfl | rfl | rfl | rfl
   · have e3:xa.tmps.getD 3 undef=.pointer (some ⟨u3.heap.size,0,none⟩):=ho 3 (by kernel_rfl)
     refine Ri.step_plain rfl rfl (fun K' hK'=>?_)
     refine wp_load_row _ _ rfl _ e3 _ _ _ _ (keep_blk hA.below XM.out) Try.underlying27 rfl (by kernel_rfl) ?_
     exact hK' _ _ ⟨_,_,[],rfl,rfl,Below.refl _ _,rfl,fun b hb=>by cases hb⟩
   · have j0:L 0=true:=by have:=hd _ rfl;simp [Region.binds] at this;simp [this]
     have f0:=(hv 0 14 rfl j0).trans (hA.fact 0 j0)
     rw [hmt] at f0
     refine Ri.step_plain rfl rfl (fun K' hK'=>?_)
     go_simp
     refine (HTU.out w9 _ _ (HVM.out w9 hA.below)).mono ?_
     rintro e w8 ⟨s8,F8,rfl,ho8,hF8,hb8⟩
     obtain ⟨p8,c8,rfl,-⟩:=ho8.slice
     exact hK' _ _ ⟨_,_,F8,rfl,rfl,hb8,⟨p8,c8,rfl,ho8⟩,fun b hb=>⟨hF8 b hb,ho8.lt b hb⟩⟩
   · have e3:xa.tmps.getD 3 undef=.pointer (some ⟨u3.heap.size,0,none⟩):=ho 3 (by kernel_rfl)
     refine Ri.step_plain rfl rfl (fun K' hK'=>?_)
     refine wp_load_row _ _ rfl _ e3 _ _ _ _ (keep_blk hA.below XM.out) Try.underlying27 rfl (by kernel_rfl) ?_
     exact hK' _ _ ⟨_,_,[],rfl,rfl,Below.refl _ _,rfl,fun b hb=>by cases hb⟩
   · have j2:L 2=true:=by have:=hd _ rfl;simp [Region.binds] at this;simp [this]
     have f2:=(hv 2 16 rfl j2).trans (hA.fact 2 j2)
     rw [hmt] at f2
     refine Ri.step_plain rfl rfl (fun K' hK'=>?_)
     go_simp
     refine (HTU.out w9 _ _ (HVM.out w9 hA.below)).mono ?_
     rintro e w8 ⟨s8,F8,rfl,ho8,hF8,hb8⟩
     obtain ⟨p8,c8,rfl,-⟩:=ho8.slice
     exact hK' _ _ ⟨_,_,F8,rfl,rfl,hb8,⟨p8,c8,rfl,ho8⟩,fun b hb=>⟨hF8 b hb,ho8.lt b hb⟩⟩
   · refine Ri.step_plain rfl rfl (fun K' hK'=>?_)
     go_simp
     exact hK' _ _ ⟨_,_,[w9.heap.size],rfl,rfl,(Below.refl _ _).alloc (Nat.le_refl _) _,⟨w9.heap.size,rfl,rfl,heap_alloc_new _ _⟩,fun b hb=>by rw [List.mem_singleton] at hb;subst hb;simp⟩
   · refine Ri.step_plain rfl rfl (fun K' hK'=>?_)
     go_simp
     exact hK' _ _ ⟨_,_,[w9.heap.size],rfl,rfl,(Below.refl _ _).alloc (Nat.le_refl _) _,⟨w9.heap.size,rfl,rfl,heap_alloc_new _ _⟩,fun b hb=>by rw [List.mem_singleton] at hb;subst hb;simp⟩
 · intro v B9 w9 hb hk hwi hap
   obtain ⟨pa,ca,v1,o1⟩:=hk 1 (by omega)
   obtain ⟨pb,cb,v3,o3⟩:=hk 3 (by omega)
   obtain ⟨ga,v4,b4,h4⟩:=hk 4 (by omega)
   obtain ⟨gb,v5,b5,h5⟩:=hk 5 (by omega)
   have i4:=hwi 4 ga (by rw [b4];simp);have i5:=hwi 5 gb (by rw [b5];simp)
   exact ⟨pa,ca,pb,cb,ga,gb,B9 1,B9 3,v1,v3,v4,v5,o1,o3,h4,h5,hb,fun b hb9=>⟨(hwi 1 b hb9).1,fun e=>hap 1 4 b (by omega) hb9 (by rw [b4,e];simp),fun e=>hap 1 5 b (by omega) hb9 (by rw [b5,e];simp),hap 1 3 b (by omega) hb9⟩,fun b hb9=>⟨(hwi 3 b hb9).1,fun e=>hap 3 4 b (by omega) hb9 (by rw [b4,e];simp),fun e=>hap 3 5 b (by omega) hb9 (by rw [b5,e];simp)⟩,fun e=>hap 4 5 ga (by omega) (by rw [b4];simp) (by rw [b5,e];simp),i4.1,i5.1⟩
 · intro i hN hn L v B9 w9 xa hF hall hv ho
   have hi':i=6 ∨ i=7:=by omega
   obtain ⟨pa,ca,pb,cb,ga,gb,Fa,Fb,v1,v3,v4,v5,o1,o3,h4,h5,hb,hFa,hFb,hab,ha,hb9⟩:=hF
   rcases hi' with rfl | rfl
   · have f1:=(hv 1 15 rfl (hall 1 (by omega))).trans v1
     have f4:=(hv 4 4 rfl (hall 4 (by omega))).trans v4
     rw [if_neg (by omega)] at h4 h5
     refine Ri.step_plain rfl rfl (fun K' hK'=>?_)
     refine wp_store_row _ _ _ rfl ga (o.cells (.slice pa o.subs.length ca)) f4 f1 27 _ h4 (by kernel_rfl) (by kernel_rfl) (nodeC_all _ _ _ _) ?_
     refine hK' _ _ ⟨_,undef,rfl,rfl,pa,ca,pb,cb,ga,gb,Fa,Fb,v1,v3,v4,v5,o1.keep (fun b hb=>heap_setRow_other _ _ _ (hFa b hb).2.1),o3.keep (fun b hb=>heap_setRow_other _ _ _ (hFb b hb).2.1), ?_, ?_,below_setRow hb ha _,hFa,hFb,hab,ha,hb9⟩
     · rw [if_pos (by omega)];exact heap_setRow h4
     · rw [if_neg (by omega),heap_setRow_other _ _ _ (Ne.symm hab)];exact h5
   · have f3:=(hv 3 17 rfl (hall 3 (by omega))).trans v3
     have f5:=(hv 5 5 rfl (hall 5 (by omega))).trans v5
     rw [if_pos (by omega)] at h4
     rw [if_neg (by omega)] at h5
     refine Ri.step_plain rfl rfl (fun K' hK'=>?_)
     refine wp_store_row _ _ _ rfl gb (o.cells (.slice pb o.subs.length cb)) f5 f3 27 _ h5 (by kernel_rfl) (by kernel_rfl) (nodeC_all _ _ _ _) ?_
     refine hK' _ _ ⟨_,undef,rfl,rfl,pa,ca,pb,cb,ga,gb,Fa,Fb,v1,v3,v4,v5,o1.keep (fun b hb=>heap_setRow_other _ _ _ (hFa b hb).2.2.1),o3.keep (fun b hb=>heap_setRow_other _ _ _ (hFb b hb).2.2), ?_, ?_,below_setRow hb hb9 _,hFa,hFb,hab,ha,hb9⟩
     · rw [if_pos (by omega),heap_setRow_other _ _ _ hab];exact h4
     · rw [if_pos (by omega)];exact heap_setRow h5
 intro v B9 u8 hF
 obtain ⟨pa,ca,pb,cb,ga,gb,Fa,Fb,v1,v3,v4,v5,o1,o3,h4,h5,hb,hFa,hFb,hab,hga,hgb⟩:=hF
 rw [if_pos (by omega)] at h4 h5
 have HOA:=Lib.hid o1;have HOB:=Lib.hid o3;have XA:=Lib.hid h4;have XB:=Lib.hid h5
 have H48:=Lib.hid hb;have HFA:=Lib.hid hFa;have HFB:=Lib.hid hFb;have HAB:=Lib.hid hab;have HGA:=Lib.hid hga;have HGB:=Lib.hid hgb
 have X0n:=Lib.hid (keep_blk hb X0.out);have XMn:=Lib.hid (keep_blk hb XM.out);have HBn:=Lib.hid (HB.out.trans (hb.mono HB.out.size))
 have HOMn:=Lib.hid (HOM.out.later hb)
 clear o1 o3 h4 h5 hb hFa hFb hab hga hgb HTU X0 XM HB HOM
 have X0:=X0n;have XM:=XMn;have HB:=HBn;have HOM:=HOMn
 clear X0n XMn HBn HOMn
 simp only [Ri.frame,List.zipIdx,List.foldl_cons,List.foldl_nil,if_true,List.setIfInBounds_toArray,List.set_cons_zero,List.set_cons_succ,Nat.reduceAdd,v4,v5]
 generalize v 0=z0;generalize v 1=z1;generalize v 2=z2;generalize v 3=z3
 clear v1 v3 v4 v5 hmt
 unfold Tr.cells at XA XB
 go_wp2_with (first
   | (refine wpList_load_row rfl 27 (.tmp 1) rfl w.heap.size rfl 27 _ (0,0) _ X0.out Try.underlying27 rfl (by kernel_rfl) ?_)
   | fail)
 refine (HRX.out u8 HB.out).mono ?_
 rintro e u9 ⟨vw,rfl,⟨sw,rfl,htw⟩,hbc⟩
 obtain ⟨pw,cw,rfl,-⟩:=htw.slice
 have hb4:Below u8.heap.size u8 (u9.alloc (.cells #[.int .i64 o.kind,.int .u64 (Oc.U o.w0),.int .u64 (Oc.U o.w1),.int .u64 (Oc.U o.w2),.int .u64 (Oc.U o.w3),.slice pw o.subs.length cw,.int .i64 o.num,.int .i64 o.least,.int .i64 o.most,.bool o.bare] 27)):=hbc.alloc hbc.size _
 have XW:=Lib.hid (heap_alloc_new u9 (.cells #[.int .i64 o.kind,.int .u64 (Oc.U o.w0),.int .u64 (Oc.U o.w1),.int .u64 (Oc.U o.w2),.int .u64 (Oc.U o.w3),.slice pw o.subs.length cw,.int .i64 o.num,.int .i64 o.least,.int .i64 o.most,.bool o.bare] 27))
 have HTW:=Lib.hid (htw.later ((Below.refl u9.heap.size u9).alloc (Nat.le_refl _) (.cells #[.int .i64 o.kind,.int .u64 (Oc.U o.w0),.int .u64 (Oc.U o.w1),.int .u64 (Oc.U o.w2),.int .u64 (Oc.U o.w3),.slice pw o.subs.length cw,.int .i64 o.num,.int .i64 o.least,.int .i64 o.most,.bool o.bare] 27)))
 have X0n:=Lib.hid (keep_blk hb4 X0.out);have XMn:=Lib.hid (keep_blk hb4 XM.out);have XAn:=Lib.hid (keep_blk hb4 XA.out);have XBn:=Lib.hid (keep_blk hb4 XB.out);have HBn:=Lib.hid (HB.out.trans (hb4.mono HB.out.size))
 have HOMn:=Lib.hid (HOM.out.later hb4);have HOAn:=Lib.hid (HOA.out.later hb4);have HOBn:=Lib.hid (HOB.out.later hb4)
 have HZ8:=Lib.hid (show ga < u8.heap.size∧gb < u8.heap.size∧u4.heap.size ≤ u8.heap.size∧u8.heap.size ≤ u9.heap.size∧(∀ b,b ∈ Fa→b < u8.heap.size)∧(∀ b,b ∈ Fb→b < u8.heap.size) from ⟨(Array.getElem?_eq_some_iff.1 XA.out).1,(Array.getElem?_eq_some_iff.1 XB.out).1,H48.out.size,hbc.size,fun b hb=>HOA.out.lt b hb,fun b hb=>HOB.out.lt b hb⟩)
 clear htw hbc hb4 HRX X0 XM XA XB HB HOM HOA HOB H48
 unfold Tr.cells
 go_upto_region 8 with (fail)
 generalize u9.alloc _=u10 at *
 have X0:=X0n;have XM:=XMn;have XA:=XAn;have XB:=XBn;have HB:=HBn;have HOM:=HOMn;have HOA:=HOAn;have HOB:=HOBn
 clear X0n XMn XAn XBn HBn HOMn HOAn HOBn
 have HS1:=Lib.hid (fun w9 (hb:Below u10.heap.size u10 w9)=>(samenodes_any o o w9 _ _ (.agg (o.cells (.slice pa o.subs.length ca))) (.agg (o.cells (.slice pw o.subs.length cw))) ⟨_,rfl,HOA.out.trees.later hb⟩ ⟨_,rfl,HTW.out.later hb⟩).mono (fun e w' h=>h.yes rfl))
 have HS2:=Lib.hid (fun w9 (hb:Below u10.heap.size u10 w9)=>(samenodes_any t t w9 _ _ (.agg (t.cells (.slice pm t.subs.length cm))) _ ⟨_,rfl,HOM.out.trees.later hb⟩ (HV.out w9 (HB.out.trans (hb.mono HB.out.size)))).mono (fun e w' h=>h.yes rfl))
 unfold Tr.cells at HS1 HS2
 go_wp2_with (first
   | (refine wpList_load_row rfl 27 (.tmp 4) rfl ga rfl 27 _ (0,0) _ XA.out Try.underlying27 rfl (by kernel_rfl) ?_)
   | (refine wpList_load_row rfl 27 (.tmp 6) rfl u9.heap.size rfl 27 _ (0,0) _ XW.out Try.underlying27 rfl (by kernel_rfl) ?_)
   | fail)
 refine (HS1.out u10 (Below.refl _ _)).mono ?_
 rintro e u11 ⟨rfl,hb11⟩
 have H11:=Lib.hid hb11
 have X0n:=Lib.hid (keep_blk hb11 X0.out);have XMn:=Lib.hid (keep_blk hb11 XM.out)
 clear hb11 HS1
 obtain ⟨q0,q1,q2,q3,q4,q5,q6,q7,q8,q9⟩:=allTen X0n.out
 obtain ⟨r0,r1,r2,r3,r4,r5,r6,r7,r8,r9⟩:=allTen XMn.out
 go_wp2_with fail
 clear q0 q1 q2 q3 q4 q5 q6 q7 q8 q9 r0 r1 r2 r3 r4 r5 r6 r7 r8 r9
 refine (HS2.out u11 H11.out).mono ?_
 rintro e v0 ⟨rfl,hb12⟩
 have hb0:Below u10.heap.size u10 v0:=H11.out.trans (hb12.mono H11.out.size)
 have XA0:=Lib.hid (keep_blk hb0 XA.out);have XB0:=Lib.hid (keep_blk hb0 XB.out);have XW0:=Lib.hid (keep_blk hb0 XW.out);have XM0:=Lib.hid (keep_blk hb0 XM.out)
 have HA0:=Lib.hid (HOA.out.later hb0);have HB0:=Lib.hid (HOB.out.later hb0);have HM0:=Lib.hid (HOM.out.later hb0);have HW0:=Lib.hid (HTW.out.later hb0)
 have HBB:=Lib.hid (HB.out.trans (hb0.mono HB.out.size))
 clear hb12 hb0 HS2 X0 XM XA XB XW X0n XMn HOA HOB HOM HTW HB H11
 go_wp2_with (first
   | (refine wpList_load_row rfl 27 (.tmp 4) rfl ga rfl 27 _ (0,0) _ XA0.out Try.underlying27 rfl (by kernel_rfl) ?_)
   | fail)
 refine (spoil_any o v0 (.slice pa o.subs.length ca) Fa HA0.out).mono ?_
 rintro e v1 ⟨rfl,ht1⟩
 have hz8:=HZ8.out
 have hA1:∀ k,k < v0.heap.size→k ∉ Fa→v1.heap[k]? = v0.heap[k]?:=fun k h1 h2=>ht1.block k h1 h2
 have XB1:=Lib.hid ((hA1 gb (Array.getElem?_eq_some_iff.1 XB0.out).1 (fun e=>(HFA.out gb e).2.2.1 rfl)).trans XB0.out)
 have XM1:=Lib.hid ((hA1 u3.heap.size (Array.getElem?_eq_some_iff.1 XM0.out).1 (fun e=>by have:=(HFA.out _ e).1;have:=HZ4.out;omega)).trans XM0.out)
 have XW1:=Lib.hid ((hA1 u9.heap.size (Array.getElem?_eq_some_iff.1 XW0.out).1 (fun e=>by have:=hz8.2.2.2.2.1 _ e;omega)).trans XW0.out)
 have HB1:=Lib.hid (HB0.out.keep (w':=v1) fun b hb=>hA1 b (HB0.out.lt b hb) (fun e=>(HFA.out b e).2.2.2 hb))
 have HM1:=Lib.hid (HM0.out.keep (w':=v1) fun b hb=>hA1 b (HM0.out.lt b hb) (fun e=>by have:=(HFA.out b e).1;have:=(HFM.out b hb).2;have:=HZ4.out;omega))
 have HW1:=Lib.hid (HW0.out.keep (w':=v1) fun b hlt hb=>hA1 b hlt (fun e=>by have:=hz8.2.2.2.2.1 b e;omega))
 have HBB1:=Lib.hid (HBB.out.trans (ht1.below (fun k hk=>by have:=(HFA.out k hk).1;have:=HZ4.out;have:=HZ3.out;omega) HBB.out.size))
 clear hA1 ht1 hz8 XA0 XB0 XW0 XM0 HA0 HB0 HM0 HW0 HBB
 go_wp2_with (first
   | (refine wpList_load_row rfl 27 (.tmp 3) rfl u3.heap.size rfl 27 _ (0,0) _ XM1.out Try.underlying27 rfl (by kernel_rfl) ?_)
   | fail)
 refine (spoil_any t v1 (.slice pm t.subs.length cm) Fm HM1.out).mono ?_
 rintro e v2 ⟨rfl,ht2⟩
 have hz8:=HZ8.out
 have hA2:∀ k,k < v1.heap.size→k ∉ Fm→v2.heap[k]? = v1.heap[k]?:=fun k h1 h2=>ht2.block k h1 h2
 have XB2:=Lib.hid ((hA2 gb (Array.getElem?_eq_some_iff.1 XB1.out).1 (fun e=>by have:=(HFM.out _ e).2;have:=HGB.out;have:=HZ4.out;omega)).trans XB1.out)
 have XW2:=Lib.hid ((hA2 u9.heap.size (Array.getElem?_eq_some_iff.1 XW1.out).1 (fun e=>by have:=(HFM.out _ e).2;have:=HZ4.out;have:=hz8.2.2.1;omega)).trans XW1.out)
 have HB2:=Lib.hid (HB1.out.keep (w':=v2) fun b hb=>hA2 b (HB1.out.lt b hb) (fun e=>by have:=(HFM.out b e).2;have:=(HFB.out b hb).1;have:=HZ4.out;omega))
 have HW2:=Lib.hid (HW1.out.keep (w':=v2) fun b hlt hb=>hA2 b hlt (fun e=>by have:=(HFM.out b e).2;have:=HZ4.out;have:=hz8.2.2.1;omega))
 have HBB2:=Lib.hid (HBB1.out.trans (ht2.below (fun k hk=>by have:=(HFM.out k hk).1;omega) HBB1.out.size))
 clear hA2 ht2 hz8 XB1 XW1 XM1 HB1 HM1 HW1 HBB1
 have HS4:=Lib.hid ((samenodes_any o o v2 _ _ (.agg (o.cells (.slice pb o.subs.length cb))) (.agg (o.cells (.slice pw o.subs.length cw))) ⟨_,rfl,HB2.out.trees⟩ ⟨_,rfl,HW2.out⟩).mono (fun e w' h=>h.yes rfl))
 unfold Tr.cells at HS4
 go_wp2_with (first
   | (refine wpList_load_row rfl 27 (.tmp 5) rfl gb rfl 27 _ (0,0) _ XB2.out Try.underlying27 rfl (by kernel_rfl) ?_)
   | (refine wpList_load_row rfl 27 (.tmp 6) rfl u9.heap.size rfl 27 _ (0,0) _ XW2.out Try.underlying27 rfl (by kernel_rfl) ?_)
   | fail)
 refine HS4.out.mono ?_
 rintro e v3 ⟨rfl,hb3⟩
 have HBB3:=Lib.hid (HBB2.out.trans (hb3.mono HBB2.out.size))
 clear hb3 HS4
 go_wp2
 go_ret
 exact ⟨rfl,HBB3.out⟩
end Go.Proofs.Ytedjkbmfpjmlpaa
namespace Go.Proofs.Ytedjkbmfpjmlpaa
open Go.ChangeShapes Go.WideShapes Go.ChangeAt Go.RowKit
theorem Try.cellsSet:Try.prog.cellsOf 24=4:=by kernel_rfl
theorem Try.cellsU64:Try.prog.cellsOf 22=1:=by kernel_rfl
theorem word_of {n:Int} (h:(Lit.int .u64 n).wf=true):∃ x:BitVec 64,n=Oc.U x:=by
 simp only [Lit.wf,IntKind.min,IntKind.max,IntKind.signed,IntKind.bits,Bool.and_eq_true] at h
 refine ⟨BitVec.ofInt 64 n, ?_⟩
 unfold Oc.U;rw [BitVec.toNat_ofInt]
 have h1:=h.1;have h2:=h.2
 simp at h1 h2
 omega
theorem open_words {H:Type} {enc:TypeId × Value→H} {w:World} {base:Nat} {spare:Nat→Bool} {held:Bool} {fuel:Nat} {c0 c1 c2 c3:Value} {x:DataW H × List MemPlace}
   (h:DataW.trod enc Try.prog w base spare held fuel 24 [c0,c1,c2,c3]=some x):∃ a b c d:BitVec 64,c0=.int .u64 (Oc.U a)∧c1=.int .u64 (Oc.U b)∧c2=.int .u64 (Oc.U c)∧c3=.int .u64 (Oc.U d):=by
 obtain ⟨y0,y1,y2,y3,n,_,h0,h1,h2,h3⟩:=trod_array4 Try.underlying24 Try.cellsU64 h
 obtain ⟨n0,e0,-,w0⟩:=DataW.trod_int Try.underlying22 h0
 obtain ⟨n1,e1,-,w1⟩:=DataW.trod_int Try.underlying22 h1
 obtain ⟨n2,e2,-,w2⟩:=DataW.trod_int Try.underlying22 h2
 obtain ⟨n3,e3,-,w3⟩:=DataW.trod_int Try.underlying22 h3
 obtain ⟨a,rfl⟩:=word_of w0
 obtain ⟨b,rfl⟩:=word_of w1
 obtain ⟨c,rfl⟩:=word_of w2
 obtain ⟨d,rfl⟩:=word_of w3
 simp only [List.cons.injEq,and_true] at e0 e1 e2 e3
 exact ⟨a,b,c,d,e0,e1,e2,e3⟩
theorem Try.own:ownKnob Try.prog.godebug=none:=by kernel_rfl
theorem Try.laidOut:laidOutB Try.prog=true:=by kernel_rfl
end Go.Proofs.Ytedjkbmfpjmlpaa
namespace Go.Proofs.Ytedjkbmfpjmlpaa
open Go.ChangeShapes Go.WideShapes Go.ChangeAt Go.RowKit
theorem Try.cellsNodeO:Try.prog.cellsOf 27=10:=by kernel_rfl
theorem Try.cellsIntO:Try.prog.cellsOf 3=1:=by kernel_rfl
theorem Try.cellsBoolO:Try.prog.cellsOf 4=1:=by kernel_rfl
theorem Try.cellsNodesO:Try.prog.cellsOf 25=1:=by kernel_rfl
theorem Try.bytesNodeO:Try.prog.bytesOf 27=96:=by kernel_rfl
theorem list10 {α:Type} {l:List α} (h:l.length=10):∃ a0 a1 a2 a3 a4 a5 a6 a7 a8 a9,l=[a0,a1,a2,a3,a4,a5,a6,a7,a8,a9]:=by
 match l,h with
 | [a0,a1,a2,a3,a4,a5,a6,a7,a8,a9],_=>exact ⟨a0,a1,a2,a3,a4,a5,a6,a7,a8,a9,rfl⟩
theorem list7 {α:Type} {l:List α} (h:l.length=7):∃ a0 a1 a2 a3 a4 a5 a6,l=[a0,a1,a2,a3,a4,a5,a6]:=by
 match l,h with
 | [a0,a1,a2,a3,a4,a5,a6],_=>exact ⟨a0,a1,a2,a3,a4,a5,a6,rfl⟩
theorem weightsAll_mem {H:Type} {P:Program} {e:TypeId} {k:Nat} {d:DataW H} : ∀ {l:List (DataW H)},d ∈ l→k ∈ d.weights P e→k ∈ DataW.weightsAll P e l
 | [],h,_=>by cases h
 | x :: l,h,hk=>by
   rw [DataW.weightsAll]
   rcases List.mem_cons.1 h with rfl | h
   · exact List.mem_append_left _ hk
   · exact List.mem_append_right _ (weightsAll_mem h hk)
theorem add_at {a:Addr} (h:a.spot=none) (m:Nat):a.add m=⟨a.block,a.off+m,none⟩:=by
 unfold Addr.add
 split
 · rename_i h0;subst h0;cases a;simp_all
 · rfl
theorem open_node {H:Type} {enc:TypeId × Value→H} {W:World} {base:Nat} {spare:Nat→Bool} {held:Bool} : ∀ (fuel:Nat) (cs:List Value) (x:DataW H × List MemPlace),
   DataW.trod enc Try.prog W base spare held fuel 27 cs=some x→(∀ k,k ∈ x.1.weights Try.prog 27→k ≤ 140737488351232) →
   ∃ (t:Tr) (s:Value),cs=(t.cells s).toList∧TreesAt W (fun _=>True) s t.subs:=by
 intro fuel
 induction fuel using Nat.strongRecOn with
 | _ fuel ih =>
   intro cs x h hw
   obtain ⟨xs,n,rfl,rfl,hlen,hxs,hf⟩:=DataW.trod_struct Try.underlying27 h
   rw [Try.cellsNodeO] at hlen
   obtain ⟨c0,c1,c2,c3,c4,c5,c6,c7,c8,c9,rfl⟩:=list10 hlen
   obtain ⟨y0,y1,y2,y3,y4,y5,y6,rfl⟩:=list7 (by simpa using hxs)
   have f0:=hf 0 _ rfl;have f1:=hf 1 _ rfl;have f2:=hf 2 _ rfl;have f3:=hf 3 _ rfl;have f4:=hf 4 _ rfl;have f5:=hf 5 _ rfl;have f6:=hf 6 _ rfl
   simp only [List.getElem_toArray,List.getElem_cons_zero,List.getElem_cons_succ,Try.cellsIntO,Try.cellsBoolO,Try.cellsNodesO,Try.cellsSet,List.drop_zero,List.drop_succ_cons,List.take_succ_cons,List.take_zero,List.getElem?_cons_zero,List.getElem?_cons_succ] at f0 f1 f2 f3 f4 f5 f6
   obtain ⟨k,e0,-,-⟩:=DataW.trod_int Try.underlying3 f0
   obtain ⟨a,b,c,d,rfl,rfl,rfl,rfl⟩:=open_words f1
   obtain ⟨nn,e3,-,-⟩:=DataW.trod_int Try.underlying3 f3
   obtain ⟨lo,e4,-,-⟩:=DataW.trod_int Try.underlying3 f4
   obtain ⟨hi,e5,-,-⟩:=DataW.trod_int Try.underlying3 f5
   obtain ⟨br,e6,-⟩:=DataW.trod_bool Try.underlying4 f6
   simp only [List.cons.injEq,and_true] at e0 e3 e4 e5 e6
   subst e0 e3 e4 e5 e6
   have fin:∀ (ts:List Tr),TreesAt W (fun _=>True) c5 ts→∃ (t:Tr) (s:Value),[.int .i64 k,.int .u64 (Oc.U a),.int .u64 (Oc.U b),.int .u64 (Oc.U c),.int .u64 (Oc.U d),c5,.int .i64 nn,.int .i64 lo,.int .i64 hi,.bool br]=(t.cells s).toList∧TreesAt W (fun _=>True) s t.subs :=
     fun ts hts=>⟨.node k a b c d ts nn lo hi br,c5,rfl,hts⟩
   rcases DataW.trod_slice Try.underlying25 f2 with ⟨hc5,-⟩ | ⟨ad,len,cap,elems,rest,n',rfl,hc5,hx,-,-,-,hel,hall,-,-⟩
   · simp only [List.cons.injEq,and_true] at hc5
     subst hc5
     exact fin [] TreesAt.nil
   · simp only [List.cons.injEq,and_true] at hc5
     subst hc5
     rw [Try.cellsNodeO] at hall
     have hwn:∀ k,k ∈ y2.1.weights Try.prog 25→k ≤ 140737488351232:=fun k hk=>hw k (by
       rw [DataW.weights,Try.underlying27]
       exact DataW.weights_mem_each (j:=2) rfl rfl k hk)
     have hlen96:len * 96 ≤ 140737488351232:=by
       have:=hwn ((elems.length+rest.length) * 96) (by
         rw [hx]
         simp only [DataW.weights,Try.underlying25,Try.bytesNodeO,List.length_map]
         exact List.mem_cons_self)
       rw [hel] at this
       have h2:len * 96 ≤ (len+rest.length) * 96:=Nat.mul_le_mul_right _ (by omega)
       omega
     have key:∀ i,∃ (t:Tr) (s:Value),i < len→(∃ b o,some ad=some ⟨b,o,none⟩∧TenAt W b (o+i * 10) t s)∧TreesAt W (fun _=>True) s t.subs:=by
       intro i
       by_cases hi:i < len
       · have h1:=hall i hi
         rw [List.getElem?_eq_getElem (by omega)] at h1
         obtain ⟨csi,hcs,htr⟩:=Option.bind_eq_some_iff.1 h1
         obtain ⟨t,s,hts,hsub⟩:=ih n' (by omega) csi _ htr (fun k hk=>hwn k (by
           rw [hx]
           simp only [DataW.weights,Try.underlying25]
           refine List.mem_cons_of_mem _ (List.mem_append_left _ (weightsAll_mem (d:=elems[i].1) ?_ hk))
           exact List.mem_map.2 ⟨elems[i],List.getElem_mem _,rfl⟩))
         obtain ⟨-,-,hcell⟩:=World.cells?_some hcs
         have hspot:ad.spot=none:=by
           have h0:=hall 0 (by omega)
           rw [List.getElem?_eq_getElem (by omega)] at h0
           obtain ⟨cs0,hcs0,htr0⟩:=Option.bind_eq_some_iff.1 h0
           obtain ⟨t0,s0,hts0,-⟩:=ih n' (by omega) cs0 _ htr0 (fun k hk=>hwn k (by
             rw [hx]
             simp only [DataW.weights,Try.underlying25]
             refine List.mem_cons_of_mem _ (List.mem_append_left _ (weightsAll_mem (d:=elems[0].1) ?_ hk))
             exact List.mem_map.2 ⟨elems[0],List.getElem_mem _,rfl⟩))
           have h2:=(World.cells?_some hcs0).2.2 0 (by omega)
           rw [hts0] at h2
           have e:(ad.add (0 * 10)).add 0=ad:=by simp [Addr.add]
           rw [e] at h2
           cases hsp:ad.spot with
           | none=>rfl
           | some z =>
             unfold World.cell? at h2
             rw [hsp] at h2
             split at h2 <;> simp [Tr.cells] at h2
         have hadd:∀ j,(ad.add (i * 10)).add j=⟨ad.block,ad.off+i * 10+j,none⟩:=fun j=>by
           rw [add_at hspot,add_at (a:=⟨ad.block,ad.off+i * 10,none⟩) rfl]
         refine ⟨t,s,fun _=>⟨⟨ad.block,ad.off,by cases ad;simp_all, ?_⟩,hsub⟩⟩
         rw [hts] at hcell
         have get:∀ j u,j < 10→(t.cells s).toList[j]? = some u→W.cell? ⟨ad.block,ad.off+i * 10+j,none⟩=some u:=fun j u hj hu=>by
           rw [← hadd j,hcell j hj,hu]
         exact ⟨get 0 _ (by omega) rfl,get 1 _ (by omega) rfl,get 2 _ (by omega) rfl,get 3 _ (by omega) rfl,get 4 _ (by omega) rfl,get 5 _ (by omega) rfl,get 6 _ (by omega) rfl,get 7 _ (by omega) rfl,get 8 _ (by omega) rfl,get 9 _ (by omega) rfl⟩
       · exact ⟨.node 0 0#64 0#64 0#64 0#64 [] 0 0 0 false,.nilIface,fun h=>absurd h hi⟩
     obtain ⟨T,hT⟩:=Classical.axiomOfChoice key
     obtain ⟨S,hS⟩:=Classical.axiomOfChoice hT
     have hl:((List.range len).map T).length=len:=by simp
     have hg:∀ i t,((List.range len).map T)[i]? = some t→i < len∧t=T i:=fun i t h=>by
       rw [List.getElem?_map] at h
       by_cases hi:i < len
       · rw [List.getElem?_range hi] at h
         exact ⟨hi,(Option.some.inj h).symm⟩
       · rw [List.getElem?_eq_none (by simp;omega)] at h;cases h
     have:=TreesAt.mk (w:=W) (B:=fun _=>True) (some ad) cap ((List.range len).map T) S (by rw [hl];exact hlen96) (fun i t h=>by
       obtain ⟨hi,rfl⟩:=hg i t h
       obtain ⟨⟨b,o,e,ht⟩,-⟩:=hS i hi
       exact ⟨b,o,e,trivial,ht⟩) (fun i t h=>by
       obtain ⟨hi,rfl⟩:=hg i t h
       exact (hS i hi).2)
     rw [hl] at this
     exact fin _ this
theorem open_tree {H:Type} {enc:TypeId × Value→H} {w:World} {base b0:Nat} {spare:Nat→Bool} {held:Bool} {v:Value} {y:DataW H} {ps:List MemPlace} {r:Reach}
   (hv:Value.okWide Try.prog w r b0 27 v) (h:DataW.Trod enc Try.prog w base spare held 27 v y ps) (hw:∀ k,k ∈ y.weights Try.prog 27→k ≤ 140737488351232):∃ t,NodeV w (fun _=>True) v t:=by
 unfold Value.okWide at hv
 rw [Try.underlying27] at hv
 obtain ⟨cs,rfl,hsz,-⟩:=hv
 obtain ⟨fuel,hf⟩:=h
 obtain ⟨t,s,e,hs⟩:=open_node fuel _ _ hf hw
 refine ⟨t,s, ?_,hs⟩
 simp only [Value.cells] at e
 exact congrArg Value.agg (Array.toList_inj.1 e)
end Go.Proofs.Ytedjkbmfpjmlpaa
