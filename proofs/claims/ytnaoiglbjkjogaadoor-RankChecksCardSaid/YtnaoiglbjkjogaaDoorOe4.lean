/- Part 4 of what these proofs need. -/
import Derived.Laws.Tables
import Derived.Laws.Rows
import Derived.Laws.EntriesVeiled
import Derived.Lib.Tables
import Derived.Test.YtnaoiglbjkjogaaDoorOe3
set_option maxRecDepth 100000
set_option maxHeartbeats 16000000
namespace Go.Proofs.YtnaoiglbjkjogaaDoor
open Go.RowKit
def OvAt (w:World) (v:Value) (n:Nat) (R:Nat→Nat→Prop) (F:Nat→Bool):Prop:=∃ G,BlAt w v (n+1) G∧Re.Leads n R F G
theorem OvAt.below {w w':World} {v:Value} {n:Nat} {R:Nat→Nat→Prop} {F:Nat→Bool} (h:OvAt w v n R F) (hb:Below w.heap.size w w'):OvAt w' v n R F:=by
 obtain ⟨G,h1,h2⟩:=h;exact ⟨G,h1.below hb,h2⟩
def OvEnd (n:Nat) (R:Nat→Nat→Prop) (F:Nat→Bool) (w:World) (e:Ending) (w':World):Prop:=∃ v,e=.returned v∧OvAt w' v n R F∧Below w.heap.size w w'
def NxAt (w:World) (v:Value) (n:Nat) (R:Nat→Nat→Prop) (NW AL:Nat→Bool):Prop:=∃ G,BlAt w v (n+1) (fun j=>G j && !AL j)∧Re.Leads n R NW G
theorem NxAt.below {w w':World} {v:Value} {n:Nat} {R:Nat→Nat→Prop} {NW AL:Nat→Bool} (h:NxAt w v n R NW AL) (hb:Below w.heap.size w w'):NxAt w' v n R NW AL:=by
 obtain ⟨G,h1,h2⟩:=h;exact ⟨G,h1.below hb,h2⟩
def Overs (s:ByteArray) (c e0:Int) (u:Tr):Prop:=∀ (w:World) (B:Nat→Prop) (v f:Value) (F:Nat→Bool),NodeV w B v u→BlAt w f (s.size+1) F→Calls Tryd.prog 124 #[v,.agg #[.string s,.int .i64 c,.int .i64 e0,.bool false],f] w (OvEnd s.size (Tr.tk (Sc.new s c e0) u) F w)
theorem rrover_leaf (s:ByteArray) (c e0:Int) (hs:s.size ≤ 1000000) (t:Tr) (k9:Int) (hk:t.kind=k9) (h4:k9=1 ∨ k9=2 ∨ k9=3 ∨ k9=4) (w:World) (B:Nat→Prop) (v f:Value) (F:Nat→Bool) (hv:TreesAt w B v t.subs) (hf:BlAt w f (s.size+1) F) :
   Calls Tryd.prog 124 #[.agg (t.cells v),.agg #[.string s,.int .i64 c,.int .i64 e0,.bool false],f] w (OvEnd s.size (Tr.tk (Sc.new s c e0) t) F w):=by
 generalize hts:t.subs=ts at *
 obtain ⟨p,cap,rfl,hlen⟩:=hv.slice
 have HV:=Lib.hid hv;have HF0:=Lib.hid hf
 have HTK:=Lib.hid (Re.leafV_tk (Sc.new s c e0) t (by rw [hk];exact h4))
 have HLF:=Lib.hid (show ∀ (i:Nat),i ≤ s.size→∀ w,Calls Tryd.prog 142 #[.agg #[.int .i64 k9,.int .u64 (Oc.U t.w0),.int .u64 (Oc.U t.w1),.int .u64 (Oc.U t.w2),.int .u64 (Oc.U t.w3),.slice p ts.length cap,.int .i64 t.num,.int .i64 t.least,.int .i64 t.most,.bool t.bare],.agg #[.string s,.int .i64 c,.int .i64 e0,.bool false],.int .i64 (i:Int)] w fun e w'=>e=.returned (.int .i64 (Re.leafV (Sc.new s c e0) t i))∧Below w.heap.size w w' from fun i hi w=>by
   have h:=rrleaf_any s c e0 hs t (by rw [hk];exact h4) (.slice p ts.length cap) ⟨_,_,_,rfl⟩ i hi w
   unfold Tr.cells at h
   rw [hk] at h
   exact h)
 have e5:(k9 == 5)=false:=by rw [beq_eq_false_iff_ne];omega
 have e6:(k9 == 6)=false:=by rw [beq_eq_false_iff_ne];omega
 have e7:(k9 == 7)=false:=by rw [beq_eq_false_iff_ne];omega
 have e8:(k9 == 8)=false:=by rw [beq_eq_false_iff_ne];omega
 clear h4
 clear hv hf
 unfold Tr.cells
 rw [hk]
 clear hk hts
 have HNO:=Lib.hid (fun w=>rrnone_any s c e0 false hs w)
 go_enter Tryd.func124,Tryd.ntmps124
 have hb1:Below w.heap.size w ((w.alloc (.cells #[.int .i64 k9,.int .u64 (Oc.U t.w0),.int .u64 (Oc.U t.w1),.int .u64 (Oc.U t.w2),.int .u64 (Oc.U t.w3),.slice p ts.length cap,.int .i64 t.num,.int .i64 t.least,.int .i64 t.most,.bool t.bare] 37)).alloc (.cells #[.string s,.int .i64 c,.int .i64 e0,.bool false] 61)):=by go_grown
 have Y0:=Lib.hid (show ((w.alloc (.cells #[.int .i64 k9,.int .u64 (Oc.U t.w0),.int .u64 (Oc.U t.w1),.int .u64 (Oc.U t.w2),.int .u64 (Oc.U t.w3),.slice p ts.length cap,.int .i64 t.num,.int .i64 t.least,.int .i64 t.most,.bool t.bare] 37)).alloc (.cells #[.string s,.int .i64 c,.int .i64 e0,.bool false] 61)).heap[w.heap.size]? = some (.cells #[.int .i64 k9,.int .u64 (Oc.U t.w0),.int .u64 (Oc.U t.w1),.int .u64 (Oc.U t.w2),.int .u64 (Oc.U t.w3),.slice p ts.length cap,.int .i64 t.num,.int .i64 t.least,.int .i64 t.most,.bool t.bare] 37) from heap_alloc_lt (heap_alloc_new _ _))
 have Y1:=Lib.hid (show ((w.alloc (.cells #[.int .i64 k9,.int .u64 (Oc.U t.w0),.int .u64 (Oc.U t.w1),.int .u64 (Oc.U t.w2),.int .u64 (Oc.U t.w3),.slice p ts.length cap,.int .i64 t.num,.int .i64 t.least,.int .i64 t.most,.bool t.bare] 37)).alloc (.cells #[.string s,.int .i64 c,.int .i64 e0,.bool false] 61)).heap[w.heap.size+1]? = some (.cells #[.string s,.int .i64 c,.int .i64 e0,.bool false] 61) from new_at _ _ _ (by simp))
 have HB1:=Lib.hid hb1
 clear hb1
 go_upto_region 1 with (fail)
 generalize (w.alloc (.cells #[.int .i64 k9,.int .u64 (Oc.U t.w0),.int .u64 (Oc.U t.w1),.int .u64 (Oc.U t.w2),.int .u64 (Oc.U t.w3),.slice p ts.length cap,.int .i64 t.num,.int .i64 t.least,.int .i64 t.most,.bool t.bare] 37)).alloc (.cells #[.string s,.int .i64 c,.int .i64 e0,.bool false] 61)=W1 at *
 go_wp2_with (first
   | (refine wpList_load_row rfl 61 (.tmp 4) rfl (w.heap.size+1) rfl 61 _ (0,0) _ Y1.out Tryd.underlying61 rfl (by kernel_rfl) ?_)
   | fail)
 refine (HNO.out W1).mono ?_
 rintro e w2 ⟨g,rfl,hg0,hg,hb2⟩
 have HB:=Lib.hid (HB1.out.trans (hb2.mono HB1.out.size));have ZN:=Lib.hid (keep_blk hb2 Y0.out);have ZS:=Lib.hid (keep_blk hb2 Y1.out);have Z7:=Lib.hid hg
 have HF:=Lib.hid (HF0.out.below HB.out)
 have G7:=Lib.hid (show w.heap.size+1 < g from Nat.lt_of_lt_of_le (Array.getElem?_eq_some_iff.1 Y1.out).1 hg0)
 clear hg0 hg hb2 HB1 Y0 Y1 HNO
 by_cases hex:∃ i,i < s.size+1∧F i=true
 · have HSO:=Lib.hid (rrsome_any (s.size+1) (by omega) F true ⟨fun _=>hex,fun _=>rfl⟩ f w2 HF.out)
   clear hex
   go_wp2_with fail
   refine HSO.out.mono ?_
   rintro e w3 ⟨rfl,rfl⟩
   clear HSO
   obtain ⟨n0,n1,n2,n3,n4,n5,n6,n7,n8,n9⟩:=allTen ZN.out
   generalize hn:s.size=n at *
   go_wp2
   go_loopw [11] (fun iv wr=>∃ k:Nat,iv=.int .i64 (k:Int)∧k ≤ n+1∧Hid (Below w.heap.size w wr)∧Hid (wr.heap[w.heap.size]? = some (.cells #[.int .i64 k9,.int .u64 (Oc.U t.w0),.int .u64 (Oc.U t.w1),.int .u64 (Oc.U t.w2),.int .u64 (Oc.U t.w3),.slice p ts.length cap,.int .i64 t.num,.int .i64 t.least,.int .i64 t.most,.bool t.bare] 37))∧Hid (wr.heap[w.heap.size+1]? = some (.cells #[.string s,.int .i64 c,.int .i64 e0,.bool false] 61))∧Hid (BlAt wr f (n+1) F)∧(∃ G,Hid (wr.heap[g]? = some (.cells (bl (n+1) G) 4))∧Hid (∀ j,j ≤ n→(G j=true ↔ ∃ i,i < k∧F i=true∧Re.leafV (Sc.new s c e0) t i=(j:Int))))) (fun iv _=>n+1 - (intOf iv).toNat)
   case atStart=>exact ⟨0,rfl,Nat.zero_le _,HB,ZN,ZS,HF,fun _=>false,Z7,Lib.hid (fun j _=>⟨fun h=>by simp at h,fun ⟨i,hi,_⟩=>by omega⟩)⟩
   case round =>
     clear HB ZN ZS HF Z7 n0 n1 n2 n3 n4 n5 n6 n7 n8 n9
     obtain ⟨k,rfl,hk,HB,ZN,ZS,HF,G,Z7,HG⟩:=hrel
     have hF:=HF.out
     obtain ⟨gf,rfl,hgf⟩:=hF
     have GF:=Lib.hid hgf
     have HF2:=Lib.hid HF.out
     clear HF hgf
     by_cases hlt:k < n+1
     · have wi:IntKind.i64.wrap ((k:Int)+1)=(k:Int)+1:=IntWalk.i64_in _ (by omega)
       obtain ⟨l0,-⟩:=bl_cell hlt GF.out
       have hki:(k:Int) < ((n+1:Nat):Int):=by omega
       have HON:=Lib.hid (fun j=>Tr.tk_on (Sc.new s c e0) t k j (by show k ≤ s.size;omega))
       cases hfk:F k with
       | false =>
         rw [hfk] at l0
         have HFK:=Lib.hid hfk
         clear hfk
         go_wp2
         exact ⟨⟨k+1,by go_num,by omega,HB,ZN,ZS,HF2,G,Z7,Lib.hid (fun j hj=>by
           rw [HG.out j hj]
           constructor
           · rintro ⟨i,a,b,c⟩;exact ⟨i,by omega,b,c⟩
           · rintro ⟨i,a,b,c⟩
             refine ⟨i, ?_,b,c⟩
             by_cases e:i=k
             · subst e;rw [HFK.out] at b;exact absurd b (by decide)
             · omega)⟩,by simp [intOf];omega⟩
       | true =>
         rw [hfk] at l0
         have HFK:=Lib.hid hfk
         have HL:=Lib.hid (HLF.out k (by omega))
         have HTKk:=Lib.hid (fun j=>HTK.out k j)
         clear hfk HTK
         generalize hL:Re.leafV (Sc.new s c e0) t k=L at *
         have HLL:=Lib.hid hL
         clear hL
         go_wp2_with (first
           | (refine wpList_load_row rfl 37 (.tmp 3) rfl w.heap.size rfl 37 _ (0,0) _ ZN.out Tryd.underlying37 rfl (by kernel_rfl) ?_)
           | (refine wpList_load_row rfl 61 (.tmp 4) rfl (w.heap.size+1) rfl 61 _ (0,0) _ ZS.out Tryd.underlying61 rfl (by kernel_rfl) ?_)
           | fail)
         refine (HL.out _).mono ?_
         rintro e w4 ⟨rfl,hb4⟩
         have HB4:=Lib.hid (HB.out.trans (hb4.mono HB.out.size));have YN:=Lib.hid (keep_blk hb4 ZN.out);have YS:=Lib.hid (keep_blk hb4 ZS.out);have YF:=Lib.hid (HF2.out.below hb4);have Y7:=Lib.hid (keep_blk hb4 Z7.out)
         clear hb4 HB ZN ZS HF2 Z7 HL GF
         by_cases h0:0 ≤ L
         · obtain ⟨j,rfl⟩:∃ j:Nat,L=j:=⟨L.toNat,by omega⟩
           have hjn:j < n+1:=by have:=(HON.out j ((HTKk.out j).1 rfl)).2;have:j ≤ s.size:=this;omega
           obtain ⟨l1,f1⟩:=bl_cell hjn Y7.out
           have hji:(j:Int) < ((n+1:Nat):Int):=by omega
           have K7:=Lib.hid (bl_put (G:=fun i=>G i || decide (i=j)) (v:=true) hjn Y7.out (by simp) (fun i hi=>by simp [hi]))
           clear h0
           go_wp2
           refine ⟨⟨k+1,by go_num,by omega,Lib.hid (HB4.out.setCell (by have:=G7.out;show w.heap.size ≤ g;omega) _),Lib.hid ?_,Lib.hid ?_,Lib.hid ?_,_,K7,Lib.hid (fun j' hj'=>?_)⟩,by simp [intOf];omega⟩
           · exact (Below.heap_setCell _ _ _ _ (by have:=G7.out;show w.heap.size ≠ g;omega)).trans YN.out
           · exact (Below.heap_setCell _ _ _ _ (by have:=G7.out;show w.heap.size+1 ≠ g;omega)).trans YS.out
           · obtain ⟨gf',e,hgf⟩:=YF.out
             have hlt9:gf' < w.heap.size:=by
               obtain ⟨gf0,e0,h0⟩:=HF0.out
               rw [e0] at e
               have:=(Array.getElem?_eq_some_iff.1 h0).1
               injection e with e1 _ _
               injection e1 with e2
               injection e2 with e3
               omega
             exact ⟨gf',e,(Below.heap_setCell _ _ _ _ (by have:=G7.out;show gf' ≠ g;omega)).trans hgf⟩
           · rw [Bool.or_eq_true,HG.out j' hj',decide_eq_true_eq]
             constructor
             · rintro (⟨i,a,b,c⟩ | rfl)
               · exact ⟨i,by omega,b,c⟩
               · exact ⟨k,by omega,HFK.out,HLL.out⟩
             · rintro ⟨i,a,b,c⟩
               by_cases e:i=k
               · subst e;rw [HLL.out] at c;exact .inr (by omega)
               · exact .inl ⟨i,by omega,b,c⟩
         · have hdl:decide (0 ≤ L)=false:=decide_eq_false h0
           have HN0:=Lib.hid h0
           go_wp2
           refine ⟨⟨k+1,by go_num,by omega,HB4,YN,YS,YF,G,Y7,Lib.hid (fun j' hj'=>?_)⟩,by simp [intOf];omega⟩
           rw [HG.out j' hj']
           constructor
           · rintro ⟨i,a,b,c⟩;exact ⟨i,by omega,b,c⟩
           · rintro ⟨i,a,b,c⟩
             refine ⟨i, ?_,b,c⟩
             by_cases e:i=k
             · subst e;rw [HLL.out] at c;have:=HN0.out;omega
             · omega
     · obtain rfl:k=n+1:=by omega
       go_wp2
       go_ret
       refine ⟨_,rfl,⟨G,⟨g,rfl,Z7.out⟩,fun j hj=>?_⟩,HB.out⟩
       rw [HG.out j hj]
       constructor
       · rintro ⟨i,a,b,c⟩;exact ⟨i,by omega,b,(HTK.out i j).1 c⟩
       · rintro ⟨i,a,b,c⟩;exact ⟨i,by omega,b,(HTK.out i j).2 c⟩
 · have HSO:=Lib.hid (rrsome_any (s.size+1) (by omega) F false ⟨fun h=>absurd h (by decide),fun h=>absurd h hex⟩ f w2 HF.out)
   have HNX:=Lib.hid (show ∀ i,i ≤ s.size→F i=false from fun i hi=>by
     cases h:F i with
     | false=>rfl
     | true=>exact absurd ⟨i,by omega,h⟩ hex)
   clear hex
   go_wp2_with fail
   refine HSO.out.mono ?_
   rintro e w3 ⟨rfl,rfl⟩
   go_wp2
   go_ret
   exact ⟨_,rfl,⟨fun _=>false,⟨g,rfl,Z7.out⟩,Re.Leads.none HNX.out (fun _ _=>rfl)⟩,HB.out⟩
theorem rrover_seq (s:ByteArray) (c e0:Int) (hs:s.size ≤ 1000000) (t:Tr) (hk:t.kind=5) (IH:∀ u,u ∈ t.subs→Overs s c e0 u) (w:World) (B:Nat→Prop) (v f:Value) (F:Nat→Bool) (hv:TreesAt w B v t.subs) (hf:BlAt w f (s.size+1) F) :
   Calls Tryd.prog 124 #[.agg (t.cells v),.agg #[.string s,.int .i64 c,.int .i64 e0,.bool false],f] w (OvEnd s.size (Tr.tk (Sc.new s c e0) t) F w):=by
 generalize hts:t.subs=ts at *
 obtain ⟨p,cap,rfl,hlen⟩:=hv.slice
 have HV:=Lib.hid hv;have HF0:=Lib.hid hf
 have HTK:=Lib.hid (show ∀ i j,Tr.tk (Sc.new s c e0) t i j ↔ Tr.tkSeq (Sc.new s c e0) ts i j from fun i j=>by rw [Tr.tk_seq hk,hts])
 have HI:=Lib.hid IH
 clear IH
 clear hv hf
 unfold Tr.cells
 rw [hk]
 clear hk hts
 have HNO:=Lib.hid (fun w=>rrnone_any s c e0 false hs w)
 go_enter Tryd.func124,Tryd.ntmps124
 have hb1:Below w.heap.size w ((w.alloc (.cells #[.int .i64 5,.int .u64 (Oc.U t.w0),.int .u64 (Oc.U t.w1),.int .u64 (Oc.U t.w2),.int .u64 (Oc.U t.w3),.slice p ts.length cap,.int .i64 t.num,.int .i64 t.least,.int .i64 t.most,.bool t.bare] 37)).alloc (.cells #[.string s,.int .i64 c,.int .i64 e0,.bool false] 61)):=by go_grown
 have Y0:=Lib.hid (show ((w.alloc (.cells #[.int .i64 5,.int .u64 (Oc.U t.w0),.int .u64 (Oc.U t.w1),.int .u64 (Oc.U t.w2),.int .u64 (Oc.U t.w3),.slice p ts.length cap,.int .i64 t.num,.int .i64 t.least,.int .i64 t.most,.bool t.bare] 37)).alloc (.cells #[.string s,.int .i64 c,.int .i64 e0,.bool false] 61)).heap[w.heap.size]? = some (.cells #[.int .i64 5,.int .u64 (Oc.U t.w0),.int .u64 (Oc.U t.w1),.int .u64 (Oc.U t.w2),.int .u64 (Oc.U t.w3),.slice p ts.length cap,.int .i64 t.num,.int .i64 t.least,.int .i64 t.most,.bool t.bare] 37) from heap_alloc_lt (heap_alloc_new _ _))
 have Y1:=Lib.hid (show ((w.alloc (.cells #[.int .i64 5,.int .u64 (Oc.U t.w0),.int .u64 (Oc.U t.w1),.int .u64 (Oc.U t.w2),.int .u64 (Oc.U t.w3),.slice p ts.length cap,.int .i64 t.num,.int .i64 t.least,.int .i64 t.most,.bool t.bare] 37)).alloc (.cells #[.string s,.int .i64 c,.int .i64 e0,.bool false] 61)).heap[w.heap.size+1]? = some (.cells #[.string s,.int .i64 c,.int .i64 e0,.bool false] 61) from new_at _ _ _ (by simp))
 have HB1:=Lib.hid hb1
 clear hb1
 go_upto_region 1 with (fail)
 generalize (w.alloc (.cells #[.int .i64 5,.int .u64 (Oc.U t.w0),.int .u64 (Oc.U t.w1),.int .u64 (Oc.U t.w2),.int .u64 (Oc.U t.w3),.slice p ts.length cap,.int .i64 t.num,.int .i64 t.least,.int .i64 t.most,.bool t.bare] 37)).alloc (.cells #[.string s,.int .i64 c,.int .i64 e0,.bool false] 61)=W1 at *
 go_wp2_with (first
   | (refine wpList_load_row rfl 61 (.tmp 4) rfl (w.heap.size+1) rfl 61 _ (0,0) _ Y1.out Tryd.underlying61 rfl (by kernel_rfl) ?_)
   | fail)
 refine (HNO.out W1).mono ?_
 rintro e w2 ⟨g,rfl,hg0,hg,hb2⟩
 have HB:=Lib.hid (HB1.out.trans (hb2.mono HB1.out.size));have ZN:=Lib.hid (keep_blk hb2 Y0.out);have ZS:=Lib.hid (keep_blk hb2 Y1.out);have Z7:=Lib.hid hg
 have HF:=Lib.hid (HF0.out.below HB.out)
 have G7:=Lib.hid (show w.heap.size+1 < g from Nat.lt_of_lt_of_le (Array.getElem?_eq_some_iff.1 Y1.out).1 hg0)
 clear hg0 hg hb2 HB1 Y0 Y1 HNO
 by_cases hex:∃ i,i < s.size+1∧F i=true
 · have HSO:=Lib.hid (rrsome_any (s.size+1) (by omega) F true ⟨fun _=>hex,fun _=>rfl⟩ f w2 HF.out)
   clear hex
   go_wp2_with fail
   refine HSO.out.mono ?_
   rintro e w3 ⟨rfl,rfl⟩
   clear HSO
   obtain ⟨n0,n1,n2,n3,n4,n5,n6,n7,n8,n9⟩:=allTen ZN.out
   have hR0:OvAt w3 f s.size (Tr.tkSeq (Sc.new s c e0) (ts.take 0)) F:=⟨F,HF.out,(Re.Leads.self s.size F).congr fun i j _=>by simp [Tr.tkSeq]⟩
   have HR0:=Lib.hid hR0
   clear hR0
   go_wp2
   go_loopw [2,9] (fun fv iv wr=>∃ m:Nat,iv=.int .i64 (m:Int)∧m ≤ ts.length∧Hid (Below w.heap.size w wr)∧Hid (wr.heap[w.heap.size]? = some (.cells #[.int .i64 5,.int .u64 (Oc.U t.w0),.int .u64 (Oc.U t.w1),.int .u64 (Oc.U t.w2),.int .u64 (Oc.U t.w3),.slice p ts.length cap,.int .i64 t.num,.int .i64 t.least,.int .i64 t.most,.bool t.bare] 37))∧Hid (wr.heap[w.heap.size+1]? = some (.cells #[.string s,.int .i64 c,.int .i64 e0,.bool false] 61))∧Hid (BlAt wr f (s.size+1) F)∧Hid (OvAt wr fv s.size (Tr.tkSeq (Sc.new s c e0) (ts.take m)) F)) (fun _ iv _=>ts.length - (intOf iv).toNat)
   case atStart=>exact ⟨0,rfl,Nat.zero_le _,HB,ZN,ZS,HF,HR0⟩
   case round =>
     clear HB ZN ZS HF Z7 n0 n1 n2 n3 n4 n5 n6 n7 n8 n9 HR0
     obtain ⟨m,rfl,hm,HB,ZN,ZS,HF,HR⟩:=hrel
     obtain ⟨n0,n1,n2,n3,n4,n5,n6,n7,n8,n9⟩:=allTen ZN.out
     by_cases hlt:m < ts.length
     · have wi:IntKind.i64.wrap ((m:Int)+1)=(m:Int)+1:=IntWalk.i64_in _ (by omega)
       have hmi:(m:Int) < (ts.length:Int):=by omega
       obtain ⟨u,hu⟩:∃ u,ts[m]? = some u:=⟨_,List.getElem?_eq_getElem hlt⟩
       obtain ⟨b1,o1,s1,rfl,-,t1,sub1⟩:=HV.out.get hu
       obtain ⟨p1,c1,rfl,hl1⟩:=sub1.slice
       have T1:=Lib.hid (t1.keep (HB.out.block _ t1.lt))
       have HC:=Lib.hid (show ∀ w9,Below wr.heap.size wr w9→Calls Tryd.prog 124 #[.agg #[.int .i64 u.kind,.int .u64 (Oc.U u.w0),.int .u64 (Oc.U u.w1),.int .u64 (Oc.U u.w2),.int .u64 (Oc.U u.w3),.slice p1 u.subs.length c1,.int .i64 u.num,.int .i64 u.least,.int .i64 u.most,.bool u.bare],.agg #[.string s,.int .i64 c,.int .i64 e0,.bool false],u2] w9 fun e w'=>∃ v,e=.returned v∧OvAt w' v s.size (Tr.tkSeq (Sc.new s c e0) (ts.take (m+1))) F∧Below w9.heap.size w9 w' from fun w9 hb=>by
         obtain ⟨G,hG,hL⟩:=HR.out
         refine (HI.out u (List.mem_of_getElem? hu) w9 B (.agg (u.cells (.slice p1 u.subs.length c1))) u2 G ⟨_,rfl,sub1.later (HB.out.trans (hb.mono HB.out.size))⟩ (hG.below hb)).mono ?_
         rintro e w8 ⟨v,rfl,⟨G',h1,h2⟩,hb8⟩
         exact ⟨v,rfl,⟨G',h1,(hL.trans (Tr.tkSeq_on fun q _=>Tr.tk_on (Sc.new s c e0) q) h2).congr fun i j _=>(Tr.tkSeq_take (Sc.new s c e0) ts m u hu i j).symm⟩,hb8⟩)
       clear t1 sub1 hu n0 n1 n2 n3 n4 n6 n7 n8 n9 HI HV
       go_wp2_with fail
       refine Ri.wp_region_late (by kernel_rfl) (by kernel_rfl) (by kernel_rfl) (by kernel_rfl)
         (fun L v w'=>Below wr.heap.size wr w'∧(L 8=true→L 6=true)∧(L 0=true→v 0=.pointer (some ⟨w.heap.size,5,none⟩))∧(L 1=true→v 1=.slice (some ⟨b1,o1,none⟩) ts.length cap)∧(L 2=true→v 2=.int .i64 (m:Int))∧(L 3=true→v 3=.pointer (some ⟨b1,o1+m * 10,none⟩))∧(L 4=true→v 4=.agg #[.int .i64 u.kind,.int .u64 (Oc.U u.w0),.int .u64 (Oc.U u.w1),.int .u64 (Oc.U u.w2),.int .u64 (Oc.U u.w3),.slice p1 u.subs.length c1,.int .i64 u.num,.int .i64 u.least,.int .i64 u.most,.bool u.bare])∧(L 5=true→v 5=.agg #[.string s,.int .i64 c,.int .i64 e0,.bool false])∧(L 6=true→v 6=u2)∧(L 7=true→OvAt w' (v 7) s.size (Tr.tkSeq (Sc.new s c e0) (ts.take (m+1))) F)∧(L 8=true→OvAt w' (v 8) s.size (Tr.tkSeq (Sc.new s c e0) (ts.take (m+1))) F))
         ?_ ?_ ?_
       · exact ⟨(Below.refl _ _).drew,by simp,by simp,by simp,by simp,by simp,by simp,by simp,by simp,by simp,by simp⟩
       · intro i hi9 L v w9 xa hI hL hd hv ho hno
         have hi':i=0 ∨ i=1 ∨ i=2 ∨ i=3 ∨ i=4 ∨ i=5 ∨ i=6 ∨ i=7 ∨ i=8:=by simp at hi9;omega
         obtain ⟨hb,c0,q0,q1,q2,q3,q4,q5,q6,q7,q8⟩:=hI
         rcases hi' with rfl | rfl | rfl | rfl | rfl | rfl | rfl | rfl | rfl
         · have e3:xa.tmps.getD 3 undef=.pointer (some ⟨w.heap.size,0,none⟩):=ho 3 (by kernel_rfl)
           refine Ri.step_plain rfl rfl (fun K' hK=>?_)
           go_simp
           exact hK _ _ ⟨_,_,rfl,rfl,hb,c0,fun _=>rfl,q1,q2,q3,q4,q5,q6,q7,q8⟩
         · have l0:L 0=true:=by have:=hd _ rfl;simp [Region.binds] at this;simp [this]
           have f0:=(hv 0 31 rfl l0).trans (q0 l0)
           refine Ri.step_plain rfl rfl (fun K' hK=>?_)
           obtain ⟨-,-,-,-,-,m5,-,-,-,-⟩:=allTen (keep_blk hb ZN.out)
           go_simp
           exact hK _ _ ⟨_,_,rfl,rfl,hb,c0,q0,fun _=>rfl,q2,q3,q4,q5,q6,q7,q8⟩
         · have e9:xa.tmps.getD 9 undef=.int .i64 (m:Int):=ho 9 (by kernel_rfl)
           refine Ri.step_plain rfl rfl (fun K' hK=>?_)
           go_simp
           exact hK _ _ ⟨_,_,rfl,rfl,hb,c0,q0,q1,fun _=>rfl,q3,q4,q5,q6,q7,q8⟩
         · have l0:L 1=true∧L 2=true:=by have:=hd _ rfl;simp [Region.binds] at this;simp [this]
           have f1:=(hv 1 32 rfl l0.1).trans (q1 l0.1)
           have f2:=(hv 2 33 rfl l0.2).trans (q2 l0.2)
           refine Ri.step_plain rfl rfl (fun K' hK=>?_)
           go_simp
           exact hK _ _ ⟨_,_,rfl,rfl,hb,c0,q0,q1,q2,fun _=>rfl,q4,q5,q6,q7,q8⟩
         · have l0:L 3=true:=by have:=hd _ rfl;simp [Region.binds] at this;simp [this]
           have f3:=(hv 3 34 rfl l0).trans (q3 l0)
           refine Ri.step_plain rfl rfl (fun K' hK=>?_)
           obtain ⟨d0,d1,d2,d3,d4,d5,d6,d7,d8,d9⟩:=T1.out.keep (hb.block _ T1.out.lt)
           go_simp
           exact hK _ _ ⟨_,_,rfl,rfl,hb,c0,q0,q1,q2,q3,fun _=>rfl,q5,q6,q7,q8⟩
         · have e4:xa.tmps.getD 4 undef=.pointer (some ⟨(w.heap.size+1),0,none⟩):=ho 4 (by kernel_rfl)
           refine Ri.step_plain rfl rfl (fun K' hK=>?_)
           refine wp_load_row _ _ rfl _ e4 _ _ _ _ (keep_blk hb ZS.out) Tryd.underlying61 rfl (by kernel_rfl) ?_
           exact hK _ _ ⟨_,_,rfl,rfl,hb,c0,q0,q1,q2,q3,q4,fun _=>rfl,q6,q7,q8⟩
         · have hl9:L 8=false:=by cases h:L 8 with | false=>rfl | true=>exact absurd (c0 h) (by rw [hL];decide)
           have e2:xa.tmps.getD 2 undef=u2:=hno 8 2 rfl hl9
           refine Ri.step_plain rfl rfl (fun K' hK=>?_)
           go_simp
           exact hK _ _ ⟨_,_,rfl,rfl,hb,(fun _=>rfl),q0,q1,q2,q3,q4,q5,fun _=>rfl,q7,q8⟩
         · have l0:L 4=true∧L 5=true∧L 6=true:=by have:=hd _ rfl;simp [Region.binds] at this;simp [this]
           have f4:=(hv 4 35 rfl l0.1).trans (q4 l0.1)
           have f5:=(hv 5 36 rfl l0.2.1).trans (q5 l0.2.1)
           have f6:=(hv 6 37 rfl l0.2.2).trans (q6 l0.2.2)
           refine Ri.step_plain rfl rfl (fun K' hK=>?_)
           go_simp
           refine (HC.out w9 hb).mono ?_
           rintro e w8 ⟨v8,rfl,hv8,hb8⟩
           exact hK _ _ ⟨_,_,rfl,rfl,hb.trans (hb8.mono hb.size),c0,q0,q1,q2,q3,q4,q5,q6,fun _=>hv8,fun l=>(q8 l).below hb8⟩
         · have la0:L 6=true:=by have:=hd _ rfl;simp [Region.binds] at this;simp [this]
           have l0:L 7=true:=by have:=hd _ rfl;simp [Region.binds] at this;simp [this]
           have f7:=hv 7 38 rfl l0
           refine Ri.step_plain rfl rfl (fun K' hK=>?_)
           have hq9:=(q7 l0)
           go_simp
           exact hK _ _ ⟨_,_,rfl,rfl,hb,(fun _=>la0),q0,q1,q2,q3,q4,q5,q6,q7,fun _=>hq9⟩
       · rintro v w9 ⟨hb,-,-,-,-,-,-,-,-,-,q8⟩
         have E8:=Lib.hid (q8 rfl)
         simp only [Ri.frame,List.zipIdx,List.foldl_cons,List.foldl_nil,if_true,List.setIfInBounds_toArray,List.set_cons_zero,List.set_cons_succ,Nat.reduceAdd]
         clear q8
         generalize v 0=y0;generalize v 1=y1;generalize v 2=y2;generalize v 3=y3;generalize v 4=y4;generalize v 5=y5;generalize v 6=y6;generalize v 7=y7;generalize v 8=y8 at *
         go_wp2
         exact ⟨⟨m+1,by go_num,by omega,Lib.hid (HB.out.trans (hb.mono HB.out.size)),Lib.hid (keep_blk hb ZN.out),Lib.hid (keep_blk hb ZS.out),Lib.hid (HF.out.below hb),E8⟩,by simp [intOf];omega⟩
     · obtain rfl:m=ts.length:=by omega
       have hr:=HR.out
       rw [List.take_length] at hr
       have HR2:=Lib.hid hr
       clear hr HR
       go_wp2
       go_ret
       obtain ⟨G,h1,h2⟩:=HR2.out
       exact ⟨_,rfl,⟨G,h1,h2.congr fun i j _=>(HTK.out i j).symm⟩,HB.out⟩
 · have HSO:=Lib.hid (rrsome_any (s.size+1) (by omega) F false ⟨fun h=>absurd h (by decide),fun h=>absurd h hex⟩ f w2 HF.out)
   have HNX:=Lib.hid (show ∀ i,i ≤ s.size→F i=false from fun i hi=>by
     cases h:F i with
     | false=>rfl
     | true=>exact absurd ⟨i,by omega,h⟩ hex)
   clear hex
   go_wp2_with fail
   refine HSO.out.mono ?_
   rintro e w3 ⟨rfl,rfl⟩
   go_wp2
   go_ret
   exact ⟨_,rfl,⟨fun _=>false,⟨g,rfl,Z7.out⟩,Re.Leads.none HNX.out (fun _ _=>rfl)⟩,HB.out⟩
theorem rrover_alt (s:ByteArray) (c e0:Int) (hs:s.size ≤ 1000000) (t:Tr) (hk:t.kind=6) (IH:∀ u,u ∈ t.subs→Overs s c e0 u) (w:World) (B:Nat→Prop) (v f:Value) (F:Nat→Bool) (hv:TreesAt w B v t.subs) (hf:BlAt w f (s.size+1) F) :
   Calls Tryd.prog 124 #[.agg (t.cells v),.agg #[.string s,.int .i64 c,.int .i64 e0,.bool false],f] w (OvEnd s.size (Tr.tk (Sc.new s c e0) t) F w):=by
 generalize hts:t.subs=ts at *
 obtain ⟨p,cap,rfl,hlen⟩:=hv.slice
 have HV:=Lib.hid hv;have HF0:=Lib.hid hf
 have HTK:=Lib.hid (show ∀ i j,Tr.tk (Sc.new s c e0) t i j ↔ Tr.tkAlt (Sc.new s c e0) ts i j from fun i j=>by rw [Tr.tk_alt hk,hts])
 have HI:=Lib.hid IH
 clear IH
 clear hv hf
 unfold Tr.cells
 rw [hk]
 clear hk hts
 have HNO:=Lib.hid (fun w=>rrnone_any s c e0 false hs w)
 go_enter Tryd.func124,Tryd.ntmps124
 have hb1:Below w.heap.size w ((w.alloc (.cells #[.int .i64 6,.int .u64 (Oc.U t.w0),.int .u64 (Oc.U t.w1),.int .u64 (Oc.U t.w2),.int .u64 (Oc.U t.w3),.slice p ts.length cap,.int .i64 t.num,.int .i64 t.least,.int .i64 t.most,.bool t.bare] 37)).alloc (.cells #[.string s,.int .i64 c,.int .i64 e0,.bool false] 61)):=by go_grown
 have Y0:=Lib.hid (show ((w.alloc (.cells #[.int .i64 6,.int .u64 (Oc.U t.w0),.int .u64 (Oc.U t.w1),.int .u64 (Oc.U t.w2),.int .u64 (Oc.U t.w3),.slice p ts.length cap,.int .i64 t.num,.int .i64 t.least,.int .i64 t.most,.bool t.bare] 37)).alloc (.cells #[.string s,.int .i64 c,.int .i64 e0,.bool false] 61)).heap[w.heap.size]? = some (.cells #[.int .i64 6,.int .u64 (Oc.U t.w0),.int .u64 (Oc.U t.w1),.int .u64 (Oc.U t.w2),.int .u64 (Oc.U t.w3),.slice p ts.length cap,.int .i64 t.num,.int .i64 t.least,.int .i64 t.most,.bool t.bare] 37) from heap_alloc_lt (heap_alloc_new _ _))
 have Y1:=Lib.hid (show ((w.alloc (.cells #[.int .i64 6,.int .u64 (Oc.U t.w0),.int .u64 (Oc.U t.w1),.int .u64 (Oc.U t.w2),.int .u64 (Oc.U t.w3),.slice p ts.length cap,.int .i64 t.num,.int .i64 t.least,.int .i64 t.most,.bool t.bare] 37)).alloc (.cells #[.string s,.int .i64 c,.int .i64 e0,.bool false] 61)).heap[w.heap.size+1]? = some (.cells #[.string s,.int .i64 c,.int .i64 e0,.bool false] 61) from new_at _ _ _ (by simp))
 have HB1:=Lib.hid hb1
 clear hb1
 go_upto_region 1 with (fail)
 generalize (w.alloc (.cells #[.int .i64 6,.int .u64 (Oc.U t.w0),.int .u64 (Oc.U t.w1),.int .u64 (Oc.U t.w2),.int .u64 (Oc.U t.w3),.slice p ts.length cap,.int .i64 t.num,.int .i64 t.least,.int .i64 t.most,.bool t.bare] 37)).alloc (.cells #[.string s,.int .i64 c,.int .i64 e0,.bool false] 61)=W1 at *
 go_wp2_with (first
   | (refine wpList_load_row rfl 61 (.tmp 4) rfl (w.heap.size+1) rfl 61 _ (0,0) _ Y1.out Tryd.underlying61 rfl (by kernel_rfl) ?_)
   | fail)
 refine (HNO.out W1).mono ?_
 rintro e w2 ⟨g,rfl,hg0,hg,hb2⟩
 have HB:=Lib.hid (HB1.out.trans (hb2.mono HB1.out.size));have ZN:=Lib.hid (keep_blk hb2 Y0.out);have ZS:=Lib.hid (keep_blk hb2 Y1.out);have Z7:=Lib.hid hg
 have HF:=Lib.hid (HF0.out.below HB.out)
 have G7:=Lib.hid (show w.heap.size+1 < g from Nat.lt_of_lt_of_le (Array.getElem?_eq_some_iff.1 Y1.out).1 hg0)
 clear hg0 hg hb2 HB1 Y0 Y1 HNO
 by_cases hex:∃ i,i < s.size+1∧F i=true
 · have HSO:=Lib.hid (rrsome_any (s.size+1) (by omega) F true ⟨fun _=>hex,fun _=>rfl⟩ f w2 HF.out)
   clear hex
   go_wp2_with fail
   refine HSO.out.mono ?_
   rintro e w3 ⟨rfl,rfl⟩
   clear HSO
   obtain ⟨n0,n1,n2,n3,n4,n5,n6,n7,n8,n9⟩:=allTen ZN.out
   have hR0:OvAt w3 (.slice (some ⟨g,0,none⟩) (s.size+1) (s.size+1)) s.size (Tr.tkAlt (Sc.new s c e0) (ts.take 0)) F:=⟨fun _=>false,⟨g,rfl,Z7.out⟩,fun j _=>⟨fun h=>by simp at h,fun ⟨i,_,_,h⟩=>by simp [Tr.tkAlt] at h⟩⟩
   have HR0:=Lib.hid hR0
   clear hR0
   go_wp2
   go_loopw [7,10] (fun fv iv wr=>∃ m:Nat,iv=.int .i64 (m:Int)∧m ≤ ts.length∧Hid (Below w.heap.size w wr)∧Hid (wr.heap[w.heap.size]? = some (.cells #[.int .i64 6,.int .u64 (Oc.U t.w0),.int .u64 (Oc.U t.w1),.int .u64 (Oc.U t.w2),.int .u64 (Oc.U t.w3),.slice p ts.length cap,.int .i64 t.num,.int .i64 t.least,.int .i64 t.most,.bool t.bare] 37))∧Hid (wr.heap[w.heap.size+1]? = some (.cells #[.string s,.int .i64 c,.int .i64 e0,.bool false] 61))∧Hid (BlAt wr f (s.size+1) F)∧Hid (OvAt wr fv s.size (Tr.tkAlt (Sc.new s c e0) (ts.take m)) F)) (fun _ iv _=>ts.length - (intOf iv).toNat)
   case atStart=>exact ⟨0,rfl,Nat.zero_le _,HB,ZN,ZS,HF,HR0⟩
   case round =>
     clear HB ZN ZS HF Z7 n0 n1 n2 n3 n4 n5 n6 n7 n8 n9 HR0
     obtain ⟨m,rfl,hm,HB,ZN,ZS,HF,HR⟩:=hrel
     obtain ⟨n0,n1,n2,n3,n4,n5,n6,n7,n8,n9⟩:=allTen ZN.out
     by_cases hlt:m < ts.length
     · have wi:IntKind.i64.wrap ((m:Int)+1)=(m:Int)+1:=IntWalk.i64_in _ (by omega)
       have hmi:(m:Int) < (ts.length:Int):=by omega
       obtain ⟨u,hu⟩:∃ u,ts[m]? = some u:=⟨_,List.getElem?_eq_getElem hlt⟩
       obtain ⟨b1,o1,s1,rfl,-,t1,sub1⟩:=HV.out.get hu
       obtain ⟨p1,c1,rfl,hl1⟩:=sub1.slice
       have T1:=Lib.hid (t1.keep (HB.out.block _ t1.lt))
       have HC:=Lib.hid (show ∀ w9,Below wr.heap.size wr w9→Calls Tryd.prog 124 #[.agg #[.int .i64 u.kind,.int .u64 (Oc.U u.w0),.int .u64 (Oc.U u.w1),.int .u64 (Oc.U u.w2),.int .u64 (Oc.U u.w3),.slice p1 u.subs.length c1,.int .i64 u.num,.int .i64 u.least,.int .i64 u.most,.bool u.bare],.agg #[.string s,.int .i64 c,.int .i64 e0,.bool false],f] w9 fun e w'=>∃ v,e=.returned v∧OvAt w' v s.size (Tr.tk (Sc.new s c e0) u) F∧Below w9.heap.size w9 w' from fun w9 hb =>
         HI.out u (List.mem_of_getElem? hu) w9 B (.agg (u.cells (.slice p1 u.subs.length c1))) f F ⟨_,rfl,sub1.later (HB.out.trans (hb.mono HB.out.size))⟩ (HF.out.below hb))
       obtain ⟨GT,hGT,hLT⟩:=HR.out
       have HGT:=Lib.hid hGT
       have HBO:=Lib.hid (show ∀ w9,Below wr.heap.size wr w9→∀ v1,OvAt w9 v1 s.size (Tr.tk (Sc.new s c e0) u) F→Calls Tryd.prog 140 #[u7,v1] w9 fun e w'=>∃ v,e=.returned v∧OvAt w' v s.size (Tr.tkAlt (Sc.new s c e0) (ts.take (m+1))) F∧Below w9.heap.size w9 w' from fun w9 hb v1 h1=>by
         obtain ⟨G1,hG1,hL1⟩:=h1
         refine (rrboth_any (s.size+1) (by omega) GT G1 u7 v1 w9 (HGT.out.below hb) hG1).mono ?_
         rintro e w8 ⟨g8,rfl,-,hg8,hb8⟩
         exact ⟨_,rfl,⟨_,⟨g8,rfl,hg8⟩,(hLT.or hL1).congr fun i j _=>(Tr.tkAlt_take (Sc.new s c e0) ts m u hu i j).symm⟩,hb8⟩)
       clear hGT hLT
       clear t1 sub1 hu n0 n1 n2 n3 n4 n6 n7 n8 n9 HI HV
       go_wp2_with fail
       refine Ri.wp_region_late (by kernel_rfl) (by kernel_rfl) (by kernel_rfl) (by kernel_rfl)
         (fun L v w'=>Below wr.heap.size wr w'∧(L 10=true→L 0=true)∧(L 0=true→v 0=u7)∧(L 1=true→v 1=.pointer (some ⟨w.heap.size,5,none⟩))∧(L 2=true→v 2=.slice (some ⟨b1,o1,none⟩) ts.length cap)∧(L 3=true→v 3=.int .i64 (m:Int))∧(L 4=true→v 4=.pointer (some ⟨b1,o1+m * 10,none⟩))∧(L 5=true→v 5=.agg #[.int .i64 u.kind,.int .u64 (Oc.U u.w0),.int .u64 (Oc.U u.w1),.int .u64 (Oc.U u.w2),.int .u64 (Oc.U u.w3),.slice p1 u.subs.length c1,.int .i64 u.num,.int .i64 u.least,.int .i64 u.most,.bool u.bare])∧(L 6=true→v 6=.agg #[.string s,.int .i64 c,.int .i64 e0,.bool false])∧(L 7=true→v 7=f)∧(L 8=true→OvAt w' (v 8) s.size (Tr.tk (Sc.new s c e0) u) F)∧(L 9=true→OvAt w' (v 9) s.size (Tr.tkAlt (Sc.new s c e0) (ts.take (m+1))) F)∧(L 10=true→OvAt w' (v 10) s.size (Tr.tkAlt (Sc.new s c e0) (ts.take (m+1))) F))
         ?_ ?_ ?_
       · exact ⟨(Below.refl _ _).drew,by simp,by simp,by simp,by simp,by simp,by simp,by simp,by simp,by simp,by simp,by simp,by simp⟩
       · intro i hi9 L v w9 xa hI hL hd hv ho hno
         have hi':i=0 ∨ i=1 ∨ i=2 ∨ i=3 ∨ i=4 ∨ i=5 ∨ i=6 ∨ i=7 ∨ i=8 ∨ i=9 ∨ i=10:=by simp at hi9;omega
         obtain ⟨hb,c0,q0,q1,q2,q3,q4,q5,q6,q7,q8,q9,q10⟩:=hI
         rcases hi' with rfl | rfl | rfl | rfl | rfl | rfl | rfl | rfl | rfl | rfl | rfl
         · have hl9:L 10=false:=by cases h:L 10 with | false=>rfl | true=>exact absurd (c0 h) (by rw [hL];decide)
           have e7:xa.tmps.getD 7 undef=u7:=hno 10 7 rfl hl9
           refine Ri.step_plain rfl rfl (fun K' hK=>?_)
           go_simp
           exact hK _ _ ⟨_,_,rfl,rfl,hb,(fun _=>rfl),fun _=>rfl,q1,q2,q3,q4,q5,q6,q7,q8,q9,q10⟩
         · have e3:xa.tmps.getD 3 undef=.pointer (some ⟨w.heap.size,0,none⟩):=ho 3 (by kernel_rfl)
           refine Ri.step_plain rfl rfl (fun K' hK=>?_)
           go_simp
           exact hK _ _ ⟨_,_,rfl,rfl,hb,c0,q0,fun _=>rfl,q2,q3,q4,q5,q6,q7,q8,q9,q10⟩
         · have l0:L 1=true:=by have:=hd _ rfl;simp [Region.binds] at this;simp [this]
           have f1:=(hv 1 50 rfl l0).trans (q1 l0)
           refine Ri.step_plain rfl rfl (fun K' hK=>?_)
           obtain ⟨-,-,-,-,-,m5,-,-,-,-⟩:=allTen (keep_blk hb ZN.out)
           go_simp
           exact hK _ _ ⟨_,_,rfl,rfl,hb,c0,q0,q1,fun _=>rfl,q3,q4,q5,q6,q7,q8,q9,q10⟩
         · have e10:xa.tmps.getD 10 undef=.int .i64 (m:Int):=ho 10 (by kernel_rfl)
           refine Ri.step_plain rfl rfl (fun K' hK=>?_)
           go_simp
           exact hK _ _ ⟨_,_,rfl,rfl,hb,c0,q0,q1,q2,fun _=>rfl,q4,q5,q6,q7,q8,q9,q10⟩
         · have l0:L 2=true∧L 3=true:=by have:=hd _ rfl;simp [Region.binds] at this;simp [this]
           have f2:=(hv 2 51 rfl l0.1).trans (q2 l0.1)
           have f3:=(hv 3 52 rfl l0.2).trans (q3 l0.2)
           refine Ri.step_plain rfl rfl (fun K' hK=>?_)
           go_simp
           exact hK _ _ ⟨_,_,rfl,rfl,hb,c0,q0,q1,q2,q3,fun _=>rfl,q5,q6,q7,q8,q9,q10⟩
         · have l0:L 4=true:=by have:=hd _ rfl;simp [Region.binds] at this;simp [this]
           have f4:=(hv 4 53 rfl l0).trans (q4 l0)
           refine Ri.step_plain rfl rfl (fun K' hK=>?_)
           obtain ⟨d0,d1,d2,d3,d4,d5,d6,d7,d8,d9⟩:=T1.out.keep (hb.block _ T1.out.lt)
           go_simp
           exact hK _ _ ⟨_,_,rfl,rfl,hb,c0,q0,q1,q2,q3,q4,fun _=>rfl,q6,q7,q8,q9,q10⟩
         · have e4:xa.tmps.getD 4 undef=.pointer (some ⟨(w.heap.size+1),0,none⟩):=ho 4 (by kernel_rfl)
           refine Ri.step_plain rfl rfl (fun K' hK=>?_)
           refine wp_load_row _ _ rfl _ e4 _ _ _ _ (keep_blk hb ZS.out) Tryd.underlying61 rfl (by kernel_rfl) ?_
           exact hK _ _ ⟨_,_,rfl,rfl,hb,c0,q0,q1,q2,q3,q4,q5,fun _=>rfl,q7,q8,q9,q10⟩
         · have e2:xa.tmps.getD 2 undef=f:=ho 2 (by kernel_rfl)
           refine Ri.step_plain rfl rfl (fun K' hK=>?_)
           go_simp
           exact hK _ _ ⟨_,_,rfl,rfl,hb,c0,q0,q1,q2,q3,q4,q5,q6,fun _=>rfl,q8,q9,q10⟩
         · have l0:L 5=true∧L 6=true∧L 7=true:=by have:=hd _ rfl;simp [Region.binds] at this;simp [this]
           have f5:=(hv 5 54 rfl l0.1).trans (q5 l0.1)
           have f6:=(hv 6 55 rfl l0.2.1).trans (q6 l0.2.1)
           have f7:=(hv 7 56 rfl l0.2.2).trans (q7 l0.2.2)
           refine Ri.step_plain rfl rfl (fun K' hK=>?_)
           go_simp
           refine (HC.out w9 hb).mono ?_
           rintro e w8 ⟨v8,rfl,hv8,hb8⟩
           exact hK _ _ ⟨_,_,rfl,rfl,hb.trans (hb8.mono hb.size),c0,q0,q1,q2,q3,q4,q5,q6,q7,fun _=>hv8,fun l=>(q9 l).below hb8,fun l=>(q10 l).below hb8⟩
         · have l0:L 0=true∧L 8=true:=by have:=hd _ rfl;simp [Region.binds] at this;simp [this]
           have f0:=(hv 0 49 rfl l0.1).trans (q0 l0.1)
           have f8:=hv 8 57 rfl l0.2
           refine Ri.step_plain rfl rfl (fun K' hK=>?_)
           have hq9:=(q8 l0.2)
           go_simp
           refine (HBO.out w9 hb _ hq9).mono ?_
           rintro e w8 ⟨v8,rfl,hv8,hb8⟩
           exact hK _ _ ⟨_,_,rfl,rfl,hb.trans (hb8.mono hb.size),c0,q0,q1,q2,q3,q4,q5,q6,q7,fun l=>(q8 l).below hb8,fun _=>hv8,fun l=>(q10 l).below hb8⟩
         · have la0:L 0=true:=by have:=hd _ rfl;simp [Region.binds] at this;simp [this]
           have l0:L 9=true:=by have:=hd _ rfl;simp [Region.binds] at this;simp [this]
           have f9:=hv 9 58 rfl l0
           refine Ri.step_plain rfl rfl (fun K' hK=>?_)
           have hq9:=(q9 l0)
           go_simp
           exact hK _ _ ⟨_,_,rfl,rfl,hb,(fun _=>la0),q0,q1,q2,q3,q4,q5,q6,q7,q8,q9,fun _=>hq9⟩
       · rintro v w9 ⟨hb,-,-,-,-,-,-,-,-,-,-,-,q10⟩
         have E10:=Lib.hid (q10 rfl)
         simp only [Ri.frame,List.zipIdx,List.foldl_cons,List.foldl_nil,if_true,List.setIfInBounds_toArray,List.set_cons_zero,List.set_cons_succ,Nat.reduceAdd]
         clear q10
         generalize v 0=y0;generalize v 1=y1;generalize v 2=y2;generalize v 3=y3;generalize v 4=y4;generalize v 5=y5;generalize v 6=y6;generalize v 7=y7;generalize v 8=y8;generalize v 9=y9;generalize v 10=y10 at *
         go_wp2
         exact ⟨⟨m+1,by go_num,by omega,Lib.hid (HB.out.trans (hb.mono HB.out.size)),Lib.hid (keep_blk hb ZN.out),Lib.hid (keep_blk hb ZS.out),Lib.hid (HF.out.below hb),E10⟩,by simp [intOf];omega⟩
     · obtain rfl:m=ts.length:=by omega
       have hr:=HR.out
       rw [List.take_length] at hr
       have HR2:=Lib.hid hr
       clear hr HR
       go_wp2
       go_ret
       obtain ⟨G,h1,h2⟩:=HR2.out
       exact ⟨_,rfl,⟨G,h1,h2.congr fun i j _=>(HTK.out i j).symm⟩,HB.out⟩
 · have HSO:=Lib.hid (rrsome_any (s.size+1) (by omega) F false ⟨fun h=>absurd h (by decide),fun h=>absurd h hex⟩ f w2 HF.out)
   have HNX:=Lib.hid (show ∀ i,i ≤ s.size→F i=false from fun i hi=>by
     cases h:F i with
     | false=>rfl
     | true=>exact absurd ⟨i,by omega,h⟩ hex)
   clear hex
   go_wp2_with fail
   refine HSO.out.mono ?_
   rintro e w3 ⟨rfl,rfl⟩
   go_wp2
   go_ret
   exact ⟨_,rfl,⟨fun _=>false,⟨g,rfl,Z7.out⟩,Re.Leads.none HNX.out (fun _ _=>rfl)⟩,HB.out⟩
theorem rrover_grp (s:ByteArray) (c e0:Int) (hs:s.size ≤ 1000000) (t:Tr) (hk:t.kind=7) (u:Tr) (hsub:t.subs=[u]) (IH:Overs s c e0 u) (w:World) (B:Nat→Prop) (v f:Value) (F:Nat→Bool) (hv:TreesAt w B v t.subs) (hf:BlAt w f (s.size+1) F) :
   Calls Tryd.prog 124 #[.agg (t.cells v),.agg #[.string s,.int .i64 c,.int .i64 e0,.bool false],f] w (OvEnd s.size (Tr.tk (Sc.new s c e0) t) F w):=by
 rw [hsub] at hv
 obtain ⟨p,cap,rfl,hlen⟩:=hv.slice
 have HV:=Lib.hid hv;have HF0:=Lib.hid hf
 have HTK:=Lib.hid (show ∀ i j,Tr.tk (Sc.new s c e0) t i j ↔ Tr.tk (Sc.new s c e0) u i j from fun i j=>Tr.tk_grp hk hsub i j)
 have HI:=Lib.hid IH
 unfold Tr.cells
 rw [hk]
 clear hk
 simp only [List.length_singleton] at *
 clear IH hsub
 clear hv hf
 have HNO:=Lib.hid (fun w=>rrnone_any s c e0 false hs w)
 go_enter Tryd.func124,Tryd.ntmps124
 have hb1:Below w.heap.size w ((w.alloc (.cells #[.int .i64 7,.int .u64 (Oc.U t.w0),.int .u64 (Oc.U t.w1),.int .u64 (Oc.U t.w2),.int .u64 (Oc.U t.w3),.slice p 1 cap,.int .i64 t.num,.int .i64 t.least,.int .i64 t.most,.bool t.bare] 37)).alloc (.cells #[.string s,.int .i64 c,.int .i64 e0,.bool false] 61)):=by go_grown
 have Y0:=Lib.hid (show ((w.alloc (.cells #[.int .i64 7,.int .u64 (Oc.U t.w0),.int .u64 (Oc.U t.w1),.int .u64 (Oc.U t.w2),.int .u64 (Oc.U t.w3),.slice p 1 cap,.int .i64 t.num,.int .i64 t.least,.int .i64 t.most,.bool t.bare] 37)).alloc (.cells #[.string s,.int .i64 c,.int .i64 e0,.bool false] 61)).heap[w.heap.size]? = some (.cells #[.int .i64 7,.int .u64 (Oc.U t.w0),.int .u64 (Oc.U t.w1),.int .u64 (Oc.U t.w2),.int .u64 (Oc.U t.w3),.slice p 1 cap,.int .i64 t.num,.int .i64 t.least,.int .i64 t.most,.bool t.bare] 37) from heap_alloc_lt (heap_alloc_new _ _))
 have Y1:=Lib.hid (show ((w.alloc (.cells #[.int .i64 7,.int .u64 (Oc.U t.w0),.int .u64 (Oc.U t.w1),.int .u64 (Oc.U t.w2),.int .u64 (Oc.U t.w3),.slice p 1 cap,.int .i64 t.num,.int .i64 t.least,.int .i64 t.most,.bool t.bare] 37)).alloc (.cells #[.string s,.int .i64 c,.int .i64 e0,.bool false] 61)).heap[w.heap.size+1]? = some (.cells #[.string s,.int .i64 c,.int .i64 e0,.bool false] 61) from new_at _ _ _ (by simp))
 have HB1:=Lib.hid hb1
 clear hb1
 go_upto_region 1 with (fail)
 generalize (w.alloc (.cells #[.int .i64 7,.int .u64 (Oc.U t.w0),.int .u64 (Oc.U t.w1),.int .u64 (Oc.U t.w2),.int .u64 (Oc.U t.w3),.slice p 1 cap,.int .i64 t.num,.int .i64 t.least,.int .i64 t.most,.bool t.bare] 37)).alloc (.cells #[.string s,.int .i64 c,.int .i64 e0,.bool false] 61)=W1 at *
 go_wp2_with (first
   | (refine wpList_load_row rfl 61 (.tmp 4) rfl (w.heap.size+1) rfl 61 _ (0,0) _ Y1.out Tryd.underlying61 rfl (by kernel_rfl) ?_)
   | fail)
 refine (HNO.out W1).mono ?_
 rintro e w2 ⟨g,rfl,hg0,hg,hb2⟩
 have HB:=Lib.hid (HB1.out.trans (hb2.mono HB1.out.size));have ZN:=Lib.hid (keep_blk hb2 Y0.out);have ZS:=Lib.hid (keep_blk hb2 Y1.out);have Z7:=Lib.hid hg
 have HF:=Lib.hid (HF0.out.below HB.out)
 have G7:=Lib.hid (show w.heap.size+1 < g from Nat.lt_of_lt_of_le (Array.getElem?_eq_some_iff.1 Y1.out).1 hg0)
 clear hg0 hg hb2 HB1 Y0 Y1 HNO
 by_cases hex:∃ i,i < s.size+1∧F i=true
 · have HSO:=Lib.hid (rrsome_any (s.size+1) (by omega) F true ⟨fun _=>hex,fun _=>rfl⟩ f w2 HF.out)
   clear hex
   go_wp2_with fail
   refine HSO.out.mono ?_
   rintro e w3 ⟨rfl,rfl⟩
   clear HSO
   obtain ⟨n0,n1,n2,n3,n4,n5,n6,n7,n8,n9⟩:=allTen ZN.out
   obtain ⟨b1,o1,s1,rfl,-,t1,sub1⟩:=HV.out.get (i:=0) (t:=u) rfl
   rw [Nat.zero_mul,Nat.add_zero] at t1
   obtain ⟨p1,c1,rfl,hl1⟩:=sub1.slice
   have T1:=Lib.hid (t1.keep (HB.out.block _ t1.lt))
   have HC:=Lib.hid (show ∀ w9,Below w3.heap.size w3 w9→Calls Tryd.prog 124 #[.agg #[.int .i64 u.kind,.int .u64 (Oc.U u.w0),.int .u64 (Oc.U u.w1),.int .u64 (Oc.U u.w2),.int .u64 (Oc.U u.w3),.slice p1 u.subs.length c1,.int .i64 u.num,.int .i64 u.least,.int .i64 u.most,.bool u.bare],.agg #[.string s,.int .i64 c,.int .i64 e0,.bool false],f] w9 fun e w'=>∃ v,e=.returned v∧OvAt w' v s.size (Tr.tk (Sc.new s c e0) u) F∧Below w9.heap.size w9 w' from fun w9 hb =>
     HI.out w9 B (.agg (u.cells (.slice p1 u.subs.length c1))) f F ⟨_,rfl,sub1.later (HB.out.trans (hb.mono HB.out.size))⟩ (HF.out.below hb))
   clear t1 sub1 HI HV
   go_wp2_with fail
   refine Ri.wp_region_frame (by kernel_rfl) (by kernel_rfl) (by kernel_rfl) (by kernel_rfl)
     (fun L v w'=>Below w3.heap.size w3 w'∧(L 0=true→v 0=.pointer (some ⟨w.heap.size,5,none⟩))∧(L 1=true→v 1=.slice (some ⟨b1,o1,none⟩) 1 cap)∧(L 2=true→v 2=.pointer (some ⟨b1,o1,none⟩))∧(L 3=true→v 3=.agg #[.int .i64 u.kind,.int .u64 (Oc.U u.w0),.int .u64 (Oc.U u.w1),.int .u64 (Oc.U u.w2),.int .u64 (Oc.U u.w3),.slice p1 u.subs.length c1,.int .i64 u.num,.int .i64 u.least,.int .i64 u.most,.bool u.bare])∧(L 4=true→v 4=.agg #[.string s,.int .i64 c,.int .i64 e0,.bool false])∧(L 5=true→v 5=f)∧(L 6=true→OvAt w' (v 6) s.size (Tr.tk (Sc.new s c e0) u) F)∧(L 7=true→OvAt w' (v 7) s.size (Tr.tk (Sc.new s c e0) u) F))
     ?_ ?_ ?_
   · exact ⟨(Below.refl _ _).drew,by simp,by simp,by simp,by simp,by simp,by simp,by simp,by simp⟩
   · intro i hi9 L v w9 xa hI hL hd hv ho
     have hi':i=0 ∨ i=1 ∨ i=2 ∨ i=3 ∨ i=4 ∨ i=5 ∨ i=6 ∨ i=7:=by simp at hi9;omega
     obtain ⟨hb,q0,q1,q2,q3,q4,q5,q6,q7⟩:=hI
     rcases hi' with rfl | rfl | rfl | rfl | rfl | rfl | rfl | rfl
     · have e3:xa.tmps.getD 3 undef=.pointer (some ⟨w.heap.size,0,none⟩):=ho 3 (by kernel_rfl)
       refine Ri.step_plain rfl rfl (fun K' hK=>?_)
       go_simp
       exact hK _ _ ⟨_,_,rfl,rfl,hb,fun _=>rfl,q1,q2,q3,q4,q5,q6,q7⟩
     · have l0:L 0=true:=by have:=hd _ rfl;simp [Region.binds] at this;simp [this]
       have f0:=(hv 0 62 rfl l0).trans (q0 l0)
       refine Ri.step_plain rfl rfl (fun K' hK=>?_)
       obtain ⟨-,-,-,-,-,m5,-,-,-,-⟩:=allTen (keep_blk hb ZN.out)
       go_simp
       exact hK _ _ ⟨_,_,rfl,rfl,hb,q0,fun _=>rfl,q2,q3,q4,q5,q6,q7⟩
     · have l0:L 1=true:=by have:=hd _ rfl;simp [Region.binds] at this;simp [this]
       have f1:=(hv 1 63 rfl l0).trans (q1 l0)
       refine Ri.step_plain rfl rfl (fun K' hK=>?_)
       go_simp
       exact hK _ _ ⟨_,_,rfl,rfl,hb,q0,q1,fun _=>rfl,q3,q4,q5,q6,q7⟩
     · have l0:L 2=true:=by have:=hd _ rfl;simp [Region.binds] at this;simp [this]
       have f2:=(hv 2 64 rfl l0).trans (q2 l0)
       refine Ri.step_plain rfl rfl (fun K' hK=>?_)
       obtain ⟨d0,d1,d2,d3,d4,d5,d6,d7,d8,d9⟩:=T1.out.keep (hb.block _ T1.out.lt)
       go_simp
       exact hK _ _ ⟨_,_,rfl,rfl,hb,q0,q1,q2,fun _=>rfl,q4,q5,q6,q7⟩
     · have e4:xa.tmps.getD 4 undef=.pointer (some ⟨(w.heap.size+1),0,none⟩):=ho 4 (by kernel_rfl)
       refine Ri.step_plain rfl rfl (fun K' hK=>?_)
       refine wp_load_row _ _ rfl _ e4 _ _ _ _ (keep_blk hb ZS.out) Tryd.underlying61 rfl (by kernel_rfl) ?_
       exact hK _ _ ⟨_,_,rfl,rfl,hb,q0,q1,q2,q3,fun _=>rfl,q5,q6,q7⟩
     · have e2:xa.tmps.getD 2 undef=f:=ho 2 (by kernel_rfl)
       refine Ri.step_plain rfl rfl (fun K' hK=>?_)
       go_simp
       exact hK _ _ ⟨_,_,rfl,rfl,hb,q0,q1,q2,q3,q4,fun _=>rfl,q6,q7⟩
     · have l0:L 3=true∧L 4=true∧L 5=true:=by have:=hd _ rfl;simp [Region.binds] at this;simp [this]
       have f3:=(hv 3 65 rfl l0.1).trans (q3 l0.1)
       have f4:=(hv 4 66 rfl l0.2.1).trans (q4 l0.2.1)
       have f5:=(hv 5 67 rfl l0.2.2).trans (q5 l0.2.2)
       refine Ri.step_plain rfl rfl (fun K' hK=>?_)
       go_simp
       refine (HC.out w9 hb).mono ?_
       rintro e w8 ⟨v8,rfl,hv8,hb8⟩
       exact hK _ _ ⟨_,_,rfl,rfl,hb.trans (hb8.mono hb.size),q0,q1,q2,q3,q4,q5,fun _=>hv8,fun l=>(q7 l).below hb8⟩
     · have l0:L 6=true:=by have:=hd _ rfl;simp [Region.binds] at this;simp [this]
       have f6:=hv 6 68 rfl l0
       refine Ri.step_plain rfl rfl (fun K' hK=>?_)
       have hq9:=(q6 l0)
       go_simp
       exact hK _ _ ⟨_,_,rfl,rfl,hb,q0,q1,q2,q3,q4,q5,q6,fun _=>hq9⟩
   · rintro v w9 ⟨hb,-,-,-,-,-,-,-,q7⟩
     have E7:=Lib.hid (q7 rfl)
     simp only [Ri.frame,List.zipIdx,List.foldl_cons,List.foldl_nil,if_true,List.setIfInBounds_toArray,List.set_cons_zero,List.set_cons_succ,Nat.reduceAdd]
     clear q7
     generalize v 0=y0;generalize v 1=y1;generalize v 2=y2;generalize v 3=y3;generalize v 4=y4;generalize v 5=y5;generalize v 6=y6;generalize v 7=y7 at *
     go_wp2
     go_ret
     obtain ⟨G,h1,h2⟩:=E7.out
     exact ⟨_,rfl,⟨G,h1,h2.congr fun i j _=>(HTK.out i j).symm⟩,HB.out.trans (hb.mono HB.out.size)⟩
 · have HSO:=Lib.hid (rrsome_any (s.size+1) (by omega) F false ⟨fun h=>absurd h (by decide),fun h=>absurd h hex⟩ f w2 HF.out)
   have HNX:=Lib.hid (show ∀ i,i ≤ s.size→F i=false from fun i hi=>by
     cases h:F i with
     | false=>rfl
     | true=>exact absurd ⟨i,by omega,h⟩ hex)
   clear hex
   go_wp2_with fail
   refine HSO.out.mono ?_
   rintro e w3 ⟨rfl,rfl⟩
   go_wp2
   go_ret
   exact ⟨_,rfl,⟨fun _=>false,⟨g,rfl,Z7.out⟩,Re.Leads.none HNX.out (fun _ _=>rfl)⟩,HB.out⟩
theorem rrrounds_none (s:ByteArray) (c e0:Int) (_hs:s.size ≤ 1000000) (t u:Tr) (hsub:t.subs=[u]) (IH:Overs s c e0 u) (w:World) (B:Nat→Prop) (v f:Value) (F:Nat→Bool) (hv:TreesAt w B v t.subs) (hf:BlAt w f (s.size+1) F) (hlo:t.least=0) (hhi:t.most=0) :
   Calls Tryd.prog 141 #[.agg (t.cells v),.agg #[.string s,.int .i64 c,.int .i64 e0,.bool false],f] w (OvEnd s.size (Tk.rounds (Tr.tk (Sc.new s c e0) u) t.least t.most) F w):=by
 rw [hsub] at hv
 obtain ⟨p,cap,rfl,hlen⟩:=hv.slice
 have HV:=Lib.hid hv;have HF0:=Lib.hid hf;have HI:=Lib.hid IH
 clear hv hf hsub IH
 simp only [List.length_singleton]
 unfold Tr.cells
 rw [hlo,hhi]
 clear hlo hhi
 go_enter Tryd.func141,Tryd.ntmps141
 have hb1:Below w.heap.size w ((w.alloc (.cells #[.int .i64 t.kind,.int .u64 (Oc.U t.w0),.int .u64 (Oc.U t.w1),.int .u64 (Oc.U t.w2),.int .u64 (Oc.U t.w3),.slice p 1 cap,.int .i64 t.num,.int .i64 0,.int .i64 0,.bool t.bare] 37)).alloc (.cells #[.string s,.int .i64 c,.int .i64 e0,.bool false] 61)):=by go_grown
 have ZN:=Lib.hid (show ((w.alloc (.cells #[.int .i64 t.kind,.int .u64 (Oc.U t.w0),.int .u64 (Oc.U t.w1),.int .u64 (Oc.U t.w2),.int .u64 (Oc.U t.w3),.slice p 1 cap,.int .i64 t.num,.int .i64 0,.int .i64 0,.bool t.bare] 37)).alloc (.cells #[.string s,.int .i64 c,.int .i64 e0,.bool false] 61)).heap[w.heap.size]? = some (.cells #[.int .i64 t.kind,.int .u64 (Oc.U t.w0),.int .u64 (Oc.U t.w1),.int .u64 (Oc.U t.w2),.int .u64 (Oc.U t.w3),.slice p 1 cap,.int .i64 t.num,.int .i64 0,.int .i64 0,.bool t.bare] 37) from heap_alloc_lt (heap_alloc_new _ _))
 have ZS:=Lib.hid (show ((w.alloc (.cells #[.int .i64 t.kind,.int .u64 (Oc.U t.w0),.int .u64 (Oc.U t.w1),.int .u64 (Oc.U t.w2),.int .u64 (Oc.U t.w3),.slice p 1 cap,.int .i64 t.num,.int .i64 0,.int .i64 0,.bool t.bare] 37)).alloc (.cells #[.string s,.int .i64 c,.int .i64 e0,.bool false] 61)).heap[w.heap.size+1]? = some (.cells #[.string s,.int .i64 c,.int .i64 e0,.bool false] 61) from new_at _ _ _ (by simp))
 have HB:=Lib.hid hb1
 clear hb1
 go_upto_region 1 with (fail)
 generalize (w.alloc (.cells #[.int .i64 t.kind,.int .u64 (Oc.U t.w0),.int .u64 (Oc.U t.w1),.int .u64 (Oc.U t.w2),.int .u64 (Oc.U t.w3),.slice p 1 cap,.int .i64 t.num,.int .i64 0,.int .i64 0,.bool t.bare] 37)).alloc (.cells #[.string s,.int .i64 c,.int .i64 e0,.bool false] 61)=W1 at *
 have HF:=Lib.hid (HF0.out.below HB.out)
 obtain ⟨n0,n1,n2,n3,n4,n5,n6,n7,n8,n9⟩:=allTen ZN.out
 go_wp2
 go_ret
 exact ⟨_,rfl,⟨F,HF.out,(Re.Leads.self s.size F).congr fun i j _=>⟨fun h=>⟨0,by omega,.inr (by omega),h⟩,fun ⟨k,_,h2,h3⟩=>by
   obtain rfl:k=0:=by omega
   exact h3⟩⟩,HB.out⟩
theorem rrrounds_any (s:ByteArray) (c e0:Int) (hs:s.size ≤ 1000000) (t u:Tr) (hsub:t.subs=[u]) (IH:Overs s c e0 u) (w:World) (B:Nat→Prop) (v f:Value) (F:Nat→Bool) (hv:TreesAt w B v t.subs) (hf:BlAt w f (s.size+1) F) (l:Nat) (hi:Int) (hlo:t.least=(l:Int)) (hhi:t.most=hi) (h0:hi ≠ 0) (hl:l ≤ 255) (hh:hi = -1 ∨ (l:Int) ≤ hi) (hi255:hi ≤ 255) :
   Calls Tryd.prog 141 #[.agg (t.cells v),.agg #[.string s,.int .i64 c,.int .i64 e0,.bool false],f] w (OvEnd s.size (Tk.rounds (Tr.tk (Sc.new s c e0) u) t.least t.most) F w):=by
 rw [hsub] at hv
 obtain ⟨p,cap,rfl,hlen⟩:=hv.slice
 have HV:=Lib.hid hv;have HF0:=Lib.hid hf;have HI:=Lib.hid IH
 clear hv hf hsub IH
 simp only [List.length_singleton]
 unfold Tr.cells
 rw [hlo,hhi]
 clear hlo hhi
 have H0:=Lib.hid h0;have HH:=Lib.hid hh;have H255:=Lib.hid hi255
 have hne0:(hi == 0)=false:=by rw [beq_eq_false_iff_ne];exact h0
 clear h0 hh hi255
 go_enter Tryd.func141,Tryd.ntmps141
 have hb1:Below w.heap.size w ((w.alloc (.cells #[.int .i64 t.kind,.int .u64 (Oc.U t.w0),.int .u64 (Oc.U t.w1),.int .u64 (Oc.U t.w2),.int .u64 (Oc.U t.w3),.slice p 1 cap,.int .i64 t.num,.int .i64 (l:Int),.int .i64 hi,.bool t.bare] 37)).alloc (.cells #[.string s,.int .i64 c,.int .i64 e0,.bool false] 61)):=by go_grown
 have ZN:=Lib.hid (show ((w.alloc (.cells #[.int .i64 t.kind,.int .u64 (Oc.U t.w0),.int .u64 (Oc.U t.w1),.int .u64 (Oc.U t.w2),.int .u64 (Oc.U t.w3),.slice p 1 cap,.int .i64 t.num,.int .i64 (l:Int),.int .i64 hi,.bool t.bare] 37)).alloc (.cells #[.string s,.int .i64 c,.int .i64 e0,.bool false] 61)).heap[w.heap.size]? = some (.cells #[.int .i64 t.kind,.int .u64 (Oc.U t.w0),.int .u64 (Oc.U t.w1),.int .u64 (Oc.U t.w2),.int .u64 (Oc.U t.w3),.slice p 1 cap,.int .i64 t.num,.int .i64 (l:Int),.int .i64 hi,.bool t.bare] 37) from heap_alloc_lt (heap_alloc_new _ _))
 have ZS:=Lib.hid (show ((w.alloc (.cells #[.int .i64 t.kind,.int .u64 (Oc.U t.w0),.int .u64 (Oc.U t.w1),.int .u64 (Oc.U t.w2),.int .u64 (Oc.U t.w3),.slice p 1 cap,.int .i64 t.num,.int .i64 (l:Int),.int .i64 hi,.bool t.bare] 37)).alloc (.cells #[.string s,.int .i64 c,.int .i64 e0,.bool false] 61)).heap[w.heap.size+1]? = some (.cells #[.string s,.int .i64 c,.int .i64 e0,.bool false] 61) from new_at _ _ _ (by simp))
 have HB:=Lib.hid hb1
 clear hb1
 go_upto_region 1 with (fail)
 generalize (w.alloc (.cells #[.int .i64 t.kind,.int .u64 (Oc.U t.w0),.int .u64 (Oc.U t.w1),.int .u64 (Oc.U t.w2),.int .u64 (Oc.U t.w3),.slice p 1 cap,.int .i64 t.num,.int .i64 (l:Int),.int .i64 hi,.bool t.bare] 37)).alloc (.cells #[.string s,.int .i64 c,.int .i64 e0,.bool false] 61)=W1 at *
 have HF:=Lib.hid (HF0.out.below HB.out)
 obtain ⟨n0,n1,n2,n3,n4,n5,n6,n7,n8,n9⟩:=allTen ZN.out
 obtain ⟨b1,o1,s1,rfl,-,t1,sub1⟩:=HV.out.get (i:=0) (t:=u) rfl
 rw [Nat.zero_mul,Nat.add_zero] at t1
 obtain ⟨p1,c1,rfl,hl1⟩:=sub1.slice
 have HON:=Lib.hid (Tr.tk_on (Sc.new s c e0) u)
 have HC:=Lib.hid (show ∀ w9,Below w.heap.size w w9→∀ fv FV,BlAt w9 fv (s.size+1) FV→Calls Tryd.prog 124 #[.agg #[.int .i64 u.kind,.int .u64 (Oc.U u.w0),.int .u64 (Oc.U u.w1),.int .u64 (Oc.U u.w2),.int .u64 (Oc.U u.w3),.slice p1 u.subs.length c1,.int .i64 u.num,.int .i64 u.least,.int .i64 u.most,.bool u.bare],.agg #[.string s,.int .i64 c,.int .i64 e0,.bool false],fv] w9 fun e w'=>∃ v,e=.returned v∧OvAt w' v s.size (Tr.tk (Sc.new s c e0) u) FV∧Below w9.heap.size w9 w' from fun w9 hb fv FV hfv =>
   HI.out w9 B (.agg (u.cells (.slice p1 u.subs.length c1))) fv FV ⟨_,rfl,sub1.later hb⟩ hfv)
 have T0:=Lib.hid t1
 clear t1 sub1 HI HV
 have hR0:OvAt W1 f s.size (Tk.pow (Tr.tk (Sc.new s c e0) u) 0) F:=⟨F,HF.out,Re.Leads.self s.size F⟩
 have HR0:=Lib.hid hR0
 clear hR0
 go_wp2
 go_loopw [7,8] (fun fv iv wr=>∃ m:Nat,iv=.int .i64 (m:Int)∧m ≤ l∧Hid (Below w.heap.size w wr)∧Hid (wr.heap[w.heap.size]? = some (.cells #[.int .i64 t.kind,.int .u64 (Oc.U t.w0),.int .u64 (Oc.U t.w1),.int .u64 (Oc.U t.w2),.int .u64 (Oc.U t.w3),.slice (some ⟨b1,o1,none⟩) 1 cap,.int .i64 t.num,.int .i64 (l:Int),.int .i64 hi,.bool t.bare] 37))∧Hid (wr.heap[w.heap.size+1]? = some (.cells #[.string s,.int .i64 c,.int .i64 e0,.bool false] 61))∧Hid (OvAt wr fv s.size (Tk.pow (Tr.tk (Sc.new s c e0) u) m) F)) (fun _ iv _=>l - (intOf iv).toNat)
 case atStart=>exact ⟨0,rfl,Nat.zero_le _,HB,ZN,ZS,HR0⟩
 case round =>
   clear HB ZN ZS HF n0 n1 n2 n3 n4 n5 n6 n7 n8 n9 HR0 HF0
   obtain ⟨m,rfl,hm,HB,ZN,ZS,HR⟩:=hrel
   obtain ⟨n0,n1,n2,n3,n4,n5,n6,n7,n8,n9⟩:=allTen ZN.out
   by_cases hlt:m < l
   · have wi:IntKind.i64.wrap ((m:Int)+1)=(m:Int)+1:=IntWalk.i64_in _ (by omega)
     have hmi:(m:Int) < (l:Int):=by omega
     have T1:=Lib.hid (T0.out.keep (HB.out.block _ T0.out.lt))
     have HCC:=Lib.hid (show ∀ w9,Below wr.heap.size wr w9→Calls Tryd.prog 124 #[.agg #[.int .i64 u.kind,.int .u64 (Oc.U u.w0),.int .u64 (Oc.U u.w1),.int .u64 (Oc.U u.w2),.int .u64 (Oc.U u.w3),.slice p1 u.subs.length c1,.int .i64 u.num,.int .i64 u.least,.int .i64 u.most,.bool u.bare],.agg #[.string s,.int .i64 c,.int .i64 e0,.bool false],u7] w9 fun e w'=>∃ v,e=.returned v∧OvAt w' v s.size (Tk.pow (Tr.tk (Sc.new s c e0) u) (m+1)) F∧Below w9.heap.size w9 w' from fun w9 hb=>by
       obtain ⟨G,hG,hL⟩:=HR.out
       refine (HC.out w9 (HB.out.trans (hb.mono HB.out.size)) u7 G (hG.below hb)).mono ?_
       rintro e w8 ⟨v,rfl,⟨G',h1,h2⟩,hb8⟩
       exact ⟨v,rfl,⟨G',h1,hL.pow_next HON.out h2⟩,hb8⟩)
     clear n0 n1 n2 n3 n4 n6 n9 HC
     go_wp2_with fail
     refine Ri.wp_region_late (by kernel_rfl) (by kernel_rfl) (by kernel_rfl) (by kernel_rfl)
       (fun L v w'=>Below wr.heap.size wr w'∧(L 7=true→L 5=true)∧(L 0=true→v 0=.pointer (some ⟨w.heap.size,5,none⟩))∧(L 1=true→v 1=.slice (some ⟨b1,o1,none⟩) 1 cap)∧(L 2=true→v 2=.pointer (some ⟨b1,o1,none⟩))∧(L 3=true→v 3=.agg #[.int .i64 u.kind,.int .u64 (Oc.U u.w0),.int .u64 (Oc.U u.w1),.int .u64 (Oc.U u.w2),.int .u64 (Oc.U u.w3),.slice p1 u.subs.length c1,.int .i64 u.num,.int .i64 u.least,.int .i64 u.most,.bool u.bare])∧(L 4=true→v 4=.agg #[.string s,.int .i64 c,.int .i64 e0,.bool false])∧(L 5=true→v 5=u7)∧(L 6=true→OvAt w' (v 6) s.size (Tk.pow (Tr.tk (Sc.new s c e0) u) (m+1)) F)∧(L 7=true→OvAt w' (v 7) s.size (Tk.pow (Tr.tk (Sc.new s c e0) u) (m+1)) F))
       ?_ ?_ ?_
     · exact ⟨(Below.refl _ _).drew,by simp,by simp,by simp,by simp,by simp,by simp,by simp,by simp,by simp⟩
     · intro i hi9 L v w9 xa hI hL hd hv ho hno
       have hi':i=0 ∨ i=1 ∨ i=2 ∨ i=3 ∨ i=4 ∨ i=5 ∨ i=6 ∨ i=7:=by simp at hi9;omega
       obtain ⟨hb,c0,q0,q1,q2,q3,q4,q5,q6,q7⟩:=hI
       rcases hi' with rfl | rfl | rfl | rfl | rfl | rfl | rfl | rfl
       · have e3:xa.tmps.getD 3 undef=.pointer (some ⟨w.heap.size,0,none⟩):=ho 3 (by kernel_rfl)
         refine Ri.step_plain rfl rfl (fun K' hK=>?_)
         go_simp
         exact hK _ _ ⟨_,_,rfl,rfl,hb,c0,fun _=>rfl,q1,q2,q3,q4,q5,q6,q7⟩
       · have l0:L 0=true:=by have:=hd _ rfl;simp [Region.binds] at this;simp [this]
         have f0:=(hv 0 23 rfl l0).trans (q0 l0)
         refine Ri.step_plain rfl rfl (fun K' hK=>?_)
         obtain ⟨-,-,-,-,-,m5,-,-,-,-⟩:=allTen (keep_blk hb ZN.out)
         go_simp
         exact hK _ _ ⟨_,_,rfl,rfl,hb,c0,q0,fun _=>rfl,q2,q3,q4,q5,q6,q7⟩
       · have l0:L 1=true:=by have:=hd _ rfl;simp [Region.binds] at this;simp [this]
         have f1:=(hv 1 24 rfl l0).trans (q1 l0)
         refine Ri.step_plain rfl rfl (fun K' hK=>?_)
         go_simp
         exact hK _ _ ⟨_,_,rfl,rfl,hb,c0,q0,q1,fun _=>rfl,q3,q4,q5,q6,q7⟩
       · have l0:L 2=true:=by have:=hd _ rfl;simp [Region.binds] at this;simp [this]
         have f2:=(hv 2 25 rfl l0).trans (q2 l0)
         refine Ri.step_plain rfl rfl (fun K' hK=>?_)
         obtain ⟨d0,d1,d2,d3,d4,d5,d6,d7,d8,d9⟩:=T1.out.keep (hb.block _ T1.out.lt)
         go_simp
         exact hK _ _ ⟨_,_,rfl,rfl,hb,c0,q0,q1,q2,fun _=>rfl,q4,q5,q6,q7⟩
       · have e4:xa.tmps.getD 4 undef=.pointer (some ⟨(w.heap.size+1),0,none⟩):=ho 4 (by kernel_rfl)
         refine Ri.step_plain rfl rfl (fun K' hK=>?_)
         refine wp_load_row _ _ rfl _ e4 _ _ _ _ (keep_blk hb ZS.out) Tryd.underlying61 rfl (by kernel_rfl) ?_
         exact hK _ _ ⟨_,_,rfl,rfl,hb,c0,q0,q1,q2,q3,fun _=>rfl,q5,q6,q7⟩
       · have hl9:L 7=false:=by cases h:L 7 with | false=>rfl | true=>exact absurd (c0 h) (by rw [hL];decide)
         have e7:xa.tmps.getD 7 undef=u7:=hno 7 7 rfl hl9
         refine Ri.step_plain rfl rfl (fun K' hK=>?_)
         go_simp
         exact hK _ _ ⟨_,_,rfl,rfl,hb,(fun _=>rfl),q0,q1,q2,q3,q4,fun _=>rfl,q6,q7⟩
       · have l0:L 3=true∧L 4=true∧L 5=true:=by have:=hd _ rfl;simp [Region.binds] at this;simp [this]
         have f3:=(hv 3 26 rfl l0.1).trans (q3 l0.1)
         have f4:=(hv 4 27 rfl l0.2.1).trans (q4 l0.2.1)
         have f5:=(hv 5 28 rfl l0.2.2).trans (q5 l0.2.2)
         refine Ri.step_plain rfl rfl (fun K' hK=>?_)
         go_simp
         refine (HCC.out w9 hb).mono ?_
         rintro e w8 ⟨v8,rfl,hv8,hb8⟩
         exact hK _ _ ⟨_,_,rfl,rfl,hb.trans (hb8.mono hb.size),c0,q0,q1,q2,q3,q4,q5,fun _=>hv8,fun l=>(q7 l).below hb8⟩
       · have la0:L 5=true:=by have:=hd _ rfl;simp [Region.binds] at this;simp [this]
         have l0:L 6=true:=by have:=hd _ rfl;simp [Region.binds] at this;simp [this]
         have f6:=hv 6 29 rfl l0
         refine Ri.step_plain rfl rfl (fun K' hK=>?_)
         have hq9:=(q6 l0)
         go_simp
         exact hK _ _ ⟨_,_,rfl,rfl,hb,(fun _=>la0),q0,q1,q2,q3,q4,q5,q6,fun _=>hq9⟩
     · rintro v w9 ⟨hb,-,-,-,-,-,-,-,-,q7⟩
       have E7:=Lib.hid (q7 rfl)
       simp only [Ri.frame,List.zipIdx,List.foldl_cons,List.foldl_nil,if_true,List.setIfInBounds_toArray,List.set_cons_zero,List.set_cons_succ,Nat.reduceAdd]
       clear q7
       generalize v 0=y0;generalize v 1=y1;generalize v 2=y2;generalize v 3=y3;generalize v 4=y4;generalize v 5=y5;generalize v 6=y6;generalize v 7=y7 at *
       go_wp2
       exact ⟨⟨m+1,by go_num,by omega,Lib.hid (HB.out.trans (hb.mono HB.out.size)),Lib.hid (keep_blk hb ZN.out),Lib.hid (keep_blk hb ZS.out),E7⟩,by simp [intOf];omega⟩
   · obtain rfl:m=l:=by omega
     obtain ⟨F1,hF1,hL1⟩:=HR.out
     have HF1:=Lib.hid hF1;have HL1:=Lib.hid hL1
     clear hF1 hL1 HR
     go_wp2
     go_loopw [7,9,10] (fun nv av iv wr=>∃ k:Nat,iv=.int .i64 ((m:Int)+(k:Int))∧Hid (hi = -1 ∨ (m:Int)+k ≤ hi)∧Hid (Below w.heap.size w wr)∧Hid (wr.heap[w.heap.size]? = some (.cells #[.int .i64 t.kind,.int .u64 (Oc.U t.w0),.int .u64 (Oc.U t.w1),.int .u64 (Oc.U t.w2),.int .u64 (Oc.U t.w3),.slice (some ⟨b1,o1,none⟩) 1 cap,.int .i64 t.num,.int .i64 (m:Int),.int .i64 hi,.bool t.bare] 37))∧Hid (wr.heap[w.heap.size+1]? = some (.cells #[.string s,.int .i64 c,.int .i64 e0,.bool false] 61))∧(∃ AL NW,Hid (BlAt wr nv (s.size+1) NW)∧Hid (BlAt wr av (s.size+1) AL)∧Hid (Re.Grows s.size (Tr.tk (Sc.new s c e0) u) F1 k AL NW)∧Hid (k ≤ Oc.cnt AL (s.size+1)))) (fun _ _ iv _=>m+s.size+2 - (intOf iv).toNat)
     case atStart=>exact ⟨0,by go_num,Lib.hid (by have:=HH.out;omega),HB,ZN,ZS,F1,F1,HF1,HF1,Lib.hid (Re.Grows.start _ _ _),Lib.hid (Nat.zero_le _)⟩
     case round =>
       clear HB ZN ZS HF1 n0 n1 n2 n3 n4 n5 n6 n7 n8 n9
       obtain ⟨k,rfl,HK,HB,ZN,ZS,AL,NW,HNW,HAL,HGR,HCN⟩:=hrel
       obtain ⟨n0,n1,n2,n3,n4,n5,n6,n7,n8,n9⟩:=allTen ZN.out
       have hcle:Oc.cnt AL (s.size+1) ≤ s.size+1:=Oc.cnt_le _ _
       have HCL:=Lib.hid hcle
       clear hcle
       have wi:IntKind.i64.wrap ((m:Int)+(k:Int)+1)=(m:Int)+(k:Int)+1:=IntWalk.i64_in _ (by have:=HCN.out;have:=HCL.out;omega)
       by_cases hgo:hi = -1 ∨ (m:Int)+(k:Int) < hi
       · have T1:=Lib.hid (T0.out.keep (HB.out.block _ T0.out.lt))
         have HCC:=Lib.hid (show ∀ w9,Below wr.heap.size wr w9→Calls Tryd.prog 124 #[.agg #[.int .i64 u.kind,.int .u64 (Oc.U u.w0),.int .u64 (Oc.U u.w1),.int .u64 (Oc.U u.w2),.int .u64 (Oc.U u.w3),.slice p1 u.subs.length c1,.int .i64 u.num,.int .i64 u.least,.int .i64 u.most,.bool u.bare],.agg #[.string s,.int .i64 c,.int .i64 e0,.bool false],u7] w9 fun e w'=>∃ v,e=.returned v∧OvAt w' v s.size (Tr.tk (Sc.new s c e0) u) NW∧Below w9.heap.size w9 w' from fun w9 hb =>
           HC.out w9 (HB.out.trans (hb.mono HB.out.size)) u7 NW (HNW.out.below hb))
         have HWO:=Lib.hid (show ∀ w9,Below wr.heap.size wr w9→∀ v1,OvAt w9 v1 s.size (Tr.tk (Sc.new s c e0) u) NW→Calls Tryd.prog 154 #[v1,u9] w9 fun e w'=>∃ v,e=.returned v∧NxAt w' v s.size (Tr.tk (Sc.new s c e0) u) NW AL∧Below w9.heap.size w9 w' from fun w9 hb v1 h1=>by
           obtain ⟨G1,hG1,hL1⟩:=h1
           refine (rrwithout_any (s.size+1) (by omega) G1 AL v1 u9 w9 hG1 (HAL.out.below hb)).mono ?_
           rintro e w8 ⟨g8,rfl,-,hg8,hb8⟩
           exact ⟨_,rfl,⟨G1,⟨g8,rfl,hg8⟩,hL1⟩,hb8⟩)
         have HKN:=Lib.hid (show hi = -1 ∨ (m:Int)+((k+1:Nat):Int) ≤ hi by omega)
         have hcase:(decide (hi < 0)=true) ∨ (decide (hi < 0)=false∧decide ((m:Int)+(k:Int) < hi)=true):=by
           by_cases h:hi < 0
           · exact .inl (decide_eq_true h)
           · exact .inr ⟨decide_eq_false h,decide_eq_true (by omega)⟩
         clear hgo HC n0 n1 n2 n3 n4 n6 n7 n9
         rcases hcase with d1 | ⟨d1,d2⟩
         all_goals
           go_wp2_with fail
           refine Ri.wp_region_late (by kernel_rfl) (by kernel_rfl) (by kernel_rfl) (by kernel_rfl)
             (fun L v w'=>Below wr.heap.size wr w'∧(L 9=true→L 5=true)∧(L 0=true→v 0=.pointer (some ⟨w.heap.size,5,none⟩))∧(L 1=true→v 1=.slice (some ⟨b1,o1,none⟩) 1 cap)∧(L 2=true→v 2=.pointer (some ⟨b1,o1,none⟩))∧(L 3=true→v 3=.agg #[.int .i64 u.kind,.int .u64 (Oc.U u.w0),.int .u64 (Oc.U u.w1),.int .u64 (Oc.U u.w2),.int .u64 (Oc.U u.w3),.slice p1 u.subs.length c1,.int .i64 u.num,.int .i64 u.least,.int .i64 u.most,.bool u.bare])∧(L 4=true→v 4=.agg #[.string s,.int .i64 c,.int .i64 e0,.bool false])∧(L 5=true→v 5=u7)∧(L 6=true→OvAt w' (v 6) s.size (Tr.tk (Sc.new s c e0) u) NW)∧(L 7=true→v 7=u9)∧(L 8=true→NxAt w' (v 8) s.size (Tr.tk (Sc.new s c e0) u) NW AL)∧(L 9=true→NxAt w' (v 9) s.size (Tr.tk (Sc.new s c e0) u) NW AL))
             ?_ ?_ ?_
           · exact ⟨(Below.refl _ _).drew,by simp,by simp,by simp,by simp,by simp,by simp,by simp,by simp,by simp,by simp,by simp⟩
           · intro i hi9 L v w9 xa hI hL hd hv ho hno
             have hi':i=0 ∨ i=1 ∨ i=2 ∨ i=3 ∨ i=4 ∨ i=5 ∨ i=6 ∨ i=7 ∨ i=8 ∨ i=9:=by simp at hi9;omega
             obtain ⟨hb,c0,q0,q1,q2,q3,q4,q5,q6,q7,q8,q9⟩:=hI
             rcases hi' with rfl | rfl | rfl | rfl | rfl | rfl | rfl | rfl | rfl | rfl
             · have e3:xa.tmps.getD 3 undef=.pointer (some ⟨w.heap.size,0,none⟩):=ho 3 (by kernel_rfl)
               refine Ri.step_plain rfl rfl (fun K' hK=>?_)
               go_simp
               exact hK _ _ ⟨_,_,rfl,rfl,hb,c0,fun _=>rfl,q1,q2,q3,q4,q5,q6,q7,q8,q9⟩
             · have l0:L 0=true:=by have:=hd _ rfl;simp [Region.binds] at this;simp [this]
               have f0:=(hv 0 44 rfl l0).trans (q0 l0)
               refine Ri.step_plain rfl rfl (fun K' hK=>?_)
               obtain ⟨-,-,-,-,-,m5,-,-,-,-⟩:=allTen (keep_blk hb ZN.out)
               go_simp
               exact hK _ _ ⟨_,_,rfl,rfl,hb,c0,q0,fun _=>rfl,q2,q3,q4,q5,q6,q7,q8,q9⟩
             · have l0:L 1=true:=by have:=hd _ rfl;simp [Region.binds] at this;simp [this]
               have f1:=(hv 1 45 rfl l0).trans (q1 l0)
               refine Ri.step_plain rfl rfl (fun K' hK=>?_)
               go_simp
               exact hK _ _ ⟨_,_,rfl,rfl,hb,c0,q0,q1,fun _=>rfl,q3,q4,q5,q6,q7,q8,q9⟩
             · have l0:L 2=true:=by have:=hd _ rfl;simp [Region.binds] at this;simp [this]
               have f2:=(hv 2 46 rfl l0).trans (q2 l0)
               refine Ri.step_plain rfl rfl (fun K' hK=>?_)
               obtain ⟨d0,d1,d2,d3,d4,d5,d6,d7,d8,d9⟩:=T1.out.keep (hb.block _ T1.out.lt)
               go_simp
               exact hK _ _ ⟨_,_,rfl,rfl,hb,c0,q0,q1,q2,fun _=>rfl,q4,q5,q6,q7,q8,q9⟩
             · have e4:xa.tmps.getD 4 undef=.pointer (some ⟨(w.heap.size+1),0,none⟩):=ho 4 (by kernel_rfl)
               refine Ri.step_plain rfl rfl (fun K' hK=>?_)
               refine wp_load_row _ _ rfl _ e4 _ _ _ _ (keep_blk hb ZS.out) Tryd.underlying61 rfl (by kernel_rfl) ?_
               exact hK _ _ ⟨_,_,rfl,rfl,hb,c0,q0,q1,q2,q3,fun _=>rfl,q5,q6,q7,q8,q9⟩
             · have hl9:L 9=false:=by cases h:L 9 with | false=>rfl | true=>exact absurd (c0 h) (by rw [hL];decide)
               have e7:xa.tmps.getD 7 undef=u7:=hno 9 7 rfl hl9
               refine Ri.step_plain rfl rfl (fun K' hK=>?_)
               go_simp
               exact hK _ _ ⟨_,_,rfl,rfl,hb,(fun _=>rfl),q0,q1,q2,q3,q4,fun _=>rfl,q6,q7,q8,q9⟩
             · have l0:L 3=true∧L 4=true∧L 5=true:=by have:=hd _ rfl;simp [Region.binds] at this;simp [this]
               have f3:=(hv 3 47 rfl l0.1).trans (q3 l0.1)
               have f4:=(hv 4 48 rfl l0.2.1).trans (q4 l0.2.1)
               have f5:=(hv 5 49 rfl l0.2.2).trans (q5 l0.2.2)
               refine Ri.step_plain rfl rfl (fun K' hK=>?_)
               go_simp
               refine (HCC.out w9 hb).mono ?_
               rintro e w8 ⟨v8,rfl,hv8,hb8⟩
               exact hK _ _ ⟨_,_,rfl,rfl,hb.trans (hb8.mono hb.size),c0,q0,q1,q2,q3,q4,q5,fun _=>hv8,q7,fun l=>(q8 l).below hb8,fun l=>(q9 l).below hb8⟩
             · have e9:xa.tmps.getD 9 undef=u9:=ho 9 (by kernel_rfl)
               refine Ri.step_plain rfl rfl (fun K' hK=>?_)
               go_simp
               exact hK _ _ ⟨_,_,rfl,rfl,hb,c0,q0,q1,q2,q3,q4,q5,q6,fun _=>rfl,q8,q9⟩
             · have l0:L 6=true∧L 7=true:=by have:=hd _ rfl;simp [Region.binds] at this;simp [this]
               have f6:=hv 6 50 rfl l0.1
               have f7:=(hv 7 51 rfl l0.2).trans (q7 l0.2)
               refine Ri.step_plain rfl rfl (fun K' hK=>?_)
               have hq9:=(q6 l0.1)
               go_simp
               refine (HWO.out w9 hb _ hq9).mono ?_
               rintro e w8 ⟨v8,rfl,hv8,hb8⟩
               exact hK _ _ ⟨_,_,rfl,rfl,hb.trans (hb8.mono hb.size),c0,q0,q1,q2,q3,q4,q5,fun l=>(q6 l).below hb8,q7,fun _=>hv8,fun l=>(q9 l).below hb8⟩
             · have la0:L 5=true:=by have:=hd _ rfl;simp [Region.binds] at this;simp [this]
               have l0:L 8=true:=by have:=hd _ rfl;simp [Region.binds] at this;simp [this]
               have f8:=hv 8 52 rfl l0
               refine Ri.step_plain rfl rfl (fun K' hK=>?_)
               have hq9:=(q8 l0)
               go_simp
               exact hK _ _ ⟨_,_,rfl,rfl,hb,(fun _=>la0),q0,q1,q2,q3,q4,q5,q6,q7,q8,fun _=>hq9⟩
           · rintro v w9 ⟨hb,-,-,-,-,-,-,-,-,-,-,q9⟩
             have E9:=Lib.hid (q9 rfl)
             simp only [Ri.frame,List.zipIdx,List.foldl_cons,List.foldl_nil,if_true,List.setIfInBounds_toArray,List.set_cons_zero,List.set_cons_succ,Nat.reduceAdd]
             clear q9
             generalize v 0=y0;generalize v 1=y1;generalize v 2=y2;generalize v 3=y3;generalize v 4=y4;generalize v 5=y5;generalize v 6=y6;generalize v 7=y7;generalize v 8=y8;generalize v 9=y9 at *
             obtain ⟨G,hB9,hL9⟩:=E9.out
             have HB9:=Lib.hid hB9;have HL9:=Lib.hid hL9
             have HBB:=Lib.hid (HB.out.trans (hb.mono HB.out.size));have YN:=Lib.hid (keep_blk hb ZN.out);have YS:=Lib.hid (keep_blk hb ZS.out);have YAL:=Lib.hid (HAL.out.below hb)
             clear hB9 hL9 E9 HB ZN ZS HAL hb HCC HWO
             by_cases hnew:∃ j,j < s.size+1∧(G j && !AL j)=true
             · have HSO:=Lib.hid (rrsome_any (s.size+1) (by omega) (fun j=>G j && !AL j) true ⟨fun _=>hnew,fun _=>rfl⟩ _ _ HB9.out)
               have HCM:=Lib.hid (show Oc.cnt AL (s.size+1) < Oc.cnt (fun j=>AL j || (G j && !AL j)) (s.size+1) from Re.cnt_more _ (fun i _ h=>by show (AL i || (G i && !AL i))=true;rw [h];rfl) (by
                 obtain ⟨j,hj,h⟩:=hnew
                 refine ⟨j,hj, ?_,by show (AL j || (G j && !AL j))=true;rw [h];simp⟩
                 cases hA:AL j with
                 | false=>rfl
                 | true=>rw [hA] at h;simp at h))
               have HBO:=Lib.hid (rrboth_any (s.size+1) (by omega) AL (fun j=>G j && !AL j) _ _ _ YAL.out HB9.out)
               clear hnew
               go_wp2_with fail
               refine HSO.out.mono ?_
               rintro e w5 ⟨rfl,rfl⟩
               go_wp2_with fail
               refine HBO.out.mono ?_
               rintro e w6 ⟨g6,rfl,-,hg6,hb6⟩
               have HB6:=Lib.hid (HBB.out.trans (hb6.mono HBB.out.size));have VN:=Lib.hid (keep_blk hb6 YN.out);have VS:=Lib.hid (keep_blk hb6 YS.out);have V9:=Lib.hid (HB9.out.below hb6)
               have G6:=Lib.hid hg6
               clear hb6 hg6 HBB YN YS YAL HB9 HSO HBO
               go_wp2
               exact ⟨⟨k+1,by congr 1,HKN,HB6,VN,VS,_,_,V9,Lib.hid ⟨g6,rfl,G6.out⟩,Lib.hid (HGR.out.next HON.out HL9.out),Lib.hid (by have:=HCM.out;have:=HCN.out;omega)⟩,by have:=HCM.out;have:=HCN.out;have:=HCL.out;simp only [intOf];omega⟩
             · have HSO:=Lib.hid (rrsome_any (s.size+1) (by omega) (fun j=>G j && !AL j) false ⟨fun h=>absurd h (by decide),fun h=>absurd h hnew⟩ _ _ HB9.out)
               have HNO:=Lib.hid (show ∀ j,j ≤ s.size→(G j && !AL j)=false from fun j hj=>by
                 cases h:(G j && !AL j) with
                 | false=>rfl
                 | true=>exact absurd ⟨j,by omega,h⟩ hnew)
               clear hnew
               go_wp2_with fail
               refine HSO.out.mono ?_
               rintro e w5 ⟨rfl,rfl⟩
               go_wp2
               go_ret
               exact ⟨_,rfl,⟨AL,YAL.out,HGR.out.stop HON.out HL1.out (by have:=HK.out;omega) HL9.out HNO.out⟩,HBB.out⟩
       · have d1:decide (hi < 0)=false:=decide_eq_false (by have:=HK.out;omega)
         have d2:decide ((m:Int)+(k:Int) < hi)=false:=decide_eq_false (by omega)
         have HEQ:=Lib.hid (show ((m+k:Nat):Int)=hi by have:=HK.out;omega)
         clear hgo HC
         go_wp2
         go_ret
         exact ⟨_,rfl,⟨AL,HAL.out,HGR.out.bound HON.out HL1.out HEQ.out⟩,HB.out⟩
theorem rrrounds_rep (s:ByteArray) (c e0:Int) (hs:s.size ≤ 1000000) (t u:Tr) (hsub:t.subs=[u]) (h0:0 ≤ t.least) (h1:t.least ≤ 255) (h2:t.most = -1 ∨ (t.least ≤ t.most∧t.most ≤ 255)) (IH:Overs s c e0 u) (w:World) (B:Nat→Prop) (v f:Value) (F:Nat→Bool) (hv:TreesAt w B v t.subs) (hf:BlAt w f (s.size+1) F) :
   Calls Tryd.prog 141 #[.agg (t.cells v),.agg #[.string s,.int .i64 c,.int .i64 e0,.bool false],f] w (OvEnd s.size (Tk.rounds (Tr.tk (Sc.new s c e0) u) t.least t.most) F w):=by
 by_cases hz:t.most=0
 · exact rrrounds_none s c e0 hs t u hsub IH w B v f F hv hf (by omega) hz
 · exact rrrounds_any s c e0 hs t u hsub IH w B v f F hv hf t.least.toNat t.most (by omega) rfl hz (by omega) (by omega) (by omega)
theorem rrover_rep (s:ByteArray) (c e0:Int) (hs:s.size ≤ 1000000) (t:Tr) (hk:t.kind=8) (u:Tr) (hsub:t.subs=[u]) (h0:0 ≤ t.least) (h1:t.least ≤ 255) (h2:t.most = -1 ∨ (t.least ≤ t.most∧t.most ≤ 255)) (IH:Overs s c e0 u) (w:World) (B:Nat→Prop) (v f:Value) (F:Nat→Bool) (hv:TreesAt w B v t.subs) (hf:BlAt w f (s.size+1) F) :
   Calls Tryd.prog 124 #[.agg (t.cells v),.agg #[.string s,.int .i64 c,.int .i64 e0,.bool false],f] w (OvEnd s.size (Tr.tk (Sc.new s c e0) t) F w):=by
 have HRD:=Lib.hid (fun w9 (hb:Below w.heap.size w w9)=>rrrounds_rep s c e0 hs t u hsub h0 h1 h2 IH w9 B v f F (hv.later hb) (hf.below hb))
 obtain ⟨p,cap,rfl,hlen⟩:=hv.slice
 have HV:=Lib.hid hv;have HF0:=Lib.hid hf
 have HTK:=Lib.hid (show ∀ i j,Tr.tk (Sc.new s c e0) t i j ↔ Tk.rounds (Tr.tk (Sc.new s c e0) u) t.least t.most i j from fun i j=>Tr.tk_rep hk hsub i j)
 clear IH h0 h1 h2 hsub
 clear hv hf
 unfold Tr.cells at *
 rw [hk] at HRD
 rw [hk]
 clear hk
 have HNO:=Lib.hid (fun w=>rrnone_any s c e0 false hs w)
 go_enter Tryd.func124,Tryd.ntmps124
 have hb1:Below w.heap.size w ((w.alloc (.cells #[.int .i64 8,.int .u64 (Oc.U t.w0),.int .u64 (Oc.U t.w1),.int .u64 (Oc.U t.w2),.int .u64 (Oc.U t.w3),.slice p t.subs.length cap,.int .i64 t.num,.int .i64 t.least,.int .i64 t.most,.bool t.bare] 37)).alloc (.cells #[.string s,.int .i64 c,.int .i64 e0,.bool false] 61)):=by go_grown
 have Y0:=Lib.hid (show ((w.alloc (.cells #[.int .i64 8,.int .u64 (Oc.U t.w0),.int .u64 (Oc.U t.w1),.int .u64 (Oc.U t.w2),.int .u64 (Oc.U t.w3),.slice p t.subs.length cap,.int .i64 t.num,.int .i64 t.least,.int .i64 t.most,.bool t.bare] 37)).alloc (.cells #[.string s,.int .i64 c,.int .i64 e0,.bool false] 61)).heap[w.heap.size]? = some (.cells #[.int .i64 8,.int .u64 (Oc.U t.w0),.int .u64 (Oc.U t.w1),.int .u64 (Oc.U t.w2),.int .u64 (Oc.U t.w3),.slice p t.subs.length cap,.int .i64 t.num,.int .i64 t.least,.int .i64 t.most,.bool t.bare] 37) from heap_alloc_lt (heap_alloc_new _ _))
 have Y1:=Lib.hid (show ((w.alloc (.cells #[.int .i64 8,.int .u64 (Oc.U t.w0),.int .u64 (Oc.U t.w1),.int .u64 (Oc.U t.w2),.int .u64 (Oc.U t.w3),.slice p t.subs.length cap,.int .i64 t.num,.int .i64 t.least,.int .i64 t.most,.bool t.bare] 37)).alloc (.cells #[.string s,.int .i64 c,.int .i64 e0,.bool false] 61)).heap[w.heap.size+1]? = some (.cells #[.string s,.int .i64 c,.int .i64 e0,.bool false] 61) from new_at _ _ _ (by simp))
 have HB1:=Lib.hid hb1
 clear hb1
 go_upto_region 1 with (fail)
 generalize (w.alloc (.cells #[.int .i64 8,.int .u64 (Oc.U t.w0),.int .u64 (Oc.U t.w1),.int .u64 (Oc.U t.w2),.int .u64 (Oc.U t.w3),.slice p t.subs.length cap,.int .i64 t.num,.int .i64 t.least,.int .i64 t.most,.bool t.bare] 37)).alloc (.cells #[.string s,.int .i64 c,.int .i64 e0,.bool false] 61)=W1 at *
 go_wp2_with (first
   | (refine wpList_load_row rfl 61 (.tmp 4) rfl (w.heap.size+1) rfl 61 _ (0,0) _ Y1.out Tryd.underlying61 rfl (by kernel_rfl) ?_)
   | fail)
 refine (HNO.out W1).mono ?_
 rintro e w2 ⟨g,rfl,hg0,hg,hb2⟩
 have HB:=Lib.hid (HB1.out.trans (hb2.mono HB1.out.size));have ZN:=Lib.hid (keep_blk hb2 Y0.out);have ZS:=Lib.hid (keep_blk hb2 Y1.out);have Z7:=Lib.hid hg
 have HF:=Lib.hid (HF0.out.below HB.out)
 have G7:=Lib.hid (show w.heap.size+1 < g from Nat.lt_of_lt_of_le (Array.getElem?_eq_some_iff.1 Y1.out).1 hg0)
 clear hg0 hg hb2 HB1 Y0 Y1 HNO
 by_cases hex:∃ i,i < s.size+1∧F i=true
 · have HSO:=Lib.hid (rrsome_any (s.size+1) (by omega) F true ⟨fun _=>hex,fun _=>rfl⟩ f w2 HF.out)
   clear hex
   go_wp2_with fail
   refine HSO.out.mono ?_
   rintro e w3 ⟨rfl,rfl⟩
   clear HSO
   obtain ⟨n0,n1,n2,n3,n4,n5,n6,n7,n8,n9⟩:=allTen ZN.out
   go_wp2_with (first
     | (refine wpList_load_row rfl 37 (.tmp 3) rfl w.heap.size rfl 37 _ (0,0) _ ZN.out Tryd.underlying37 rfl (by kernel_rfl) ?_)
     | (refine wpList_load_row rfl 61 (.tmp 4) rfl (w.heap.size+1) rfl 61 _ (0,0) _ ZS.out Tryd.underlying61 rfl (by kernel_rfl) ?_)
     | fail)
   refine (HRD.out _ HB.out).mono ?_
   rintro e w4 ⟨v4,rfl,⟨G,h1,h2⟩,hb4⟩
   have H1:=Lib.hid h1;have H2:=Lib.hid h2;have HB4:=Lib.hid (HB.out.trans (hb4.mono HB.out.size))
   clear h1 h2 hb4 HRD HB ZN ZS HF Z7 n0 n1 n2 n3 n4 n5 n6 n7 n8 n9
   go_wp2
   go_ret
   exact ⟨_,rfl,⟨G,H1.out,H2.out.congr fun i j _=>(HTK.out i j).symm⟩,HB4.out⟩
 · have HSO:=Lib.hid (rrsome_any (s.size+1) (by omega) F false ⟨fun h=>absurd h (by decide),fun h=>absurd h hex⟩ f w2 HF.out)
   have HNX:=Lib.hid (show ∀ i,i ≤ s.size→F i=false from fun i hi=>by
     cases h:F i with
     | false=>rfl
     | true=>exact absurd ⟨i,by omega,h⟩ hex)
   clear hex
   go_wp2_with fail
   refine HSO.out.mono ?_
   rintro e w3 ⟨rfl,rfl⟩
   go_wp2
   go_ret
   exact ⟨_,rfl,⟨fun _=>false,⟨g,rfl,Z7.out⟩,Re.Leads.none HNX.out (fun _ _=>rfl)⟩,HB.out⟩
theorem rrover_any (s:ByteArray) (c e0:Int) (hs:s.size ≤ 1000000) (t:Tr) (hform:t.InForm):Overs s c e0 t:=by
 induction t using Tr.rec_subs with
 | h t ih =>
   have IH:∀ u,u ∈ t.subs→Overs s c e0 u:=fun u hu=>ih u hu (hform.sub hu)
   intro w B v f F hv hf
   obtain ⟨sv,rfl,hsv⟩:=hv
   rcases hform.fields with ⟨hk,-⟩ | ⟨hk,-⟩ | ⟨hk | hk,-⟩ | ⟨hk,-,-,-,-,hl,-⟩ | ⟨hk,-,-,-,-,hl,-,h0,h1,h2,-⟩
   · exact rrover_leaf s c e0 hs t _ rfl (by omega) w B sv f F hsv hf
   · exact rrover_leaf s c e0 hs t _ rfl (by omega) w B sv f F hsv hf
   · exact rrover_seq s c e0 hs t hk IH w B sv f F hsv hf
   · exact rrover_alt s c e0 hs t hk IH w B sv f F hsv hf
   · obtain ⟨u,hu⟩:=List.length_eq_one_iff.1 hl
     exact rrover_grp s c e0 hs t hk u hu (IH u (by rw [hu];simp)) w B sv f F hsv hf
   · obtain ⟨u,hu⟩:=List.length_eq_one_iff.1 hl
     exact rrover_rep s c e0 hs t hk u hu h0 h1 h2 (IH u (by rw [hu];simp)) w B sv f F hsv hf
end Go.Proofs.YtnaoiglbjkjogaaDoor
namespace Go.Proofs.YtnaoiglbjkjogaaDoor
open Go.RowKit
namespace Tr
def usedT (t:Tr):Tr:=.node t.kind (if t.kind=2 then t.w0 else 0#64) (if t.kind=2 then t.w1 else 0#64) (if t.kind=2 then t.w2 else 0#64) (if t.kind=2 then t.w3 else 0#64) [] (if t.kind=7 then t.num else 0) (if t.kind=8 then t.least else 0) (if t.kind=8 then t.most else 0) (if t.kind=8 then t.bare else false)
end Tr
theorem refused_plain (k:Int) (a b c d:BitVec 64) (n lo hi:Int) (br:Bool) (p:Option Addr) (l cp:Nat) (w:World):Calls Tryd.prog 106 #[.agg #[.int .i64 k,.int .u64 (Oc.U a),.int .u64 (Oc.U b),.int .u64 (Oc.U c),.int .u64 (Oc.U d),.slice p l cp,.int .i64 n,.int .i64 lo,.int .i64 hi,.bool br]] w fun e w' =>
   e=.returned (.agg #[.int .i64 k,.int .u64 (Oc.U (if k=2 then a else 0#64)),.int .u64 (Oc.U (if k=2 then b else 0#64)),.int .u64 (Oc.U (if k=2 then c else 0#64)),.int .u64 (Oc.U (if k=2 then d else 0#64)),.slice none 0 0,.int .i64 (if k=7 then n else 0),.int .i64 (if k=8 then lo else 0),.int .i64 (if k=8 then hi else 0),.bool (if k=8 then br else false)])∧Below w.heap.size w w':=by
 have u0:Oc.U 0#64=0:=by decide
 by_cases h2:k=2
 · subst h2
   simp only [if_true,reduceIte,Int.reduceEq]
   clear u0
   go_enter Tryd.func106,Tryd.ntmps106
   go_wp2
   exact bodyPost_ret (results_cell_row rfl _ _ (w.heap.size+1) 37 _ (0,0) _ rfl (three_new _ _ _ _).2.1 Tryd.underlying37 rfl (by kernel_rfl)) rfl ⟨rfl,by go_grown⟩
 have e2:(k == 2)=false:=by simpa using h2
 simp only [if_neg h2,u0]
 clear u0 h2
 by_cases h7:k=7
 · subst h7
   simp only [if_true,reduceIte,Int.reduceEq]
   go_enter Tryd.func106,Tryd.ntmps106
   go_wp2
   exact bodyPost_ret (results_cell_row rfl _ _ (w.heap.size+1) 37 _ (0,0) _ rfl (three_new _ _ _ _).2.1 Tryd.underlying37 rfl (by kernel_rfl)) rfl ⟨rfl,by go_grown⟩
 have e7:(k == 7)=false:=by simpa using h7
 simp only [if_neg h7]
 clear h7
 by_cases h8:k=8
 · subst h8
   simp only [if_true]
   go_enter Tryd.func106,Tryd.ntmps106
   go_wp2
   exact bodyPost_ret (results_cell_row rfl _ _ (w.heap.size+1) 37 _ (0,0) _ rfl (three_new _ _ _ _).2.1 Tryd.underlying37 rfl (by kernel_rfl)) rfl ⟨rfl,by go_grown⟩
 have e8:(k == 8)=false:=by simpa using h8
 simp only [if_neg h8]
 clear h8
 go_enter Tryd.func106,Tryd.ntmps106
 go_wp2
 exact bodyPost_ret (results_cell_row rfl _ _ (w.heap.size+1) 37 _ (0,0) _ rfl (three_new _ _ _ _).2.1 Tryd.underlying37 rfl (by kernel_rfl)) rfl ⟨rfl,by go_grown⟩
theorem refused_any (t:Tr) (s:Value) (hs:∃ p l c,s=.slice p l c) (w:World):Calls Tryd.prog 106 #[.agg (t.cells s)] w fun e w'=>e=.returned (.agg (t.usedT.cells (.slice none 0 0)))∧Below w.heap.size w w':=by
 obtain ⟨p,l,c,rfl⟩:=hs
 exact refused_plain t.kind t.w0 t.w1 t.w2 t.w3 t.num t.least t.most t.bare p l c w
end Go.Proofs.YtnaoiglbjkjogaaDoor
namespace Go.Proofs.YtnaoiglbjkjogaaDoor
open Go.RowKit
namespace Tr
def misV (k:Int) (S:Bool) (n un lo ulo hi uhi:Int) (br ubr:Bool):Bool:=decide (k < 1) || decide (8 < k) || !S || (n != un) || (lo != ulo) || (hi != uhi) || (br != ubr)
def badV (k:Int) (len:Nat) (n lo hi:Int) (br:Bool):Bool :=
 if k=5 ∨ k=6 then decide (len < 2)
 else if k=7 then len != 1 || decide (n < 1) || decide (999 < n)
 else if k=8 then len != 1 || decide (lo < 0) || decide (255 < lo) || decide (hi < -1) || decide (255 < hi) || (decide (0 ≤ hi) && decide (hi < lo)) || (br && lo != 0)
 else len != 0
def sameW (a b c d a' b' c' d':BitVec 64):Bool:=Oc.U a == Oc.U a' && (Oc.U b == Oc.U b' && (Oc.U c == Oc.U c' && Oc.U d == Oc.U d'))
theorem sameW_iff {a b c d a' b' c' d':BitVec 64} : sameW a b c d a' b' c' d'=true ↔ a=a'∧b=b'∧c=c'∧d=d':=by
 unfold sameW
 rw [Bool.and_eq_true,Bool.and_eq_true,Bool.and_eq_true,beq_iff_eq,beq_iff_eq,beq_iff_eq,beq_iff_eq]
 exact ⟨fun h=>⟨Oc.U_inj h.1,Oc.U_inj h.2.1,Oc.U_inj h.2.2.1,Oc.U_inj h.2.2.2⟩,fun h=>by rw [h.1,h.2.1,h.2.2.1,h.2.2.2];exact ⟨rfl,rfl,rfl,rfl⟩⟩
def mism (t:Tr):Bool:=misV t.kind (sameW t.w0 t.w1 t.w2 t.w3 t.usedT.w0 t.usedT.w1 t.usedT.w2 t.usedT.w3) t.num t.usedT.num t.least t.usedT.least t.most t.usedT.most t.bare t.usedT.bare
def bad (t:Tr):Bool:=badV t.kind t.subs.length t.num t.least t.most t.bare
theorem mism_iff (t:Tr):t.mism=false ↔ (1 ≤ t.kind∧t.kind ≤ 8)∧(t.kind=2 ∨ (t.w0=0#64∧t.w1=0#64∧t.w2=0#64∧t.w3=0#64))∧(t.kind=7 ∨ t.num=0)∧(t.kind=8 ∨ (t.least=0∧t.most=0∧t.bare=false)):=by
 unfold mism misV usedT
 simp only [Bool.or_eq_false_iff,decide_eq_false_iff_not,Bool.not_eq_false',sameW_iff,bne_eq_false_iff_eq,Tr.w0,Tr.w1,Tr.w2,Tr.w3,Tr.num,Tr.least,Tr.most,Tr.bare]
 by_cases h2:t.kind=2
 · simp only [h2];simp [and_assoc]
 · by_cases h7:t.kind=7
   · simp only [h7];simp [and_assoc]
   · by_cases h8:t.kind=8
     · simp only [h8];simp [and_assoc]
     · simp only [h2,h7,h8];simp [and_assoc]
theorem fieldsB_ref (t:Tr):t.fieldsB=(!t.mism && !t.bad):=by
 rw [Bool.eq_iff_iff,fieldsB_iff,Bool.and_eq_true,Bool.not_eq_true',Bool.not_eq_true',mism_iff]
 unfold bad badV fieldsOk
 have hl:∀ m:Nat,(t.subs.length != m)=false ↔ t.subs.length=m:=fun m=>by simp
 constructor
 · rintro (⟨h | h | h,a,b,c,d,i,e,f,g,j⟩ | ⟨h,i,e,f,g,j⟩ | ⟨h | h,a,b,c,d,i,e,f,g,j⟩ | ⟨h,a,b,c,d,i,e1,e2,f,g,j⟩ | ⟨h,a,b,c,d,i,e,f1,f2,f3,f4⟩) <;> simp only [h] at * <;> simp_all <;> omega
 · rintro ⟨⟨⟨h1,h2⟩,h3,h4,h5⟩,h6⟩
   have hk:t.kind=1 ∨ t.kind=2 ∨ t.kind=3 ∨ t.kind=4 ∨ t.kind=5 ∨ t.kind=6 ∨ t.kind=7 ∨ t.kind=8:=by omega
   rcases hk with h | h | h | h | h | h | h | h <;> simp only [h] at * <;> simp_all <;> omega
end Tr
end Go.Proofs.YtnaoiglbjkjogaaDoor
namespace Go.Proofs.YtnaoiglbjkjogaaDoor
open Go.RowKit
theorem refform_step (k:Int) (a b c d:BitVec 64) (us:List Tr) (n lo hi:Int) (br:Bool) (p:Option Addr) (cap:Nat) (ua ub uc ud:BitVec 64) (un ulo uhi:Int) (ubr:Bool) (w:World) (B:Nat→Prop)
   (HU:Hid (∀ w,Calls Tryd.prog 106 #[.agg #[.int .i64 k,.int .u64 (Oc.U a),.int .u64 (Oc.U b),.int .u64 (Oc.U c),.int .u64 (Oc.U d),.slice p us.length cap,.int .i64 n,.int .i64 lo,.int .i64 hi,.bool br]] w fun e w'=>e=.returned (.agg #[.int .i64 k,.int .u64 (Oc.U ua),.int .u64 (Oc.U ub),.int .u64 (Oc.U uc),.int .u64 (Oc.U ud),.slice none 0 0,.int .i64 un,.int .i64 ulo,.int .i64 uhi,.bool ubr])∧Below w.heap.size w w'))
   (HS:Hid (TreesAt w B (.slice p us.length cap) us)) (hlen:us.length * 96 ≤ 140737488351232)
   (IH:Hid (∀ x,x ∈ us→∀ w B v,NodeV w B v x→Calls Tryd.prog 75 #[v] w fun e w'=>e=.returned (.bool x.formB)∧Below w.heap.size w w')) :
   Calls Tryd.prog 75 #[.agg #[.int .i64 k,.int .u64 (Oc.U a),.int .u64 (Oc.U b),.int .u64 (Oc.U c),.int .u64 (Oc.U d),.slice p us.length cap,.int .i64 n,.int .i64 lo,.int .i64 hi,.bool br]] w fun e w'=>e=.returned (.bool ((!Tr.misV k (Tr.sameW a b c d ua ub uc ud) n un lo ulo hi uhi br ubr && !Tr.badV k us.length n lo hi br) && Tr.formS us))∧Below w.heap.size w w':=by
 have he:=eq4
 obtain ⟨S,hS⟩:∃ S,Tr.sameW a b c d ua ub uc ud=S:=⟨_,rfl⟩
 obtain ⟨M,hM⟩:∃ M,Tr.misV k S n un lo ulo hi uhi br ubr=M:=⟨_,rfl⟩
 obtain ⟨Bd,hB⟩:∃ Bd,Tr.badV k us.length n lo hi br=Bd:=⟨_,rfl⟩
 obtain ⟨R,hR⟩:∃ R,((!M && !Bd) && Tr.formS us)=R:=⟨_,rfl⟩
 rw [hS,hM,hB,hR]
 have HR:=Lib.hid hR
 unfold Tr.sameW at hS
 unfold Tr.misV at hM
 unfold Tr.badV at hB
 have HM:=Lib.hid hM;have HBd:=Lib.hid hB;have HSm:=Lib.hid hS;have HLen:=Lib.hid hlen
 clear hM hB hR hS hlen
 go_enter Tryd.func75,Tryd.ntmps75
 go_wp2_with fail
 refine (HU.out _).mono ?_
 rintro e W0 ⟨rfl,hb1⟩
 have Z1:=Lib.hid (keep_blk hb1 (heap_alloc_new w _))
 have HB1:=Lib.hid (((Below.refl _ _).alloc (Nat.le_refl _) _).trans (hb1.mono (by simp)))
 have hs1:w.heap.size < W0.heap.size:=by have:=hb1.size;simp at this;omega
 clear hb1 HU
 go_upto_region 2 with (fail)
 have Z2:=Lib.hid (heap_alloc_lt (o:=.cells #[.int .i64 k,.int .u64 (Oc.U ua),.int .u64 (Oc.U ub),.int .u64 (Oc.U uc),.int .u64 (Oc.U ud),.slice none 0 0,.int .i64 un,.int .i64 ulo,.int .i64 uhi,.bool ubr] 37) Z1.out)
 have Y2:=Lib.hid (heap_alloc_new W0 (.cells #[.int .i64 k,.int .u64 (Oc.U ua),.int .u64 (Oc.U ub),.int .u64 (Oc.U uc),.int .u64 (Oc.U ud),.slice none 0 0,.int .i64 un,.int .i64 ulo,.int .i64 uhi,.bool ubr] 37))
 have HB2:=Lib.hid (HB1.out.alloc HB1.out.size (.cells #[.int .i64 k,.int .u64 (Oc.U ua),.int .u64 (Oc.U ub),.int .u64 (Oc.U uc),.int .u64 (Oc.U ud),.slice none 0 0,.int .i64 un,.int .i64 ulo,.int .i64 uhi,.bool ubr] 37))
 have hs2:w.heap.size < (W0.alloc (.cells #[.int .i64 k,.int .u64 (Oc.U ua),.int .u64 (Oc.U ub),.int .u64 (Oc.U uc),.int .u64 (Oc.U ud),.slice none 0 0,.int .i64 un,.int .i64 ulo,.int .i64 uhi,.bool ubr] 37)).heap.size:=by simp;omega
 clear Z1 HB1
 generalize W0.alloc (.cells #[.int .i64 k,.int .u64 (Oc.U ua),.int .u64 (Oc.U ub),.int .u64 (Oc.U uc),.int .u64 (Oc.U ud),.slice none 0 0,.int .i64 un,.int .i64 ulo,.int .i64 uhi,.bool ubr] 37)=W2 at *
 go_cut [51] (fun u wx=>u=.bool M∧W2=wx)
 case first =>
   have hM:=HM.out;have hS:=HSm.out
   obtain ⟨d0,d1,d2,d3,d4,d5,d6,d7,d8,d9⟩:=allTen Z2.out
   obtain ⟨u0,u1,u2,u3,u4,u5,u6,u7,u8,u9⟩:=allTen Y2.out
   clear HM HBd HSm HR HS IH HB2 hs2
   rcases bool_or (decide (k < 1)) with q0 | q0
   · rw [q0] at hM
     subst hM
     go_wp2
     go_meet
     exact ⟨rfl,rfl⟩
   rcases bool_or (decide (8 < k)) with q1 | q1
   · rw [q0,q1] at hM
     subst hM
     go_wp2
     go_meet
     exact ⟨rfl,rfl⟩
   cases S with
   | false =>
     rw [q0,q1] at hM
     subst hM
     go_wp2
     go_meet
     exact ⟨rfl,rfl⟩
   | true =>
     rcases bool_or (n != un) with q3 | q3
     · rw [q0,q1,q3] at hM
       subst hM
       go_wp2
       go_meet
       exact ⟨rfl,rfl⟩
     rcases bool_or (lo != ulo) with q4 | q4
     · rw [q0,q1,q3,q4] at hM
       subst hM
       go_wp2
       go_meet
       exact ⟨rfl,rfl⟩
     rcases bool_or (hi != uhi) with q5 | q5
     · rw [q0,q1,q3,q4,q5] at hM
       subst hM
       go_wp2
       go_meet
       exact ⟨rfl,rfl⟩
     cases br <;> cases ubr <;> (
       rw [q0,q1,q3,q4,q5] at hM
       subst hM
       go_wp2
       go_meet
       exact ⟨rfl,rfl⟩)
 case rest =>
   obtain ⟨rfl,rfl⟩:=hcut
   clear HM HSm Y2
   cases M with
   | true =>
     have hr:=HR.out
     rw [Bool.not_true,Bool.false_and,Bool.false_and] at hr
     subst hr
     clear HR HBd HS IH
     go_wp2
     go_ret
     exact ⟨rfl,HB2.out⟩
   | false =>
     have hr:=HR.out
     rw [Bool.not_false,Bool.true_and] at hr
     have HR:=Lib.hid hr
     clear hr
     have hB:=HBd.out
     clear HBd
     have z5:=(allTen Z2.out).2.2.2.2.2.1
     obtain ⟨d0,d1,d2,d3,d4,d5,d6,d7,d8,d9⟩:=allTen Z2.out
     by_cases kk5:k=5
     · subst kk5
       rw [if_pos (by decide)] at hB
       have hl2:decide ((us.length:Int) < 2)=decide (us.length < 2):=by
         by_cases h:us.length < 2
         · rw [decide_eq_true h,decide_eq_true (by omega)]
         · rw [decide_eq_false h,decide_eq_false (by omega)]
       cases Bd with
       | true =>
         have hr:=HR.out
         rw [Bool.not_true,Bool.false_and] at hr
         subst hr
         rw [hB] at hl2
         go_wp2
         go_ret
         exact ⟨rfl,HB2.out⟩
       | false =>
         have hr:=HR.out
         rw [Bool.not_false,Bool.true_and] at hr
         have HR:=Lib.hid hr
         clear hr
         rw [hB] at hl2
         go_wp2
         clear d0 d1 d2 d3 d4 d5 d6 d7 d8 d9
         go_loopw [5] (fun iv wr=>∃ m:Nat,iv=.int .i64 m∧m ≤ us.length∧Hid (Tr.formS (us.take m)=true)∧Hid (Below w.heap.size w wr)∧w.heap.size < wr.heap.size∧Hid (wr.cell? ⟨w.heap.size,5,none⟩=some (.slice p us.length cap))) (fun iv _=>us.length - (intOf iv).toNat)
         case atStart=>exact ⟨0,rfl,Nat.zero_le _,Lib.hid rfl,HB2,hs2,Lib.hid z5⟩
         case round =>
           obtain ⟨m,rfl,hm,HT,HB,hsz,Z0⟩:=hrel
           clear z5
           have wm:IntKind.i64.wrap ((m:Int)+1)=(m:Int)+1:=IntWalk.i64_in _ (by have:=HLen.out;omega)
           by_cases hlt:m < us.length
           · obtain ⟨x,hx⟩:∃ x,us[m]? = some x:=⟨_,List.getElem?_eq_getElem hlt⟩
             obtain ⟨b1,o1,s1,rfl,-,t1,sub1⟩:=HS.out.get hx
             obtain ⟨d0,d1,d2,d3,d4,d5,d6,d7,d8,d9⟩:=t1.keep (HB.out.block _ t1.lt)
             have hmem:=List.mem_of_getElem? hx
             have HC:=Lib.hid (IH.out x hmem wr B (.agg (x.cells s1)) ⟨_,rfl,sub1.later HB.out⟩)
             have hst:=Tr.formS_take us m x hx
             rw [HT.out,Bool.true_and] at hst
             have HST:=Lib.hid hst
             have z5:=Z0.out
             clear t1 sub1 hmem hx hst
             unfold Tr.cells at HC
             go_wp2_with fail
             refine HC.out.mono ?_
             rintro e w2 ⟨rfl,hb2⟩
             have HB2:=Lib.hid (HB.out.trans (hb2.mono HB.out.size));have Y2:=Lib.hid ((hb2.cell (p:=⟨w.heap.size,5,none⟩) hsz).trans z5)
             have hsz2:w.heap.size < w2.heap.size:=Nat.lt_of_lt_of_le hsz hb2.size
             clear d0 d1 d2 d3 d4 d5 d6 d7 d8 d9 z5 hb2 HC
             cases hxf:x.formB with
             | false =>
               rw [hxf] at HST
               have hr:=HR.out
               rw [Tr.formS_no HST.out] at hr
               subst hr
               clear hxf
               go_wp2
               go_ret
               exact ⟨rfl,HB2.out⟩
             | true =>
               rw [hxf] at HST
               clear hxf
               go_wp2
               exact ⟨⟨m+1,by go_num,by omega,HST,HB2,hsz2,Y2⟩,by simp [intOf];omega⟩
           · obtain rfl:m=us.length:=by omega
             rw [List.take_length] at *
             have hr:=HR.out
             rw [HT.out] at hr
             subst hr
             go_wp2
             go_ret
             exact ⟨rfl,HB.out⟩
     have n5:(k == 5)=false:=by simpa using kk5
     by_cases kk6:k=6
     · subst kk6
       rw [if_pos (by decide)] at hB
       have hl2:decide ((us.length:Int) < 2)=decide (us.length < 2):=by
         by_cases h:us.length < 2
         · rw [decide_eq_true h,decide_eq_true (by omega)]
         · rw [decide_eq_false h,decide_eq_false (by omega)]
       cases Bd with
       | true =>
         have hr:=HR.out
         rw [Bool.not_true,Bool.false_and] at hr
         subst hr
         rw [hB] at hl2
         go_wp2
         go_ret
         exact ⟨rfl,HB2.out⟩
       | false =>
         have hr:=HR.out
         rw [Bool.not_false,Bool.true_and] at hr
         have HR:=Lib.hid hr
         clear hr
         rw [hB] at hl2
         go_wp2
         clear d0 d1 d2 d3 d4 d5 d6 d7 d8 d9
         go_loopw [5] (fun iv wr=>∃ m:Nat,iv=.int .i64 m∧m ≤ us.length∧Hid (Tr.formS (us.take m)=true)∧Hid (Below w.heap.size w wr)∧w.heap.size < wr.heap.size∧Hid (wr.cell? ⟨w.heap.size,5,none⟩=some (.slice p us.length cap))) (fun iv _=>us.length - (intOf iv).toNat)
         case atStart=>exact ⟨0,rfl,Nat.zero_le _,Lib.hid rfl,HB2,hs2,Lib.hid z5⟩
         case round =>
           obtain ⟨m,rfl,hm,HT,HB,hsz,Z0⟩:=hrel
           clear z5
           have wm:IntKind.i64.wrap ((m:Int)+1)=(m:Int)+1:=IntWalk.i64_in _ (by have:=HLen.out;omega)
           by_cases hlt:m < us.length
           · obtain ⟨x,hx⟩:∃ x,us[m]? = some x:=⟨_,List.getElem?_eq_getElem hlt⟩
             obtain ⟨b1,o1,s1,rfl,-,t1,sub1⟩:=HS.out.get hx
             obtain ⟨d0,d1,d2,d3,d4,d5,d6,d7,d8,d9⟩:=t1.keep (HB.out.block _ t1.lt)
             have hmem:=List.mem_of_getElem? hx
             have HC:=Lib.hid (IH.out x hmem wr B (.agg (x.cells s1)) ⟨_,rfl,sub1.later HB.out⟩)
             have hst:=Tr.formS_take us m x hx
             rw [HT.out,Bool.true_and] at hst
             have HST:=Lib.hid hst
             have z5:=Z0.out
             clear t1 sub1 hmem hx hst
             unfold Tr.cells at HC
             go_wp2_with fail
             refine HC.out.mono ?_
             rintro e w2 ⟨rfl,hb2⟩
             have HB2:=Lib.hid (HB.out.trans (hb2.mono HB.out.size));have Y2:=Lib.hid ((hb2.cell (p:=⟨w.heap.size,5,none⟩) hsz).trans z5)
             have hsz2:w.heap.size < w2.heap.size:=Nat.lt_of_lt_of_le hsz hb2.size
             clear d0 d1 d2 d3 d4 d5 d6 d7 d8 d9 z5 hb2 HC
             cases hxf:x.formB with
             | false =>
               rw [hxf] at HST
               have hr:=HR.out
               rw [Tr.formS_no HST.out] at hr
               subst hr
               clear hxf
               go_wp2
               go_ret
               exact ⟨rfl,HB2.out⟩
             | true =>
               rw [hxf] at HST
               clear hxf
               go_wp2
               exact ⟨⟨m+1,by go_num,by omega,HST,HB2,hsz2,Y2⟩,by simp [intOf];omega⟩
           · obtain rfl:m=us.length:=by omega
             rw [List.take_length] at *
             have hr:=HR.out
             rw [HT.out] at hr
             subst hr
             go_wp2
             go_ret
             exact ⟨rfl,HB.out⟩
     have n6:(k == 6)=false:=by simpa using kk6
     by_cases kk7:k=7
     · subst kk7
       rw [if_neg (by decide),if_pos rfl] at hB
       have hl1:((us.length:Int) != 1)=(us.length != 1):=by
         by_cases h:us.length=1
         · rw [h];rfl
         · have e1:(us.length != 1)=true:=by simpa using h
           have e2:((us.length:Int) != 1)=true:=by rw [bne_iff_ne];omega
           rw [e1,e2]
       rcases bool_or (us.length != 1) with q0 | q0
       · rw [q0] at hB hl1
         simp only [Bool.true_or] at hB
         subst hB
         have hr:=HR.out
         rw [Bool.not_true,Bool.false_and] at hr
         subst hr
         go_wp2
         go_ret
         exact ⟨rfl,HB2.out⟩
       rw [q0] at hl1
       rcases bool_or (decide (n < 1)) with q1 | q1
       · rw [q0,q1] at hB
         simp only [Bool.true_or,Bool.or_true] at hB
         subst hB
         have hr:=HR.out
         rw [Bool.not_true,Bool.false_and] at hr
         subst hr
         go_wp2
         go_ret
         exact ⟨rfl,HB2.out⟩
       rcases bool_or (decide (999 < n)) with q2 | q2
       · rw [q0,q1,q2] at hB
         simp only [Bool.or_false,Bool.or_true] at hB
         subst hB
         have hr:=HR.out
         rw [Bool.not_true,Bool.false_and] at hr
         subst hr
         go_wp2
         go_ret
         exact ⟨rfl,HB2.out⟩
       rw [q0,q1,q2] at hB
       simp only [Bool.or_false] at hB
       subst hB
       have hr:=HR.out
       rw [Bool.not_false,Bool.true_and] at hr
       have HR:=Lib.hid hr
       clear hr
       go_wp2
       clear d0 d1 d2 d3 d4 d5 d6 d7 d8 d9
       go_loopw [5] (fun iv wr=>∃ m:Nat,iv=.int .i64 m∧m ≤ us.length∧Hid (Tr.formS (us.take m)=true)∧Hid (Below w.heap.size w wr)∧w.heap.size < wr.heap.size∧Hid (wr.cell? ⟨w.heap.size,5,none⟩=some (.slice p us.length cap))) (fun iv _=>us.length - (intOf iv).toNat)
       case atStart=>exact ⟨0,rfl,Nat.zero_le _,Lib.hid rfl,HB2,hs2,Lib.hid z5⟩
       case round =>
         obtain ⟨m,rfl,hm,HT,HB,hsz,Z0⟩:=hrel
         clear z5
         have wm:IntKind.i64.wrap ((m:Int)+1)=(m:Int)+1:=IntWalk.i64_in _ (by have:=HLen.out;omega)
         by_cases hlt:m < us.length
         · obtain ⟨x,hx⟩:∃ x,us[m]? = some x:=⟨_,List.getElem?_eq_getElem hlt⟩
           obtain ⟨b1,o1,s1,rfl,-,t1,sub1⟩:=HS.out.get hx
           obtain ⟨d0,d1,d2,d3,d4,d5,d6,d7,d8,d9⟩:=t1.keep (HB.out.block _ t1.lt)
           have hmem:=List.mem_of_getElem? hx
           have HC:=Lib.hid (IH.out x hmem wr B (.agg (x.cells s1)) ⟨_,rfl,sub1.later HB.out⟩)
           have hst:=Tr.formS_take us m x hx
           rw [HT.out,Bool.true_and] at hst
           have HST:=Lib.hid hst
           have z5:=Z0.out
           clear t1 sub1 hmem hx hst
           unfold Tr.cells at HC
           go_wp2_with fail
           refine HC.out.mono ?_
           rintro e w2 ⟨rfl,hb2⟩
           have HB2:=Lib.hid (HB.out.trans (hb2.mono HB.out.size));have Y2:=Lib.hid ((hb2.cell (p:=⟨w.heap.size,5,none⟩) hsz).trans z5)
           have hsz2:w.heap.size < w2.heap.size:=Nat.lt_of_lt_of_le hsz hb2.size
           clear d0 d1 d2 d3 d4 d5 d6 d7 d8 d9 z5 hb2 HC
           cases hxf:x.formB with
           | false =>
             rw [hxf] at HST
             have hr:=HR.out
             rw [Tr.formS_no HST.out] at hr
             subst hr
             clear hxf
             go_wp2
             go_ret
             exact ⟨rfl,HB2.out⟩
           | true =>
             rw [hxf] at HST
             clear hxf
             go_wp2
             exact ⟨⟨m+1,by go_num,by omega,HST,HB2,hsz2,Y2⟩,by simp [intOf];omega⟩
         · obtain rfl:m=us.length:=by omega
           rw [List.take_length] at *
           have hr:=HR.out
           rw [HT.out] at hr
           subst hr
           go_wp2
           go_ret
           exact ⟨rfl,HB.out⟩
     have n7:(k == 7)=false:=by simpa using kk7
     by_cases kk8:k=8
     · subst kk8
       rw [if_neg (by decide),if_neg (by decide),if_pos rfl] at hB
       have hl1:((us.length:Int) != 1)=(us.length != 1):=by
         by_cases h:us.length=1
         · rw [h];rfl
         · have e1:(us.length != 1)=true:=by simpa using h
           have e2:((us.length:Int) != 1)=true:=by rw [bne_iff_ne];omega
           rw [e1,e2]
       have HB:=Lib.hid hB
       clear hB
       go_upto_region 16 with (fail)
       go_cut [122] (fun u wx=>u=.bool Bd∧W2=wx)
       case first =>
         have hB:=HB.out
         clear HB HR HS IH HB2 hs2
         rcases bool_or (us.length != 1) with q0 | q0
         · rw [q0] at hB hl1
           subst hB
           go_wp2
           go_meet
           exact ⟨rfl,rfl⟩
         rw [q0] at hl1
         rcases bool_or (decide (lo < 0)) with q1 | q1
         · rw [q0,q1] at hB
           subst hB
           go_wp2
           go_meet
           exact ⟨rfl,rfl⟩
         rcases bool_or (decide (255 < lo)) with q2 | q2
         · rw [q0,q1,q2] at hB
           subst hB
           go_wp2
           go_meet
           exact ⟨rfl,rfl⟩
         rcases bool_or (decide (hi < -1)) with q3 | q3
         · rw [q0,q1,q2,q3] at hB
           subst hB
           go_wp2
           go_meet
           exact ⟨rfl,rfl⟩
         rcases bool_or (decide (255 < hi)) with q4 | q4
         · rw [q0,q1,q2,q3,q4] at hB
           subst hB
           go_wp2
           go_meet
           exact ⟨rfl,rfl⟩
         rcases bool_or (decide (0 ≤ hi)) with q5 | q5 <;> rcases bool_or (decide (hi < lo)) with q6 | q6 <;> rcases bool_or (lo != 0) with q7 | q7 <;> cases br <;> (
           rw [q0,q1,q2,q3,q4,q5,q6,q7] at hB
           subst hB
           go_wp2
           go_meet
           exact ⟨rfl,rfl⟩)
       case rest =>
         obtain ⟨rfl,rfl⟩:=hcut
         clear HB hl1
         cases Bd with
         | true =>
           have hr:=HR.out
           rw [Bool.not_true,Bool.false_and] at hr
           subst hr
           go_wp2
           go_ret
           exact ⟨rfl,HB2.out⟩
         | false =>
           have hr:=HR.out
           rw [Bool.not_false,Bool.true_and] at hr
           have HR:=Lib.hid hr
           clear hr
           go_wp2
           clear d0 d1 d2 d3 d4 d5 d6 d7 d8 d9
           go_loopw [5] (fun iv wr=>∃ m:Nat,iv=.int .i64 m∧m ≤ us.length∧Hid (Tr.formS (us.take m)=true)∧Hid (Below w.heap.size w wr)∧w.heap.size < wr.heap.size∧Hid (wr.cell? ⟨w.heap.size,5,none⟩=some (.slice p us.length cap))) (fun iv _=>us.length - (intOf iv).toNat)
           case atStart=>exact ⟨0,rfl,Nat.zero_le _,Lib.hid rfl,HB2,hs2,Lib.hid z5⟩
           case round =>
             obtain ⟨m,rfl,hm,HT,HB,hsz,Z0⟩:=hrel
             clear z5
             have wm:IntKind.i64.wrap ((m:Int)+1)=(m:Int)+1:=IntWalk.i64_in _ (by have:=HLen.out;omega)
             by_cases hlt:m < us.length
             · obtain ⟨x,hx⟩:∃ x,us[m]? = some x:=⟨_,List.getElem?_eq_getElem hlt⟩
               obtain ⟨b1,o1,s1,rfl,-,t1,sub1⟩:=HS.out.get hx
               obtain ⟨d0,d1,d2,d3,d4,d5,d6,d7,d8,d9⟩:=t1.keep (HB.out.block _ t1.lt)
               have hmem:=List.mem_of_getElem? hx
               have HC:=Lib.hid (IH.out x hmem wr B (.agg (x.cells s1)) ⟨_,rfl,sub1.later HB.out⟩)
               have hst:=Tr.formS_take us m x hx
               rw [HT.out,Bool.true_and] at hst
               have HST:=Lib.hid hst
               have z5:=Z0.out
               clear t1 sub1 hmem hx hst
               unfold Tr.cells at HC
               go_wp2_with fail
               refine HC.out.mono ?_
               rintro e w2 ⟨rfl,hb2⟩
               have HB2:=Lib.hid (HB.out.trans (hb2.mono HB.out.size));have Y2:=Lib.hid ((hb2.cell (p:=⟨w.heap.size,5,none⟩) hsz).trans z5)
               have hsz2:w.heap.size < w2.heap.size:=Nat.lt_of_lt_of_le hsz hb2.size
               clear d0 d1 d2 d3 d4 d5 d6 d7 d8 d9 z5 hb2 HC
               cases hxf:x.formB with
               | false =>
                 rw [hxf] at HST
                 have hr:=HR.out
                 rw [Tr.formS_no HST.out] at hr
                 subst hr
                 clear hxf
                 go_wp2
                 go_ret
                 exact ⟨rfl,HB2.out⟩
               | true =>
                 rw [hxf] at HST
                 clear hxf
                 go_wp2
                 exact ⟨⟨m+1,by go_num,by omega,HST,HB2,hsz2,Y2⟩,by simp [intOf];omega⟩
             · obtain rfl:m=us.length:=by omega
               rw [List.take_length] at *
               have hr:=HR.out
               rw [HT.out] at hr
               subst hr
               go_wp2
               go_ret
               exact ⟨rfl,HB.out⟩
     have n8:(k == 8)=false:=by simpa using kk8
     rw [if_neg (by omega),if_neg kk7,if_neg kk8] at hB
     have hl0:((us.length:Int) != 0)=(us.length != 0):=by
       by_cases h:us.length=0
       · rw [h];rfl
       · have e1:(us.length != 0)=true:=by simpa using h
         have e2:((us.length:Int) != 0)=true:=by rw [bne_iff_ne];omega
         rw [e1,e2]
     cases Bd with
     | true =>
       have hr:=HR.out
       rw [Bool.not_true,Bool.false_and] at hr
       subst hr
       rw [hB] at hl0
       clear kk5 kk6 kk7 kk8
       go_wp2
       go_ret
       exact ⟨rfl,HB2.out⟩
     | false =>
       have hr:=HR.out
       rw [Bool.not_false,Bool.true_and] at hr
       have HR:=Lib.hid hr
       clear hr
       rw [hB] at hl0
       clear kk5 kk6 kk7 kk8
       go_wp2
       clear d0 d1 d2 d3 d4 d5 d6 d7 d8 d9
       go_loopw [5] (fun iv wr=>∃ m:Nat,iv=.int .i64 m∧m ≤ us.length∧Hid (Tr.formS (us.take m)=true)∧Hid (Below w.heap.size w wr)∧w.heap.size < wr.heap.size∧Hid (wr.cell? ⟨w.heap.size,5,none⟩=some (.slice p us.length cap))) (fun iv _=>us.length - (intOf iv).toNat)
       case atStart=>exact ⟨0,rfl,Nat.zero_le _,Lib.hid rfl,HB2,hs2,Lib.hid z5⟩
       case round =>
         obtain ⟨m,rfl,hm,HT,HB,hsz,Z0⟩:=hrel
         clear z5
         have wm:IntKind.i64.wrap ((m:Int)+1)=(m:Int)+1:=IntWalk.i64_in _ (by have:=HLen.out;omega)
         by_cases hlt:m < us.length
         · obtain ⟨x,hx⟩:∃ x,us[m]? = some x:=⟨_,List.getElem?_eq_getElem hlt⟩
           obtain ⟨b1,o1,s1,rfl,-,t1,sub1⟩:=HS.out.get hx
           obtain ⟨d0,d1,d2,d3,d4,d5,d6,d7,d8,d9⟩:=t1.keep (HB.out.block _ t1.lt)
           have hmem:=List.mem_of_getElem? hx
           have HC:=Lib.hid (IH.out x hmem wr B (.agg (x.cells s1)) ⟨_,rfl,sub1.later HB.out⟩)
           have hst:=Tr.formS_take us m x hx
           rw [HT.out,Bool.true_and] at hst
           have HST:=Lib.hid hst
           have z5:=Z0.out
           clear t1 sub1 hmem hx hst
           unfold Tr.cells at HC
           go_wp2_with fail
           refine HC.out.mono ?_
           rintro e w2 ⟨rfl,hb2⟩
           have HB2:=Lib.hid (HB.out.trans (hb2.mono HB.out.size));have Y2:=Lib.hid ((hb2.cell (p:=⟨w.heap.size,5,none⟩) hsz).trans z5)
           have hsz2:w.heap.size < w2.heap.size:=Nat.lt_of_lt_of_le hsz hb2.size
           clear d0 d1 d2 d3 d4 d5 d6 d7 d8 d9 z5 hb2 HC
           cases hxf:x.formB with
           | false =>
             rw [hxf] at HST
             have hr:=HR.out
             rw [Tr.formS_no HST.out] at hr
             subst hr
             clear hxf
             go_wp2
             go_ret
             exact ⟨rfl,HB2.out⟩
           | true =>
             rw [hxf] at HST
             clear hxf
             go_wp2
             exact ⟨⟨m+1,by go_num,by omega,HST,HB2,hsz2,Y2⟩,by simp [intOf];omega⟩
         · obtain rfl:m=us.length:=by omega
           rw [List.take_length] at *
           have hr:=HR.out
           rw [HT.out] at hr
           subst hr
           go_wp2
           go_ret
           exact ⟨rfl,HB.out⟩
theorem refform_any:∀ t:Tr,∀ (w:World) (B:Nat→Prop) (v:Value),NodeV w B v t→Calls Tryd.prog 75 #[v] w fun e w'=>e=.returned (.bool t.formB)∧Below w.heap.size w w':=by
 intro t
 induction t using Tr.rec_subs with
 | h t ih =>
   intro w B v hv
   obtain ⟨s,rfl,hs⟩:=hv
   obtain ⟨p,cap,rfl,hlen⟩:=hs.slice
   have h:=refform_step t.kind t.w0 t.w1 t.w2 t.w3 t.subs t.num t.least t.most t.bare p cap t.usedT.w0 t.usedT.w1 t.usedT.w2 t.usedT.w3 t.usedT.num t.usedT.least t.usedT.most t.usedT.bare w B (Lib.hid (fun w=>refused_any t _ ⟨p,t.subs.length,cap,rfl⟩ w)) (Lib.hid hs) hlen (Lib.hid (fun x hx w B v hv=>ih x hx w B v hv))
   rw [Tr.formB_eq,Tr.fieldsB_ref]
   exact h
end Go.Proofs.YtnaoiglbjkjogaaDoor
namespace Go.Proofs.YtnaoiglbjkjogaaDoor
open Go.RowKit
theorem Tr.dpT_ref (t:Tr):t.dpT=Tr.dpS t.subs+(if (((t.kind == 8) && decide (0 < t.subs.length)) && !((t.least == 0) && ((t.most == 1) || (t.most == -1))))=true then 2 else 1):=by
 rw [Tr.dpT_eq]
 by_cases h0:t.subs.length=0
 · have e:t.subs=[]:=List.length_eq_zero_iff.1 h0
   rw [if_pos h0,e]
   simp [Tr.dpS]
 · rw [if_neg h0]
   have e:decide (0 < t.subs.length)=true:=by rw [decide_eq_true_eq];omega
   rw [e]
   congr 1
   have:(t.kind=8∧¬ (t.least=0∧(t.most=1 ∨ t.most = -1))) ↔ ((((t.kind == 8) && true) && !((t.least == 0) && ((t.most == 1) || (t.most == -1))))=true):=by by_cases a:t.least=0 <;> simp [a]
   by_cases h:t.kind=8∧¬ (t.least=0∧(t.most=1 ∨ t.most = -1))
   · rw [if_pos h,if_pos (this.1 h)]
   · rw [if_neg h,if_neg (fun h2=>h (this.2 h2))]
theorem refdepth_any:∀ t:Tr,t.dpT ≤ 1000000→∀ (w:World) (B:Nat→Prop) (v:Value),NodeV w B v t→Calls Tryd.prog 68 #[v] w (SizeEnd t.dpT w):=by
 intro t
 induction t using Tr.rec_subs with
 | h t ih =>
   intro hd w B v hv
   obtain ⟨s,rfl,hs⟩:=hv
   obtain ⟨p,cap,rfl,hlen⟩:=hs.slice
   have heq:=Tr.dpT_ref t
   rw [heq] at hd ⊢
   clear heq
   generalize hts:t.subs=ts at *
   have IH:=Lib.hid ih;have HS:=Lib.hid hs
   clear ih hs hts
   unfold Tr.cells at *
   have hle:Tr.dpS ts ≤ 1000000:=by omega
   generalize hD:Tr.dpS ts+(if (((t.kind == 8) && decide (0 < ts.length)) && !((t.least == 0) && ((t.most == 1) || (t.most == -1))))=true then 2 else 1)=D at *
   have HDE:=Lib.hid hD
   have Z0:=Lib.hid (heap_alloc_new w (.cells #[.int .i64 t.kind,.int .u64 (Oc.U t.w0),.int .u64 (Oc.U t.w1),.int .u64 (Oc.U t.w2),.int .u64 (Oc.U t.w3),.slice p ts.length cap,.int .i64 t.num,.int .i64 t.least,.int .i64 t.most,.bool t.bare] 37))
   have HW:=Lib.hid (show Below w.heap.size w (w.alloc (.cells #[.int .i64 t.kind,.int .u64 (Oc.U t.w0),.int .u64 (Oc.U t.w1),.int .u64 (Oc.U t.w2),.int .u64 (Oc.U t.w3),.slice p ts.length cap,.int .i64 t.num,.int .i64 t.least,.int .i64 t.most,.bool t.bare] 37)) from (Below.refl _ _).alloc (Nat.le_refl _) _)
   have hz:w.heap.size < (w.alloc (.cells #[.int .i64 t.kind,.int .u64 (Oc.U t.w0),.int .u64 (Oc.U t.w1),.int .u64 (Oc.U t.w2),.int .u64 (Oc.U t.w3),.slice p ts.length cap,.int .i64 t.num,.int .i64 t.least,.int .i64 t.most,.bool t.bare] 37)).heap.size:=by simp
   have HD:=Lib.hid hd
   clear hd hD
   go_enter Tryd.func68,Tryd.ntmps68
   go_wp2
   generalize w.alloc (.cells #[.int .i64 t.kind,.int .u64 (Oc.U t.w0),.int .u64 (Oc.U t.w1),.int .u64 (Oc.U t.w2),.int .u64 (Oc.U t.w3),.slice p ts.length cap,.int .i64 t.num,.int .i64 t.least,.int .i64 t.most,.bool t.bare] 37)=W0 at *
   go_loopw [3,4] (fun gv iv wr=>∃ m:Nat,iv=.int .i64 m∧m ≤ ts.length∧gv=.int .i64 (Tr.dpS (ts.take m):Nat)∧Hid (Below W0.heap.size W0 wr)) (fun _ iv _=>ts.length - (intOf iv).toNat)
   case atStart=>exact ⟨0,rfl,Nat.zero_le _,rfl,Lib.hid (Below.refl _ _)⟩
   case round =>
     obtain ⟨m,rfl,hm,rfl,HB⟩:=hrel
     have wm:IntKind.i64.wrap ((m:Int)+1)=(m:Int)+1:=IntWalk.i64_in _ (by omega)
     have HBW:=Lib.hid (HW.out.trans (HB.out.mono HW.out.size))
     have Z1:=Lib.hid (keep_blk (HB.out.mono (Nat.le_refl _)) Z0.out)
     have z5:=(allTen Z1.out).2.2.2.2.2.1
     by_cases hlt:m < ts.length
     · obtain ⟨x,hx⟩:∃ x,ts[m]? = some x:=⟨_,List.getElem?_eq_getElem hlt⟩
       obtain ⟨b1,o1,s1,rfl,-,t1,sub1⟩:=HS.out.get hx
       obtain ⟨d0,d1,d2,d3,d4,d5,d6,d7,d8,d9⟩:=t1.keep (HBW.out.block _ t1.lt)
       have hmem:=List.mem_of_getElem? hx
       obtain ⟨p1,c1,rfl,hl1⟩:=sub1.slice
       have hdx:x.dpT ≤ 1000000:=by have:=Tr.dpT_le_dpS hmem;omega
       have HC:=Lib.hid (fun w9 hb=>IH.out x hmem hdx w9 B (.agg (x.cells (.slice p1 x.subs.length c1))) ⟨_,rfl,sub1.later hb⟩)
       have HSTP:=Lib.hid (Tr.dpS_take ts m x hx)
       clear t1 sub1 hmem hx hdx
       generalize hn:Tr.dpS (ts.take m)=n at *
       clear hn
       unfold Tr.cells at HC
       go_wp2_with fail
       refine (HC.out wr HBW.out).mono ?_
       rintro e w2 ⟨rfl,hb2⟩
       have HB2:=Lib.hid (HB.out.trans (hb2.mono HB.out.size))
       clear d0 d1 d2 d3 d4 d5 d6 d7 d8 d9 z5 hb2 HC
       generalize x.dpT=N at *
       go_wp2
       all_goals
         exact ⟨⟨m+1,by go_num,by omega,by rw [HSTP.out];simp;try omega,HB2⟩,by simp [intOf];omega⟩
     · obtain rfl:m=ts.length:=by omega
       rw [List.take_length] at *
       have w2':IntKind.i64.wrap ((Tr.dpS ts:Int)+2)=(Tr.dpS ts:Int)+2:=IntWalk.i64_in _ (by omega)
       have w1':IntKind.i64.wrap ((Tr.dpS ts:Int)+1)=(Tr.dpS ts:Int)+1:=IntWalk.i64_in _ (by omega)
       have hde:=HDE.out
       clear z5
       obtain ⟨d0,d1,d2,d3,d4,d5,d6,d7,d8,d9⟩:=allTen Z1.out
       have hl:decide ((0:Int) < ts.length)=decide (0 < ts.length):=by
         by_cases h:0 < ts.length
         · rw [decide_eq_true h,decide_eq_true (by omega)]
         · rw [decide_eq_false h,decide_eq_false (by omega)]
       rcases bool_or (t.kind == 8) with q1 | q1 <;> rcases bool_or (decide (0 < ts.length)) with q2 | q2 <;> rcases bool_or (t.least == 0) with q3 | q3 <;> rcases bool_or (t.most == 1) with q4 | q4 <;> rcases bool_or (t.most == -1) with q5 | q5 <;> (
         rw [q1,q2,q3,q4,q5] at hde
         rw [q2] at hl
         simp only [Bool.and_true,Bool.and_false,Bool.or_true,Bool.or_false,Bool.not_true,Bool.not_false,if_true,if_false,Bool.false_eq_true] at hde
         have HDF:=Lib.hid hde
         clear hde
         go_wp2
         go_ret
         exact ⟨ret_int (by have:=HDF.out;omega),HBW.out⟩)
theorem refcheck_any (t:Tr) (hd:t.dpT ≤ 1000000) (w:World) (B:Nat→Prop) (v:Value) (hv:NodeV w B v t):Calls Tryd.prog 59 #[v] w (SizeEnd t.checkC w):=by
 obtain ⟨s,rfl,hs⟩:=hv
 have H1:=Lib.hid (fun w' hb=>refform_any t w' B (.agg (t.cells s)) ⟨s,rfl,TreesAt.later (w':=w') hs hb⟩)
 have H2:=Lib.hid (fun w' hb=>refdepth_any t hd w' B (.agg (t.cells s)) ⟨s,rfl,TreesAt.later (w':=w') hs hb⟩)
 have H3:=Lib.hid (fun (hf:t.InForm) w' hb=>refsize_any t hf w' B (.agg (t.cells s)) ⟨s,rfl,TreesAt.later (w':=w') hs hb⟩)
 obtain ⟨p,cap,rfl,hlen⟩:=hs.slice
 have Z0:=Lib.hid (heap_alloc_new w (.cells (t.cells (.slice p t.subs.length cap)) 37))
 have hfi:=Tr.formB_iff t
 have HFI:=Lib.hid hfi
 have HCC:=Lib.hid (show t.checkC=if t.formB=false then 13 else if 200 < t.dpT then 14 else if 2000 < t.szT then 10 else 0 from rfl)
 clear hs hd hfi
 unfold Tr.cells at *
 go_enter Tryd.func59,Tryd.ntmps59
 go_wp2_with (first
   | (refine wpList_load_row rfl 37 (.tmp 1) rfl w.heap.size rfl 37 _ (0,0) _ Z0.out Tryd.underlying37 rfl (by kernel_rfl) ?_)
   | fail)
 refine (H1.out _ ((Below.refl _ _).alloc (Nat.le_refl _) _)).mono ?_
 rintro e w1 ⟨rfl,hb1⟩
 have Z1:=Lib.hid (keep_blk hb1 Z0.out)
 have HB1:=Lib.hid (((Below.refl w.heap.size w).alloc (Nat.le_refl _) _).trans (hb1.mono (by simp)))
 clear hb1 Z0
 have hcc:=HCC.out
 cases hfb:t.formB with
 | false =>
   rw [if_pos hfb] at hcc
   have HCV:=Lib.hid hcc
   clear hcc HCC HFI hfb
   go_wp2
   go_ret
   exact ⟨ret_int (by rw [HCV.out];rfl),HB1.out⟩
 | true =>
   have hform:=HFI.out.1 hfb
   have H3':=Lib.hid (H3.out hform)
   rw [if_neg (by rw [hfb];decide)] at hcc
   have HC2:=Lib.hid hcc
   clear hcc HCC HFI hfb hform H3
   go_wp2_with (first
     | (refine wpList_load_row rfl 37 (.tmp 1) rfl w.heap.size rfl 37 _ (0,0) _ Z1.out Tryd.underlying37 rfl (by kernel_rfl) ?_)
     | fail)
   refine (H2.out _ HB1.out).mono ?_
   rintro e w2 ⟨rfl,hb2⟩
   have Z2:=Lib.hid (keep_blk hb2 Z1.out)
   have HB2:=Lib.hid (HB1.out.trans (hb2.mono HB1.out.size))
   clear hb2 Z1
   have hcc:=HC2.out
   by_cases hd:200 < t.dpT
   · rw [if_pos hd] at hcc
     have HCV:=Lib.hid hcc
     have e1:decide ((200:Int) < t.dpT)=true:=by simp;omega
     have e1':decide (200 < t.dpT)=true:=by simpa using hd
     clear hcc HC2 hd
     generalize t.dpT=D at *
     go_wp2
     go_ret
     exact ⟨ret_int (by rw [HCV.out];rfl),HB2.out⟩
   · have e1:decide ((200:Int) < t.dpT)=false:=by simp;omega
     have e1':decide (200 < t.dpT)=false:=by simpa using hd
     rw [if_neg hd] at hcc
     have HC3:=Lib.hid hcc
     clear hcc HC2 hd
     generalize t.dpT=D at *
     go_wp2_with (first
       | (refine wpList_load_row rfl 37 (.tmp 1) rfl w.heap.size rfl 37 _ (0,0) _ Z2.out Tryd.underlying37 rfl (by kernel_rfl) ?_)
       | fail)
     refine (H3'.out _ HB2.out).mono ?_
     rintro e w3 ⟨rfl,hb3⟩
     have HB3:=Lib.hid (HB2.out.trans (hb3.mono HB2.out.size))
     clear hb3 Z2
     have hcc:=HC3.out
     by_cases hz:2000 < t.szT
     · rw [if_pos hz] at hcc
       have HCV:=Lib.hid hcc
       have z1:decide ((2000:Int) < t.szT)=true:=by simp;omega
       have z1':decide (2000 < t.szT)=true:=by simpa using hz
       clear hcc HC3 hz
       generalize t.szT=ZT at *
       go_wp2
       go_ret
       exact ⟨ret_int (by rw [HCV.out];rfl),HB3.out⟩
     · rw [if_neg hz] at hcc
       have HCV:=Lib.hid hcc
       have z1:decide ((2000:Int) < t.szT)=false:=by simp;omega
       have z1':decide (2000 < t.szT)=false:=by simpa using hz
       clear hcc HC3 hz
       generalize t.szT=ZT at *
       go_wp2
       go_ret
       exact ⟨ret_int (by rw [HCV.out];rfl),HB3.out⟩
end Go.Proofs.YtnaoiglbjkjogaaDoor
namespace Go.Proofs.YtnaoiglbjkjogaaDoor
open Go.RowKit
theorem leads_one {n:Nat} {R:Nat→Nat→Prop} {k:Nat} (hk:k ≤ n) {G:Nat→Bool} (h:Re.Leads n R (fun j=>decide (j=k)) G) (j:Nat) (hj:j ≤ n):G j=true ↔ R k j:=by
 rw [h j hj]
 constructor
 · rintro ⟨i,-,a,b⟩
   simp only [decide_eq_true_eq] at a
   subst a;exact b
 · intro h;exact ⟨k,hk,by simp,h⟩
theorem rrtakes_any (s:ByteArray) (c e0:Int) (hs:s.size ≤ 1000000) (t:Tr) (hform:t.InForm) (k:Nat) (hk:k ≤ s.size) (l:Nat) (hl:l ≤ s.size) (w:World) (B:Nat→Prop) (v:Value) (hv:NodeV w B v t) :
   Calls Tryd.prog 97 #[v,.agg #[.string s,.int .i64 c,.int .i64 e0,.bool false],.int .i64 (k:Int),.int .i64 (l:Int)] w fun e w'=>∃ q,e=.returned (.bool q)∧(q=true ↔ Tr.tk (Sc.new s c e0) t k l)∧Below w.heap.size w w':=by
 obtain ⟨sv,rfl,hsv⟩:=hv
 obtain ⟨p,cap,rfl,hlen⟩:=hsv.slice
 have HOV:=Lib.hid (fun w9 (hb:Below w.heap.size w w9) f FV hf=>rrover_any s c e0 hs t hform w9 B (.agg (t.cells (.slice p t.subs.length cap))) f FV ⟨_,rfl,hsv.later hb⟩ hf)
 have HON:=Lib.hid (fun w9=>rronly_any s c e0 false hs k hk w9)
 clear hsv hform
 unfold Tr.cells at *
 go_enter Tryd.func97,Tryd.ntmps97
 have hb1:Below w.heap.size w ((w.alloc (.cells #[.int .i64 t.kind,.int .u64 (Oc.U t.w0),.int .u64 (Oc.U t.w1),.int .u64 (Oc.U t.w2),.int .u64 (Oc.U t.w3),.slice p t.subs.length cap,.int .i64 t.num,.int .i64 t.least,.int .i64 t.most,.bool t.bare] 37)).alloc (.cells #[.string s,.int .i64 c,.int .i64 e0,.bool false] 61)):=by go_grown
 have Y0:=Lib.hid (show ((w.alloc (.cells #[.int .i64 t.kind,.int .u64 (Oc.U t.w0),.int .u64 (Oc.U t.w1),.int .u64 (Oc.U t.w2),.int .u64 (Oc.U t.w3),.slice p t.subs.length cap,.int .i64 t.num,.int .i64 t.least,.int .i64 t.most,.bool t.bare] 37)).alloc (.cells #[.string s,.int .i64 c,.int .i64 e0,.bool false] 61)).heap[w.heap.size]? = some (.cells #[.int .i64 t.kind,.int .u64 (Oc.U t.w0),.int .u64 (Oc.U t.w1),.int .u64 (Oc.U t.w2),.int .u64 (Oc.U t.w3),.slice p t.subs.length cap,.int .i64 t.num,.int .i64 t.least,.int .i64 t.most,.bool t.bare] 37) from heap_alloc_lt (heap_alloc_new _ _))
 have Y1:=Lib.hid (show ((w.alloc (.cells #[.int .i64 t.kind,.int .u64 (Oc.U t.w0),.int .u64 (Oc.U t.w1),.int .u64 (Oc.U t.w2),.int .u64 (Oc.U t.w3),.slice p t.subs.length cap,.int .i64 t.num,.int .i64 t.least,.int .i64 t.most,.bool t.bare] 37)).alloc (.cells #[.string s,.int .i64 c,.int .i64 e0,.bool false] 61)).heap[w.heap.size+1]? = some (.cells #[.string s,.int .i64 c,.int .i64 e0,.bool false] 61) from new_at _ _ _ (by simp))
 have HB1:=Lib.hid hb1
 clear hb1
 go_upto_region 1 with (fail)
 generalize (w.alloc (.cells #[.int .i64 t.kind,.int .u64 (Oc.U t.w0),.int .u64 (Oc.U t.w1),.int .u64 (Oc.U t.w2),.int .u64 (Oc.U t.w3),.slice p t.subs.length cap,.int .i64 t.num,.int .i64 t.least,.int .i64 t.most,.bool t.bare] 37)).alloc (.cells #[.string s,.int .i64 c,.int .i64 e0,.bool false] 61)=W1 at *
 refine Ri.wp_region_frame (by kernel_rfl) (by kernel_rfl) (by kernel_rfl) (by kernel_rfl)
   (fun L v w'=>Below W1.heap.size W1 w'∧(L 0=true→v 0=.agg #[.int .i64 t.kind,.int .u64 (Oc.U t.w0),.int .u64 (Oc.U t.w1),.int .u64 (Oc.U t.w2),.int .u64 (Oc.U t.w3),.slice p t.subs.length cap,.int .i64 t.num,.int .i64 t.least,.int .i64 t.most,.bool t.bare])∧(L 1=true→v 1=.agg #[.string s,.int .i64 c,.int .i64 e0,.bool false])∧(L 2=true→v 2=.agg #[.string s,.int .i64 c,.int .i64 e0,.bool false])∧(L 3=true→v 3=.int .i64 (k:Int))∧(L 4=true→BlAt w' (v 4) (s.size+1) (fun j=>decide (j=k)))∧(L 5=true→OvAt w' (v 5) s.size (Tr.tk (Sc.new s c e0) t) (fun j=>decide (j=k)))∧(L 6=true→OvAt w' (v 6) s.size (Tr.tk (Sc.new s c e0) t) (fun j=>decide (j=k))))
   ?_ ?_ ?_
 · exact ⟨(Below.refl _ _).drew,by simp,by simp,by simp,by simp,by simp,by simp,by simp⟩
 · intro i hi9 L v w9 xa hI hL hd hv ho
   have hi':i=0 ∨ i=1 ∨ i=2 ∨ i=3 ∨ i=4 ∨ i=5 ∨ i=6:=by simp at hi9;omega
   obtain ⟨hb,q0,q1,q2,q3,q4,q5,q6⟩:=hI
   rcases hi' with rfl | rfl | rfl | rfl | rfl | rfl | rfl
   · have e4:xa.tmps.getD 4 undef=.pointer (some ⟨w.heap.size,0,none⟩):=ho 4 (by kernel_rfl)
     refine Ri.step_plain rfl rfl (fun K' hK=>?_)
     refine wp_load_row _ _ rfl _ e4 _ _ _ _ (keep_blk hb Y0.out) Tryd.underlying37 rfl (by kernel_rfl) ?_
     exact hK _ _ ⟨_,_,rfl,rfl,hb,fun _=>rfl,q1,q2,q3,q4,q5,q6⟩
   · have e5:xa.tmps.getD 5 undef=.pointer (some ⟨(w.heap.size+1),0,none⟩):=ho 5 (by kernel_rfl)
     refine Ri.step_plain rfl rfl (fun K' hK=>?_)
     refine wp_load_row _ _ rfl _ e5 _ _ _ _ (keep_blk hb Y1.out) Tryd.underlying61 rfl (by kernel_rfl) ?_
     exact hK _ _ ⟨_,_,rfl,rfl,hb,q0,fun _=>rfl,q2,q3,q4,q5,q6⟩
   · have e5:xa.tmps.getD 5 undef=.pointer (some ⟨(w.heap.size+1),0,none⟩):=ho 5 (by kernel_rfl)
     refine Ri.step_plain rfl rfl (fun K' hK=>?_)
     refine wp_load_row _ _ rfl _ e5 _ _ _ _ (keep_blk hb Y1.out) Tryd.underlying61 rfl (by kernel_rfl) ?_
     exact hK _ _ ⟨_,_,rfl,rfl,hb,q0,q1,fun _=>rfl,q3,q4,q5,q6⟩
   · have e2:xa.tmps.getD 2 undef=.int .i64 (k:Int):=ho 2 (by kernel_rfl)
     refine Ri.step_plain rfl rfl (fun K' hK=>?_)
     go_simp
     exact hK _ _ ⟨_,_,rfl,rfl,hb,q0,q1,q2,fun _=>rfl,q4,q5,q6⟩
   · have l0:L 2=true∧L 3=true:=by have:=hd _ rfl;simp [Region.binds] at this;simp [this]
     have f2:=(hv 2 12 rfl l0.1).trans (q2 l0.1)
     have f3:=(hv 3 13 rfl l0.2).trans (q3 l0.2)
     refine Ri.step_plain rfl rfl (fun K' hK=>?_)
     go_simp
     refine (HON.out w9).mono ?_
     rintro e w8 ⟨g8,rfl,-,hg8,hb8⟩
     exact hK _ _ ⟨_,_,rfl,rfl,hb.trans (hb8.mono hb.size),q0,q1,q2,q3,fun _=>⟨g8,rfl,hg8⟩,fun l=>(q5 l).below hb8,fun l=>(q6 l).below hb8⟩
   · have l0:L 0=true∧L 1=true∧L 4=true:=by have:=hd _ rfl;simp [Region.binds] at this;simp [this]
     have f0:=(hv 0 10 rfl l0.1).trans (q0 l0.1)
     have f1:=(hv 1 11 rfl l0.2.1).trans (q1 l0.2.1)
     have f4:=hv 4 14 rfl l0.2.2
     refine Ri.step_plain rfl rfl (fun K' hK=>?_)
     have hq9:=(q4 l0.2.2)
     go_simp
     refine (HOV.out w9 (HB1.out.trans (hb.mono HB1.out.size)) _ _ hq9).mono ?_
     rintro e w8 ⟨v8,rfl,hv8,hb8⟩
     exact hK _ _ ⟨_,_,rfl,rfl,hb.trans (hb8.mono hb.size),q0,q1,q2,q3,fun l=>(q4 l).below hb8,fun _=>hv8,fun l=>(q6 l).below hb8⟩
   · have l0:L 5=true:=by have:=hd _ rfl;simp [Region.binds] at this;simp [this]
     have f5:=hv 5 15 rfl l0
     refine Ri.step_plain rfl rfl (fun K' hK=>?_)
     have hq9:=(q5 l0)
     go_simp
     exact hK _ _ ⟨_,_,rfl,rfl,hb,q0,q1,q2,q3,q4,q5,fun _=>hq9⟩
 · rintro v w9 ⟨hb,-,-,-,-,-,-,q6⟩
   have E6:=Lib.hid (q6 rfl)
   simp only [Ri.frame,List.zipIdx,List.foldl_cons,List.foldl_nil,if_true,List.setIfInBounds_toArray,List.set_cons_zero,List.set_cons_succ,Nat.reduceAdd]
   clear q6
   generalize v 0=y0;generalize v 1=y1;generalize v 2=y2;generalize v 3=y3;generalize v 4=y4;generalize v 5=y5;generalize v 6=y6 at *
   obtain ⟨G,hBL,hLD⟩:=E6.out
   have HG:=Lib.hid (leads_one hk hLD l hl)
   have HB:=Lib.hid (HB1.out.trans (hb.mono HB1.out.size))
   obtain ⟨g,rfl,hg⟩:=hBL
   obtain ⟨l0,-⟩:=bl_cell (k:=l) (by omega) hg
   have hli:(l:Int) < ((s.size+1:Nat):Int):=by omega
   clear hLD E6 HB1 hb HOV HON Y0 Y1 hk hl hg
   go_wp2
   go_ret
   exact ⟨_,rfl,HG.out,HB.out⟩
namespace Re
end Re
end Go.Proofs.YtnaoiglbjkjogaaDoor
namespace Go.Proofs.YtnaoiglbjkjogaaDoor
open Go.RowKit
namespace Pa
mutual
def ndT:Pa→Nat
 | .node _ _ _ s=>1+ndS s
def ndS:List Pa→Nat
 | []=>0
 | t :: l=>ndT t+ndS l
end
theorem ndT_eq (t:Pa):t.ndT=1+ndS t.subs:=by cases t;rw [ndT];rfl
mutual
def leftT:Pa→Int→Int
 | .node _ _ _ s,m=>leftS s (m - 1)
def leftS:List Pa→Int→Int
 | [],m=>m
 | t :: l,m=>if 0 ≤ m then leftS l (leftT t m) else m
end
theorem leftT_eq (t:Pa) (m:Int):t.leftT m=leftS t.subs (m - 1):=by cases t;rw [leftT];rfl
theorem leftS_neg (l:List Pa) {m:Int} (h:m < 0):leftS l m=m:=by
 cases l with
 | nil=>rfl
 | cons t l=>rw [leftS,if_neg (by omega)]
theorem leftS_spec:∀ (l:List Pa),(∀ t,t ∈ l→∀ m,0 ≤ m→t.leftT m ≤ m∧-1 ≤ t.leftT m∧(0 ≤ t.leftT m→t.leftT m=m - t.ndT)∧((t.ndT:Int) ≤ m→0 ≤ t.leftT m))→∀ m,-1 ≤ m→leftS l m ≤ m∧-1 ≤ leftS l m∧(0 ≤ leftS l m→leftS l m=m - ndS l)∧(0 ≤ m→(ndS l:Int) ≤ m→0 ≤ leftS l m)
 | [],_,m,hm=>by rw [leftS,ndS];exact ⟨Int.le_refl _,hm,fun _=>by omega,fun h _=>h⟩
 | t :: l,ih,m,hm=>by
   rw [leftS,ndS]
   split
   · rename_i h0
     obtain ⟨h1,h2,h3,h4⟩:=ih t List.mem_cons_self m h0
     obtain ⟨k1,k2,k3,k4⟩:=leftS_spec l (fun u hu=>ih u (List.mem_cons_of_mem _ hu)) (t.leftT m) h2
     refine ⟨by omega,k2,fun h=>?_,fun _ h=>?_⟩
     · have:=h3 (by omega)
       have:=k3 h
       omega
     · have a:=h4 (by omega)
       have b:=h3 a
       exact k4 a (by omega)
   · rename_i h0
     exact ⟨Int.le_refl _,hm,fun h=>absurd h h0,fun h=>absurd h h0⟩
theorem leftT_spec:∀ (t:Pa) (m:Int),0 ≤ m→t.leftT m ≤ m∧-1 ≤ t.leftT m∧(0 ≤ t.leftT m→t.leftT m=m - t.ndT)∧((t.ndT:Int) ≤ m→0 ≤ t.leftT m):=by
 intro t
 induction t using Pa.rec_subs with
 | h t ih =>
   intro m hm
   rw [leftT_eq,ndT_eq]
   obtain ⟨k1,k2,k3,k4⟩:=leftS_spec t.subs (fun u hu=>ih u hu) (m - 1) (by omega)
   exact ⟨by omega,k2,fun h=>by have:=k3 h;omega,fun h=>k4 (by omega) (by omega)⟩
end Pa
theorem paleft_any:∀ t:Pa,∀ m0:Nat,m0 ≤ 1000000→∀ (w:World) (B:Nat→Prop) (v:Value),PaV w B v t→Calls Tryd.prog 57 #[v,.int .i64 m0] w fun e w'=>e=.returned (.int .i64 (t.leftT m0))∧Below w.heap.size w w':=by
 intro t
 induction t using Pa.rec_subs with
 | h t ih =>
   intro m0 hm0 w B v hv
   obtain ⟨s,rfl,hs⟩:=hv
   obtain ⟨p,cap,rfl,hlen⟩:=hs.slice
   have hsp:=Pa.leftS_spec t.subs (fun u _=>Pa.leftT_spec u)
   rw [Pa.leftT_eq]
   generalize hts:t.subs=ts at *
   have IH:=Lib.hid ih;have HS:=Lib.hid hs;have HSP:=Lib.hid hsp
   clear ih hs hts hsp
   unfold Pa.cells at *
   obtain ⟨R,hR⟩:∃ R,Pa.leftS ts ((m0:Int) - 1)=R:=⟨_,rfl⟩
   rw [hR]
   have HR:=Lib.hid hR
   clear hR
   have w0:IntKind.i64.wrap ((m0:Int) - 1)=(m0:Int) - 1:=IntWalk.i64_in _ (by omega)
   have Z0:=Lib.hid (heap_alloc_new w (.cells #[.int .i64 t.lo,.int .i64 t.hi,.int .i64 t.pick,.slice p ts.length cap] 57))
   have HW:=Lib.hid (show Below w.heap.size w (w.alloc (.cells #[.int .i64 t.lo,.int .i64 t.hi,.int .i64 t.pick,.slice p ts.length cap] 57)) from (Below.refl _ _).alloc (Nat.le_refl _) _)
   go_enter Tryd.func57,Tryd.ntmps57
   go_wp2
   generalize w.alloc (.cells #[.int .i64 t.lo,.int .i64 t.hi,.int .i64 t.pick,.slice p ts.length cap] 57)=W0 at *
   go_loopw [1,5] (fun mv iv wr=>∃ (i:Nat) (m:Int),iv=.int .i64 i∧mv=.int .i64 m∧i ≤ ts.length∧-1 ≤ m∧m ≤ 1000000∧Hid (Pa.leftS (ts.drop i) m=R)∧Hid (Below W0.heap.size W0 wr)) (fun _ iv _=>ts.length - (intOf iv).toNat)
   case atStart=>exact ⟨0,(m0:Int) - 1,rfl,rfl,Nat.zero_le _,by omega,by omega,by rw [List.drop_zero];exact HR,Lib.hid (Below.refl _ _)⟩
   case round =>
     obtain ⟨i,m,rfl,rfl,hi,hm1,hm2,HL,HB⟩:=hrel
     have wi:IntKind.i64.wrap ((i:Int)+1)=(i:Int)+1:=IntWalk.i64_in _ (by omega)
     have HBW:=Lib.hid (HW.out.trans (HB.out.mono HW.out.size))
     have Z1:=Lib.hid (keep_blk (HB.out.mono (Nat.le_refl _)) Z0.out)
     obtain ⟨d0,d1,d2,d3,-,-,-,-⟩:=four Z1.out
     by_cases hlt:i < ts.length
     · by_cases hmz:0 ≤ m
       · obtain ⟨mn,rfl⟩:∃ mn:Nat,m=mn:=⟨m.toNat,by omega⟩
         have gm:decide ((0:Int) ≤ (mn:Int))=true:=by simp
         obtain ⟨x,hx⟩:∃ x,ts[i]? = some x:=⟨_,List.getElem?_eq_getElem hlt⟩
         obtain ⟨b1,o1,s1,rfl,-,t1,sub1⟩:=HS.out.get hx
         obtain ⟨e0,e1,e2,e3⟩:=t1.keep (HBW.out.block _ t1.lt)
         have hmem:=List.mem_of_getElem? hx
         obtain ⟨p1,c1,rfl,hl1⟩:=sub1.slice
         have HC:=Lib.hid (IH.out x hmem mn (by omega) wr B (.agg (x.cells (.slice p1 x.subs.length c1))) ⟨_,rfl,sub1.later HBW.out⟩)
         have hdr:ts.drop i=x :: ts.drop (i+1):=by
           rw [List.drop_eq_getElem_cons hlt,(List.getElem?_eq_some_iff.1 hx).2]
         have hl:=HL.out
         rw [hdr,Pa.leftS,if_pos (by omega)] at hl
         have HL2:=Lib.hid hl
         obtain ⟨k1,k2,-,-⟩:=Pa.leftT_spec x mn (by omega)
         clear t1 sub1 hmem hx hdr hl HL
         unfold Pa.cells at HC
         go_wp2_with fail
         refine HC.out.mono ?_
         rintro e w2 ⟨rfl,hb2⟩
         have HB2:=Lib.hid (HB.out.trans (hb2.mono HB.out.size))
         generalize x.leftT mn=mm at *
         clear e0 e1 e2 e3 hb2 HC d0 d1 d2 d3
         go_wp2
         exact ⟨⟨i+1,mm,by go_num,rfl,by omega,k2,by omega,HL2,HB2⟩,by simp [intOf];omega⟩
       · have gm:decide ((0:Int) ≤ m)=false:=by simp;omega
         have hl:=HL.out
         rw [Pa.leftS_neg _ (by omega)] at hl
         have HL2:=Lib.hid hl
         clear hl HL hmz
         go_wp2
         go_ret
         exact ⟨ret_int HL2.out,HBW.out⟩
     · obtain rfl:i=ts.length:=by omega
       have hl:=HL.out
       rw [List.drop_length,Pa.leftS] at hl
       have HL2:=Lib.hid hl
       clear hl HL
       go_wp2
       go_ret
       exact ⟨ret_int HL2.out,HBW.out⟩
theorem pafew_any (t:Pa) (m:Nat) (hm:m ≤ 1000000) (w:World) (B:Nat→Prop) (v:Value) (hv:PaV w B v t) :
   Calls Tryd.prog 29 #[v,.int .i64 m] w fun e w'=>e=.returned (.bool (decide (t.ndT ≤ m)))∧Below w.heap.size w w':=by
 obtain ⟨s,rfl,hs⟩:=hv
 have H1:=Lib.hid (fun w' (hb:Below w.heap.size w w')=>paleft_any t m hm w' B (.agg (t.cells s)) ⟨s,rfl,PasAt.later (w':=w') hs hb⟩)
 obtain ⟨p,cap,rfl,hlen⟩:=hs.slice
 have hsp:=Pa.leftT_spec t m (by omega)
 have hdec:decide ((0:Int) ≤ t.leftT m)=decide (t.ndT ≤ m):=by
   by_cases h:t.ndT ≤ m
   · rw [decide_eq_true h,decide_eq_true (hsp.2.2.2 (by omega))]
   · rw [decide_eq_false h,decide_eq_false (fun h2=>h (by have:=hsp.2.2.1 h2;omega))]
 have HD:=Lib.hid hdec
 have Z0:=Lib.hid (heap_alloc_new w (.cells (t.cells (.slice p t.subs.length cap)) 57))
 have HW:=Lib.hid (show Below w.heap.size w (w.alloc (.cells (t.cells (.slice p t.subs.length cap)) 57)) from (Below.refl _ _).alloc (Nat.le_refl _) _)
 clear hs hsp hdec
 unfold Pa.cells at *
 go_enter Tryd.func29,Tryd.ntmps29
 go_wp2_with (first
   | (refine wpList_load_row rfl 57 (.tmp 2) rfl w.heap.size rfl 57 _ (0,0) _ Z0.out Tryd.underlying57 rfl (by kernel_rfl) ?_)
   | fail)
 refine (H1.out _ HW.out).mono ?_
 rintro e w1 ⟨rfl,hb1⟩
 have HB1:=Lib.hid (HW.out.trans (hb1.mono HW.out.size))
 clear hb1
 generalize t.leftT m=mm at *
 go_wp2
 go_ret
 exact ⟨ret_bool HD.out,HB1.out⟩
end Go.Proofs.YtnaoiglbjkjogaaDoor
namespace Go.Proofs.YtnaoiglbjkjogaaDoor
open Go.RowKit
open Classical in
noncomputable def Rk.tkN (x:Sc) (t:Tr) (a b:Nat):Bool:=decide (Tr.tk x t a b)
theorem Rk.tkN_iff {x:Sc} {t:Tr} {a b:Nat} : Rk.tkN x t a b=true ↔ Tr.tk x t a b:=by unfold Rk.tkN;exact @decide_eq_true_iff _ (_)
theorem Rk.tkB_eq (x:Sc) (t:Tr) (p:Pa):Rk.tkB x t p=Rk.tkN x t p.lo.toNat p.hi.toNat:=rfl
theorem Pa.nd_sub {q y:Pa} (h:y ∈ q.subs):y.ndT ≤ q.ndT:=by
 rw [Pa.ndT_eq q]
 have key:∀ l:List Pa,y ∈ l→y.ndT ≤ Pa.ndS l:=by
   intro l
   induction l with
   | nil=>intro h;cases h
   | cons a l ih =>
     intro h
     rw [Pa.ndS]
     rcases List.mem_cons.1 h with rfl | h
     · omega
     · have:=ih h;omega
 have:=key _ h
 omega
theorem Pa.nd_len (q:Pa):q.subs.length ≤ q.ndT:=by
 rw [Pa.ndT_eq q]
 have key:∀ l:List Pa,l.length ≤ Pa.ndS l:=by
   intro l
   induction l with
   | nil=>exact Nat.zero_le _
   | cons a l ih=>rw [Pa.ndS,List.length_cons];have:=Pa.ndT_eq a;omega
 have:=key q.subs
 omega
theorem three_newR (w:World) (a b c:Obj):(((w.alloc a).alloc b).alloc c).heap[w.heap.size]? = some a∧(((w.alloc a).alloc b).alloc c).heap[w.heap.size+1]? = some b∧(((w.alloc a).alloc b).alloc c).heap[w.heap.size+1+1]? = some c:=by
 refine ⟨heap_alloc_lt (heap_alloc_lt (heap_alloc_new _ _)),heap_alloc_lt ?_, ?_⟩
 · have:=heap_alloc_new (w.alloc a) b;simpa using this
 · have:=heap_alloc_new ((w.alloc a).alloc b) c;simpa using this
theorem rrkis_any (s:ByteArray) (c e0:Int) (hs:s.size ≤ 1000000):∀ (q:Pa),q.ndT ≤ 1000000→∀ (t:Tr),t.InForm→∀ (w:World) (C:Nat→Prop) (v vq:Value),NodeC w (fun _=>True) v t→PaV w C vq q →
   Calls Tryd.prog 60 #[v,.agg #[.string s,.int .i64 c,.int .i64 e0,.bool false],vq] w fun e w'=>e=.returned (.bool (Rk.isT (Sc.new s c e0) q t))∧Below w.heap.size w w':=by
 intro q
 induction q using Pa.rec_subs with
 | h q ih =>
   intro hnd t hf w C v vq hv hq
   have HSU:=Lib.hid (fun w9 (h:Below w.heap.size w w9)=>rrksubs_any t q hf (by have:=Pa.nd_len q;omega) w9 (fun _=>True) C (fun _ _=>trivial) v vq (hv.later h) (hq.later h))
   have HTK:=Lib.hid (fun w9 (h:Below w.heap.size w w9) k (hk:k ≤ s.size) l (hl:l ≤ s.size)=>rrtakes_any s c e0 hs t hf k hk l hl w9 _ v (hv.plain.later h))
   have HGET:=Lib.hid (fun (h:Rk.rSubs t q=true) i (hi:i < q.subs.length)=>Rk.rList_get hf h hi)
   have HLEN:=Lib.hid (fun (h:Rk.rSubs t q=true)=>Rk.rList_len hf h)
   have HSUB:=Lib.hid (fun u (hu:u ∈ t.subs)=>hf.sub hu)
   have HND:=Lib.hid (fun y (hy:y ∈ q.subs)=>show y.ndT ≤ 1000000 by have:=Pa.nd_sub hy;omega)
   have HLEAF:=Lib.hid (show t.subs=[]→Rk.rSubs t q=true→q.subs=[] by
     intro hts hr
     have hk:=hf.fields
     unfold Tr.fieldsOk at hk
     unfold Rk.rSubs at hr
     have h4:t.kind=1 ∨ t.kind=2 ∨ t.kind=3 ∨ t.kind=4:=by
       rcases hk with ⟨k,-⟩ | ⟨k,-⟩ | ⟨k,-,-,-,-,hl,-⟩ | ⟨k,-,-,-,-,hl,-⟩ | ⟨k,-,-,-,-,hl,-⟩
       · omega
       · omega
       · rw [hts] at hl;simp at hl
       · rw [hts] at hl;simp at hl
       · rw [hts] at hl;simp at hl
     rw [if_neg (by omega),if_neg (by omega),if_neg (by omega),if_neg (by omega),decide_eq_true_eq] at hr
     exact List.length_eq_zero_iff.1 hr)
   obtain ⟨R,hR⟩:∃ R,Rk.isT (Sc.new s c e0) q t=R:=⟨_,rfl⟩
   rw [hR]
   rw [Rk.isT_eq] at hR
   unfold Rk.refK Rk.inSc at hR
   rw [Rk.tkB_eq] at hR
   have HR:=Lib.hid hR
   obtain ⟨sv,rfl,hs1⟩:=hv
   obtain ⟨p,cap,rfl,hlt,-⟩:=hs1.slice
   obtain ⟨z,rfl,hz⟩:=hq
   obtain ⟨pp,pc,rfl,hlq⟩:=hz.slice
   have HRW:=Lib.hid (fun w9 (h:Below w.heap.size w w9)=>rrkrow_any q.subs q.lo q.hi w9 C _ (hz.later h))
   have HQS:=Lib.hid hz
   have IH:=Lib.hid ih
   clear hs1 hz ih hR hf hnd
   generalize hrs:Rk.rSubs t q=rs at *
   generalize hrl:Rk.rList t q=rl at *
   have HSE:=Lib.hid (show ∀ w9 e w',SubE (fun _=>True) t q w9 e w'→∃ v,e=.returned (.tuple #[v,.bool rs])∧(rs=true→RowC w' (fun _=>True) v rl)∧Below w9.heap.size w9 w' from fun w9 e w' h=>by unfold SubE at h;rw [hrs,hrl] at h;exact h)
   unfold Tr.cells Pa.cells at *
   generalize hts:t.subs=ts at *
   generalize hqs:q.subs=qs at *
   have HTE:=Lib.hid hts
   clear hts hqs hrs hrl
   generalize q.lo=lo at *;generalize q.hi=hi at *;generalize q.pick=pk at *
   have d00:∀ z:Int,((Sc.new s c e0).t.size:Int)=s.size:=fun _=>rfl
   by_cases h0:lo < 0
   · have g0:decide (lo < 0)=true:=decide_eq_true h0
     have HR2:=Lib.hid (show false=R by have:=HR.out;rw [decide_eq_false (show ¬ (0 ≤ lo) by omega)] at this;simpa using this)
     clear h0 HR HSU HTK HGET HLEN HSUB HRW HQS IH
     go_enter Tryd.func60,Tryd.ntmps60
     go_wp2
     go_ret
     exact ⟨ret_bool HR2.out,by go_grown⟩
   have g0:decide (lo < 0)=false:=decide_eq_false h0
   by_cases h1:hi < lo
   · have g1:decide (hi < lo)=true:=decide_eq_true h1
     have HR2:=Lib.hid (show false=R by have:=HR.out;rw [decide_eq_false (show ¬ (lo ≤ hi) by omega)] at this;simpa using this)
     clear h0 HR HSU HTK HGET HLEN HSUB HRW HQS IH
     go_enter Tryd.func60,Tryd.ntmps60
     go_wp2
     go_ret
     exact ⟨ret_bool HR2.out,by go_grown⟩
   have g1:decide (hi < lo)=false:=decide_eq_false h1
   by_cases h2:(s.size:Int) < hi
   · have g2:decide ((s.size:Int) < hi)=true:=decide_eq_true h2
     have HR2:=Lib.hid (show false=R by have:=HR.out;rw [decide_eq_false (show ¬ (hi ≤ ((Sc.new s c e0).t.size:Int)) by rw [d00 0];omega)] at this;simpa using this)
     clear h0 HR HSU HTK HGET HLEN HSUB HRW HQS IH
     go_enter Tryd.func60,Tryd.ntmps60
     go_wp2
     go_ret
     exact ⟨ret_bool HR2.out,by go_grown⟩
   have g2:decide ((s.size:Int) < hi)=false:=decide_eq_false h2
   have HRA:=Lib.hid (show ((pk == 0 || t.kind == 6) && (rs && if ts=[] then Rk.tkN (Sc.new s c e0) t lo.toNat hi.toNat else if qs=[] then lo == hi else Rk.rowB qs lo hi) && Rk.isS (Sc.new s c e0) qs t pk 0)=R by
     have:=HR.out
     rw [decide_eq_true (show 0 ≤ lo by omega),decide_eq_true (show lo ≤ hi by omega),decide_eq_true (show hi ≤ ((Sc.new s c e0).t.size:Int) by rw [d00 0];omega),Bool.true_and,Bool.true_and,Bool.true_and] at this
     exact this)
   clear HR
   by_cases h3:t.kind=6 ∨ pk=0
   case neg =>
     have g3:(t.kind != 6)=true:=by simp;omega
     have g4:(pk != 0)=true:=by simp;omega
     have HR2:=Lib.hid (show false=R by have:=HRA.out;rw [show (pk == 0 || t.kind == 6)=false by simp;omega] at this;simpa using this)
     clear h3 HRA
     clear HSU HTK HGET HLEN HSUB HRW HQS IH
     go_enter Tryd.func60,Tryd.ntmps60
     go_wp2
     go_ret
     exact ⟨ret_bool HR2.out,by go_grown⟩
   case pos =>
   have HG:=Lib.hid (show ((t.kind != 6)=false∧(t.kind == 6)=true) ∨ ((t.kind != 6)=true∧(pk != 0)=false∧(t.kind == 6)=false) by
     by_cases a:t.kind=6
     · exact .inl ⟨by simpa using a,by simpa using a⟩
     · exact .inr ⟨by simpa using a,by simp;omega,by simpa using a⟩)
   have HRB:=Lib.hid (show ((rs && if ts=[] then Rk.tkN (Sc.new s c e0) t lo.toNat hi.toNat else if qs=[] then lo == hi else Rk.rowB qs lo hi) && Rk.isS (Sc.new s c e0) qs t pk 0)=R by
     have:=HRA.out;rw [show (pk == 0 || t.kind == 6)=true by simp;omega,Bool.true_and] at this;exact this)
   clear HRA h3
   obtain ⟨a,rfl⟩:∃ a:Nat,lo=a:=⟨lo.toNat,by omega⟩
   obtain ⟨b,rfl⟩:∃ b:Nat,hi=b:=⟨hi.toNat,by omega⟩
   simp only [Int.toNat_natCast] at HRB
   have hab:a ≤ b:=by omega
   have hbs:b ≤ s.size:=by omega
   have HA:=Lib.hid (show Below w.heap.size w (((w.alloc (.cells #[.int .i64 t.kind,.int .u64 (Oc.U t.w0),.int .u64 (Oc.U t.w1),.int .u64 (Oc.U t.w2),.int .u64 (Oc.U t.w3),.slice p ts.length cap,.int .i64 t.num,.int .i64 t.least,.int .i64 t.most,.bool t.bare] 37)).alloc (.cells #[.string s,.int .i64 c,.int .i64 e0,.bool false] 61)).alloc (.cells #[.int .i64 (a:Int),.int .i64 (b:Int),.int .i64 pk,.slice pp qs.length pc] 57)) from by go_grown)
   have W3x:=Lib.hid (three_newR w (.cells #[.int .i64 t.kind,.int .u64 (Oc.U t.w0),.int .u64 (Oc.U t.w1),.int .u64 (Oc.U t.w2),.int .u64 (Oc.U t.w3),.slice p ts.length cap,.int .i64 t.num,.int .i64 t.least,.int .i64 t.most,.bool t.bare] 37) (.cells #[.string s,.int .i64 c,.int .i64 e0,.bool false] 61) (.cells #[.int .i64 (a:Int),.int .i64 (b:Int),.int .i64 pk,.slice pp qs.length pc] 57))
   clear h0 h1 h2 d00
   rcases HG.out with ⟨k6,k6b⟩ | ⟨k6,pk0,k6b⟩
   all_goals
     clear HG
     obtain ⟨n0,n1,n2,n3,n4,n5,n6,n7,n8,n9⟩:=allTen W3x.out.1
     go_enter Tryd.func60,Tryd.ntmps60
     go_wp2_with fail
     refine (HSU.out _ HA.out).mono ?_
     intro e w1 he1
     obtain ⟨lv,rfl,hrow,hb1⟩:=HSE.out _ _ _ he1
     have HB1:=Lib.hid (HA.out.trans (hb1.mono HA.out.size))
     have Y0:=Lib.hid (keep_blk hb1 W3x.out.1);have Y1:=Lib.hid (keep_blk hb1 W3x.out.2.1);have Y2:=Lib.hid (keep_blk hb1 W3x.out.2.2)
     clear he1 hb1 W3x HA HSU HSE n0 n1 n2 n3 n4 n5 n6 n7 n8 n9
     generalize ((w.alloc (.cells #[.int .i64 t.kind,.int .u64 (Oc.U t.w0),.int .u64 (Oc.U t.w1),.int .u64 (Oc.U t.w2),.int .u64 (Oc.U t.w3),.slice p ts.length cap,.int .i64 t.num,.int .i64 t.least,.int .i64 t.most,.bool t.bare] 37)).alloc (.cells #[.string s,.int .i64 c,.int .i64 e0,.bool false] 61)).alloc (.cells #[.int .i64 (a:Int),.int .i64 (b:Int),.int .i64 pk,.slice pp qs.length pc] 57)=W0 at *
     cases rs with
     | false =>
       have HR2:=Lib.hid (show false=R by have:=HRB.out;simpa using this)
       clear HRB hrow HTK HGET HLEN HRW
       go_wp2
       go_ret
       exact ⟨ret_bool HR2.out,HB1.out⟩
     | true =>
     have hrow1:=hrow rfl
     have HRC:=Lib.hid (show ((if ts=[] then Rk.tkN (Sc.new s c e0) t a b else if qs=[] then ((a:Int) == (b:Int)) else Rk.rowB qs a b) && Rk.isS (Sc.new s c e0) qs t pk 0)=R by have:=HRB.out;simpa using this)
     obtain ⟨lp,lc,rfl,hget⟩:=hrow1
     have HROW:=Lib.hid (fun i (u:Tr) (h:rl[i]? = some u)=>hget i u h)
     rw [show rl.length=qs.length from HLEN.out rfl]
     have HGT:=Lib.hid (HGET.out rfl)
     have HLF:=Lib.hid (fun h=>HLEAF.out h rfl)
     clear hrow hget HRB HLEN HGET HLEAF
     obtain ⟨n0,n1,n2,n3,n4,n5,n6,n7,n8,n9⟩:=allTen Y0.out
     obtain ⟨m0,m1,m2,m3,-,-,-,-⟩:=four Y1.out
     obtain ⟨d0,d1,d2,d3,-,-,-,-⟩:=four Y2.out
     by_cases hts:ts=[]
     · subst hts
       have hq0:qs=[]:=HLF.out rfl
       subst hq0
       have HR2:=Lib.hid (show Rk.tkN (Sc.new s c e0) t a b=R by have:=HRC.out;rw [if_pos rfl,Rk.isS_nil,Bool.and_true] at this;exact this)
       have HT1:=Lib.hid (HTK.out w1 HB1.out a (by omega) b hbs)
       clear HTK HRC HRW HROW HGT HLF HQS
       simp only [List.length_nil] at *
       go_wp2_with (first
         | (refine wpList_load_row rfl 37 (.tmp 3) rfl w.heap.size rfl 37 _ (0,0) _ Y0.out Tryd.underlying37 rfl (by kernel_rfl) ?_)
         | (refine wpList_load_row rfl 61 (.tmp 4) rfl (w.heap.size+1) rfl 61 _ (0,0) _ Y1.out Tryd.underlying61 rfl (by kernel_rfl) ?_)
         | fail)
       refine HT1.out.mono ?_
       rintro e w2 ⟨qv,rfl,hqv,hb2⟩
       have HB2:=Lib.hid (HB1.out.trans (hb2.mono HB1.out.size))
       have HR3:=Lib.hid (show qv=R by rw [← HR2.out,Bool.eq_iff_iff,Rk.tkN_iff];exact hqv)
       clear hb2 hqv
       go_wp2
       go_ret
       exact ⟨ret_bool HR3.out,HB2.out⟩
     · have hl0:¬ ts.length=0:=fun e=>hts (List.length_eq_zero_iff.1 e)
       have f1:((ts.length:Int) == 0)=false:=by simp;omega
       have f1':(ts.length == 0)=false:=by simpa using hl0
       have HRD:=Lib.hid (show ((if qs=[] then ((a:Int) == (b:Int)) else Rk.rowB qs a b) && Rk.isS (Sc.new s c e0) qs t pk 0)=R by have:=HRC.out;rw [if_neg hts] at this;exact this)
       clear hts hl0 HRC HTK HLF
       by_cases hqs:qs=[]
       · subst hqs
         have HR2:=Lib.hid (show ((a:Int) == (b:Int))=R by have:=HRD.out;rw [if_pos rfl,Rk.isS_nil,Bool.and_true] at this;exact this)
         clear HRD HRW HROW HGT HQS
         simp only [List.length_nil] at *
         go_wp2
         go_ret
         exact ⟨ret_bool HR2.out,HB1.out⟩
       · obtain ⟨y0,ql,rfl⟩:∃ y ql,qs=y :: ql:=by
           cases qs with
           | nil=>exact absurd rfl hqs
           | cons y ql=>exact ⟨y,ql,rfl⟩
         have HRE:=Lib.hid (show (Rk.rowB (y0 :: ql) a b && Rk.isS (Sc.new s c e0) (y0 :: ql) t pk 0)=R by have:=HRD.out;rw [if_neg hqs] at this;exact this)
         obtain ⟨b2,o2,s2,rfl,-,t2,sub2⟩:=HQS.out.get (i:=0) (t:=y0) rfl
         rw [Nat.zero_mul,Nat.add_zero] at t2
         obtain ⟨c20,c21,c22,c23⟩:=t2.keep (HB1.out.block _ t2.lt)
         have HROWF:=Lib.hid (show y0.lo ≠ a→Rk.rowB (y0 :: ql) a b=false from fun h=>by rw [Rk.rowB,if_pos (.inl h)])
         clear HRD hqs t2 sub2
         generalize hqq:y0 :: ql=qs at *
         have hq1:¬ qs.length=0:=by rw [← hqq];simp
         have f2:((qs.length:Int) == 0)=false:=by rw [beq_eq_false_iff_ne];omega
         have f2':(qs.length == 0)=false:=by simpa using hq1
         clear hqq
         by_cases hk:t.kind=6∧y0.lo ≠ a
         · have k7':(y0.lo != (a:Int))=true:=by simpa using hk.2
           have k6':(t.kind == 6)=true:=by simpa using hk.1
           have HR2:=Lib.hid (show false=R by have:=HRE.out;rw [HROWF.out hk.2,Bool.false_and] at this;exact this)
           clear hk HRE HRW HROW HGT HQS HROWF
           first
             | (exfalso;rw [k6'] at k6b;exact Bool.noConfusion k6b)
             | (go_wp2
                go_region
                go_wp2
                go_ret
                exact ⟨ret_bool HR2.out,by first | exact HB1.out.drew | exact HB1.out⟩)
         have HK:=Lib.hid (show (t.kind == 6)=true→(y0.lo != (a:Int))=false from fun z=>by
           have z':t.kind=6:=by simpa using z
           simpa using fun h=>hk ⟨z',h⟩)
         clear hk HROWF
         first
           | have k7:=HK.out k6b
           | skip
         clear HK
         cases hrow:Rk.rowB qs a b with
         | false =>
           have HR2:=Lib.hid (show false=R by have:=HRE.out;rw [hrow,Bool.false_and] at this;exact this)
           rw [hrow] at HRW
           clear HRE HROW HGT HQS hrow
           go_wp2_with fail
           go_region
           have HBD:=Lib.hid (show Below w.heap.size w w1.drew from HB1.out.drew)
           go_wp2_with fail
           refine (HRW.out _ HBD.out).mono ?_
           rintro e w2 ⟨rfl,hb2⟩
           have HB2:=Lib.hid (HBD.out.trans (hb2.mono HBD.out.size))
           clear hb2
           go_wp2
           go_ret
           exact ⟨ret_bool HR2.out,HB2.out⟩
         | true =>
           have HRF:=Lib.hid (show Rk.isS (Sc.new s c e0) qs t pk 0=R by have:=HRE.out;rw [hrow,Bool.true_and] at this;exact this)
           rw [hrow] at HRW
           clear HRE hrow
           go_wp2_with fail
           go_region
           have HBD:=Lib.hid (show Below w.heap.size w w1.drew from HB1.out.drew)
           go_wp2_with fail
           refine (HRW.out _ HBD.out).mono ?_
           rintro e w2 ⟨rfl,hb2⟩
           have hb12:Below w1.heap.size w1 w2:=(Below.refl _ _).drew.trans hb2
           have HB12:=Lib.hid hb12
           have V1:=Lib.hid (keep_blk hb12 Y1.out);have V2:=Lib.hid (keep_blk hb12 Y2.out)
           clear hb2 hb12 Y0 Y1 Y2 n0 n1 n2 n3 n4 n5 n6 n7 n8 n9 m0 m1 m2 m3 d0 d1 d2 d3 c20 c21 c22 c23 HRW HBD
           go_wp2
           go_loopw [10] (fun iv wr=>∃ i:Nat,iv=.int .i64 i∧i ≤ qs.length∧Hid (Rk.isS (Sc.new s c e0) (qs.drop i) t pk i=R)∧Hid (Below w1.heap.size w1 wr)∧Hid (wr.heap[w.heap.size+1]? = some (.cells #[.string s,.int .i64 c,.int .i64 e0,.bool false] 61))∧Hid (wr.heap[w.heap.size+1+1]? = some (.cells #[.int .i64 (a:Int),.int .i64 (b:Int),.int .i64 pk,.slice (some ⟨b2,o2,none⟩) qs.length pc] 57))) (fun iv _=>qs.length - (intOf iv).toNat)
           case atStart=>exact ⟨0,rfl,Nat.zero_le _,by rw [List.drop_zero];exact HRF,HB12,V1,V2⟩
           case round =>
             obtain ⟨i,rfl,hi0,HL,HBR,Z1,Z2⟩:=hrel
             clear V1 V2 HB12
             have wi:IntKind.i64.wrap ((i:Int)+1)=(i:Int)+1:=IntWalk.i64_in _ (by omega)
             have HB:=Lib.hid (HB1.out.trans (HBR.out.mono HB1.out.size))
             by_cases hlt2:i < qs.length
             · obtain ⟨y,hy⟩:∃ y,qs[i]? = some y:=⟨_,List.getElem?_eq_getElem hlt2⟩
               obtain ⟨b3,o3,s3,he3,-,t2,sub2⟩:=HQS.out.get hy
               obtain ⟨rfl,rfl⟩:b2=b3∧o2=o3:=by injection he3 with h;injection h with h1 h2;exact ⟨h1,h2⟩
               obtain ⟨p2,c2,rfl,-⟩:=sub2.slice
               obtain ⟨u,hru,hat,hu⟩:=HGT.out i hlt2
               obtain ⟨bt,ot,s1,rfl,-,t1,sub1⟩:=HROW.out i u hru
               obtain ⟨p1,c1,rfl,-,-⟩:=sub1.slice
               have hdr:qs.drop i=y :: qs.drop (i+1):=by
                 rw [List.drop_eq_getElem_cons hlt2,(List.getElem?_eq_some_iff.1 hy).2]
               have hl:=HL.out
               rw [hdr,Rk.isS_cons _ y _ t pk i (by rw [HTE.out];exact hat)] at hl
               have HLL:=Lib.hid hl
               have T1:=Lib.hid (t1.keep (HBR.out.block _ t1.lt));have T2:=Lib.hid (t2.keep (HB.out.block _ t2.lt))
               have l1:=T1.out.lt;have l2:=T2.out.lt
               have HS:=Lib.hid (fun w9 (hb:Below wr.heap.size wr w9) =>
                 have h9:Below w.heap.size w w9:=HB.out.trans (hb.mono HB.out.size)
                 have h9':Below w1.heap.size w1 w9:=HBR.out.trans (hb.mono HBR.out.size)
                 IH.out y (List.mem_of_getElem? hy) (HND.out y (List.mem_of_getElem? hy)) u (HSUB.out u (by first | exact hu | (rw [HTE.out];exact hu))) w9 C (.agg (u.cells (.slice p1 u.subs.length c1))) (.agg (y.cells (.slice p2 y.subs.length c2))) ⟨_,rfl,sub1.later h9'⟩ ⟨_,rfl,sub2.later h9⟩)
               unfold Tr.cells Pa.cells at HS
               have hln:decide ((i:Int) < (qs.length:Int))=true:=decide_eq_true (by omega)
               clear t1 sub1 t2 sub2 hat hu hru he3 hy hdr hl HL
               cases hr:Rk.isT (Sc.new s c e0) y u with
               | true =>
                 rw [hr] at HS
                 have HR3:=Lib.hid (show Rk.isS (Sc.new s c e0) (qs.drop (i+1)) t pk (i+1)=R by have:=HLL.out;rw [hr,Bool.true_and] at this;exact this)
                 clear hr HLL
                 go_upto_region 18 with (fail)
                 go_wp2_with fail
                 refine Ri.wp_region_frame (by kernel_rfl) (by kernel_rfl) (by kernel_rfl) (by kernel_rfl)
                   (fun L v w'=>Below wr.heap.size wr w'∧(L 0=true→v 0=.slice (some ⟨bt,ot,none⟩) qs.length lc)∧(L 1=true→v 1=.int .i64 (i:Int))∧(L 2=true→v 2=.pointer (some ⟨bt,ot+i * 10,none⟩))∧(L 3=true→v 3=.agg #[.int .i64 u.kind,.int .u64 (Oc.U u.w0),.int .u64 (Oc.U u.w1),.int .u64 (Oc.U u.w2),.int .u64 (Oc.U u.w3),.slice p1 u.subs.length c1,.int .i64 u.num,.int .i64 u.least,.int .i64 u.most,.bool u.bare])∧(L 4=true→v 4=.agg #[.string s,.int .i64 c,.int .i64 e0,.bool false])∧(L 5=true→v 5=.pointer (some ⟨w.heap.size+1+1,3,none⟩))∧(L 6=true→v 6=.slice (some ⟨b2,o2,none⟩) qs.length pc)∧(L 7=true→v 7=.int .i64 (i:Int))∧(L 8=true→v 8=.pointer (some ⟨b2,o2+i * 4,none⟩))∧(L 9=true→v 9=.agg #[.int .i64 y.lo,.int .i64 y.hi,.int .i64 y.pick,.slice p2 y.subs.length c2])∧(L 10=true→v 10=.bool true)∧(L 11=true→v 11=.bool true))
                   ?_ ?_ ?_
                 · exact ⟨(Below.refl _ _).drew,by simp,by simp,by simp,by simp,by simp,by simp,by simp,by simp,by simp,by simp,by simp,by simp⟩
                 · intro i hi9 L v w9 xa hI hL hd hv ho
                   have hi':i=0 ∨ i=1 ∨ i=2 ∨ i=3 ∨ i=4 ∨ i=5 ∨ i=6 ∨ i=7 ∨ i=8 ∨ i=9 ∨ i=10 ∨ i=11:=by simp at hi9;omega
                   obtain ⟨hb,q0,q1,q2,q3,q4,q5,q6,q7,q8,q9,q10,q11⟩:=hI
                   rcases hi' with rfl | rfl | rfl | rfl | rfl | rfl | rfl | rfl | rfl | rfl | rfl | rfl
                   · have e7:xa.tmps.getD 7 undef=.slice (some ⟨bt,ot,none⟩) qs.length lc:=ho 7 (by kernel_rfl)
                     refine Ri.step_plain rfl rfl (fun K' hK=>?_)
                     go_simp
                     exact hK _ _ ⟨_,_,rfl,rfl,hb,fun _=>rfl,q1,q2,q3,q4,q5,q6,q7,q8,q9,q10,q11⟩
                   · have e10:xa.tmps.getD 10 undef=.int .i64 (i:Int):=ho 10 (by kernel_rfl)
                     refine Ri.step_plain rfl rfl (fun K' hK=>?_)
                     go_simp
                     exact hK _ _ ⟨_,_,rfl,rfl,hb,q0,fun _=>rfl,q2,q3,q4,q5,q6,q7,q8,q9,q10,q11⟩
                   · have l0:L 0=true∧L 1=true:=by have:=hd _ rfl;simp [Region.binds] at this;simp [this]
                     have f0:=(hv 0 96 rfl l0.1).trans (q0 l0.1)
                     have f1:=(hv 1 97 rfl l0.2).trans (q1 l0.2)
                     refine Ri.step_plain rfl rfl (fun K' hK=>?_)
                     go_simp
                     exact hK _ _ ⟨_,_,rfl,rfl,hb,q0,q1,fun _=>rfl,q3,q4,q5,q6,q7,q8,q9,q10,q11⟩
                   · have l0:L 2=true:=by have:=hd _ rfl;simp [Region.binds] at this;simp [this]
                     have f2:=(hv 2 98 rfl l0).trans (q2 l0)
                     refine Ri.step_plain rfl rfl (fun K' hK=>?_)
                     obtain ⟨n0,n1,n2,n3,n4,n5,n6,n7,n8,n9⟩:=(T1.out.keep (hb.block _ l1))
                     go_simp
                     exact hK _ _ ⟨_,_,rfl,rfl,hb,q0,q1,q2,fun _=>rfl,q4,q5,q6,q7,q8,q9,q10,q11⟩
                   · have e4:xa.tmps.getD 4 undef=.pointer (some ⟨w.heap.size+1,0,none⟩):=ho 4 (by kernel_rfl)
                     refine Ri.step_plain rfl rfl (fun K' hK=>?_)
                     obtain ⟨d0,d1,d2,d3,-,-,-,-⟩:=four (keep_blk hb Z1.out)
                     go_simp
                     exact hK _ _ ⟨_,_,rfl,rfl,hb,q0,q1,q2,q3,fun _=>rfl,q5,q6,q7,q8,q9,q10,q11⟩
                   · have e5:xa.tmps.getD 5 undef=.pointer (some ⟨w.heap.size+1+1,0,none⟩):=ho 5 (by kernel_rfl)
                     refine Ri.step_plain rfl rfl (fun K' hK=>?_)
                     go_simp
                     exact hK _ _ ⟨_,_,rfl,rfl,hb,q0,q1,q2,q3,q4,fun _=>rfl,q6,q7,q8,q9,q10,q11⟩
                   · have l0:L 5=true:=by have:=hd _ rfl;simp [Region.binds] at this;simp [this]
                     have f5:=(hv 5 101 rfl l0).trans (q5 l0)
                     refine Ri.step_plain rfl rfl (fun K' hK=>?_)
                     obtain ⟨d0,d1,d2,d3,-,-,-,-⟩:=four (keep_blk hb Z2.out)
                     go_simp
                     exact hK _ _ ⟨_,_,rfl,rfl,hb,q0,q1,q2,q3,q4,q5,fun _=>rfl,q7,q8,q9,q10,q11⟩
                   · have e10:xa.tmps.getD 10 undef=.int .i64 (i:Int):=ho 10 (by kernel_rfl)
                     refine Ri.step_plain rfl rfl (fun K' hK=>?_)
                     go_simp
                     exact hK _ _ ⟨_,_,rfl,rfl,hb,q0,q1,q2,q3,q4,q5,q6,fun _=>rfl,q8,q9,q10,q11⟩
                   · have l0:L 6=true∧L 7=true:=by have:=hd _ rfl;simp [Region.binds] at this;simp [this]
                     have f6:=(hv 6 102 rfl l0.1).trans (q6 l0.1)
                     have f7:=(hv 7 103 rfl l0.2).trans (q7 l0.2)
                     refine Ri.step_plain rfl rfl (fun K' hK=>?_)
                     go_simp
                     exact hK _ _ ⟨_,_,rfl,rfl,hb,q0,q1,q2,q3,q4,q5,q6,q7,fun _=>rfl,q9,q10,q11⟩
                   · have l0:L 8=true:=by have:=hd _ rfl;simp [Region.binds] at this;simp [this]
                     have f8:=(hv 8 104 rfl l0).trans (q8 l0)
                     refine Ri.step_plain rfl rfl (fun K' hK=>?_)
                     obtain ⟨d0,d1,d2,d3⟩:=(T2.out.keep (hb.block _ l2))
                     go_simp
                     exact hK _ _ ⟨_,_,rfl,rfl,hb,q0,q1,q2,q3,q4,q5,q6,q7,q8,fun _=>rfl,q10,q11⟩
                   · have l0:L 3=true∧L 4=true∧L 9=true:=by have:=hd _ rfl;simp [Region.binds] at this;simp [this]
                     have f3:=(hv 3 99 rfl l0.1).trans (q3 l0.1)
                     have f4:=(hv 4 100 rfl l0.2.1).trans (q4 l0.2.1)
                     have f9:=(hv 9 105 rfl l0.2.2).trans (q9 l0.2.2)
                     refine Ri.step_plain rfl rfl (fun K' hK=>?_)
                     go_simp
                     refine (HS.out _ hb).mono ?_
                     rintro e w8 ⟨rfl,hb8⟩
                     exact hK _ _ ⟨_,_,rfl,rfl,hb.trans (hb8.mono hb.size),q0,q1,q2,q3,q4,q5,q6,q7,q8,q9,fun _=>rfl,q11⟩
                   · have l0:L 10=true:=by have:=hd _ rfl;simp [Region.binds] at this;simp [this]
                     have f10:=(hv 10 106 rfl l0).trans (q10 l0)
                     refine Ri.step_plain rfl rfl (fun K' hK=>?_)
                     go_simp
                     exact hK _ _ ⟨_,_,rfl,rfl,hb,q0,q1,q2,q3,q4,q5,q6,q7,q8,q9,q10,fun _=>rfl⟩
                 · rintro v w9 ⟨hb,-,-,-,-,-,-,-,-,-,-,-,q11⟩
                   have q11':v 11=.bool true:=q11 rfl
                   simp only [Ri.frame,List.zipIdx,List.foldl_cons,List.foldl_nil,if_true,List.setIfInBounds_toArray,List.set_cons_zero,List.set_cons_succ,Nat.reduceAdd,q11']
                   clear q11 q11'
                   generalize v 0=y0;generalize v 1=y1;generalize v 2=y2;generalize v 3=y3;generalize v 4=y4;generalize v 5=y5;generalize v 6=y6;generalize v 7=y7;generalize v 8=y8;generalize v 9=y9;generalize v 10=y10
                   have HB9:=Lib.hid (HBR.out.trans (hb.mono HBR.out.size))
                   have X1:=Lib.hid (keep_blk hb Z1.out);have X2:=Lib.hid (keep_blk hb Z2.out)
                   clear hb
                   go_wp2
                   exact ⟨⟨i+1,by go_num,by omega,HR3,HB9,X1,X2⟩,by simp [intOf];omega⟩
               | false =>
                 rw [hr] at HS
                 have HR3:=Lib.hid (show false=R by have:=HLL.out;rw [hr,Bool.false_and] at this;exact this)
                 clear hr HLL
                 go_upto_region 18 with (fail)
                 go_wp2_with fail
                 refine Ri.wp_region_frame (by kernel_rfl) (by kernel_rfl) (by kernel_rfl) (by kernel_rfl)
                   (fun L v w'=>Below wr.heap.size wr w'∧(L 0=true→v 0=.slice (some ⟨bt,ot,none⟩) qs.length lc)∧(L 1=true→v 1=.int .i64 (i:Int))∧(L 2=true→v 2=.pointer (some ⟨bt,ot+i * 10,none⟩))∧(L 3=true→v 3=.agg #[.int .i64 u.kind,.int .u64 (Oc.U u.w0),.int .u64 (Oc.U u.w1),.int .u64 (Oc.U u.w2),.int .u64 (Oc.U u.w3),.slice p1 u.subs.length c1,.int .i64 u.num,.int .i64 u.least,.int .i64 u.most,.bool u.bare])∧(L 4=true→v 4=.agg #[.string s,.int .i64 c,.int .i64 e0,.bool false])∧(L 5=true→v 5=.pointer (some ⟨w.heap.size+1+1,3,none⟩))∧(L 6=true→v 6=.slice (some ⟨b2,o2,none⟩) qs.length pc)∧(L 7=true→v 7=.int .i64 (i:Int))∧(L 8=true→v 8=.pointer (some ⟨b2,o2+i * 4,none⟩))∧(L 9=true→v 9=.agg #[.int .i64 y.lo,.int .i64 y.hi,.int .i64 y.pick,.slice p2 y.subs.length c2])∧(L 10=true→v 10=.bool false)∧(L 11=true→v 11=.bool false))
                   ?_ ?_ ?_
                 · exact ⟨(Below.refl _ _).drew,by simp,by simp,by simp,by simp,by simp,by simp,by simp,by simp,by simp,by simp,by simp,by simp⟩
                 · intro i hi9 L v w9 xa hI hL hd hv ho
                   have hi':i=0 ∨ i=1 ∨ i=2 ∨ i=3 ∨ i=4 ∨ i=5 ∨ i=6 ∨ i=7 ∨ i=8 ∨ i=9 ∨ i=10 ∨ i=11:=by simp at hi9;omega
                   obtain ⟨hb,q0,q1,q2,q3,q4,q5,q6,q7,q8,q9,q10,q11⟩:=hI
                   rcases hi' with rfl | rfl | rfl | rfl | rfl | rfl | rfl | rfl | rfl | rfl | rfl | rfl
                   · have e7:xa.tmps.getD 7 undef=.slice (some ⟨bt,ot,none⟩) qs.length lc:=ho 7 (by kernel_rfl)
                     refine Ri.step_plain rfl rfl (fun K' hK=>?_)
                     go_simp
                     exact hK _ _ ⟨_,_,rfl,rfl,hb,fun _=>rfl,q1,q2,q3,q4,q5,q6,q7,q8,q9,q10,q11⟩
                   · have e10:xa.tmps.getD 10 undef=.int .i64 (i:Int):=ho 10 (by kernel_rfl)
                     refine Ri.step_plain rfl rfl (fun K' hK=>?_)
                     go_simp
                     exact hK _ _ ⟨_,_,rfl,rfl,hb,q0,fun _=>rfl,q2,q3,q4,q5,q6,q7,q8,q9,q10,q11⟩
                   · have l0:L 0=true∧L 1=true:=by have:=hd _ rfl;simp [Region.binds] at this;simp [this]
                     have f0:=(hv 0 96 rfl l0.1).trans (q0 l0.1)
                     have f1:=(hv 1 97 rfl l0.2).trans (q1 l0.2)
                     refine Ri.step_plain rfl rfl (fun K' hK=>?_)
                     go_simp
                     exact hK _ _ ⟨_,_,rfl,rfl,hb,q0,q1,fun _=>rfl,q3,q4,q5,q6,q7,q8,q9,q10,q11⟩
                   · have l0:L 2=true:=by have:=hd _ rfl;simp [Region.binds] at this;simp [this]
                     have f2:=(hv 2 98 rfl l0).trans (q2 l0)
                     refine Ri.step_plain rfl rfl (fun K' hK=>?_)
                     obtain ⟨n0,n1,n2,n3,n4,n5,n6,n7,n8,n9⟩:=(T1.out.keep (hb.block _ l1))
                     go_simp
                     exact hK _ _ ⟨_,_,rfl,rfl,hb,q0,q1,q2,fun _=>rfl,q4,q5,q6,q7,q8,q9,q10,q11⟩
                   · have e4:xa.tmps.getD 4 undef=.pointer (some ⟨w.heap.size+1,0,none⟩):=ho 4 (by kernel_rfl)
                     refine Ri.step_plain rfl rfl (fun K' hK=>?_)
                     obtain ⟨d0,d1,d2,d3,-,-,-,-⟩:=four (keep_blk hb Z1.out)
                     go_simp
                     exact hK _ _ ⟨_,_,rfl,rfl,hb,q0,q1,q2,q3,fun _=>rfl,q5,q6,q7,q8,q9,q10,q11⟩
                   · have e5:xa.tmps.getD 5 undef=.pointer (some ⟨w.heap.size+1+1,0,none⟩):=ho 5 (by kernel_rfl)
                     refine Ri.step_plain rfl rfl (fun K' hK=>?_)
                     go_simp
                     exact hK _ _ ⟨_,_,rfl,rfl,hb,q0,q1,q2,q3,q4,fun _=>rfl,q6,q7,q8,q9,q10,q11⟩
                   · have l0:L 5=true:=by have:=hd _ rfl;simp [Region.binds] at this;simp [this]
                     have f5:=(hv 5 101 rfl l0).trans (q5 l0)
                     refine Ri.step_plain rfl rfl (fun K' hK=>?_)
                     obtain ⟨d0,d1,d2,d3,-,-,-,-⟩:=four (keep_blk hb Z2.out)
                     go_simp
                     exact hK _ _ ⟨_,_,rfl,rfl,hb,q0,q1,q2,q3,q4,q5,fun _=>rfl,q7,q8,q9,q10,q11⟩
                   · have e10:xa.tmps.getD 10 undef=.int .i64 (i:Int):=ho 10 (by kernel_rfl)
                     refine Ri.step_plain rfl rfl (fun K' hK=>?_)
                     go_simp
                     exact hK _ _ ⟨_,_,rfl,rfl,hb,q0,q1,q2,q3,q4,q5,q6,fun _=>rfl,q8,q9,q10,q11⟩
                   · have l0:L 6=true∧L 7=true:=by have:=hd _ rfl;simp [Region.binds] at this;simp [this]
                     have f6:=(hv 6 102 rfl l0.1).trans (q6 l0.1)
                     have f7:=(hv 7 103 rfl l0.2).trans (q7 l0.2)
                     refine Ri.step_plain rfl rfl (fun K' hK=>?_)
                     go_simp
                     exact hK _ _ ⟨_,_,rfl,rfl,hb,q0,q1,q2,q3,q4,q5,q6,q7,fun _=>rfl,q9,q10,q11⟩
                   · have l0:L 8=true:=by have:=hd _ rfl;simp [Region.binds] at this;simp [this]
                     have f8:=(hv 8 104 rfl l0).trans (q8 l0)
                     refine Ri.step_plain rfl rfl (fun K' hK=>?_)
                     obtain ⟨d0,d1,d2,d3⟩:=(T2.out.keep (hb.block _ l2))
                     go_simp
                     exact hK _ _ ⟨_,_,rfl,rfl,hb,q0,q1,q2,q3,q4,q5,q6,q7,q8,fun _=>rfl,q10,q11⟩
                   · have l0:L 3=true∧L 4=true∧L 9=true:=by have:=hd _ rfl;simp [Region.binds] at this;simp [this]
                     have f3:=(hv 3 99 rfl l0.1).trans (q3 l0.1)
                     have f4:=(hv 4 100 rfl l0.2.1).trans (q4 l0.2.1)
                     have f9:=(hv 9 105 rfl l0.2.2).trans (q9 l0.2.2)
                     refine Ri.step_plain rfl rfl (fun K' hK=>?_)
                     go_simp
                     refine (HS.out _ hb).mono ?_
                     rintro e w8 ⟨rfl,hb8⟩
                     exact hK _ _ ⟨_,_,rfl,rfl,hb.trans (hb8.mono hb.size),q0,q1,q2,q3,q4,q5,q6,q7,q8,q9,fun _=>rfl,q11⟩
                   · have l0:L 10=true:=by have:=hd _ rfl;simp [Region.binds] at this;simp [this]
                     have f10:=(hv 10 106 rfl l0).trans (q10 l0)
                     refine Ri.step_plain rfl rfl (fun K' hK=>?_)
                     go_simp
                     exact hK _ _ ⟨_,_,rfl,rfl,hb,q0,q1,q2,q3,q4,q5,q6,q7,q8,q9,q10,fun _=>rfl⟩
                 · rintro v w9 ⟨hb,-,-,-,-,-,-,-,-,-,-,-,q11⟩
                   have q11':v 11=.bool false:=q11 rfl
                   simp only [Ri.frame,List.zipIdx,List.foldl_cons,List.foldl_nil,if_true,List.setIfInBounds_toArray,List.set_cons_zero,List.set_cons_succ,Nat.reduceAdd,q11']
                   clear q11 q11'
                   generalize v 0=y0;generalize v 1=y1;generalize v 2=y2;generalize v 3=y3;generalize v 4=y4;generalize v 5=y5;generalize v 6=y6;generalize v 7=y7;generalize v 8=y8;generalize v 9=y9;generalize v 10=y10
                   have HB9:=Lib.hid (HB.out.trans (hb.mono HB.out.size))
                   clear hb
                   go_wp2
                   go_ret
                   exact ⟨ret_bool HR3.out,HB9.out⟩
             · obtain rfl:i=qs.length:=by omega
               have HR2:=Lib.hid (show true=R by have:=HL.out;rw [List.drop_length,Rk.isS_nil] at this;exact this)
               clear HL hlt2
               go_wp2
               go_ret
               exact ⟨ret_bool HR2.out,HB.out⟩
end Go.Proofs.YtnaoiglbjkjogaaDoor
namespace Go.Proofs.YtnaoiglbjkjogaaDoor
namespace Rk
theorem bkS_out:∀ (l:List Pa),(∀ q,q ∈ l→∀ (u:Tr) (σ:Told) (n:Int),n ∉ nums u→bk q u σ n=σ n)→∀ (t:Tr) (pk:Int) (i:Nat) (σ:Told) (n:Int),(∀ j u,at? t.subs (taker t.kind pk j)=some u→n ∉ nums u)→bkS l t pk i σ n=σ n
 | [],_,t,pk,i,σ,n,_=>by rw [bkS_nil]
 | q :: l,h,t,pk,i,σ,n,hn=>by
   have ih:=bkS_out l (fun r hr=>h r (List.mem_cons_of_mem _ hr)) t pk (i+1) σ n hn
   rw [bkS]
   cases hu:at? t.subs (taker t.kind pk i) with
   | none=>exact ih
   | some u=>exact (h q List.mem_cons_self u _ n (hn i u hu)).trans ih
theorem bk_out (q:Pa):∀ (t:Tr) (σ:Told) (n:Int),n ∉ nums t→bk q t σ n=σ n:=by
 induction q using Pa.rec_subs with
 | h q ih =>
   intro t σ n hn
   have hs:=bkS_out q.subs ih t q.pick 0 σ n (fun j u hu h=>hn (nums_sub (numsS_mem (at_mem hu) h)))
   rw [nums_eq] at hn
   rw [bk_eq]
   split
   · rename_i hk
     rw [if_pos hk] at hn
     unfold tellAll tell
     rw [if_neg (by rintro ⟨h,-⟩;exact hn (List.mem_cons_of_mem _ h)),if_neg (by rintro ⟨h,-⟩;exact hn (h ▸ List.mem_cons_self)),hs]
   · exact hs
theorem bkS_loc0:∀ (l:List Pa),(∀ q,q ∈ l→∀ (u:Tr) (σ τ:Told) (n:Int),σ n=τ n→bk q u σ n=bk q u τ n)→∀ (t:Tr) (pk:Int) (i:Nat) (σ τ:Told) (n:Int),σ n=τ n→bkS l t pk i σ n=bkS l t pk i τ n
 | [],_,t,pk,i,σ,τ,n,h=>by rw [bkS_nil,bkS_nil];exact h
 | q :: l,hq,t,pk,i,σ,τ,n,h=>by
   have ih:=bkS_loc0 l (fun r hr=>hq r (List.mem_cons_of_mem _ hr)) t pk (i+1) σ τ n h
   rw [bkS,bkS]
   cases hu:at? t.subs (taker t.kind pk i) with
   | none=>exact ih
   | some u=>exact hq q List.mem_cons_self u _ _ n ih
theorem bk_loc (q:Pa):∀ (t:Tr) (σ τ:Told) (n:Int),σ n=τ n→bk q t σ n=bk q t τ n:=by
 induction q using Pa.rec_subs with
 | h q ih =>
   intro t σ τ n h
   have hs:=bkS_loc0 q.subs ih t q.pick 0 σ τ n h
   rw [bk_eq,bk_eq]
   split
   · unfold tellAll tell
     rw [hs]
   · exact hs
end Rk
end Go.Proofs.YtnaoiglbjkjogaaDoor
namespace Go.Proofs.YtnaoiglbjkjogaaDoor
namespace Rk
def fwN (ns:List Int) (G:Nat→Int × Int):Nat→Int × Int:=fun i=>if (i:Int) ∈ ns then (-1,-1) else G i
def fw1 (n:Int) (s:Int × Int) (G:Nat→Int × Int):Nat→Int × Int:=fun i=>if (i:Int)=n then s else G i
mutual
def fw:Pa→Tr→(Nat→Int × Int)→Nat→Int × Int
 | .node lo hi pk s,t,G=>fwS s t pk 0 (if t.kind=7 then fw1 t.num (lo,hi) (fwN (numsS t.subs) G) else G)
def fwS:List Pa→Tr→Int→Nat→(Nat→Int × Int)→Nat→Int × Int
 | [],_,_,_,G=>G
 | q :: l,t,pk,i,G=>fwS l t pk (i+1) (match at? t.subs (taker t.kind pk i) with
   | some u=>fw q u G
   | none=>G)
end
theorem fw_eq (p:Pa) (t:Tr) (G:Nat→Int × Int):fw p t G=fwS p.subs t p.pick 0 (if t.kind=7 then fw1 t.num (p.lo,p.hi) (fwN (numsS t.subs) G) else G):=by cases p;rw [fw];rfl
theorem fwS_nil (t:Tr) (pk:Int) (i:Nat) (G:Nat→Int × Int):fwS [] t pk i G=G:=by rw [fwS]
theorem fwS_cons (q:Pa) (l:List Pa) (t:Tr) (pk:Int) (i:Nat) (G:Nat→Int × Int) {u:Tr} (h:at? t.subs (taker t.kind pk i)=some u):fwS (q :: l) t pk i G=fwS l t pk (i+1) (fw q u G):=by
 rw [fwS,h]
theorem bk_or (q:Pa) (t:Tr) (σ:Told) (n:Int):bk q t σ n=(σ n).or (bk q t (fun _=>none) n):=by
 cases h:σ n with
 | none=>rw [bk_loc q t σ (fun _=>none) n h];rfl
 | some s=>rw [bk_le q t σ n (by rw [h];rfl),h];rfl
theorem getD_or {α:Type} (a b:Option α) (c:α):(a.or b).getD c=a.getD (b.getD c):=by cases a <;> rfl
theorem fwS_bk:∀ (l:List Pa),(∀ q,q ∈ l→∀ (u:Tr) (G:Nat→Int × Int) (n:Nat),fw q u G n=(bk q u (fun _=>none) (n:Int)).getD (G n))→∀ (t:Tr) (pk:Int) (i:Nat) (G:Nat→Int × Int) (n:Nat),fwS l t pk i G n=(bkS l t pk i (fun _=>none) (n:Int)).getD (G n)
 | [],_,t,pk,i,G,n=>by rw [fwS_nil,bkS_nil];rfl
 | q :: l,h,t,pk,i,G,n=>by
   have ih:=fwS_bk l (fun r hr=>h r (List.mem_cons_of_mem _ hr)) t pk (i+1)
   rw [fwS,bkS,ih]
   cases hu:at? t.subs (taker t.kind pk i) with
   | none=>rfl
   | some u =>
     show _=(bk q u (bkS l t pk (i+1) fun _=>none) (n:Int)).getD (G n)
     rw [bk_or,getD_or]
     show (bkS l t pk (i+1) (fun _=>none) (n:Int)).getD (fw q u G n)=_
     rw [h q List.mem_cons_self]
theorem fw_bk (q:Pa):∀ (t:Tr) (G:Nat→Int × Int) (n:Nat),fw q t G n=(bk q t (fun _=>none) (n:Int)).getD (G n):=by
 induction q using Pa.rec_subs with
 | h q ih =>
   intro t G n
   rw [fw_eq,bk_eq,fwS_bk q.subs ih]
   split
   · unfold tellAll tell fw1 fwN
     cases h:bkS q.subs t q.pick 0 (fun _=>none) (n:Int) with
     | some s=>simp
     | none =>
       by_cases h1:(n:Int)=t.num
       · simp [h1]
       · by_cases h2:(n:Int) ∈ numsS t.subs <;> simp [h1,h2]
   · rfl
def first (q:Pa):Nat→Int × Int:=fun i=>if i=0 then (q.lo,q.hi) else (-1,-1)
theorem fw_shown (q:Pa) (t:Tr) (hf:t.InForm) (n:Nat):fw q t (first q) n=shown (of q t) n:=by
 unfold shown Rk.of
 rw [fw_bk,bk_or q t (tell _ _ _),getD_or]
 unfold tell first
 by_cases h:n=0
 · subst h
   rw [show bk q t (fun _=>none) ((0:Nat):Int)=none from bk_out q t (fun _=>none) _ (fun h=>by have:=nums_pos t hf _ h;omega)]
   simp
 · have h':¬ (n:Int)=0:=by omega
   simp [h]
end Rk
end Go.Proofs.YtnaoiglbjkjogaaDoor
namespace Go.Proofs.YtnaoiglbjkjogaaDoor
open Go.RowKit
def SpRow (w:World) (sb n:Nat) (G:Nat→Int × Int):Prop:=∃ arr:Array Value,w.heap[sb]? = some (.cells arr 70)∧n * 2 ≤ arr.size∧∀ k,k < n→arr[k * 2]? = some (.int .i64 (G k).1)∧arr[k * 2+1]? = some (.int .i64 (G k).2)
theorem SpRow.lt {w:World} {sb n:Nat} {G:Nat→Int × Int} (h:SpRow w sb n G):sb < w.heap.size:=by
 obtain ⟨arr,ha,-,-⟩:=h;exact (Array.getElem?_eq_some_iff.1 ha).1
theorem SpRow.later {w w':World} {sb n:Nat} {G:Nat→Int × Int} (h:SpRow w sb n G) (hb:Below w.heap.size w w'):SpRow w' sb n G:=by
 have hl:=h.lt
 obtain ⟨arr,ha,h1,h2⟩:=h;exact ⟨arr,(hb.block _ hl).trans ha,h1,h2⟩
theorem SpRow.cell {w:World} {sb n k:Nat} {G:Nat→Int × Int} (h:SpRow w sb n G) (hk:k < n) :
   w.cell? ⟨sb,k * 2,none⟩=some (.int .i64 (G k).1)∧w.cell? ⟨sb,k * 2+1,none⟩=some (.int .i64 (G k).2)∧w.frozen? ⟨sb,k * 2,none⟩=false∧w.frozen? ⟨sb,k * 2+1,none⟩=false:=by
 obtain ⟨arr,ha,h1,h2⟩:=h
 refine ⟨?_, ?_, ?_, ?_⟩
 · unfold World.cell?;rw [ha];exact (h2 k hk).1
 · unfold World.cell?;rw [ha];exact (h2 k hk).2
 · unfold World.frozen?;rw [ha];simp
 · unfold World.frozen?;rw [ha];simp
theorem SpRow.put {w:World} {sb n k:Nat} {G H:Nat→Int × Int} {x y:Int} (h:SpRow w sb n G) (hk:k < n) (hv:H k=(x,y)) (ho:∀ j,j < n→j ≠ k→H j=G j) :
   SpRow ((w.setCell ⟨sb,k * 2,none⟩ (.int .i64 x)).setCell ⟨sb,k * 2+1,none⟩ (.int .i64 y)) sb n H:=by
 obtain ⟨arr,ha,h1,h2⟩:=h
 refine ⟨(arr.setIfInBounds (k * 2) (.int .i64 x)).setIfInBounds (k * 2+1) (.int .i64 y), ?_,by simpa using h1,fun j hj=>?_⟩
 · simp [World.setCell,Array.getElem?_modify,ha]
 · by_cases e:j=k
   · subst e
     rw [hv]
     constructor
     · rw [Array.getElem?_setIfInBounds_ne (by omega),Array.getElem?_setIfInBounds_self_of_lt (by omega)]
     · rw [Array.getElem?_setIfInBounds_self_of_lt (by simp;omega)]
   · rw [ho j hj e,Array.getElem?_setIfInBounds_ne (by omega),Array.getElem?_setIfInBounds_ne (by omega),Array.getElem?_setIfInBounds_ne (by omega),Array.getElem?_setIfInBounds_ne (by omega)]
     exact h2 j hj
theorem SpRow.same {w:World} {sb n:Nat} {G H:Nat→Int × Int} (h:SpRow w sb n G) (ho:∀ j,j < n→H j=G j):SpRow w sb n H:=by
 obtain ⟨arr,ha,h1,h2⟩:=h
 exact ⟨arr,ha,h1,fun j hj=>by rw [ho j hj];exact h2 j hj⟩
theorem touch_put {w w1:World} {sb:Nat} (h:Touch [sb] w w1) (k:Nat) (x y:Value):Touch [sb] w ((w1.setCell ⟨sb,k * 2,none⟩ x).setCell ⟨sb,k * 2+1,none⟩ y) :=
 h.setCells (b:=sb) (by simp) (k * 2) [x,y]
theorem IR.touch {B:Nat} {w w':World} {v:Value} {l:List Nat} {sb:Nat} (h:IR B w v l) (ht:Touch [sb] w w') (hs:sb < B):IR B w' v l :=
 World.ownsRow.kept (row:=some sb) h ⟨ht.os,ht.tape,ht.output,ht.size,fun k hk hne=>ht.block k hk (by simp only [List.mem_singleton];exact fun e=>hne (by rw [e]))⟩ (.inr fun e=>by
   have:=(World.ownsRow.lt h sb e).1
   omega)
theorem IR.shape {B:Nat} {w:World} {v:Value} {l:List Nat} (h:IR B w v l):∃ p cap,v=.slice p l.length cap∧∀ (i k:Nat),l[i]? = some k→∃ g,p=some ⟨g,0,none⟩∧B ≤ g∧w.cell? ⟨g,i,none⟩=some (.int .i64 (k:Int)):=by
 have hcells:=fun g hv=>World.ownsRow.cells h (g:=g) hv
 rcases h.2 with ⟨rfl,hn0⟩ | ⟨g,cap,cur,rfl,hbg,hheap,-⟩
 · exact ⟨none,0,by rw [hn0],fun i k hi=>by rw [List.getElem?_eq_none (by omega)] at hi;cases hi⟩
 · refine ⟨some ⟨g,0,none⟩,cap,rfl,fun i k hi=>⟨g,rfl,hbg, ?_⟩⟩
   have:=hcells g rfl i _ (intCells_get l i k hi)
   have hadd:(⟨g,0,none⟩:Addr).add i=⟨g,i,none⟩:=by unfold Addr.add;split <;> simp_all
   rw [hadd] at this
   exact this
def Rk.fwC (ns:List Nat) (k:Nat) (G:Nat→Int × Int):Nat→Int × Int:=fun i=>if i ∈ ns.take k then (-1,-1) else G i
theorem Rk.fwC_zero (ns:List Nat) (G:Nat→Int × Int):Rk.fwC ns 0 G=G:=by funext i;simp [Rk.fwC]
theorem Rk.fwC_at {ns:List Nat} {k m:Nat} (G:Nat→Int × Int) (h:ns[k]? = some m):Rk.fwC ns (k+1) G m=(-1,-1):=by
 unfold Rk.fwC;rw [if_pos (by rw [List.take_add_one,h];simp)]
theorem Rk.fwC_ne {ns:List Nat} {k m:Nat} (G:Nat→Int × Int) (h:ns[k]? = some m) (j:Nat) (hj:j ≠ m):Rk.fwC ns (k+1) G j=Rk.fwC ns k G j:=by
 unfold Rk.fwC
 have:j ∈ ns.take (k+1) ↔ j ∈ ns.take k:=by rw [List.take_add_one,h];simp [hj]
 by_cases c:j ∈ ns.take k
 · rw [if_pos c,if_pos (this.2 c)]
 · rw [if_neg c,if_neg (fun a=>c (this.1 a))]
theorem Rk.fwC_all (t:Tr) (hf:t.InForm) (G:Nat→Int × Int):Rk.fwC (Rk.numsN t) (Rk.numsN t).length G=Rk.fwN (Rk.nums t) G:=by
 funext i
 unfold Rk.fwC Rk.fwN
 rw [List.take_length]
 have:i ∈ Rk.numsN t ↔ (i:Int) ∈ Rk.nums t:=by
   unfold Rk.numsN
   rw [List.mem_map]
   constructor
   · rintro ⟨z,hz,e⟩;have:=Rk.nums_pos t hf z hz;rw [show (i:Int)=z by omega];exact hz
   · intro h;exact ⟨_,h,by simp⟩
 by_cases c:i ∈ Rk.numsN t
 · rw [if_pos c,if_pos (this.1 c)]
 · rw [if_neg c,if_neg (fun a=>c (this.2 a))]
theorem Rk.okT_subs {x:Sc} {q:Pa} {t:Tr} (hf:t.InForm) (h:Rk.okT x q t=true):Rk.rSubs t q=true:=by
 rw [← Rk.is_same x q t hf,Rk.isT_eq,Bool.and_eq_true] at h
 have:=h.1
 unfold Rk.refK at this
 simp only [Bool.and_eq_true] at this
 exact this.2.2.1
def LdEnd (sb n sc:Nat) (G:Nat→Int × Int) (w:World) (e:Ending) (w':World):Prop:=e=.returned (.slice (some ⟨sb,0,none⟩) n sc)∧SpRow w' sb n G∧Touch [sb] w w'
theorem rrklaid_any (x:Sc) (sb n sc:Nat) (_hn:n ≤ 1000):∀ (q:Pa),q.ndT ≤ 1000000→∀ (t:Tr),t.InForm→(Rk.nums t).length ≤ 500000→Rk.okT x q t=true→∀ (G:Nat→Int × Int) (w:World) (v vq:Value),NodeC w (fun b=>b ≠ sb) v t→PaV w (fun b=>b ≠ sb) vq q→SpRow w sb n G →
   Calls Tryd.prog 101 #[v,vq,.slice (some ⟨sb,0,none⟩) n sc] w (LdEnd sb n sc (Rk.fw q t G) w):=by
 intro q
 induction q using Pa.rec_subs with
 | h q ih =>
   intro hnd t hf hnl hok G w v vq hv hq hsp
   have hrs:=Rk.okT_subs hf hok
   have HSU:=Lib.hid (fun wA (h:Touch [sb] w wA)=>show Calls Tryd.prog 96 #[v,vq] wA (fun e w'=>∃ lv,e=.returned (.tuple #[lv,.bool true])∧RowC w' (fun b=>b ≠ sb) lv (Rk.rList t q)∧Below wA.heap.size wA w') from
     (rrksubs_any t q hf (by have:=Pa.nd_len q;omega) wA (fun b=>b ≠ sb) (fun b=>b ≠ sb) (fun b hb=>by have:=hsp.lt;have:=h.size;omega) v vq
       (by obtain ⟨s,e,hs⟩:=hv;exact ⟨s,e,hs.keep fun b hb hne=>h.block b hb (by simpa using hne)⟩)
       (by obtain ⟨s,e,hs⟩:=hq;exact ⟨s,e,hs.keep fun b hb hne=>h.block b hb (by simpa using hne)⟩)).mono fun e w' he=>by
         unfold SubE at he;rw [hrs] at he;obtain ⟨lv,e1,e2,e3⟩:=he;exact ⟨lv,e1,e2 rfl,e3⟩)
   have HGT:=Lib.hid (fun i (hi:i < q.subs.length)=>Rk.rList_get hf hrs hi)
   have HLEN:=Lib.hid (Rk.rList_len hf hrs)
   have HSUB:=Lib.hid (fun u (hu:u ∈ t.subs)=>hf.sub hu)
   have HNS:=Lib.hid (fun u (hu:u ∈ t.subs)=>Nat.le_trans (Rk.nums_len_sub hu) hnl)
   have HND:=Lib.hid (fun y (hy:y ∈ q.subs)=>show y.ndT ≤ 1000000 by have:=Pa.nd_sub hy;omega)
   have hok2:=hok
   rw [Rk.okT_eq,Bool.and_eq_true] at hok2
   have HOKS:=Lib.hid (show ∀ i y u,q.subs[i]? = some y→Rk.at? t.subs (Rk.taker t.kind q.pick i)=some u→Rk.okT x y u=true from fun i y u hy hu=>Rk.okS_get hok2.2 hy (by rw [Nat.zero_add];exact hu))
   obtain ⟨FF,hFF⟩:∃ FF,Rk.fw q t G=FF:=⟨_,rfl⟩
   rw [hFF]
   rw [Rk.fw_eq] at hFF
   have H7:=Lib.hid (show t.kind=7→∃ u,t.subs=[u]∧1 ≤ t.num∧t.num ≤ 999 from fun h7=>by
     have hk:=hf.fields
     unfold Tr.fieldsOk at hk
     have h1:=Rk.nums_pos t hf t.num (by rw [Rk.nums_eq,if_pos h7];exact List.mem_cons_self)
     have hl:t.subs.length=1:=by
       rcases hk with ⟨k,-⟩ | ⟨k,-⟩ | ⟨k,-⟩ | ⟨k,-,-,-,-,hl,-⟩ | ⟨k,-⟩
       · omega
       · omega
       · omega
       · exact hl
       · omega
     match h:t.subs,hl with
     | [u],_=>exact ⟨u,rfl,h1⟩)
   obtain ⟨s,rfl,hs⟩:=hv
   obtain ⟨p,cap,rfl,-,-⟩:=hs.slice
   obtain ⟨z,rfl,hz⟩:=hq
   obtain ⟨pp,pc,rfl,hlq⟩:=hz.slice
   have HTS:=Lib.hid hs;have HQS:=Lib.hid hz;have IH:=Lib.hid ih;have HSP:=Lib.hid hsp;have HNL:=Lib.hid hnl;have HF:=Lib.hid hf
   have HSBL:=Lib.hid hsp.lt
   clear hs hz ih hsp hok hok2 hrs hnd hnl hf
   generalize hrl:Rk.rList t q=rl at *
   unfold Tr.cells Pa.cells at *
   generalize hts:t.subs=ts at *
   generalize hqs:q.subs=qs at *
   have HTE:=Lib.hid hts
   clear hts hqs hrl
   generalize q.lo=lo at *;generalize q.hi=hi at *;generalize q.pick=pk at *
   by_cases h7:t.kind=7
   case neg =>
     have e7:(t.kind == 7)=false:=by simpa using h7
     obtain ⟨kn,hkn⟩:∃ kn:Int,t.num=kn:=⟨_,rfl⟩
     rw [hkn] at HSU ⊢
     obtain ⟨GA,hGA⟩:∃ GA,GA=G:=⟨_,rfl⟩
     have HFF:=Lib.hid (show Rk.fwS qs t pk 0 GA=FF by rw [if_neg h7] at hFF;rw [hGA];exact hFF)
     clear h7 H7 hFF hkn
     have HTA0:=Lib.hid (show Touch [sb] w ((w.alloc (.cells #[.int .i64 t.kind,.int .u64 (Oc.U t.w0),.int .u64 (Oc.U t.w1),.int .u64 (Oc.U t.w2),.int .u64 (Oc.U t.w3),.slice p ts.length cap,.int .i64 kn,.int .i64 t.least,.int .i64 t.most,.bool t.bare] 37)).alloc (.cells #[.int .i64 lo,.int .i64 hi,.int .i64 pk,.slice pp qs.length pc] 57)) from Touch.of_below _ (by go_grown))
     have HBA0:=Lib.hid (show Below w.heap.size w ((w.alloc (.cells #[.int .i64 t.kind,.int .u64 (Oc.U t.w0),.int .u64 (Oc.U t.w1),.int .u64 (Oc.U t.w2),.int .u64 (Oc.U t.w3),.slice p ts.length cap,.int .i64 kn,.int .i64 t.least,.int .i64 t.most,.bool t.bare] 37)).alloc (.cells #[.int .i64 lo,.int .i64 hi,.int .i64 pk,.slice pp qs.length pc] 57)) from by go_grown)
     have W2x:=Lib.hid (two_new w (.cells #[.int .i64 t.kind,.int .u64 (Oc.U t.w0),.int .u64 (Oc.U t.w1),.int .u64 (Oc.U t.w2),.int .u64 (Oc.U t.w3),.slice p ts.length cap,.int .i64 kn,.int .i64 t.least,.int .i64 t.most,.bool t.bare] 37) (.cells #[.int .i64 lo,.int .i64 hi,.int .i64 pk,.slice pp qs.length pc] 57))
     go_enter Tryd.func101,Tryd.ntmps101
     go_upto_region 10 with (fail)
     generalize hWA:World.alloc (World.alloc w _) _=WA at *
     have HTA:=HTA0;have YA0:=Lib.hid W2x.out.1;have YA1:=Lib.hid W2x.out.2;have HSPA:=Lib.hid (show SpRow WA sb n GA from hGA ▸ HSP.out.later HBA0.out)
     clear hWA HTA0 HBA0 W2x hGA HNL HF HTS
     have HSUA:=Lib.hid (HSU.out WA HTA.out)
     clear HSU
     obtain ⟨y0,y1,y2,y3,y4,y5,y6,y7,y8,y9⟩:=allTen YA0.out
     obtain ⟨a0,a1,a2,a3,-,-,-,-⟩:=four YA1.out
     go_wp2_with (first
       | (refine wpList_load_row rfl 37 (.tmp 3) rfl w.heap.size rfl 37 _ (0,0) _ YA0.out Tryd.underlying37 rfl (by kernel_rfl) ?_)
       | fail)
     refine HSUA.out.mono ?_
     rintro e w1 ⟨lv,rfl,hrow,hb1⟩
     have HTW1:=Lib.hid (HTA.out.trans (Touch.of_below _ hb1));have SP1:=Lib.hid (HSPA.out.later hb1);have V1:=Lib.hid (keep_blk hb1 YA1.out)
     clear hb1 YA0 YA1 HSPA HSUA y0 y1 y2 y3 y4 y5 y6 y7 y8 y9 a0 a1 a2 a3
     obtain ⟨lp,lc,rfl,hget⟩:=hrow
     have HROW:=Lib.hid (fun i (u:Tr) (h:rl[i]? = some u)=>hget i u h)
     rw [HLEN.out]
     clear hget
     go_wp2
     go_loopw [2,11] (fun sv iv wr=>∃ (i:Nat) (Gi:Nat→Int × Int),iv=.int .i64 i∧sv=.slice (some ⟨sb,0,none⟩) n sc∧i ≤ qs.length∧Hid (Rk.fwS (qs.drop i) t pk i Gi=FF)∧Hid (SpRow wr sb n Gi)∧Hid (Touch [sb] w1 wr)∧Hid (wr.heap[w.heap.size+1]? = some (.cells #[.int .i64 lo,.int .i64 hi,.int .i64 pk,.slice pp qs.length pc] 57))) (fun _ iv _=>qs.length - (intOf iv).toNat)
     case atStart=>exact ⟨0,GA,rfl,rfl,Nat.zero_le _,by rw [List.drop_zero];exact HFF,SP1,Lib.hid (Touch.of_below _ (Below.refl _ _)),V1⟩
     case round =>
       obtain ⟨i,Gi,rfl,rfl,hi0,HL,SP,HTR,Z1⟩:=hrel
       clear SP1 V1 HFF HSP
       have wi:IntKind.i64.wrap ((i:Int)+1)=(i:Int)+1:=IntWalk.i64_in _ (by omega)
       have HTW:=Lib.hid (HTW1.out.trans HTR.out)
       have HSZR:=Lib.hid (show w.heap.size+1 < wr.heap.size from (Array.getElem?_eq_some_iff.1 Z1.out).1)
       by_cases hlt2:i < qs.length
       · obtain ⟨y,hy⟩:∃ y,qs[i]? = some y:=⟨_,List.getElem?_eq_getElem hlt2⟩
         obtain ⟨b2,o2,s2,rfl,hb2n,t2,sub2⟩:=HQS.out.get hy
         obtain ⟨p2,c2,rfl,-⟩:=sub2.slice
         obtain ⟨u,hru,hat,hu⟩:=HGT.out i hlt2
         obtain ⟨bt,ot,s1,rfl,hbtn,t1,sub1⟩:=HROW.out i u hru
         obtain ⟨p1,c1,rfl,-,-⟩:=sub1.slice
         have hdr:qs.drop i=y :: qs.drop (i+1):=by
           rw [List.drop_eq_getElem_cons hlt2,(List.getElem?_eq_some_iff.1 hy).2]
         have hl:=HL.out
         rw [hdr,Rk.fwS_cons y _ t pk i Gi (by rw [HTE.out];exact hat)] at hl
         have HLL:=Lib.hid hl
         have T1:=Lib.hid (t1.keep (HTR.out.block _ t1.lt (by simpa using hbtn)));have T2:=Lib.hid (t2.keep (HTW.out.block _ t2.lt (by simpa using hb2n)))
         have l1:=T1.out.lt;have l2:=T2.out.lt
         have HS:=Lib.hid (fun w9 (hb:Below wr.heap.size wr w9) =>
           IH.out y (List.mem_of_getElem? hy) (HND.out y (List.mem_of_getElem? hy)) u (HSUB.out u (by first | exact hu | (rw [HTE.out];exact hu))) (HNS.out u (by first | exact hu | (rw [HTE.out];exact hu))) (HOKS.out i y u hy hat) Gi w9 (.agg (u.cells (.slice p1 u.subs.length c1))) (.agg (y.cells (.slice p2 y.subs.length c2)))
             ⟨_,rfl,(sub1.keep fun b hb9 hn=>HTR.out.block b hb9 (by simpa using hn)).later hb⟩ ⟨_,rfl,(sub2.keep fun b hb9 hn=>HTW.out.block b hb9 (by simpa using hn)).later hb⟩ (SP.out.later hb))
         unfold Tr.cells Pa.cells at HS
         have hln:decide ((i:Int) < (qs.length:Int))=true:=decide_eq_true (by omega)
         obtain ⟨a0,a1,a2,a3,-,-,-,-⟩:=four Z1.out
         clear t1 sub1 t2 sub2 hat hu hru hy hdr hl HL
         go_upto_region 14 with (fail)
         clear a0 a1 a2 a3
         go_wp2_with fail
         refine Ri.wp_region_late (by kernel_rfl) (by kernel_rfl) (by kernel_rfl) (by kernel_rfl)
           (fun L v w'=>(L 10=false→Below wr.heap.size wr w')∧(L 10=true→SpRow w' sb n (Rk.fw y u Gi)∧Touch [sb] wr w')∧(L 10=true→L 0=true)∧(L 10=true→L 1=true)∧(L 10=true→L 2=true)∧(L 10=true→L 3=true)∧(L 10=true→L 4=true)∧(L 10=true→L 5=true)∧(L 10=true→L 6=true)∧(L 10=true→L 7=true)∧(L 10=true→L 8=true)∧(L 10=true→L 9=true)∧(L 2=true→L 0=true)∧(L 2=true→L 1=true)∧(L 3=true→L 2=true)∧(L 5=true→L 4=true)∧(L 7=true→L 5=true)∧(L 7=true→L 6=true)∧(L 8=true→L 7=true)∧(L 0=true→v 0=.slice (some ⟨bt,ot,none⟩) qs.length lc)∧(L 1=true→v 1=.int .i64 (i:Int))∧(L 2=true→v 2=.pointer (some ⟨bt,ot+i * 10,none⟩))∧(L 3=true→v 3=.agg #[.int .i64 u.kind,.int .u64 (Oc.U u.w0),.int .u64 (Oc.U u.w1),.int .u64 (Oc.U u.w2),.int .u64 (Oc.U u.w3),.slice p1 u.subs.length c1,.int .i64 u.num,.int .i64 u.least,.int .i64 u.most,.bool u.bare])∧(L 4=true→v 4=.pointer (some ⟨w.heap.size+1,3,none⟩))∧(L 5=true→v 5=.slice (some ⟨b2,o2,none⟩) qs.length pc)∧(L 6=true→v 6=.int .i64 (i:Int))∧(L 7=true→v 7=.pointer (some ⟨b2,o2+i * 4,none⟩))∧(L 8=true→v 8=.agg #[.int .i64 y.lo,.int .i64 y.hi,.int .i64 y.pick,.slice p2 y.subs.length c2])∧(L 9=true→v 9=.slice (some ⟨sb,0,none⟩) n sc)∧(L 10=true→v 10=.slice (some ⟨sb,0,none⟩) n sc)∧(L 11=true→v 11=.slice (some ⟨sb,0,none⟩) n sc)∧(L 11=true→L 10=true))
           ?_ ?_ ?_
         · exact ⟨fun _=>(Below.refl _ _).drew,by simp,by simp,by simp,by simp,by simp,by simp,by simp,by simp,by simp,by simp,by simp,by simp,by simp,by simp,by simp,by simp,by simp,by simp,by simp,by simp,by simp,by simp,by simp,by simp,by simp,by simp,by simp,by simp,by simp,by simp,by simp⟩
         · intro i hi9 L v w9 xa hI hL hd hv ho hno
           have hi':i=0 ∨ i=1 ∨ i=2 ∨ i=3 ∨ i=4 ∨ i=5 ∨ i=6 ∨ i=7 ∨ i=8 ∨ i=9 ∨ i=10 ∨ i=11:=by simp at hi9;omega
           obtain ⟨hbf,hfin,dd0,dd1,dd2,dd3,dd4,dd5,dd6,dd7,dd8,dd9,c2_0,c2_1,c3_2,c5_4,c7_5,c7_6,c8_7,q0,q1,q2,q3,q4,q5,q6,q7,q8,q9,q10,q11,ct9⟩:=hI
           rcases hi' with rfl | rfl | rfl | rfl | rfl | rfl | rfl | rfl | rfl | rfl | rfl | rfl
           · have e9:xa.tmps.getD 9 undef=.slice (some ⟨bt,ot,none⟩) qs.length lc:=ho 9 (by kernel_rfl)
             have hl9:L 10=false:=by cases h:L 10 with | false=>rfl | true=>rw [dd0 h] at hL;cases hL
             have hb:=hbf hl9
             refine Ri.step_plain rfl rfl (fun K' hK=>?_)
             go_simp
             exact hK _ _ ⟨_,_,rfl,rfl,(fun _=>hb),(fun h=>Bool.noConfusion (hl9.symm.trans h)),(fun _=>rfl),dd1,dd2,dd3,dd4,dd5,dd6,dd7,dd8,dd9,(fun _=>rfl),c2_1,c3_2,c5_4,c7_5,c7_6,c8_7,(fun _=>rfl),q1,q2,q3,q4,q5,q6,q7,q8,q9,q10,q11,ct9⟩
           · have e11:xa.tmps.getD 11 undef=.int .i64 (i:Int):=ho 11 (by kernel_rfl)
             have hl9:L 10=false:=by cases h:L 10 with | false=>rfl | true=>rw [dd1 h] at hL;cases hL
             have hb:=hbf hl9
             refine Ri.step_plain rfl rfl (fun K' hK=>?_)
             go_simp
             exact hK _ _ ⟨_,_,rfl,rfl,(fun _=>hb),(fun h=>Bool.noConfusion (hl9.symm.trans h)),dd0,(fun _=>rfl),dd2,dd3,dd4,dd5,dd6,dd7,dd8,dd9,c2_0,(fun _=>rfl),c3_2,c5_4,c7_5,c7_6,c8_7,q0,(fun _=>rfl),q2,q3,q4,q5,q6,q7,q8,q9,q10,q11,ct9⟩
           · have l0:L 0=true∧L 1=true:=by have:=hd _ rfl;simp [Region.binds] at this;simp [this]
             have f0:=(hv 0 67 rfl l0.1).trans (q0 l0.1)
             have f1:=(hv 1 68 rfl l0.2).trans (q1 l0.2)
             have hl9:L 10=false:=by cases h:L 10 with | false=>rfl | true=>rw [dd2 h] at hL;cases hL
             have hb:=hbf hl9
             refine Ri.step_plain rfl rfl (fun K' hK=>?_)
             go_simp
             exact hK _ _ ⟨_,_,rfl,rfl,(fun _=>hb),(fun h=>Bool.noConfusion (hl9.symm.trans h)),dd0,dd1,(fun _=>rfl),dd3,dd4,dd5,dd6,dd7,dd8,dd9,(fun _=>l0.1),(fun _=>l0.2),(fun _=>rfl),c5_4,c7_5,c7_6,c8_7,q0,q1,(fun _=>rfl),q3,q4,q5,q6,q7,q8,q9,q10,q11,ct9⟩
           · have l0:L 2=true:=by have:=hd _ rfl;simp [Region.binds] at this;simp [this]
             have f2:=(hv 2 69 rfl l0).trans (q2 l0)
             have hl9:L 10=false:=by cases h:L 10 with | false=>rfl | true=>rw [dd3 h] at hL;cases hL
             have hb:=hbf hl9
             refine Ri.step_plain rfl rfl (fun K' hK=>?_)
             obtain ⟨n0,n1,n2,n3,n4,n5,n6,n7,n8,n9⟩:=(T1.out.keep (hb.block _ l1))
             go_simp
             exact hK _ _ ⟨_,_,rfl,rfl,(fun _=>hb),(fun h=>Bool.noConfusion (hl9.symm.trans h)),dd0,dd1,dd2,(fun _=>rfl),dd4,dd5,dd6,dd7,dd8,dd9,c2_0,c2_1,(fun _=>l0),c5_4,c7_5,c7_6,c8_7,q0,q1,q2,(fun _=>rfl),q4,q5,q6,q7,q8,q9,q10,q11,ct9⟩
           · have e4:xa.tmps.getD 4 undef=.pointer (some ⟨w.heap.size+1,0,none⟩):=ho 4 (by kernel_rfl)
             have hl9:L 10=false:=by cases h:L 10 with | false=>rfl | true=>rw [dd4 h] at hL;cases hL
             have hb:=hbf hl9
             refine Ri.step_plain rfl rfl (fun K' hK=>?_)
             go_simp
             exact hK _ _ ⟨_,_,rfl,rfl,(fun _=>hb),(fun h=>Bool.noConfusion (hl9.symm.trans h)),dd0,dd1,dd2,dd3,(fun _=>rfl),dd5,dd6,dd7,dd8,dd9,c2_0,c2_1,c3_2,(fun _=>rfl),c7_5,c7_6,c8_7,q0,q1,q2,q3,(fun _=>rfl),q5,q6,q7,q8,q9,q10,q11,ct9⟩
           · have l0:L 4=true:=by have:=hd _ rfl;simp [Region.binds] at this;simp [this]
             have f4:=(hv 4 71 rfl l0).trans (q4 l0)
             have hl9:L 10=false:=by cases h:L 10 with | false=>rfl | true=>rw [dd5 h] at hL;cases hL
             have hb:=hbf hl9
             refine Ri.step_plain rfl rfl (fun K' hK=>?_)
             obtain ⟨d0,d1,d2,d3,-,-,-,-⟩:=four (keep_blk hb Z1.out)
             go_simp
             exact hK _ _ ⟨_,_,rfl,rfl,(fun _=>hb),(fun h=>Bool.noConfusion (hl9.symm.trans h)),dd0,dd1,dd2,dd3,dd4,(fun _=>rfl),dd6,dd7,dd8,dd9,c2_0,c2_1,c3_2,(fun _=>l0),(fun _=>rfl),c7_6,c8_7,q0,q1,q2,q3,q4,(fun _=>rfl),q6,q7,q8,q9,q10,q11,ct9⟩
           · have e11:xa.tmps.getD 11 undef=.int .i64 (i:Int):=ho 11 (by kernel_rfl)
             have hl9:L 10=false:=by cases h:L 10 with | false=>rfl | true=>rw [dd6 h] at hL;cases hL
             have hb:=hbf hl9
             refine Ri.step_plain rfl rfl (fun K' hK=>?_)
             go_simp
             exact hK _ _ ⟨_,_,rfl,rfl,(fun _=>hb),(fun h=>Bool.noConfusion (hl9.symm.trans h)),dd0,dd1,dd2,dd3,dd4,dd5,(fun _=>rfl),dd7,dd8,dd9,c2_0,c2_1,c3_2,c5_4,c7_5,(fun _=>rfl),c8_7,q0,q1,q2,q3,q4,q5,(fun _=>rfl),q7,q8,q9,q10,q11,ct9⟩
           · have l0:L 5=true∧L 6=true:=by have:=hd _ rfl;simp [Region.binds] at this;simp [this]
             have f5:=(hv 5 72 rfl l0.1).trans (q5 l0.1)
             have f6:=(hv 6 73 rfl l0.2).trans (q6 l0.2)
             have hl9:L 10=false:=by cases h:L 10 with | false=>rfl | true=>rw [dd7 h] at hL;cases hL
             have hb:=hbf hl9
             refine Ri.step_plain rfl rfl (fun K' hK=>?_)
             go_simp
             exact hK _ _ ⟨_,_,rfl,rfl,(fun _=>hb),(fun h=>Bool.noConfusion (hl9.symm.trans h)),dd0,dd1,dd2,dd3,dd4,dd5,dd6,(fun _=>rfl),dd8,dd9,c2_0,c2_1,c3_2,c5_4,(fun _=>l0.1),(fun _=>l0.2),(fun _=>rfl),q0,q1,q2,q3,q4,q5,q6,(fun _=>rfl),q8,q9,q10,q11,ct9⟩
           · have l0:L 7=true:=by have:=hd _ rfl;simp [Region.binds] at this;simp [this]
             have f7:=(hv 7 74 rfl l0).trans (q7 l0)
             have hl9:L 10=false:=by cases h:L 10 with | false=>rfl | true=>rw [dd8 h] at hL;cases hL
             have hb:=hbf hl9
             refine Ri.step_plain rfl rfl (fun K' hK=>?_)
             obtain ⟨d0,d1,d2,d3⟩:=(T2.out.keep (hb.block _ l2))
             go_simp
             exact hK _ _ ⟨_,_,rfl,rfl,(fun _=>hb),(fun h=>Bool.noConfusion (hl9.symm.trans h)),dd0,dd1,dd2,dd3,dd4,dd5,dd6,dd7,(fun _=>rfl),dd9,c2_0,c2_1,c3_2,c5_4,c7_5,c7_6,(fun _=>l0),q0,q1,q2,q3,q4,q5,q6,q7,(fun _=>rfl),q9,q10,q11,ct9⟩
           · have hlt9:L 11=false:=by cases h:L 11 with | false=>rfl | true=>exact absurd (dd9 (ct9 h)) (by rw [hL];decide)
             have e2:xa.tmps.getD 2 undef=.slice (some ⟨sb,0,none⟩) n sc:=hno 11 2 rfl hlt9
             have hl9:L 10=false:=by cases h:L 10 with | false=>rfl | true=>rw [dd9 h] at hL;cases hL
             have hb:=hbf hl9
             refine Ri.step_plain rfl rfl (fun K' hK=>?_)
             go_simp
             exact hK _ _ ⟨_,_,rfl,rfl,(fun _=>hb),(fun h=>Bool.noConfusion (hl9.symm.trans h)),dd0,dd1,dd2,dd3,dd4,dd5,dd6,dd7,dd8,(fun _=>rfl),c2_0,c2_1,c3_2,c5_4,c7_5,c7_6,c8_7,q0,q1,q2,q3,q4,q5,q6,q7,q8,(fun _=>rfl),q10,q11,ct9⟩
           · have l0:L 3=true∧L 8=true∧L 9=true:=by have:=hd _ rfl;simp [Region.binds] at this;simp [this]
             have f3:=(hv 3 70 rfl l0.1).trans (q3 l0.1)
             have f8:=(hv 8 75 rfl l0.2.1).trans (q8 l0.2.1)
             have f9:=(hv 9 76 rfl l0.2.2).trans (q9 l0.2.2)
             have h3:L 3=true:=by first | (have:=hd _ rfl;simp [Region.binds] at this;simp [this];done)
             have h8:L 8=true:=by first | (have:=hd _ rfl;simp [Region.binds] at this;simp [this];done)
             have h9:L 9=true:=by first | (have:=hd _ rfl;simp [Region.binds] at this;simp [this];done)
             have h2:L 2=true:=by first | (have:=hd _ rfl;simp [Region.binds] at this;simp [this];done) | exact c3_2 h3
             have h7:L 7=true:=by first | (have:=hd _ rfl;simp [Region.binds] at this;simp [this];done) | exact c8_7 h8
             have h0:L 0=true:=by first | (have:=hd _ rfl;simp [Region.binds] at this;simp [this];done) | exact c2_0 h2
             have h1:L 1=true:=by first | (have:=hd _ rfl;simp [Region.binds] at this;simp [this];done) | exact c2_1 h2
             have h5:L 5=true:=by first | (have:=hd _ rfl;simp [Region.binds] at this;simp [this];done) | exact c7_5 h7
             have h6:L 6=true:=by first | (have:=hd _ rfl;simp [Region.binds] at this;simp [this];done) | exact c7_6 h7
             have h4:L 4=true:=by first | (have:=hd _ rfl;simp [Region.binds] at this;simp [this];done) | exact c5_4 h5
             have hb:=hbf hL
             refine Ri.step_plain rfl rfl (fun K' hK=>?_)
             go_simp
             refine (HS.out _ hb).mono ?_
             rintro e w8 ⟨rfl,hsp8,hto8⟩
             exact hK _ _ ⟨_,_,rfl,rfl,(fun h=>by cases h),(fun _=>⟨hsp8,(Touch.of_below _ hb).trans hto8⟩),(fun _=>h0),(fun _=>h1),(fun _=>h2),(fun _=>h3),(fun _=>h4),(fun _=>h5),(fun _=>h6),(fun _=>h7),(fun _=>h8),(fun _=>h9),c2_0,c2_1,c3_2,c5_4,c7_5,c7_6,c8_7,q0,q1,q2,q3,q4,q5,q6,q7,q8,q9,(fun _=>rfl),q11,(fun _=>rfl)⟩
           · have l0:L 10=true:=by have:=hd _ rfl;simp [Region.binds] at this;simp [this]
             have f10:=(hv 10 77 rfl l0).trans (q10 l0)
             refine Ri.step_plain rfl rfl (fun K' hK=>?_)
             go_simp
             exact hK _ _ ⟨_,_,rfl,rfl,(fun h=>Bool.noConfusion (h.symm.trans l0)),hfin,dd0,dd1,dd2,dd3,dd4,dd5,dd6,dd7,dd8,dd9,c2_0,c2_1,c3_2,c5_4,c7_5,c7_6,c8_7,q0,q1,q2,q3,q4,q5,q6,q7,q8,q9,q10,(fun _=>rfl),(fun _=>l0)⟩
         · rintro v w9 ⟨-,hfin,-,-,-,-,-,-,-,-,-,-,-,-,-,-,-,-,-,-,-,-,-,-,-,-,-,-,-,-,q11,-⟩
           have HF9:=Lib.hid (hfin rfl)
           have q11':v 11=.slice (some ⟨sb,0,none⟩) n sc:=q11 rfl
           simp only [Ri.frame,List.zipIdx,List.foldl_cons,List.foldl_nil,if_true,List.setIfInBounds_toArray,List.set_cons_zero,List.set_cons_succ,Nat.reduceAdd,q11']
           clear hfin q11 q11'
           generalize v 0=y0;generalize v 1=y1;generalize v 2=y2;generalize v 3=y3;generalize v 4=y4;generalize v 5=y5;generalize v 6=y6;generalize v 7=y7;generalize v 8=y8;generalize v 9=y9;generalize v 10=y10
           obtain ⟨hsp9,hto9⟩:=HF9.out
           have SP9:=Lib.hid hsp9;have HT9:=Lib.hid (HTR.out.trans hto9)
           have Z9:=Lib.hid ((hto9.block _ HSZR.out (by have:=HSBL.out;simp;omega)).trans Z1.out)
           clear hsp9 hto9 HF9
           go_wp2
           exact ⟨⟨i+1,_,by go_num,rfl,by omega,HLL,SP9,HT9,Z9⟩,by simp [intOf];omega⟩
       · obtain rfl:i=qs.length:=by omega
         have hln:decide ((qs.length:Int) < (qs.length:Int))=false:=decide_eq_false (by omega)
         have HE:=Lib.hid (show Gi=FF by have:=HL.out;rw [List.drop_length,Rk.fwS_nil] at this;exact this)
         obtain ⟨a0,a1,a2,a3,-,-,-,-⟩:=four Z1.out
         clear HL hlt2
         go_wp2
         go_ret
         exact ⟨rfl,HE.out ▸ SP.out,HTW.out⟩
   case pos =>
     have e7:(t.kind == 7)=true:=by simpa using h7
     obtain ⟨u0,hu0,hn1,hn9⟩:=H7.out h7
     subst hu0
     obtain ⟨kn,hkn⟩:∃ kn:Nat,t.num=kn:=⟨t.num.toNat,by omega⟩
     have HUF:Hid u0.InForm:=Lib.hid (HSUB.out u0 List.mem_cons_self)
     have HUN:=Lib.hid (HNS.out u0 List.mem_cons_self)
     have HFF0:=Lib.hid (show Rk.fwS qs t pk 0 (Rk.fw1 (kn:Int) (lo,hi) (Rk.fwN (Rk.nums u0) G))=FF by
       rw [if_pos h7,hkn] at hFF
       rw [show Rk.numsS [u0]=Rk.nums u0 ++ [] from rfl,List.append_nil] at hFF
       exact hFF)
     obtain ⟨bg,og,sg,rfl,hbgn,tg,subg⟩:=HTS.out.get (i:=0) (t:=u0) rfl
     rw [Nat.zero_mul,Nat.add_zero] at tg
     obtain ⟨pg,cg,rfl,-,-⟩:=subg.slice
     have hl1:([u0]:List Tr).length=1:=rfl
     rw [hkn,hl1] at HSU ⊢
     clear h7 H7 hFF hkn hn1 hn9 hl1
     have HTA0:=Lib.hid (show Touch [sb] w ((w.alloc (.cells #[.int .i64 t.kind,.int .u64 (Oc.U t.w0),.int .u64 (Oc.U t.w1),.int .u64 (Oc.U t.w2),.int .u64 (Oc.U t.w3),.slice (some ⟨bg,og,none⟩) 1 cap,.int .i64 (kn:Int),.int .i64 t.least,.int .i64 t.most,.bool t.bare] 37)).alloc (.cells #[.int .i64 lo,.int .i64 hi,.int .i64 pk,.slice pp qs.length pc] 57)) from Touch.of_below _ (by go_grown))
     have HBA0:=Lib.hid (show Below w.heap.size w ((w.alloc (.cells #[.int .i64 t.kind,.int .u64 (Oc.U t.w0),.int .u64 (Oc.U t.w1),.int .u64 (Oc.U t.w2),.int .u64 (Oc.U t.w3),.slice (some ⟨bg,og,none⟩) 1 cap,.int .i64 (kn:Int),.int .i64 t.least,.int .i64 t.most,.bool t.bare] 37)).alloc (.cells #[.int .i64 lo,.int .i64 hi,.int .i64 pk,.slice pp qs.length pc] 57)) from by go_grown)
     have W2x:=Lib.hid (two_new w (.cells #[.int .i64 t.kind,.int .u64 (Oc.U t.w0),.int .u64 (Oc.U t.w1),.int .u64 (Oc.U t.w2),.int .u64 (Oc.U t.w3),.slice (some ⟨bg,og,none⟩) 1 cap,.int .i64 (kn:Int),.int .i64 t.least,.int .i64 t.most,.bool t.bare] 37) (.cells #[.int .i64 lo,.int .i64 hi,.int .i64 pk,.slice pp qs.length pc] 57))
     have HCN:=Lib.hid (fun w9 (h:Below w.heap.size w w9)=>rrknumbers_any u0 HUF.out HUN.out w9 _ (.agg (u0.cells (.slice pg u0.subs.length cg))) ⟨_,rfl,(subg.later h).plain⟩)
     unfold Tr.cells at HCN
     obtain ⟨x0,x1,x2,x3,x4,x5,x6,x7,x8,x9⟩:=tg.keep (HBA0.out.block _ tg.lt)
     clear tg subg
     go_enter Tryd.func101,Tryd.ntmps101
     go_upto_region 2 with (fail)
     generalize hW0:World.alloc (World.alloc w _) _=W0 at *
     have HSP0:=Lib.hid (show SpRow W0 sb n G from HSP.out.later HBA0.out)
     have Y00:=Lib.hid W2x.out.1;have Y01:=Lib.hid W2x.out.2
     obtain ⟨n0,n1,n2,n3,n4,n5,n6,n7,n8,n9⟩:=allTen Y00.out
     clear hW0 W2x
     go_wp2_with fail
     refine (HCN.out W0 HBA0.out).mono ?_
     rintro e w2 ⟨gv,rfl,hir2,hb2⟩
     obtain ⟨gp,gc,rfl,-⟩:=hir2.shape
     have HIR2:=Lib.hid hir2;have HT2:=Lib.hid (HTA0.out.trans (Touch.of_below _ hb2));have HSP2:=Lib.hid (HSP0.out.later hb2);have Y20:=Lib.hid (keep_blk hb2 Y00.out);have Y21:=Lib.hid (keep_blk hb2 Y01.out)
     have HSW:=Lib.hid (show sb < W0.heap.size from HSP0.out.lt)
     have HW01:=Lib.hid (show w.heap.size+1 < W0.heap.size from (Array.getElem?_eq_some_iff.1 Y01.out).1)
     clear hir2 hb2 n0 n1 n2 n3 n4 n5 n6 n7 n8 n9 x0 x1 x2 x3 x4 x5 x6 x7 x8 x9 HCN HSP0 Y00 Y01 HTA0 HBA0
     have HML:=Lib.hid (show (Rk.numsN u0).length ≤ 500000 by rw [Rk.numsN_len];exact HUN.out)
     generalize hms:(Rk.numsN u0).length=ml at *
     go_wp2
     go_loopw [8] (fun kv wr=>∃ k:Nat,kv=.int .i64 (k:Int)∧k ≤ ml∧Hid (SpRow wr sb n (Rk.fwC (Rk.numsN u0) k G))∧Hid (IR W0.heap.size wr (.slice gp ml gc) (Rk.numsN u0))∧Hid (Touch [sb] w wr)∧Hid (wr.heap[w.heap.size]? = some (.cells #[.int .i64 t.kind,.int .u64 (Oc.U t.w0),.int .u64 (Oc.U t.w1),.int .u64 (Oc.U t.w2),.int .u64 (Oc.U t.w3),.slice (some ⟨bg,og,none⟩) 1 cap,.int .i64 (kn:Int),.int .i64 t.least,.int .i64 t.most,.bool t.bare] 37))∧Hid (wr.heap[w.heap.size+1]? = some (.cells #[.int .i64 lo,.int .i64 hi,.int .i64 pk,.slice pp qs.length pc] 57))) (fun kv _=>ml - (intOf kv).toNat)
     case atStart=>exact ⟨0,rfl,Nat.zero_le _,Lib.hid (by rw [Rk.fwC_zero];exact HSP2.out),HIR2,HT2,Y20,Y21⟩
     case round =>
       obtain ⟨k,rfl,hk,SPK,IRK,HTK,Y0,Y1⟩:=hrel
       clear HSP2 HIR2 HT2 Y20 Y21
       have wk:IntKind.i64.wrap ((k:Int)+1)=(k:Int)+1:=IntWalk.i64_in _ (by have:=HML.out;omega)
       have HLW:=Lib.hid (show w.heap.size+1 < wr.heap.size from (Array.getElem?_eq_some_iff.1 Y1.out).1)
       by_cases hlt:k < ml
       · have hltd:decide ((k:Int) < (ml:Int))=true:=decide_eq_true (by omega)
         obtain ⟨m,hm⟩:∃ m,(Rk.numsN u0)[k]? = some m:=⟨_,List.getElem?_eq_getElem (by rw [hms];exact hlt)⟩
         obtain ⟨gp',gc',ge,hgc⟩:=IRK.out.shape
         obtain ⟨rfl,rfl⟩:gp=gp'∧gc=gc':=by injection ge with h1 h2 h3;exact ⟨h1,h3⟩
         obtain ⟨g,rfl,hgB,cg1⟩:=hgc k m hm
         have HM:=Lib.hid hm
         clear hm hgc ge
         by_cases hmn:m < n
         · have hmd:decide ((m:Int) < (n:Int))=true:=decide_eq_true (by omega)
           have hmd2:decide (m < n)=true:=decide_eq_true hmn
           obtain ⟨s0,s1,f0,f1⟩:=SPK.out.cell hmn
           have SPN:=Lib.hid (SPK.out.put (H:=Rk.fwC (Rk.numsN u0) (k+1) G) hmn (Rk.fwC_at G HM.out) (fun j _ hj=>Rk.fwC_ne G HM.out j hj))
           have HTN:=Lib.hid (touch_put HTK.out m (.int .i64 (-1)) (.int .i64 (-1)))
           have HTN0:=Lib.hid (touch_put (Touch.of_below [sb] (Below.refl wr.heap.size wr)) m (.int .i64 (-1)) (.int .i64 (-1)))
           go_wp2
           exact ⟨⟨k+1,by go_num,by omega,SPN,Lib.hid (IRK.out.touch HTN0.out HSW.out),HTN,Lib.hid ((HTN0.out.block _ (by have:=HLW.out;omega) (by have:=HSBL.out;simp;omega)).trans Y0.out),Lib.hid ((HTN0.out.block _ (by have:=HLW.out;omega) (by have:=HSBL.out;simp;omega)).trans Y1.out)⟩,by simp [intOf];omega⟩
         · have hmd:decide ((m:Int) < (n:Int))=false:=decide_eq_false (by omega)
           have hmd2:decide (m < n)=false:=decide_eq_false hmn
           have SPN:=Lib.hid (SPK.out.same (H:=Rk.fwC (Rk.numsN u0) (k+1) G) (fun j hj=>Rk.fwC_ne G HM.out j (by omega)))
           go_wp2
           exact ⟨⟨k+1,by go_num,by omega,SPN,IRK,HTK,Y0,Y1⟩,by simp [intOf];omega⟩
       · obtain rfl:k=ml:=by omega
         have hltd:decide ((k:Int) < (k:Int))=false:=decide_eq_false (by omega)
         have SPA:=Lib.hid (show SpRow wr sb n (Rk.fwN (Rk.nums u0) G) by have:=SPK.out;rw [← hms,Rk.fwC_all u0 HUF.out] at this;exact this)
         clear SPK hlt IRK HUN HML hms
         obtain ⟨n0,n1,n2,n3,n4,n5,n6,n7,n8,n9⟩:=allTen Y0.out
         obtain ⟨d0,d1,d2,d3,-,-,-,-⟩:=four Y1.out
         by_cases hkn:kn < n
         · have hmd:decide ((kn:Int) < (n:Int))=true:=decide_eq_true (by omega)
           have hmd2:decide (kn < n)=true:=decide_eq_true hkn
           obtain ⟨s0,s1,f0,f1⟩:=SPA.out.cell hkn
           obtain ⟨GA,hGA⟩:∃ GA,GA=Rk.fw1 (kn:Int) (lo,hi) (Rk.fwN (Rk.nums u0) G):=⟨_,rfl⟩
           have HFF:=Lib.hid (show Rk.fwS qs t pk 0 GA=FF by rw [hGA];exact HFF0.out)
           have SPN:=Lib.hid (SPA.out.put (H:=GA) hkn (by subst hGA;exact if_pos rfl) (fun j _ hj=>by subst hGA;exact if_neg (by omega)))
           have HTN:=Lib.hid (touch_put HTK.out kn (.int .i64 lo) (.int .i64 hi))
           have HTN0:=Lib.hid (touch_put (Touch.of_below [sb] (Below.refl wr.heap.size wr)) kn (.int .i64 lo) (.int .i64 hi))
           clear HFF0
           go_upto_region 10 with (fail)
           obtain ⟨WA,hWA⟩:∃ WA,WA=(wr.setCell ⟨sb,kn * 2,none⟩ (.int .i64 lo)).setCell ⟨sb,kn * 2+1,none⟩ (.int .i64 hi):=⟨_,rfl⟩
           rw [← hWA] at HTN HTN0 SPN ⊢
           have HTA:=HTN;have YA0:=Lib.hid ((HTN0.out.block _ (by have:=HLW.out;omega) (by have:=HSBL.out;simp;omega)).trans Y0.out);have YA1:=Lib.hid ((HTN0.out.block _ (by have:=HLW.out;omega) (by have:=HSBL.out;simp;omega)).trans Y1.out);have HSPA:=SPN
           clear hWA HTN HTN0 hGA HNL HF HTS Y0 Y1 n0 n1 n2 n3 n4 n5 n6 n7 n8 n9 d0 d1 d2 d3 s0 s1 f0 f1 SPA
           have HSUA:=Lib.hid (HSU.out WA HTA.out)
           clear HSU
           obtain ⟨y0,y1,y2,y3,y4,y5,y6,y7,y8,y9⟩:=allTen YA0.out
           obtain ⟨a0,a1,a2,a3,-,-,-,-⟩:=four YA1.out
           go_wp2_with (first
             | (refine wpList_load_row rfl 37 (.tmp 3) rfl w.heap.size rfl 37 _ (0,0) _ YA0.out Tryd.underlying37 rfl (by kernel_rfl) ?_)
             | fail)
           refine HSUA.out.mono ?_
           rintro e w1 ⟨lv,rfl,hrow,hb1⟩
           have HTW1:=Lib.hid (HTA.out.trans (Touch.of_below _ hb1));have SP1:=Lib.hid (HSPA.out.later hb1);have V1:=Lib.hid (keep_blk hb1 YA1.out)
           clear hb1 YA0 YA1 HSPA HSUA y0 y1 y2 y3 y4 y5 y6 y7 y8 y9 a0 a1 a2 a3
           obtain ⟨lp,lc,rfl,hget⟩:=hrow
           have HROW:=Lib.hid (fun i (u:Tr) (h:rl[i]? = some u)=>hget i u h)
           rw [HLEN.out]
           clear hget
           go_wp2
           go_loopw [2,11] (fun sv iv wr=>∃ (i:Nat) (Gi:Nat→Int × Int),iv=.int .i64 i∧sv=.slice (some ⟨sb,0,none⟩) n sc∧i ≤ qs.length∧Hid (Rk.fwS (qs.drop i) t pk i Gi=FF)∧Hid (SpRow wr sb n Gi)∧Hid (Touch [sb] w1 wr)∧Hid (wr.heap[w.heap.size+1]? = some (.cells #[.int .i64 lo,.int .i64 hi,.int .i64 pk,.slice pp qs.length pc] 57))) (fun _ iv _=>qs.length - (intOf iv).toNat)
           case atStart=>exact ⟨0,GA,rfl,rfl,Nat.zero_le _,by rw [List.drop_zero];exact HFF,SP1,Lib.hid (Touch.of_below _ (Below.refl _ _)),V1⟩
           case round =>
             obtain ⟨i,Gi,rfl,rfl,hi0,HL,SP,HTR,Z1⟩:=hrel
             clear SP1 V1 HFF HSP
             have wi:IntKind.i64.wrap ((i:Int)+1)=(i:Int)+1:=IntWalk.i64_in _ (by omega)
             have HTW:=Lib.hid (HTW1.out.trans HTR.out)
             have HSZR:=Lib.hid (show w.heap.size+1 < wr.heap.size from (Array.getElem?_eq_some_iff.1 Z1.out).1)
             by_cases hlt2:i < qs.length
             · obtain ⟨y,hy⟩:∃ y,qs[i]? = some y:=⟨_,List.getElem?_eq_getElem hlt2⟩
               obtain ⟨b2,o2,s2,rfl,hb2n,t2,sub2⟩:=HQS.out.get hy
               obtain ⟨p2,c2,rfl,-⟩:=sub2.slice
               obtain ⟨u,hru,hat,hu⟩:=HGT.out i hlt2
               obtain ⟨bt,ot,s1,rfl,hbtn,t1,sub1⟩:=HROW.out i u hru
               obtain ⟨p1,c1,rfl,-,-⟩:=sub1.slice
               have hdr:qs.drop i=y :: qs.drop (i+1):=by
                 rw [List.drop_eq_getElem_cons hlt2,(List.getElem?_eq_some_iff.1 hy).2]
               have hl:=HL.out
               rw [hdr,Rk.fwS_cons y _ t pk i Gi (by rw [HTE.out];exact hat)] at hl
               have HLL:=Lib.hid hl
               have T1:=Lib.hid (t1.keep (HTR.out.block _ t1.lt (by simpa using hbtn)));have T2:=Lib.hid (t2.keep (HTW.out.block _ t2.lt (by simpa using hb2n)))
               have l1:=T1.out.lt;have l2:=T2.out.lt
               have HS:=Lib.hid (fun w9 (hb:Below wr.heap.size wr w9) =>
                 IH.out y (List.mem_of_getElem? hy) (HND.out y (List.mem_of_getElem? hy)) u (HSUB.out u (by first | exact hu | (rw [HTE.out];exact hu))) (HNS.out u (by first | exact hu | (rw [HTE.out];exact hu))) (HOKS.out i y u hy hat) Gi w9 (.agg (u.cells (.slice p1 u.subs.length c1))) (.agg (y.cells (.slice p2 y.subs.length c2)))
                   ⟨_,rfl,(sub1.keep fun b hb9 hn=>HTR.out.block b hb9 (by simpa using hn)).later hb⟩ ⟨_,rfl,(sub2.keep fun b hb9 hn=>HTW.out.block b hb9 (by simpa using hn)).later hb⟩ (SP.out.later hb))
               unfold Tr.cells Pa.cells at HS
               have hln:decide ((i:Int) < (qs.length:Int))=true:=decide_eq_true (by omega)
               obtain ⟨a0,a1,a2,a3,-,-,-,-⟩:=four Z1.out
               clear t1 sub1 t2 sub2 hat hu hru hy hdr hl HL
               go_upto_region 14 with (fail)
               clear a0 a1 a2 a3
               go_wp2_with fail
               refine Ri.wp_region_late (by kernel_rfl) (by kernel_rfl) (by kernel_rfl) (by kernel_rfl)
                 (fun L v w'=>(L 10=false→Below wr.heap.size wr w')∧(L 10=true→SpRow w' sb n (Rk.fw y u Gi)∧Touch [sb] wr w')∧(L 10=true→L 0=true)∧(L 10=true→L 1=true)∧(L 10=true→L 2=true)∧(L 10=true→L 3=true)∧(L 10=true→L 4=true)∧(L 10=true→L 5=true)∧(L 10=true→L 6=true)∧(L 10=true→L 7=true)∧(L 10=true→L 8=true)∧(L 10=true→L 9=true)∧(L 2=true→L 0=true)∧(L 2=true→L 1=true)∧(L 3=true→L 2=true)∧(L 5=true→L 4=true)∧(L 7=true→L 5=true)∧(L 7=true→L 6=true)∧(L 8=true→L 7=true)∧(L 0=true→v 0=.slice (some ⟨bt,ot,none⟩) qs.length lc)∧(L 1=true→v 1=.int .i64 (i:Int))∧(L 2=true→v 2=.pointer (some ⟨bt,ot+i * 10,none⟩))∧(L 3=true→v 3=.agg #[.int .i64 u.kind,.int .u64 (Oc.U u.w0),.int .u64 (Oc.U u.w1),.int .u64 (Oc.U u.w2),.int .u64 (Oc.U u.w3),.slice p1 u.subs.length c1,.int .i64 u.num,.int .i64 u.least,.int .i64 u.most,.bool u.bare])∧(L 4=true→v 4=.pointer (some ⟨w.heap.size+1,3,none⟩))∧(L 5=true→v 5=.slice (some ⟨b2,o2,none⟩) qs.length pc)∧(L 6=true→v 6=.int .i64 (i:Int))∧(L 7=true→v 7=.pointer (some ⟨b2,o2+i * 4,none⟩))∧(L 8=true→v 8=.agg #[.int .i64 y.lo,.int .i64 y.hi,.int .i64 y.pick,.slice p2 y.subs.length c2])∧(L 9=true→v 9=.slice (some ⟨sb,0,none⟩) n sc)∧(L 10=true→v 10=.slice (some ⟨sb,0,none⟩) n sc)∧(L 11=true→v 11=.slice (some ⟨sb,0,none⟩) n sc)∧(L 11=true→L 10=true))
                 ?_ ?_ ?_
               · exact ⟨fun _=>(Below.refl _ _).drew,by simp,by simp,by simp,by simp,by simp,by simp,by simp,by simp,by simp,by simp,by simp,by simp,by simp,by simp,by simp,by simp,by simp,by simp,by simp,by simp,by simp,by simp,by simp,by simp,by simp,by simp,by simp,by simp,by simp,by simp,by simp⟩
               · intro i hi9 L v w9 xa hI hL hd hv ho hno
                 have hi':i=0 ∨ i=1 ∨ i=2 ∨ i=3 ∨ i=4 ∨ i=5 ∨ i=6 ∨ i=7 ∨ i=8 ∨ i=9 ∨ i=10 ∨ i=11:=by simp at hi9;omega
                 obtain ⟨hbf,hfin,dd0,dd1,dd2,dd3,dd4,dd5,dd6,dd7,dd8,dd9,c2_0,c2_1,c3_2,c5_4,c7_5,c7_6,c8_7,q0,q1,q2,q3,q4,q5,q6,q7,q8,q9,q10,q11,ct9⟩:=hI
                 rcases hi' with rfl | rfl | rfl | rfl | rfl | rfl | rfl | rfl | rfl | rfl | rfl | rfl
                 · have e9:xa.tmps.getD 9 undef=.slice (some ⟨bt,ot,none⟩) qs.length lc:=ho 9 (by kernel_rfl)
                   have hl9:L 10=false:=by cases h:L 10 with | false=>rfl | true=>rw [dd0 h] at hL;cases hL
                   have hb:=hbf hl9
                   refine Ri.step_plain rfl rfl (fun K' hK=>?_)
                   go_simp
                   exact hK _ _ ⟨_,_,rfl,rfl,(fun _=>hb),(fun h=>Bool.noConfusion (hl9.symm.trans h)),(fun _=>rfl),dd1,dd2,dd3,dd4,dd5,dd6,dd7,dd8,dd9,(fun _=>rfl),c2_1,c3_2,c5_4,c7_5,c7_6,c8_7,(fun _=>rfl),q1,q2,q3,q4,q5,q6,q7,q8,q9,q10,q11,ct9⟩
                 · have e11:xa.tmps.getD 11 undef=.int .i64 (i:Int):=ho 11 (by kernel_rfl)
                   have hl9:L 10=false:=by cases h:L 10 with | false=>rfl | true=>rw [dd1 h] at hL;cases hL
                   have hb:=hbf hl9
                   refine Ri.step_plain rfl rfl (fun K' hK=>?_)
                   go_simp
                   exact hK _ _ ⟨_,_,rfl,rfl,(fun _=>hb),(fun h=>Bool.noConfusion (hl9.symm.trans h)),dd0,(fun _=>rfl),dd2,dd3,dd4,dd5,dd6,dd7,dd8,dd9,c2_0,(fun _=>rfl),c3_2,c5_4,c7_5,c7_6,c8_7,q0,(fun _=>rfl),q2,q3,q4,q5,q6,q7,q8,q9,q10,q11,ct9⟩
                 · have l0:L 0=true∧L 1=true:=by have:=hd _ rfl;simp [Region.binds] at this;simp [this]
                   have f0:=(hv 0 67 rfl l0.1).trans (q0 l0.1)
                   have f1:=(hv 1 68 rfl l0.2).trans (q1 l0.2)
                   have hl9:L 10=false:=by cases h:L 10 with | false=>rfl | true=>rw [dd2 h] at hL;cases hL
                   have hb:=hbf hl9
                   refine Ri.step_plain rfl rfl (fun K' hK=>?_)
                   go_simp
                   exact hK _ _ ⟨_,_,rfl,rfl,(fun _=>hb),(fun h=>Bool.noConfusion (hl9.symm.trans h)),dd0,dd1,(fun _=>rfl),dd3,dd4,dd5,dd6,dd7,dd8,dd9,(fun _=>l0.1),(fun _=>l0.2),(fun _=>rfl),c5_4,c7_5,c7_6,c8_7,q0,q1,(fun _=>rfl),q3,q4,q5,q6,q7,q8,q9,q10,q11,ct9⟩
                 · have l0:L 2=true:=by have:=hd _ rfl;simp [Region.binds] at this;simp [this]
                   have f2:=(hv 2 69 rfl l0).trans (q2 l0)
                   have hl9:L 10=false:=by cases h:L 10 with | false=>rfl | true=>rw [dd3 h] at hL;cases hL
                   have hb:=hbf hl9
                   refine Ri.step_plain rfl rfl (fun K' hK=>?_)
                   obtain ⟨n0,n1,n2,n3,n4,n5,n6,n7,n8,n9⟩:=(T1.out.keep (hb.block _ l1))
                   go_simp
                   exact hK _ _ ⟨_,_,rfl,rfl,(fun _=>hb),(fun h=>Bool.noConfusion (hl9.symm.trans h)),dd0,dd1,dd2,(fun _=>rfl),dd4,dd5,dd6,dd7,dd8,dd9,c2_0,c2_1,(fun _=>l0),c5_4,c7_5,c7_6,c8_7,q0,q1,q2,(fun _=>rfl),q4,q5,q6,q7,q8,q9,q10,q11,ct9⟩
                 · have e4:xa.tmps.getD 4 undef=.pointer (some ⟨w.heap.size+1,0,none⟩):=ho 4 (by kernel_rfl)
                   have hl9:L 10=false:=by cases h:L 10 with | false=>rfl | true=>rw [dd4 h] at hL;cases hL
                   have hb:=hbf hl9
                   refine Ri.step_plain rfl rfl (fun K' hK=>?_)
                   go_simp
                   exact hK _ _ ⟨_,_,rfl,rfl,(fun _=>hb),(fun h=>Bool.noConfusion (hl9.symm.trans h)),dd0,dd1,dd2,dd3,(fun _=>rfl),dd5,dd6,dd7,dd8,dd9,c2_0,c2_1,c3_2,(fun _=>rfl),c7_5,c7_6,c8_7,q0,q1,q2,q3,(fun _=>rfl),q5,q6,q7,q8,q9,q10,q11,ct9⟩
                 · have l0:L 4=true:=by have:=hd _ rfl;simp [Region.binds] at this;simp [this]
                   have f4:=(hv 4 71 rfl l0).trans (q4 l0)
                   have hl9:L 10=false:=by cases h:L 10 with | false=>rfl | true=>rw [dd5 h] at hL;cases hL
                   have hb:=hbf hl9
                   refine Ri.step_plain rfl rfl (fun K' hK=>?_)
                   obtain ⟨d0,d1,d2,d3,-,-,-,-⟩:=four (keep_blk hb Z1.out)
                   go_simp
                   exact hK _ _ ⟨_,_,rfl,rfl,(fun _=>hb),(fun h=>Bool.noConfusion (hl9.symm.trans h)),dd0,dd1,dd2,dd3,dd4,(fun _=>rfl),dd6,dd7,dd8,dd9,c2_0,c2_1,c3_2,(fun _=>l0),(fun _=>rfl),c7_6,c8_7,q0,q1,q2,q3,q4,(fun _=>rfl),q6,q7,q8,q9,q10,q11,ct9⟩
                 · have e11:xa.tmps.getD 11 undef=.int .i64 (i:Int):=ho 11 (by kernel_rfl)
                   have hl9:L 10=false:=by cases h:L 10 with | false=>rfl | true=>rw [dd6 h] at hL;cases hL
                   have hb:=hbf hl9
                   refine Ri.step_plain rfl rfl (fun K' hK=>?_)
                   go_simp
                   exact hK _ _ ⟨_,_,rfl,rfl,(fun _=>hb),(fun h=>Bool.noConfusion (hl9.symm.trans h)),dd0,dd1,dd2,dd3,dd4,dd5,(fun _=>rfl),dd7,dd8,dd9,c2_0,c2_1,c3_2,c5_4,c7_5,(fun _=>rfl),c8_7,q0,q1,q2,q3,q4,q5,(fun _=>rfl),q7,q8,q9,q10,q11,ct9⟩
                 · have l0:L 5=true∧L 6=true:=by have:=hd _ rfl;simp [Region.binds] at this;simp [this]
                   have f5:=(hv 5 72 rfl l0.1).trans (q5 l0.1)
                   have f6:=(hv 6 73 rfl l0.2).trans (q6 l0.2)
                   have hl9:L 10=false:=by cases h:L 10 with | false=>rfl | true=>rw [dd7 h] at hL;cases hL
                   have hb:=hbf hl9
                   refine Ri.step_plain rfl rfl (fun K' hK=>?_)
                   go_simp
                   exact hK _ _ ⟨_,_,rfl,rfl,(fun _=>hb),(fun h=>Bool.noConfusion (hl9.symm.trans h)),dd0,dd1,dd2,dd3,dd4,dd5,dd6,(fun _=>rfl),dd8,dd9,c2_0,c2_1,c3_2,c5_4,(fun _=>l0.1),(fun _=>l0.2),(fun _=>rfl),q0,q1,q2,q3,q4,q5,q6,(fun _=>rfl),q8,q9,q10,q11,ct9⟩
                 · have l0:L 7=true:=by have:=hd _ rfl;simp [Region.binds] at this;simp [this]
                   have f7:=(hv 7 74 rfl l0).trans (q7 l0)
                   have hl9:L 10=false:=by cases h:L 10 with | false=>rfl | true=>rw [dd8 h] at hL;cases hL
                   have hb:=hbf hl9
                   refine Ri.step_plain rfl rfl (fun K' hK=>?_)
                   obtain ⟨d0,d1,d2,d3⟩:=(T2.out.keep (hb.block _ l2))
                   go_simp
                   exact hK _ _ ⟨_,_,rfl,rfl,(fun _=>hb),(fun h=>Bool.noConfusion (hl9.symm.trans h)),dd0,dd1,dd2,dd3,dd4,dd5,dd6,dd7,(fun _=>rfl),dd9,c2_0,c2_1,c3_2,c5_4,c7_5,c7_6,(fun _=>l0),q0,q1,q2,q3,q4,q5,q6,q7,(fun _=>rfl),q9,q10,q11,ct9⟩
                 · have hlt9:L 11=false:=by cases h:L 11 with | false=>rfl | true=>exact absurd (dd9 (ct9 h)) (by rw [hL];decide)
                   have e2:xa.tmps.getD 2 undef=.slice (some ⟨sb,0,none⟩) n sc:=hno 11 2 rfl hlt9
                   have hl9:L 10=false:=by cases h:L 10 with | false=>rfl | true=>rw [dd9 h] at hL;cases hL
                   have hb:=hbf hl9
                   refine Ri.step_plain rfl rfl (fun K' hK=>?_)
                   go_simp
                   exact hK _ _ ⟨_,_,rfl,rfl,(fun _=>hb),(fun h=>Bool.noConfusion (hl9.symm.trans h)),dd0,dd1,dd2,dd3,dd4,dd5,dd6,dd7,dd8,(fun _=>rfl),c2_0,c2_1,c3_2,c5_4,c7_5,c7_6,c8_7,q0,q1,q2,q3,q4,q5,q6,q7,q8,(fun _=>rfl),q10,q11,ct9⟩
                 · have l0:L 3=true∧L 8=true∧L 9=true:=by have:=hd _ rfl;simp [Region.binds] at this;simp [this]
                   have f3:=(hv 3 70 rfl l0.1).trans (q3 l0.1)
                   have f8:=(hv 8 75 rfl l0.2.1).trans (q8 l0.2.1)
                   have f9:=(hv 9 76 rfl l0.2.2).trans (q9 l0.2.2)
                   have h3:L 3=true:=by first | (have:=hd _ rfl;simp [Region.binds] at this;simp [this];done)
                   have h8:L 8=true:=by first | (have:=hd _ rfl;simp [Region.binds] at this;simp [this];done)
                   have h9:L 9=true:=by first | (have:=hd _ rfl;simp [Region.binds] at this;simp [this];done)
                   have h2:L 2=true:=by first | (have:=hd _ rfl;simp [Region.binds] at this;simp [this];done) | exact c3_2 h3
                   have h7:L 7=true:=by first | (have:=hd _ rfl;simp [Region.binds] at this;simp [this];done) | exact c8_7 h8
                   have h0:L 0=true:=by first | (have:=hd _ rfl;simp [Region.binds] at this;simp [this];done) | exact c2_0 h2
                   have h1:L 1=true:=by first | (have:=hd _ rfl;simp [Region.binds] at this;simp [this];done) | exact c2_1 h2
                   have h5:L 5=true:=by first | (have:=hd _ rfl;simp [Region.binds] at this;simp [this];done) | exact c7_5 h7
                   have h6:L 6=true:=by first | (have:=hd _ rfl;simp [Region.binds] at this;simp [this];done) | exact c7_6 h7
                   have h4:L 4=true:=by first | (have:=hd _ rfl;simp [Region.binds] at this;simp [this];done) | exact c5_4 h5
                   have hb:=hbf hL
                   refine Ri.step_plain rfl rfl (fun K' hK=>?_)
                   go_simp
                   refine (HS.out _ hb).mono ?_
                   rintro e w8 ⟨rfl,hsp8,hto8⟩
                   exact hK _ _ ⟨_,_,rfl,rfl,(fun h=>by cases h),(fun _=>⟨hsp8,(Touch.of_below _ hb).trans hto8⟩),(fun _=>h0),(fun _=>h1),(fun _=>h2),(fun _=>h3),(fun _=>h4),(fun _=>h5),(fun _=>h6),(fun _=>h7),(fun _=>h8),(fun _=>h9),c2_0,c2_1,c3_2,c5_4,c7_5,c7_6,c8_7,q0,q1,q2,q3,q4,q5,q6,q7,q8,q9,(fun _=>rfl),q11,(fun _=>rfl)⟩
                 · have l0:L 10=true:=by have:=hd _ rfl;simp [Region.binds] at this;simp [this]
                   have f10:=(hv 10 77 rfl l0).trans (q10 l0)
                   refine Ri.step_plain rfl rfl (fun K' hK=>?_)
                   go_simp
                   exact hK _ _ ⟨_,_,rfl,rfl,(fun h=>Bool.noConfusion (h.symm.trans l0)),hfin,dd0,dd1,dd2,dd3,dd4,dd5,dd6,dd7,dd8,dd9,c2_0,c2_1,c3_2,c5_4,c7_5,c7_6,c8_7,q0,q1,q2,q3,q4,q5,q6,q7,q8,q9,q10,(fun _=>rfl),(fun _=>l0)⟩
               · rintro v w9 ⟨-,hfin,-,-,-,-,-,-,-,-,-,-,-,-,-,-,-,-,-,-,-,-,-,-,-,-,-,-,-,-,q11,-⟩
                 have HF9:=Lib.hid (hfin rfl)
                 have q11':v 11=.slice (some ⟨sb,0,none⟩) n sc:=q11 rfl
                 simp only [Ri.frame,List.zipIdx,List.foldl_cons,List.foldl_nil,if_true,List.setIfInBounds_toArray,List.set_cons_zero,List.set_cons_succ,Nat.reduceAdd,q11']
                 clear hfin q11 q11'
                 generalize v 0=y0;generalize v 1=y1;generalize v 2=y2;generalize v 3=y3;generalize v 4=y4;generalize v 5=y5;generalize v 6=y6;generalize v 7=y7;generalize v 8=y8;generalize v 9=y9;generalize v 10=y10
                 obtain ⟨hsp9,hto9⟩:=HF9.out
                 have SP9:=Lib.hid hsp9;have HT9:=Lib.hid (HTR.out.trans hto9)
                 have Z9:=Lib.hid ((hto9.block _ HSZR.out (by have:=HSBL.out;simp;omega)).trans Z1.out)
                 clear hsp9 hto9 HF9
                 go_wp2
                 exact ⟨⟨i+1,_,by go_num,rfl,by omega,HLL,SP9,HT9,Z9⟩,by simp [intOf];omega⟩
             · obtain rfl:i=qs.length:=by omega
               have hln:decide ((qs.length:Int) < (qs.length:Int))=false:=decide_eq_false (by omega)
               have HE:=Lib.hid (show Gi=FF by have:=HL.out;rw [List.drop_length,Rk.fwS_nil] at this;exact this)
               obtain ⟨a0,a1,a2,a3,-,-,-,-⟩:=four Z1.out
               clear HL hlt2
               go_wp2
               go_ret
               exact ⟨rfl,HE.out ▸ SP.out,HTW.out⟩
         · have hmd:decide ((kn:Int) < (n:Int))=false:=decide_eq_false (by omega)
           have hmd2:decide (kn < n)=false:=decide_eq_false hkn
           obtain ⟨GA,hGA⟩:∃ GA,GA=Rk.fw1 (kn:Int) (lo,hi) (Rk.fwN (Rk.nums u0) G):=⟨_,rfl⟩
           have HFF:=Lib.hid (show Rk.fwS qs t pk 0 GA=FF by rw [hGA];exact HFF0.out)
           have HSPA:=Lib.hid (SPA.out.same (H:=GA) (fun j hj=>by subst hGA;exact if_neg (by omega)))
           clear HFF0
           go_upto_region 10 with (fail)
           obtain ⟨WA,hWA⟩:∃ WA,WA=wr:=⟨_,rfl⟩
           rw [← hWA] at Y0 Y1 HSPA HTK ⊢
           have HTA:=HTK;have YA0:=Y0;have YA1:=Y1
           clear hWA hGA HNL HF HTS Y0 Y1 n0 n1 n2 n3 n4 n5 n6 n7 n8 n9 d0 d1 d2 d3 SPA
           have HSUA:=Lib.hid (HSU.out WA HTA.out)
           clear HSU
           obtain ⟨y0,y1,y2,y3,y4,y5,y6,y7,y8,y9⟩:=allTen YA0.out
           obtain ⟨a0,a1,a2,a3,-,-,-,-⟩:=four YA1.out
           go_wp2_with (first
             | (refine wpList_load_row rfl 37 (.tmp 3) rfl w.heap.size rfl 37 _ (0,0) _ YA0.out Tryd.underlying37 rfl (by kernel_rfl) ?_)
             | fail)
           refine HSUA.out.mono ?_
           rintro e w1 ⟨lv,rfl,hrow,hb1⟩
           have HTW1:=Lib.hid (HTA.out.trans (Touch.of_below _ hb1));have SP1:=Lib.hid (HSPA.out.later hb1);have V1:=Lib.hid (keep_blk hb1 YA1.out)
           clear hb1 YA0 YA1 HSPA HSUA y0 y1 y2 y3 y4 y5 y6 y7 y8 y9 a0 a1 a2 a3
           obtain ⟨lp,lc,rfl,hget⟩:=hrow
           have HROW:=Lib.hid (fun i (u:Tr) (h:rl[i]? = some u)=>hget i u h)
           rw [HLEN.out]
           clear hget
           go_wp2
           go_loopw [2,11] (fun sv iv wr=>∃ (i:Nat) (Gi:Nat→Int × Int),iv=.int .i64 i∧sv=.slice (some ⟨sb,0,none⟩) n sc∧i ≤ qs.length∧Hid (Rk.fwS (qs.drop i) t pk i Gi=FF)∧Hid (SpRow wr sb n Gi)∧Hid (Touch [sb] w1 wr)∧Hid (wr.heap[w.heap.size+1]? = some (.cells #[.int .i64 lo,.int .i64 hi,.int .i64 pk,.slice pp qs.length pc] 57))) (fun _ iv _=>qs.length - (intOf iv).toNat)
           case atStart=>exact ⟨0,GA,rfl,rfl,Nat.zero_le _,by rw [List.drop_zero];exact HFF,SP1,Lib.hid (Touch.of_below _ (Below.refl _ _)),V1⟩
           case round =>
             obtain ⟨i,Gi,rfl,rfl,hi0,HL,SP,HTR,Z1⟩:=hrel
             clear SP1 V1 HFF HSP
             have wi:IntKind.i64.wrap ((i:Int)+1)=(i:Int)+1:=IntWalk.i64_in _ (by omega)
             have HTW:=Lib.hid (HTW1.out.trans HTR.out)
             have HSZR:=Lib.hid (show w.heap.size+1 < wr.heap.size from (Array.getElem?_eq_some_iff.1 Z1.out).1)
             by_cases hlt2:i < qs.length
             · obtain ⟨y,hy⟩:∃ y,qs[i]? = some y:=⟨_,List.getElem?_eq_getElem hlt2⟩
               obtain ⟨b2,o2,s2,rfl,hb2n,t2,sub2⟩:=HQS.out.get hy
               obtain ⟨p2,c2,rfl,-⟩:=sub2.slice
               obtain ⟨u,hru,hat,hu⟩:=HGT.out i hlt2
               obtain ⟨bt,ot,s1,rfl,hbtn,t1,sub1⟩:=HROW.out i u hru
               obtain ⟨p1,c1,rfl,-,-⟩:=sub1.slice
               have hdr:qs.drop i=y :: qs.drop (i+1):=by
                 rw [List.drop_eq_getElem_cons hlt2,(List.getElem?_eq_some_iff.1 hy).2]
               have hl:=HL.out
               rw [hdr,Rk.fwS_cons y _ t pk i Gi (by rw [HTE.out];exact hat)] at hl
               have HLL:=Lib.hid hl
               have T1:=Lib.hid (t1.keep (HTR.out.block _ t1.lt (by simpa using hbtn)));have T2:=Lib.hid (t2.keep (HTW.out.block _ t2.lt (by simpa using hb2n)))
               have l1:=T1.out.lt;have l2:=T2.out.lt
               have HS:=Lib.hid (fun w9 (hb:Below wr.heap.size wr w9) =>
                 IH.out y (List.mem_of_getElem? hy) (HND.out y (List.mem_of_getElem? hy)) u (HSUB.out u (by first | exact hu | (rw [HTE.out];exact hu))) (HNS.out u (by first | exact hu | (rw [HTE.out];exact hu))) (HOKS.out i y u hy hat) Gi w9 (.agg (u.cells (.slice p1 u.subs.length c1))) (.agg (y.cells (.slice p2 y.subs.length c2)))
                   ⟨_,rfl,(sub1.keep fun b hb9 hn=>HTR.out.block b hb9 (by simpa using hn)).later hb⟩ ⟨_,rfl,(sub2.keep fun b hb9 hn=>HTW.out.block b hb9 (by simpa using hn)).later hb⟩ (SP.out.later hb))
               unfold Tr.cells Pa.cells at HS
               have hln:decide ((i:Int) < (qs.length:Int))=true:=decide_eq_true (by omega)
               obtain ⟨a0,a1,a2,a3,-,-,-,-⟩:=four Z1.out
               clear t1 sub1 t2 sub2 hat hu hru hy hdr hl HL
               go_upto_region 14 with (fail)
               clear a0 a1 a2 a3
               go_wp2_with fail
               refine Ri.wp_region_late (by kernel_rfl) (by kernel_rfl) (by kernel_rfl) (by kernel_rfl)
                 (fun L v w'=>(L 10=false→Below wr.heap.size wr w')∧(L 10=true→SpRow w' sb n (Rk.fw y u Gi)∧Touch [sb] wr w')∧(L 10=true→L 0=true)∧(L 10=true→L 1=true)∧(L 10=true→L 2=true)∧(L 10=true→L 3=true)∧(L 10=true→L 4=true)∧(L 10=true→L 5=true)∧(L 10=true→L 6=true)∧(L 10=true→L 7=true)∧(L 10=true→L 8=true)∧(L 10=true→L 9=true)∧(L 2=true→L 0=true)∧(L 2=true→L 1=true)∧(L 3=true→L 2=true)∧(L 5=true→L 4=true)∧(L 7=true→L 5=true)∧(L 7=true→L 6=true)∧(L 8=true→L 7=true)∧(L 0=true→v 0=.slice (some ⟨bt,ot,none⟩) qs.length lc)∧(L 1=true→v 1=.int .i64 (i:Int))∧(L 2=true→v 2=.pointer (some ⟨bt,ot+i * 10,none⟩))∧(L 3=true→v 3=.agg #[.int .i64 u.kind,.int .u64 (Oc.U u.w0),.int .u64 (Oc.U u.w1),.int .u64 (Oc.U u.w2),.int .u64 (Oc.U u.w3),.slice p1 u.subs.length c1,.int .i64 u.num,.int .i64 u.least,.int .i64 u.most,.bool u.bare])∧(L 4=true→v 4=.pointer (some ⟨w.heap.size+1,3,none⟩))∧(L 5=true→v 5=.slice (some ⟨b2,o2,none⟩) qs.length pc)∧(L 6=true→v 6=.int .i64 (i:Int))∧(L 7=true→v 7=.pointer (some ⟨b2,o2+i * 4,none⟩))∧(L 8=true→v 8=.agg #[.int .i64 y.lo,.int .i64 y.hi,.int .i64 y.pick,.slice p2 y.subs.length c2])∧(L 9=true→v 9=.slice (some ⟨sb,0,none⟩) n sc)∧(L 10=true→v 10=.slice (some ⟨sb,0,none⟩) n sc)∧(L 11=true→v 11=.slice (some ⟨sb,0,none⟩) n sc)∧(L 11=true→L 10=true))
                 ?_ ?_ ?_
               · exact ⟨fun _=>(Below.refl _ _).drew,by simp,by simp,by simp,by simp,by simp,by simp,by simp,by simp,by simp,by simp,by simp,by simp,by simp,by simp,by simp,by simp,by simp,by simp,by simp,by simp,by simp,by simp,by simp,by simp,by simp,by simp,by simp,by simp,by simp,by simp,by simp⟩
               · intro i hi9 L v w9 xa hI hL hd hv ho hno
                 have hi':i=0 ∨ i=1 ∨ i=2 ∨ i=3 ∨ i=4 ∨ i=5 ∨ i=6 ∨ i=7 ∨ i=8 ∨ i=9 ∨ i=10 ∨ i=11:=by simp at hi9;omega
                 obtain ⟨hbf,hfin,dd0,dd1,dd2,dd3,dd4,dd5,dd6,dd7,dd8,dd9,c2_0,c2_1,c3_2,c5_4,c7_5,c7_6,c8_7,q0,q1,q2,q3,q4,q5,q6,q7,q8,q9,q10,q11,ct9⟩:=hI
                 rcases hi' with rfl | rfl | rfl | rfl | rfl | rfl | rfl | rfl | rfl | rfl | rfl | rfl
                 · have e9:xa.tmps.getD 9 undef=.slice (some ⟨bt,ot,none⟩) qs.length lc:=ho 9 (by kernel_rfl)
                   have hl9:L 10=false:=by cases h:L 10 with | false=>rfl | true=>rw [dd0 h] at hL;cases hL
                   have hb:=hbf hl9
                   refine Ri.step_plain rfl rfl (fun K' hK=>?_)
                   go_simp
                   exact hK _ _ ⟨_,_,rfl,rfl,(fun _=>hb),(fun h=>Bool.noConfusion (hl9.symm.trans h)),(fun _=>rfl),dd1,dd2,dd3,dd4,dd5,dd6,dd7,dd8,dd9,(fun _=>rfl),c2_1,c3_2,c5_4,c7_5,c7_6,c8_7,(fun _=>rfl),q1,q2,q3,q4,q5,q6,q7,q8,q9,q10,q11,ct9⟩
                 · have e11:xa.tmps.getD 11 undef=.int .i64 (i:Int):=ho 11 (by kernel_rfl)
                   have hl9:L 10=false:=by cases h:L 10 with | false=>rfl | true=>rw [dd1 h] at hL;cases hL
                   have hb:=hbf hl9
                   refine Ri.step_plain rfl rfl (fun K' hK=>?_)
                   go_simp
                   exact hK _ _ ⟨_,_,rfl,rfl,(fun _=>hb),(fun h=>Bool.noConfusion (hl9.symm.trans h)),dd0,(fun _=>rfl),dd2,dd3,dd4,dd5,dd6,dd7,dd8,dd9,c2_0,(fun _=>rfl),c3_2,c5_4,c7_5,c7_6,c8_7,q0,(fun _=>rfl),q2,q3,q4,q5,q6,q7,q8,q9,q10,q11,ct9⟩
                 · have l0:L 0=true∧L 1=true:=by have:=hd _ rfl;simp [Region.binds] at this;simp [this]
                   have f0:=(hv 0 67 rfl l0.1).trans (q0 l0.1)
                   have f1:=(hv 1 68 rfl l0.2).trans (q1 l0.2)
                   have hl9:L 10=false:=by cases h:L 10 with | false=>rfl | true=>rw [dd2 h] at hL;cases hL
                   have hb:=hbf hl9
                   refine Ri.step_plain rfl rfl (fun K' hK=>?_)
                   go_simp
                   exact hK _ _ ⟨_,_,rfl,rfl,(fun _=>hb),(fun h=>Bool.noConfusion (hl9.symm.trans h)),dd0,dd1,(fun _=>rfl),dd3,dd4,dd5,dd6,dd7,dd8,dd9,(fun _=>l0.1),(fun _=>l0.2),(fun _=>rfl),c5_4,c7_5,c7_6,c8_7,q0,q1,(fun _=>rfl),q3,q4,q5,q6,q7,q8,q9,q10,q11,ct9⟩
                 · have l0:L 2=true:=by have:=hd _ rfl;simp [Region.binds] at this;simp [this]
                   have f2:=(hv 2 69 rfl l0).trans (q2 l0)
                   have hl9:L 10=false:=by cases h:L 10 with | false=>rfl | true=>rw [dd3 h] at hL;cases hL
                   have hb:=hbf hl9
                   refine Ri.step_plain rfl rfl (fun K' hK=>?_)
                   obtain ⟨n0,n1,n2,n3,n4,n5,n6,n7,n8,n9⟩:=(T1.out.keep (hb.block _ l1))
                   go_simp
                   exact hK _ _ ⟨_,_,rfl,rfl,(fun _=>hb),(fun h=>Bool.noConfusion (hl9.symm.trans h)),dd0,dd1,dd2,(fun _=>rfl),dd4,dd5,dd6,dd7,dd8,dd9,c2_0,c2_1,(fun _=>l0),c5_4,c7_5,c7_6,c8_7,q0,q1,q2,(fun _=>rfl),q4,q5,q6,q7,q8,q9,q10,q11,ct9⟩
                 · have e4:xa.tmps.getD 4 undef=.pointer (some ⟨w.heap.size+1,0,none⟩):=ho 4 (by kernel_rfl)
                   have hl9:L 10=false:=by cases h:L 10 with | false=>rfl | true=>rw [dd4 h] at hL;cases hL
                   have hb:=hbf hl9
                   refine Ri.step_plain rfl rfl (fun K' hK=>?_)
                   go_simp
                   exact hK _ _ ⟨_,_,rfl,rfl,(fun _=>hb),(fun h=>Bool.noConfusion (hl9.symm.trans h)),dd0,dd1,dd2,dd3,(fun _=>rfl),dd5,dd6,dd7,dd8,dd9,c2_0,c2_1,c3_2,(fun _=>rfl),c7_5,c7_6,c8_7,q0,q1,q2,q3,(fun _=>rfl),q5,q6,q7,q8,q9,q10,q11,ct9⟩
                 · have l0:L 4=true:=by have:=hd _ rfl;simp [Region.binds] at this;simp [this]
                   have f4:=(hv 4 71 rfl l0).trans (q4 l0)
                   have hl9:L 10=false:=by cases h:L 10 with | false=>rfl | true=>rw [dd5 h] at hL;cases hL
                   have hb:=hbf hl9
                   refine Ri.step_plain rfl rfl (fun K' hK=>?_)
                   obtain ⟨d0,d1,d2,d3,-,-,-,-⟩:=four (keep_blk hb Z1.out)
                   go_simp
                   exact hK _ _ ⟨_,_,rfl,rfl,(fun _=>hb),(fun h=>Bool.noConfusion (hl9.symm.trans h)),dd0,dd1,dd2,dd3,dd4,(fun _=>rfl),dd6,dd7,dd8,dd9,c2_0,c2_1,c3_2,(fun _=>l0),(fun _=>rfl),c7_6,c8_7,q0,q1,q2,q3,q4,(fun _=>rfl),q6,q7,q8,q9,q10,q11,ct9⟩
                 · have e11:xa.tmps.getD 11 undef=.int .i64 (i:Int):=ho 11 (by kernel_rfl)
                   have hl9:L 10=false:=by cases h:L 10 with | false=>rfl | true=>rw [dd6 h] at hL;cases hL
                   have hb:=hbf hl9
                   refine Ri.step_plain rfl rfl (fun K' hK=>?_)
                   go_simp
                   exact hK _ _ ⟨_,_,rfl,rfl,(fun _=>hb),(fun h=>Bool.noConfusion (hl9.symm.trans h)),dd0,dd1,dd2,dd3,dd4,dd5,(fun _=>rfl),dd7,dd8,dd9,c2_0,c2_1,c3_2,c5_4,c7_5,(fun _=>rfl),c8_7,q0,q1,q2,q3,q4,q5,(fun _=>rfl),q7,q8,q9,q10,q11,ct9⟩
                 · have l0:L 5=true∧L 6=true:=by have:=hd _ rfl;simp [Region.binds] at this;simp [this]
                   have f5:=(hv 5 72 rfl l0.1).trans (q5 l0.1)
                   have f6:=(hv 6 73 rfl l0.2).trans (q6 l0.2)
                   have hl9:L 10=false:=by cases h:L 10 with | false=>rfl | true=>rw [dd7 h] at hL;cases hL
                   have hb:=hbf hl9
                   refine Ri.step_plain rfl rfl (fun K' hK=>?_)
                   go_simp
                   exact hK _ _ ⟨_,_,rfl,rfl,(fun _=>hb),(fun h=>Bool.noConfusion (hl9.symm.trans h)),dd0,dd1,dd2,dd3,dd4,dd5,dd6,(fun _=>rfl),dd8,dd9,c2_0,c2_1,c3_2,c5_4,(fun _=>l0.1),(fun _=>l0.2),(fun _=>rfl),q0,q1,q2,q3,q4,q5,q6,(fun _=>rfl),q8,q9,q10,q11,ct9⟩
                 · have l0:L 7=true:=by have:=hd _ rfl;simp [Region.binds] at this;simp [this]
                   have f7:=(hv 7 74 rfl l0).trans (q7 l0)
                   have hl9:L 10=false:=by cases h:L 10 with | false=>rfl | true=>rw [dd8 h] at hL;cases hL
                   have hb:=hbf hl9
                   refine Ri.step_plain rfl rfl (fun K' hK=>?_)
                   obtain ⟨d0,d1,d2,d3⟩:=(T2.out.keep (hb.block _ l2))
                   go_simp
                   exact hK _ _ ⟨_,_,rfl,rfl,(fun _=>hb),(fun h=>Bool.noConfusion (hl9.symm.trans h)),dd0,dd1,dd2,dd3,dd4,dd5,dd6,dd7,(fun _=>rfl),dd9,c2_0,c2_1,c3_2,c5_4,c7_5,c7_6,(fun _=>l0),q0,q1,q2,q3,q4,q5,q6,q7,(fun _=>rfl),q9,q10,q11,ct9⟩
                 · have hlt9:L 11=false:=by cases h:L 11 with | false=>rfl | true=>exact absurd (dd9 (ct9 h)) (by rw [hL];decide)
                   have e2:xa.tmps.getD 2 undef=.slice (some ⟨sb,0,none⟩) n sc:=hno 11 2 rfl hlt9
                   have hl9:L 10=false:=by cases h:L 10 with | false=>rfl | true=>rw [dd9 h] at hL;cases hL
                   have hb:=hbf hl9
                   refine Ri.step_plain rfl rfl (fun K' hK=>?_)
                   go_simp
                   exact hK _ _ ⟨_,_,rfl,rfl,(fun _=>hb),(fun h=>Bool.noConfusion (hl9.symm.trans h)),dd0,dd1,dd2,dd3,dd4,dd5,dd6,dd7,dd8,(fun _=>rfl),c2_0,c2_1,c3_2,c5_4,c7_5,c7_6,c8_7,q0,q1,q2,q3,q4,q5,q6,q7,q8,(fun _=>rfl),q10,q11,ct9⟩
                 · have l0:L 3=true∧L 8=true∧L 9=true:=by have:=hd _ rfl;simp [Region.binds] at this;simp [this]
                   have f3:=(hv 3 70 rfl l0.1).trans (q3 l0.1)
                   have f8:=(hv 8 75 rfl l0.2.1).trans (q8 l0.2.1)
                   have f9:=(hv 9 76 rfl l0.2.2).trans (q9 l0.2.2)
                   have h3:L 3=true:=by first | (have:=hd _ rfl;simp [Region.binds] at this;simp [this];done)
                   have h8:L 8=true:=by first | (have:=hd _ rfl;simp [Region.binds] at this;simp [this];done)
                   have h9:L 9=true:=by first | (have:=hd _ rfl;simp [Region.binds] at this;simp [this];done)
                   have h2:L 2=true:=by first | (have:=hd _ rfl;simp [Region.binds] at this;simp [this];done) | exact c3_2 h3
                   have h7:L 7=true:=by first | (have:=hd _ rfl;simp [Region.binds] at this;simp [this];done) | exact c8_7 h8
                   have h0:L 0=true:=by first | (have:=hd _ rfl;simp [Region.binds] at this;simp [this];done) | exact c2_0 h2
                   have h1:L 1=true:=by first | (have:=hd _ rfl;simp [Region.binds] at this;simp [this];done) | exact c2_1 h2
                   have h5:L 5=true:=by first | (have:=hd _ rfl;simp [Region.binds] at this;simp [this];done) | exact c7_5 h7
                   have h6:L 6=true:=by first | (have:=hd _ rfl;simp [Region.binds] at this;simp [this];done) | exact c7_6 h7
                   have h4:L 4=true:=by first | (have:=hd _ rfl;simp [Region.binds] at this;simp [this];done) | exact c5_4 h5
                   have hb:=hbf hL
                   refine Ri.step_plain rfl rfl (fun K' hK=>?_)
                   go_simp
                   refine (HS.out _ hb).mono ?_
                   rintro e w8 ⟨rfl,hsp8,hto8⟩
                   exact hK _ _ ⟨_,_,rfl,rfl,(fun h=>by cases h),(fun _=>⟨hsp8,(Touch.of_below _ hb).trans hto8⟩),(fun _=>h0),(fun _=>h1),(fun _=>h2),(fun _=>h3),(fun _=>h4),(fun _=>h5),(fun _=>h6),(fun _=>h7),(fun _=>h8),(fun _=>h9),c2_0,c2_1,c3_2,c5_4,c7_5,c7_6,c8_7,q0,q1,q2,q3,q4,q5,q6,q7,q8,q9,(fun _=>rfl),q11,(fun _=>rfl)⟩
                 · have l0:L 10=true:=by have:=hd _ rfl;simp [Region.binds] at this;simp [this]
                   have f10:=(hv 10 77 rfl l0).trans (q10 l0)
                   refine Ri.step_plain rfl rfl (fun K' hK=>?_)
                   go_simp
                   exact hK _ _ ⟨_,_,rfl,rfl,(fun h=>Bool.noConfusion (h.symm.trans l0)),hfin,dd0,dd1,dd2,dd3,dd4,dd5,dd6,dd7,dd8,dd9,c2_0,c2_1,c3_2,c5_4,c7_5,c7_6,c8_7,q0,q1,q2,q3,q4,q5,q6,q7,q8,q9,q10,(fun _=>rfl),(fun _=>l0)⟩
               · rintro v w9 ⟨-,hfin,-,-,-,-,-,-,-,-,-,-,-,-,-,-,-,-,-,-,-,-,-,-,-,-,-,-,-,-,q11,-⟩
                 have HF9:=Lib.hid (hfin rfl)
                 have q11':v 11=.slice (some ⟨sb,0,none⟩) n sc:=q11 rfl
                 simp only [Ri.frame,List.zipIdx,List.foldl_cons,List.foldl_nil,if_true,List.setIfInBounds_toArray,List.set_cons_zero,List.set_cons_succ,Nat.reduceAdd,q11']
                 clear hfin q11 q11'
                 generalize v 0=y0;generalize v 1=y1;generalize v 2=y2;generalize v 3=y3;generalize v 4=y4;generalize v 5=y5;generalize v 6=y6;generalize v 7=y7;generalize v 8=y8;generalize v 9=y9;generalize v 10=y10
                 obtain ⟨hsp9,hto9⟩:=HF9.out
                 have SP9:=Lib.hid hsp9;have HT9:=Lib.hid (HTR.out.trans hto9)
                 have Z9:=Lib.hid ((hto9.block _ HSZR.out (by have:=HSBL.out;simp;omega)).trans Z1.out)
                 clear hsp9 hto9 HF9
                 go_wp2
                 exact ⟨⟨i+1,_,by go_num,rfl,by omega,HLL,SP9,HT9,Z9⟩,by simp [intOf];omega⟩
             · obtain rfl:i=qs.length:=by omega
               have hln:decide ((qs.length:Int) < (qs.length:Int))=false:=decide_eq_false (by omega)
               have HE:=Lib.hid (show Gi=FF by have:=HL.out;rw [List.drop_length,Rk.fwS_nil] at this;exact this)
               obtain ⟨a0,a1,a2,a3,-,-,-,-⟩:=four Z1.out
               clear HL hlt2
               go_wp2
               go_ret
               exact ⟨rfl,HE.out ▸ SP.out,HTW.out⟩
end Go.Proofs.YtnaoiglbjkjogaaDoor
namespace Go.Proofs.YtnaoiglbjkjogaaDoor
open Go.RowKit
theorem rrkcheck_any (s:ByteArray) (c e0:Int) (hs:s.size ≤ 1000000) (t:Tr) (hd:t.dpT ≤ 1000000) (q:Pa) (hnd:q.ndT ≤ 1000000) (w:World) (C:Nat→Prop) (v vq:Value) (hv:NodeC w (fun _=>True) v t) (hq:PaV w C vq q) :
   Calls Tryd.prog 31 #[v,.agg #[.string s,.int .i64 c,.int .i64 e0,.bool false],vq] w fun e w'=>e=.returned (.bool (Rk.chk (Sc.new s c e0) t q))∧Below w.heap.size w w':=by
 have HC:=Lib.hid (fun w9 (h:Below w.heap.size w w9)=>refcheck_any t hd w9 _ v (hv.plain.later h))
 have HI:=Lib.hid (fun (hf:t.InForm) w9 (h:Below w.heap.size w w9)=>show Calls Tryd.prog 60 #[v,.agg #[.string s,.int .i64 c,.int .i64 e0,.bool false],vq] w9 (fun e w'=>e=.returned (.bool (Rk.okT (Sc.new s c e0) q t))∧Below w9.heap.size w9 w') from (Rk.is_same (Sc.new s c e0) q t hf) ▸ rrkis_any s c e0 hs q hnd t hf w9 C v vq (hv.later h) (hq.later h))
 have HZ:=Lib.hid (show t.checkC=0→t.InForm from fun h=>(Tr.checkC_zero.1 h).1)
 obtain ⟨sv,rfl,hs1⟩:=hv
 obtain ⟨p,cap,rfl,-,-⟩:=hs1.slice
 obtain ⟨z,rfl,hz⟩:=hq
 obtain ⟨pp,pc,rfl,-⟩:=hz.slice
 clear hs1 hz hd hnd hs
 unfold Rk.chk
 unfold Tr.cells Pa.cells at *
 unfold SizeEnd at HC
 generalize t.checkC=cc at *
 generalize Rk.okT (Sc.new s c e0) q t=r at *
 have HA:=Lib.hid (show Below w.heap.size w (((w.alloc (.cells #[.int .i64 t.kind,.int .u64 (Oc.U t.w0),.int .u64 (Oc.U t.w1),.int .u64 (Oc.U t.w2),.int .u64 (Oc.U t.w3),.slice p t.subs.length cap,.int .i64 t.num,.int .i64 t.least,.int .i64 t.most,.bool t.bare] 37)).alloc (.cells #[.string s,.int .i64 c,.int .i64 e0,.bool false] 61)).alloc (.cells #[.int .i64 q.lo,.int .i64 q.hi,.int .i64 q.pick,.slice pp q.subs.length pc] 57)) from by go_grown)
 have W3x:=Lib.hid (three_newR w (.cells #[.int .i64 t.kind,.int .u64 (Oc.U t.w0),.int .u64 (Oc.U t.w1),.int .u64 (Oc.U t.w2),.int .u64 (Oc.U t.w3),.slice p t.subs.length cap,.int .i64 t.num,.int .i64 t.least,.int .i64 t.most,.bool t.bare] 37) (.cells #[.string s,.int .i64 c,.int .i64 e0,.bool false] 61) (.cells #[.int .i64 q.lo,.int .i64 q.hi,.int .i64 q.pick,.slice pp q.subs.length pc] 57))
 by_cases h0:cc=0
 · have HI2:=Lib.hid (HI.out (HZ.out h0))
   subst h0
   rw [show decide ((0:Nat)=0)=true from rfl,Bool.true_and]
   clear HI HZ
   go_enter Tryd.func31,Tryd.ntmps31
   go_wp2_with (first
     | (refine wpList_load_row rfl 37 (.tmp 3) rfl (w.heap.size) rfl 37 _ (0,0) _ W3x.out.1 Tryd.underlying37 rfl (by kernel_rfl) ?_)
     | fail)
   refine (HC.out _ HA.out).mono ?_
   rintro e w1 ⟨rfl,hb1⟩
   have HB1:=Lib.hid (HA.out.trans (hb1.mono HA.out.size))
   have Y0:=Lib.hid (keep_blk hb1 W3x.out.1);have Y1:=Lib.hid (keep_blk hb1 W3x.out.2.1);have Y2:=Lib.hid (keep_blk hb1 W3x.out.2.2)
   have hz0:((((0:Nat):Int)) == 0)=true:=rfl
   clear hb1 W3x HA HC
   obtain ⟨d0,d1,d2,d3,-,-,-,-⟩:=four Y2.out
   obtain ⟨m0,m1,m2,m3,-,-,-,-⟩:=four Y1.out
   obtain ⟨n0,n1,n2,n3,n4,n5,n6,n7,n8,n9⟩:=allTen Y0.out
   go_wp2_with (first
     | (refine wpList_load_row rfl 37 (.tmp 3) rfl (w.heap.size) rfl 37 _ (0,0) _ Y0.out Tryd.underlying37 rfl (by kernel_rfl) ?_)
     | (refine wpList_load_row rfl 61 (.tmp 4) rfl (w.heap.size+1) rfl 61 _ (0,0) _ Y1.out Tryd.underlying61 rfl (by kernel_rfl) ?_)
     | (refine wpList_load_row rfl 57 (.tmp 5) rfl (w.heap.size+1+1) rfl 57 _ (0,0) _ Y2.out Tryd.underlying57 rfl (by kernel_rfl) ?_)
     | fail)
   refine (HI2.out _ HB1.out).mono ?_
   rintro e w2 ⟨rfl,hb2⟩
   have HB2:=Lib.hid (HB1.out.trans (hb2.mono HB1.out.size))
   clear hb2
   go_wp2
   go_ret
   exact ⟨rfl,HB2.out⟩
 · have hz0:(((cc:Nat):Int) == 0)=false:=by rw [beq_eq_false_iff_ne];omega
   rw [decide_eq_false h0,Bool.false_and]
   clear HI HZ h0
   go_enter Tryd.func31,Tryd.ntmps31
   go_wp2_with (first
     | (refine wpList_load_row rfl 37 (.tmp 3) rfl (w.heap.size) rfl 37 _ (0,0) _ W3x.out.1 Tryd.underlying37 rfl (by kernel_rfl) ?_)
     | fail)
   refine (HC.out _ HA.out).mono ?_
   rintro e w1 ⟨rfl,hb1⟩
   have HB1:=Lib.hid (HA.out.trans (hb1.mono HA.out.size))
   clear hb1 W3x HA HC
   go_wp2
   go_ret
   exact ⟨rfl,HB1.out⟩
def noSpan (k:Nat):List Value:=List.replicate (k * 2) (.int .i64 (-1))
theorem noSpan_succ (k:Nat):noSpan (k+1)=noSpan k ++ [.int .i64 (-1),.int .i64 (-1)]:=by
 unfold noSpan
 rw [show (k+1) * 2=k * 2+1+1 by omega,List.replicate_succ',List.replicate_succ',List.append_assoc];rfl
theorem SpRow.of {w:World} {base n:Nat} {v:Value} (hn:0 < n) (h:w.ownsRow base 70 2 v n (noSpan n)):∃ g cap,v=.slice (some ⟨g,0,none⟩) n cap∧base ≤ g∧SpRow w g n fun _=>(-1,-1):=by
 rcases h.2 with ⟨-,hn0⟩ | ⟨g,cap,cur,rfl,hbg,hheap,hnc,-,hsz,htk⟩
 · omega
 · refine ⟨g,cap,rfl,hbg,cur,hheap,by rw [hsz];exact Nat.mul_le_mul_right _ hnc,fun k hk=>?_⟩
   have get:∀ j,j < n * 2→cur[j]? = some (.int .i64 (-1)):=fun j hj=>by
     have h1:(cur.toList.take (n * 2))[j]? = some (.int .i64 (-1)):=by
       rw [htk];unfold noSpan;rw [List.getElem?_replicate,if_pos hj]
     rw [List.getElem?_take_of_lt hj] at h1
     simpa using h1
   exact ⟨get _ (by omega),get _ (by omega)⟩
theorem SpRow.put0 {w:World} {sb n:Nat} {G H:Nat→Int × Int} {x y:Int} (h:SpRow w sb n G) (hk:0 < n) (hv:H 0=(x,y)) (ho:∀ j,j < n→j ≠ 0→H j=G j) :
   SpRow ((w.setCell ⟨sb,0,none⟩ (.int .i64 x)).setCell ⟨sb,1,none⟩ (.int .i64 y)) sb n H:=by
 have:=h.put (k:=0) hk hv ho;simpa using this
def LaEnd (n:Nat) (G:Nat→Int × Int) (w:World) (e:Ending) (w':World):Prop:=∃ g cap,e=.returned (.slice (some ⟨g,0,none⟩) n cap)∧SpRow w' g n G∧w.heap.size ≤ g∧Below w.heap.size w w'
theorem rrkLaid_any (x:Sc) (gr:Nat) (hg:gr ≤ 999) (t:Tr) (hf:t.InForm) (hnl:(Rk.nums t).length ≤ 500000) (q:Pa) (hnd:q.ndT ≤ 1000000) (hok:Rk.okT x q t=true) (w:World) (v vq:Value) (hv:NodeC w (fun _=>True) v t) (hq:PaV w (fun _=>True) vq q) :
   Calls Tryd.prog 66 #[v,vq,.int .i64 (gr:Int)] w (LaEnd (gr+1) (Rk.fw q t (Rk.first q)) w):=by
 have HLD:=Lib.hid (fun sb sc w9 (h:Below w.heap.size w w9) (hsb:w.heap.size ≤ sb) (hsp:SpRow w9 sb (gr+1) (Rk.first q))=>rrklaid_any x sb (gr+1) sc (by omega) q hnd t hf hnl hok (Rk.first q) w9 v vq
   (by obtain ⟨s,e,hs⟩:=hv;exact ⟨s,e,(hs.mono (B':=fun b=>b ≠ sb) fun b hb _=>by omega).later h⟩)
   (by obtain ⟨s,e,hs⟩:=hq;exact ⟨s,e,(hs.mono (B':=fun b=>b ≠ sb) fun b hb _=>by omega).later h⟩) hsp)
 have HFST:=Lib.hid (show Rk.first q 0=(q.lo,q.hi)∧∀ j,j < gr+1→j ≠ 0→Rk.first q j=(-1,-1) from ⟨rfl,fun j _ hj=>if_neg hj⟩)
 obtain ⟨s,rfl,hs⟩:=hv
 obtain ⟨p,cap,rfl,-,-⟩:=hs.slice
 obtain ⟨z,rfl,hz⟩:=hq
 obtain ⟨pp,pc,rfl,hlq⟩:=hz.slice
 clear hs hz hf hnl hnd hok
 generalize Rk.fw q t (Rk.first q)=FF at *
 generalize Rk.first q=F1 at *
 unfold Tr.cells Pa.cells at *
 have HA:=Lib.hid (show Below w.heap.size w ((w.alloc (.cells #[.int .i64 t.kind,.int .u64 (Oc.U t.w0),.int .u64 (Oc.U t.w1),.int .u64 (Oc.U t.w2),.int .u64 (Oc.U t.w3),.slice p t.subs.length cap,.int .i64 t.num,.int .i64 t.least,.int .i64 t.most,.bool t.bare] 37)).alloc (.cells #[.int .i64 q.lo,.int .i64 q.hi,.int .i64 q.pick,.slice pp q.subs.length pc] 57)) from by go_grown)
 have W2x:=Lib.hid (two_new w (.cells #[.int .i64 t.kind,.int .u64 (Oc.U t.w0),.int .u64 (Oc.U t.w1),.int .u64 (Oc.U t.w2),.int .u64 (Oc.U t.w3),.slice p t.subs.length cap,.int .i64 t.num,.int .i64 t.least,.int .i64 t.most,.bool t.bare] 37) (.cells #[.int .i64 q.lo,.int .i64 q.hi,.int .i64 q.pick,.slice pp q.subs.length pc] 57))
 obtain ⟨ie,hi0,hz0,hz1,hz2⟩:=info_parts Tryd.infoSpanB
 have HI:=Lib.hid hi0;have HZ0:=Lib.hid hz0;have HZ1:=Lib.hid hz1;have HZ2:=Lib.hid hz2
 clear hi0 hz0 hz1 hz2
 go_enter Tryd.func66,Tryd.ntmps66
 go_wp2
 generalize hW0:World.alloc (World.alloc w _) _=W0 at *
 have Y0:=Lib.hid W2x.out.1;have Y1:=Lib.hid W2x.out.2
 clear hW0 W2x
 go_loopw [7,8] (fun lv iv wr=>∃ k:Nat,iv=.int .i64 (k:Int)∧k ≤ gr+1∧Hid (wr.ownsRow (w.heap.size+2) 70 2 lv k (noSpan k))∧Hid (Below w.heap.size w wr)∧Hid (wr.heap[w.heap.size]? = some (.cells #[.int .i64 t.kind,.int .u64 (Oc.U t.w0),.int .u64 (Oc.U t.w1),.int .u64 (Oc.U t.w2),.int .u64 (Oc.U t.w3),.slice p t.subs.length cap,.int .i64 t.num,.int .i64 t.least,.int .i64 t.most,.bool t.bare] 37))∧Hid (wr.heap[w.heap.size+1]? = some (.cells #[.int .i64 q.lo,.int .i64 q.hi,.int .i64 q.pick,.slice pp q.subs.length pc] 57))∧Hid (∃ q l c,lv=.slice q l c)) (fun _ iv _=>gr+1 - (intOf iv).toNat)
 case atStart=>exact ⟨0,rfl,Nat.zero_le _,Lib.hid (World.ownsRow_nil _ _ _ _),HA,Y0,Y1,Lib.hid ⟨_,_,_,rfl⟩⟩
 case round =>
   obtain ⟨k,rfl,hk,hown,HB,Z0,Z1,HSL⟩:=hrel
   clear Y0 Y1 HA
   obtain ⟨q7,l7,c7,rfl⟩:=HSL.out
   have wk:IntKind.i64.wrap ((k:Int)+1)=(k:Int)+1:=IntWalk.i64_in _ (by omega)
   have hsz:=(Array.getElem?_eq_some_iff.1 Z1.out).1
   by_cases hlt:k < gr+1
   · have hd1:decide ((k:Int) ≤ (gr:Int))=true:=decide_eq_true (by omega)
     have hd2:decide (k ≤ gr)=true:=decide_eq_true (by omega)
     have HLT3:=Lib.hid hown.out.lt
     have HOWN2:=Lib.hid (hown.out.alloc (.cells #[.int .i64 (-1),.int .i64 (-1)] 70))
     have HNW:Hid (∀ (j:Nat) (y:Value),[Value.int .i64 (-1),.int .i64 (-1)][j]? = some y→(wr.alloc (.cells #[.int .i64 (-1),.int .i64 (-1)] 70)).cell? ((⟨wr.heap.size,0,none⟩:Addr).add j)=some y):=Lib.hid (fun j y hy=>by
       have ea:(⟨wr.heap.size,0,none⟩:Addr).add j=⟨wr.heap.size,j,none⟩:=by unfold Addr.add;split <;> simp_all
       rw [ea,cell_new];simpa using hy)
     have HBA:Hid (w.heap.size+2 ≤ (wr.alloc (.cells #[.int .i64 (-1),.int .i64 (-1)] 70)).heap.size):=Lib.hid (by simp;omega)
     have hml:k+1 ≤ maxLen:=by unfold maxLen;omega
     have hbyt:(k+1) * 16 ≤ 140737488355328:=by omega
     have hone:∀ u ∈ [Value.int .i64 (-1),.int .i64 (-1)],u.oneCell'=true:=by simp [Value.oneCell']
     clear HSL
     go_wp2_with (first
       | (refine wpList_append_fresh _ rfl (.tmp 14) (.tmp 16) 64 rfl (w.heap.size+2) 70 ie _ 2 16 Tryd.underlying64 HI.out HZ0.out HZ1.out HZ2.out rfl (by decide) _ _ _ rfl HOWN2.out ⟨wr.heap.size,0,none⟩ 1 1 [.int .i64 (-1),.int .i64 (-1)] rfl rfl HNW.out hone (by decide) hml hbyt HBA.out ?_;intro v' w4 hown4 hgrow4 hwhere)
       | fail)
     have HG4:=Lib.hid hgrow4
     have hb3:Below wr.heap.size wr (wr.alloc (.cells #[.int .i64 (-1),.int .i64 (-1)] 70)):=(Below.refl _ _).alloc (Nat.le_refl _) _
     have key:∀ j,j < wr.heap.size→j < w.heap.size+2→w4.heap[j]? = wr.heap[j]?:=fun j hj hj2 =>
       (HG4.out.block j (Nat.lt_of_lt_of_le hj hb3.size) (fun e=>by have:=(HLT3.out j e.symm).1;omega)).trans (hb3.block j hj)
     refine ⟨⟨k+1,by go_num,by omega,Lib.hid ?_,Lib.hid ?_,Lib.hid ((key _ (by omega) (by omega)).trans Z0.out),Lib.hid ((key _ (by omega) (by omega)).trans Z1.out),Lib.hid ?_⟩,by simp [intOf];omega⟩
     · rw [noSpan_succ];exact hown4
     · exact (HB.out.alloc HB.out.size _).grown HG4.out (by have:=HB.out.size;simp;omega) (fun j e=>by have:=(HLT3.out j e).1;omega)
     · obtain ⟨g,c,e⟩:=ownsRow_succP hown4;exact ⟨_,_,_,e⟩
   · obtain rfl:k=gr+1:=by omega
     have hd1:decide (((gr+1:Nat):Int) ≤ (gr:Int))=false:=decide_eq_false (by omega)
     have hd2:decide (gr+1 ≤ gr)=false:=decide_eq_false (by omega)
     have hd3:decide ((gr:Int)+1 ≤ (gr:Int))=false:=decide_eq_false (by omega)
     obtain ⟨sb,sc,hsl,hsb,hsp⟩:=SpRow.of (by omega) hown.out
     rw [hsl]
     obtain ⟨s0,s1,f0,f1⟩:=hsp.cell (k:=0) (by omega)
     rw [Nat.zero_mul] at s0 s1 f0 f1
     have hspl:=hsp.lt
     have SP1:=Lib.hid (SpRow.put0 (H:=F1) hsp (by omega) HFST.out.1 HFST.out.2)
     have HLN:=Lib.hid (show w.heap.size ≤ sb∧w.heap.size+1 < wr.heap.size∧sb ≠ w.heap.size∧sb ≠ w.heap.size+1 from ⟨by omega,by omega,by omega,by omega⟩)
     have HT:=Lib.hid (show Touch [sb] wr ((wr.setCell ⟨sb,0,none⟩ (.int .i64 q.lo)).setCell ⟨sb,1,none⟩ (.int .i64 q.hi)) from (Touch.of_below [sb] (Below.refl wr.heap.size wr)).setCells (b:=sb) (by simp) 0 [.int .i64 q.lo,.int .i64 q.hi])
     obtain ⟨n0,n1,n2,n3,n4,n5,n6,n7,n8,n9⟩:=allTen Z0.out
     obtain ⟨d0,d1,d2,d3,-,-,-,-⟩:=four Z1.out
     have h1g:(gr+1 == 0)=false:=by simp
     have hgl:(0:Int) < (gr:Int)+1:=by omega
     have hgl2:0 < gr+1:=by omega
     clear hown HSL hlt hsp hsl
     go_upto_region 7 with (fail)
     obtain ⟨WA,hWA⟩:∃ WA,WA=(wr.setCell ⟨sb,0,none⟩ (.int .i64 q.lo)).setCell ⟨sb,1,none⟩ (.int .i64 q.hi):=⟨_,rfl⟩
     rw [← hWA] at SP1 HT ⊢
     have ZA0:=Lib.hid ((HT.out.block w.heap.size (by have:=HLN.out.2.1;omega) (by have:=HLN.out.2.2.1;simp;omega)).trans Z0.out)
     have ZA1:=Lib.hid ((HT.out.block (w.heap.size+1) (by have:=HLN.out.2.1;omega) (by have:=HLN.out.2.2.2;simp;omega)).trans Z1.out)
     have HBA:=Lib.hid (HB.out.trans (HT.out.below (B:=w.heap.size) (by intro k hk;have:=HLN.out.1;simp at hk;omega) HB.out.size))
     clear hWA Z0 Z1 HB HT n0 n1 n2 n3 n4 n5 n6 n7 n8 n9 d0 d1 d2 d3 s0 s1 f0 f1
     have HCALL:=Lib.hid (HLD.out sb sc WA HBA.out HLN.out.1 SP1.out)
     obtain ⟨n0,n1,n2,n3,n4,n5,n6,n7,n8,n9⟩:=allTen ZA0.out
     obtain ⟨d0,d1,d2,d3,-,-,-,-⟩:=four ZA1.out
     go_wp2_with fail
     refine HCALL.out.mono ?_
     rintro e w5 ⟨rfl,hsp5,hto5⟩
     have HB5:=Lib.hid (HBA.out.trans (hto5.below (B:=w.heap.size) (by intro k hk;have:=HLN.out.1;simp at hk;omega) HBA.out.size))
     have HSP5:=Lib.hid hsp5
     clear hsp5 hto5 n0 n1 n2 n3 n4 n5 n6 n7 n8 n9 d0 d1 d2 d3
     go_wp2
     go_ret
     exact ⟨sb,sc,rfl,HSP5.out,HLN.out.1,HB5.out⟩
theorem SpRow.at {w:World} {g n cap:Nat} {G:Nat→Int × Int} (h:SpRow w g n G):SpsAt w (.slice (some ⟨g,0,none⟩) n cap) (spL n G):=by
 refine ⟨some ⟨g,0,none⟩,cap,by rw [spL_len],fun i s hi=>?_⟩
 obtain ⟨h1,rfl⟩:=spL_get hi
 obtain ⟨c0,c1,-,-⟩:=h.cell h1
 exact ⟨g,0,rfl,h.lt,by rw [Nat.zero_add];exact c0,by rw [Nat.zero_add];exact c1⟩
def RspV (yes:Bool) (n:Nat) (G:Nat→Int × Int) (B:Nat) (w':World) (v:Value):Prop:=if yes=true then ∃ g cap,v=.slice (some ⟨g,0,none⟩) n cap∧B ≤ g∧SpRow w' g n G else v=.slice none 0 0
def RspEnd (yes:Bool) (n:Nat) (G:Nat→Int × Int) (w:World) (e:Ending) (w':World):Prop:=∃ v,e=.returned (.tuple #[v,.bool yes])∧RspV yes n G w.heap.size w' v∧Below w.heap.size w w'
theorem rrkspans_any (s:ByteArray) (c e0:Int) (hs:s.size ≤ 1000000) (t:Tr) (hd:t.dpT ≤ 1000000) (hnl:(Rk.nums t).length ≤ 500000) (q:Pa) (hnd:q.ndT ≤ 1000000) (g:Int) (w:World) (v vq:Value) (hv:NodeC w (fun _=>True) v t) (hq:PaV w (fun _=>True) vq q) :
   Calls Tryd.prog 33 #[v,.agg #[.string s,.int .i64 c,.int .i64 e0,.bool false],vq,.int .i64 g] w (RspEnd (Rk.asks (Sc.new s c e0) t q g) (g.toNat+1) (Rk.shown (Rk.of q t)) w):=by
 have HC:=Lib.hid (fun w9 (h:Below w.heap.size w w9)=>rrkcheck_any s c e0 hs t hd q hnd w9 _ v vq (hv.later h) (hq.later h))
 have HLA:=Lib.hid (fun (h0:0 ≤ g) (h9:g ≤ 999) (hc:Rk.chk (Sc.new s c e0) t q=true) w9 (h:Below w.heap.size w w9)=>show Calls Tryd.prog 66 #[v,vq,.int .i64 g] w9 (fun e w'=>∃ g8 cap,e=.returned (.slice (some ⟨g8,0,none⟩) (g.toNat+1) cap)∧w9.heap.size ≤ g8∧SpRow w' g8 (g.toNat+1) (Rk.shown (Rk.of q t))∧Below w9.heap.size w9 w') from by
   unfold Rk.chk at hc
   rw [Bool.and_eq_true,decide_eq_true_eq] at hc
   have hf:=(Tr.checkC_zero.1 hc.1).1
   have:=rrkLaid_any (Sc.new s c e0) g.toNat (by omega) t hf hnl q hnd hc.2 w9 v vq (hv.later h) (hq.later h)
   rw [show ((g.toNat:Nat):Int)=g by omega] at this
   refine this.mono fun e w' he=>?_
   obtain ⟨sb,cap,rfl,hsp,hge,hb⟩:=he
   exact ⟨sb,cap,rfl,hge,hsp.same (H:=Rk.shown (Rk.of q t)) (fun j _=>(Rk.fw_shown q t hf j).symm),hb⟩)
 obtain ⟨sv,rfl,hs1⟩:=hv
 obtain ⟨p,cap,rfl,-,-⟩:=hs1.slice
 obtain ⟨z,rfl,hz⟩:=hq
 obtain ⟨pp,pc,rfl,-⟩:=hz.slice
 clear hs1 hz hd hnd hs hnl
 generalize Rk.shown (Rk.of q t)=SL at *
 generalize g.toNat+1=n at *
 unfold Rk.asks RspEnd
 unfold Tr.cells Pa.cells at *
 have HA:=Lib.hid (show Below w.heap.size w (((w.alloc (.cells #[.int .i64 t.kind,.int .u64 (Oc.U t.w0),.int .u64 (Oc.U t.w1),.int .u64 (Oc.U t.w2),.int .u64 (Oc.U t.w3),.slice p t.subs.length cap,.int .i64 t.num,.int .i64 t.least,.int .i64 t.most,.bool t.bare] 37)).alloc (.cells #[.string s,.int .i64 c,.int .i64 e0,.bool false] 61)).alloc (.cells #[.int .i64 q.lo,.int .i64 q.hi,.int .i64 q.pick,.slice pp q.subs.length pc] 57)) from by go_grown)
 have W3x:=Lib.hid (three_newR w (.cells #[.int .i64 t.kind,.int .u64 (Oc.U t.w0),.int .u64 (Oc.U t.w1),.int .u64 (Oc.U t.w2),.int .u64 (Oc.U t.w3),.slice p t.subs.length cap,.int .i64 t.num,.int .i64 t.least,.int .i64 t.most,.bool t.bare] 37) (.cells #[.string s,.int .i64 c,.int .i64 e0,.bool false] 61) (.cells #[.int .i64 q.lo,.int .i64 q.hi,.int .i64 q.pick,.slice pp q.subs.length pc] 57))
 by_cases h0:0 ≤ g
 case neg =>
   have d0:decide (0 ≤ g)=false:=decide_eq_false h0
   rw [d0,Bool.false_and]
   clear h0 HC HLA W3x
   go_enter Tryd.func33,Tryd.ntmps33
   go_wp2
   go_ret2
   exact ⟨_,rfl,by unfold RspV;rw [if_neg (by decide)];rfl,HA.out⟩
 have d0:decide (0 ≤ g)=true:=decide_eq_true h0
 by_cases h9:g ≤ 999
 case neg =>
   have d1:decide (g ≤ 999)=false:=decide_eq_false h9
   rw [d0,d1,Bool.true_and,Bool.false_and]
   clear h0 h9 HC HLA W3x
   go_enter Tryd.func33,Tryd.ntmps33
   go_wp2
   go_ret2
   exact ⟨_,rfl,by unfold RspV;rw [if_neg (by decide)];rfl,HA.out⟩
 have d1:decide (g ≤ 999)=true:=decide_eq_true h9
 rw [d0,d1,Bool.true_and,Bool.true_and]
 have HLB:=Lib.hid (HLA.out h0 h9)
 clear HLA h0 h9
 obtain ⟨n0,n1,n2,n3,n4,n5,n6,n7,n8,n9⟩:=allTen W3x.out.1
 obtain ⟨m0,m1,m2,m3,-,-,-,-⟩:=four W3x.out.2.1
 obtain ⟨a0,a1,a2,a3,-,-,-,-⟩:=four W3x.out.2.2
 cases hchk:Rk.chk (Sc.new s c e0) t q with
 | false =>
   rw [hchk] at HC
   clear HLB hchk
   go_enter Tryd.func33,Tryd.ntmps33
   go_wp2_with fail
   refine (HC.out _ HA.out).mono ?_
   rintro e w1 ⟨rfl,hb1⟩
   have HB1:=Lib.hid (HA.out.trans (hb1.mono HA.out.size))
   clear hb1 W3x HA HC n0 n1 n2 n3 n4 n5 n6 n7 n8 n9 m0 m1 m2 m3 a0 a1 a2 a3
   go_wp2
   go_ret2
   exact ⟨_,rfl,by unfold RspV;rw [if_neg (by decide)];rfl,HB1.out⟩
 | true =>
   rw [hchk] at HC
   have HLC:=Lib.hid (HLB.out hchk)
   clear HLB hchk
   go_enter Tryd.func33,Tryd.ntmps33
   go_wp2_with fail
   refine (HC.out _ HA.out).mono ?_
   rintro e w1 ⟨rfl,hb1⟩
   have HB1:=Lib.hid (HA.out.trans (hb1.mono HA.out.size))
   have Y0:=Lib.hid (keep_blk hb1 W3x.out.1);have Y2:=Lib.hid (keep_blk hb1 W3x.out.2.2)
   clear hb1 W3x HA HC n0 n1 n2 n3 n4 n5 n6 n7 n8 n9 m0 m1 m2 m3 a0 a1 a2 a3
   obtain ⟨n0,n1,n2,n3,n4,n5,n6,n7,n8,n9⟩:=allTen Y0.out
   obtain ⟨a0,a1,a2,a3,-,-,-,-⟩:=four Y2.out
   go_wp2_with fail
   refine (HLC.out _ HB1.out).mono ?_
   rintro e w2 ⟨g8,c9,rfl,hge,hsp,hb2⟩
   have HB2:=Lib.hid (HB1.out.trans (hb2.mono HB1.out.size))
   have HSP:=Lib.hid (show w.heap.size ≤ g8∧SpRow w2 g8 n SL from ⟨Nat.le_trans HB1.out.size hge,hsp⟩)
   clear hb2 hsp hge
   go_wp2
   go_ret2
   exact ⟨.slice (some ⟨g8,0,none⟩) n c9,rfl,by unfold RspV;rw [if_pos rfl];exact ⟨g8,c9,rfl,HSP.out.1,HSP.out.2⟩,HB2.out⟩
end Go.Proofs.YtnaoiglbjkjogaaDoor
