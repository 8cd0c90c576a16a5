/- Part 2 of what these proofs need. -/
import Derived.ChangeOld
import Derived.Deep.Slices
import Derived.Laws.IdiomArrays
import Derived.Lib.SmallJoins
import Derived.SizedLaws
import Derived.DataReads
import Derived.ChangeSlices
import Derived.LaidLaws
import Derived.Test.YtnfgalgifgfojaaDoorIb1
set_option maxRecDepth 100000
set_option maxHeartbeats 16000000
namespace Go.Proofs.YtnfgalgifgfojaaDoor
open Go.RowKit
structure Gr (w w':World) (R T:Nat):Prop where
 os:w'.os=w.os
 tape:w'.tape=w.tape
 output:w'.output=w.output
 size:w.heap.size ≤ w'.heap.size
 block:∀ k,k < w.heap.size→k ≠ R→k ≠ T→w'.heap[k]? = w.heap[k]?
theorem Gr.of {w w':World} {R:Nat} (T:Nat) (h:w.grownBy w' (some R)):Gr w w' R T:=⟨h.os,h.tape,h.output,h.size,fun k hk h1 _=>h.block k hk (by intro e;injection e;omega)⟩
theorem Gr.trans {a b c:World} {R T:Nat} (h:Gr a b R T) (k:Gr b c R T):Gr a c R T:=⟨k.os.trans h.os,k.tape.trans h.tape,k.output.trans h.output,Nat.le_trans h.size k.size,fun i hi h1 h2=>(k.block i (Nat.lt_of_lt_of_le hi h.size) h1 h2).trans (h.block i hi h1 h2)⟩
theorem Gr.setCell {a b:World} {R T j:Nat} {v:Value} (h:Gr a b R T):Gr a (b.setCell ⟨T,j,none⟩ v) R T:=⟨h.os,h.tape,h.output,by simpa using h.size,fun k hk h1 h2=>(Below.heap_setCell _ _ _ _ (by exact h2)).trans (h.block k hk h1 h2)⟩
theorem Gr.below {W0 a b:World} {R T:Nat} (h:Gr a b R T) (hb:Below W0.heap.size W0 a) (hR:W0.heap.size ≤ R) (hT:W0.heap.size ≤ T):Below W0.heap.size W0 b :=
 ⟨h.os.trans hb.os,h.tape.trans hb.tape,h.output.trans hb.output,Nat.le_trans hb.size h.size,fun k hk=>(h.block k (Nat.lt_of_lt_of_le hk hb.size) (by omega) (by omega)).trans (hb.block k hk)⟩
def RepEnd (W0:World) (R T:Nat) (l:List UInt8) (k0 k1 k2 k3 k4 k5 k6:Value) (w:World) (e:Ending) (w':World):Prop :=
 Gr w w' R T∧match Im.rdRep l with
   | some (lo,hi,br,r)=>e=.returned (.bool true)∧RdI W0 w' R r∧w'.heap[T]? = some (.cells #[k0,k1,k2,k3,k4,k5,k6,.int .i64 lo,.int .i64 hi,.bool br] 27)
   | none=>e=.returned (.bool false)
theorem rdNum_len {l:List UInt8} {n:Nat} {r:List UInt8} (h:Im.rdNum l=some (n,r)):r.length < l.length∧n ≤ 2147483647:=by
 unfold Im.rdNum at h
 split at h
 · cases h
 · rename_i k hk
   have hs:=(Im.lastB_spec hk).1
   split at h
   · cases h
   · split at h
     · cases h
     · rename_i h2
       simp only [Option.some.injEq,Prod.mk.injEq] at h
       obtain ⟨rfl,rfl⟩:=h
       rw [List.length_drop]
       omega
theorem repeat_any (W0 w:World) (R T:Nat) (l:List UInt8) (hl:l.length ≤ 140737488351232) (hb:Below W0.heap.size W0 w) (hR:W0.heap.size ≤ R) (hTR:T ≠ R) (hT0:W0.heap.size ≤ T) (hr:RdI W0 w R l) (k0 k1 k2 k3 k4 k5 k6 k7 k8 k9:Value)
   (hT:w.heap[T]? = some (.cells #[k0,k1,k2,k3,k4,k5,k6,k7,k8,k9] 27)) :
   Calls Tryd.prog 44 #[.pointer (some ⟨R,0,none⟩),.pointer (some ⟨T,0,none⟩)] w (RepEnd W0 R T l k0 k1 k2 k3 k4 k5 k6 w):=by
 have hTl:T < w.heap.size:=(Array.getElem?_eq_some_iff.1 hT).1
 have H1:=Lib.hid (number_any W0 w R l hl hb hR hr)
 have HB0:=Lib.hid hb;have HT0:=Lib.hid hT
 clear hb hr hT
 go_enter Tryd.func44,Tryd.ntmps44
 go_wp2_with fail
 refine H1.out.mono ?_
 rintro e w1 ⟨hg1,he1⟩
 cases hn1:Im.rdNum l with
 | none =>
   rw [hn1] at he1
   subst he1
   have HRR:=Lib.hid (show Im.rdRep l=none by unfold Im.rdRep;rw [hn1])
   have HG:=Lib.hid (Gr.of T hg1)
   clear hg1 hn1 H1
   go_wp2
   go_ret
   refine ⟨HG.out, ?_⟩
   rw [HRR.out];rfl
 | some x =>
   obtain ⟨lo,l1⟩:=x
   rw [hn1] at he1
   obtain ⟨rfl,hr1⟩:=he1
   have hll1:=rdNum_len hn1
   have hG1:=Gr.of T hg1
   have hT1:=(hg1.block T hTl (by intro e;injection e;omega)).trans HT0.out
   have H2:=Lib.hid (number_any W0 w1 R l1 (by omega) (hG1.below HB0.out hR hT0) hR hr1)
   have HN1:=Lib.hid hn1;have HG1:=Lib.hid hG1;have HT1:=Lib.hid hT1
   clear hg1 hn1 H1 hG1 hT1 HT0 hr1
   go_wp2_with fail
   refine H2.out.mono ?_
   rintro e w2 ⟨hg2,he2⟩
   cases hn2:Im.rdNum l1 with
   | none =>
     rw [hn2] at he2
     subst he2
     have HRR:=Lib.hid (show Im.rdRep l=none by unfold Im.rdRep;rw [HN1.out];simp only [hn2])
     have HG:=Lib.hid (HG1.out.trans (Gr.of T hg2))
     clear hg2 hn2 H2
     go_wp2
     go_ret
     refine ⟨HG.out, ?_⟩
     rw [HRR.out];rfl
   | some y =>
     obtain ⟨hi,l2⟩:=y
     rw [hn2] at he2
     obtain ⟨rfl,hr2⟩:=he2
     have hll2:=rdNum_len hn2
     have hG2:=HG1.out.trans (Gr.of T hg2)
     have hT2:=(hg2.block T (Nat.lt_of_lt_of_le hTl HG1.out.size) (by intro e;injection e;omega)).trans HT1.out
     have HN2:=Lib.hid hn2;have HG2:=Lib.hid hG2;have HT2:=Lib.hid hT2
     have hB2:=hG2.below HB0.out hR hT0
     clear hg2 hn2 H2 hG2 hT2 HT1 HG1
     cases l2 with
     | nil =>
       have H3:=Lib.hid (take_no W0 w2 R [] 1 (by simp) hr2)
       have HRR:=Lib.hid (show Im.rdRep l=none by unfold Im.rdRep;rw [HN1.out];simp only [HN2.out];rfl)
       clear hr2 hB2
       go_wp2_with fail
       refine H3.out.mono ?_
       rintro e w3 ⟨rfl,rfl⟩
       go_wp2
       go_ret
       refine ⟨HG2.out, ?_⟩
       rw [HRR.out];rfl
     | cons b l3 =>
       have H3:=Lib.hid (take_yes W0 w2 R (b :: l3) 1 (by omega) (by simp) (by omega) hr2)
       have HB2:=Lib.hid hB2
       clear hr2 hB2
       go_wp2_with fail
       refine H3.out.mono ?_
       rintro e w3 ⟨⟨v3,rfl,hb3⟩,hr3,hg3⟩
       rcases hb3 with ⟨-,h2⟩ | ⟨g3,o3,c3,rfl,hc3,hrd3⟩
       · cases h2
       have hG3:=HG2.out.trans (Gr.of T hg3)
       have hT3:=(hg3.block T (Nat.lt_of_lt_of_le hTl HG2.out.size) (by intro e;injection e;omega)).trans HT2.out
       have hB3:=hG3.below HB0.out hR hT0
       have hc:=hrd3 0 (by simp)
       have cb:w3.cell? ⟨g3,o3,none⟩=some (.int .u8 (b.toNat:Int)):=by
         have:=(hB3.cell (p:=⟨g3,o3+0,none⟩) (block_lt_of_cell hc)).trans hc
         simpa using this
       have HG3:=Lib.hid hG3;have HT3:=Lib.hid hT3;have HR3:=Lib.hid hr3
       have hl1:(List.take 1 (b :: l3)).length=1:=by simp
       rw [hl1] at hc3 ⊢
       have hbl:=b.toNat_lt
       clear hg3 hG3 hT3 hB3 hc hrd3 hr3 H3 HG2 HT2 hl1
       by_cases hb1:1 < b.toNat
       · have HRR:=Lib.hid (show Im.rdRep l=none by unfold Im.rdRep;rw [HN1.out];simp only [HN2.out,Im.rdBare,if_pos hb1])
         have q1:decide ((1:Int) < b.toNat)=true:=by rw [decide_eq_true_eq];omega
         have q1':decide (1 < b.toNat)=true:=decide_eq_true hb1
         clear hb1
         generalize b.toNat=bb at *
         go_wp2
         go_ret
         refine ⟨HG3.out, ?_⟩
         rw [HRR.out];rfl
       · have HRR:=Lib.hid (show Im.rdRep l=some ((lo:Int),(hi:Int) - 1,b.toNat == 1,l3) by unfold Im.rdRep;rw [HN1.out];simp only [HN2.out,Im.rdBare,if_neg hb1])
         have q1:decide ((1:Int) < b.toNat)=false:=by rw [decide_eq_false_iff_not];omega
         have q1':decide (1 < b.toNat)=false:=decide_eq_false hb1
         have qe:((b.toNat:Int) == 1)=(b.toNat == 1):=by
           by_cases h:b.toNat=1
           · rw [h];rfl
           · rw [beq_eq_false_iff_ne.2 h,beq_eq_false_iff_ne.2 (by omega)]
         have wh:IntKind.i64.wrap ((hi:Int) - 1)=(hi:Int) - 1:=IntWalk.i64_in _ (by omega)
         obtain ⟨d0,d1,d2,d3,d4,d5,d6,d7,d8,d9⟩:=allTen HT3.out
         have f7:w3.frozen? ⟨T,7,none⟩=false:=by simp [World.frozen?,HT3.out]
         have f8:∀ v,(w3.setCell ⟨T,7,none⟩ v).frozen? ⟨T,8,none⟩=false:=fun v=>by simp [World.frozen?,World.setCell,Array.getElem?_modify,HT3.out]
         have f9:∀ v u,((w3.setCell ⟨T,7,none⟩ v).setCell ⟨T,8,none⟩ u).frozen? ⟨T,9,none⟩=false:=fun v u=>by simp [World.frozen?,World.setCell,Array.getElem?_modify,HT3.out]
         have c8:∀ v,(w3.setCell ⟨T,7,none⟩ v).cell? ⟨T,8,none⟩=some k8:=fun v=>by simp [World.cell?,World.setCell,Array.getElem?_modify,HT3.out]
         have c9:∀ v u,((w3.setCell ⟨T,7,none⟩ v).setCell ⟨T,8,none⟩ u).cell? ⟨T,9,none⟩=some k9:=fun v u=>by simp [World.cell?,World.setCell,Array.getElem?_modify,HT3.out]
         have HTF:=Lib.hid (show ∀ v u x,(((w3.setCell ⟨T,7,none⟩ v).setCell ⟨T,8,none⟩ u).setCell ⟨T,9,none⟩ x).heap[T]? = some (.cells #[k0,k1,k2,k3,k4,k5,k6,v,u,x] 27) from fun v u x=>by simp [World.setCell,Array.getElem?_modify,HT3.out])
         have HGF:=Lib.hid (fun v u x=>((HG3.out.setCell (j:=7) (v:=v)).setCell (j:=8) (v:=u)).setCell (j:=9) (v:=x))
         have HRF:=Lib.hid (show ∀ v u x,RdI W0 (((w3.setCell ⟨T,7,none⟩ v).setCell ⟨T,8,none⟩ u).setCell ⟨T,9,none⟩ x) R l3 from fun v u x=>by
           obtain ⟨vv,e1,e2⟩:=HR3.out
           exact ⟨vv,(Below.heap_setCell _ _ _ _ (by show R ≠ T;omega)).trans ((Below.heap_setCell _ _ _ _ (by show R ≠ T;omega)).trans ((Below.heap_setCell _ _ _ _ (by show R ≠ T;omega)).trans (by simpa using e1))),e2⟩)
         clear hb1 HT3 HG3 HR3
         generalize b.toNat=bb at *
         go_wp2
         go_ret
         refine ⟨HGF.out _ _ _, ?_⟩
         rw [HRR.out]
         exact ⟨rfl,HRF.out _ _ _,HTF.out _ _ _⟩
end Go.Proofs.YtnfgalgifgfojaaDoor
namespace Go.Proofs.YtnfgalgifgfojaaDoor
open Go.RowKit
namespace Im
theorem valW_snoc:∀ (l:List UInt8) (b:UInt8),valW (l ++ [b])=valW l+b.toNat * 256 ^ l.length
 | [],b=>by simp [valW]
 | a :: l,b=>by
   rw [List.cons_append,valW,valW,valW_snoc l b,List.length_cons,Nat.pow_succ,Nat.mul_add]
   rw [show 256 * (b.toNat * 256 ^ l.length)=b.toNat * (256 ^ l.length * 256) by rw [Nat.mul_comm 256,Nat.mul_assoc]]
   omega
theorem valW_lt:∀ l:List UInt8,valW l < 256 ^ l.length
 | []=>by simp [valW]
 | a :: l=>by
   have h1:=valW_lt l
   have h2:=a.toNat_lt
   rw [valW,List.length_cons,Nat.pow_succ]
   omega
def partW (l:List UInt8) (j i:Nat):BitVec 64:=BitVec.ofNat 64 (valW (((l.take j).drop (8 * i)).take 8))
theorem partW_zero (l:List UInt8) (i:Nat):partW l 0 i=0#64:=by simp [partW,valW]
theorem partW_end (l:List UInt8) (i:Nat) (hi:i < 4):partW l 32 i=wordOf l i:=by
 unfold partW wordOf
 congr 2
 rw [List.drop_take,List.take_take,Nat.min_eq_left (by omega)]
theorem part_other (l:List UInt8) (j i:Nat) (hj:j < l.length) (h:j / 8 ≠ i):partW l (j+1) i=partW l j i:=by
 unfold partW
 congr 2
 have hg:l[j]? = some l[j]:=List.getElem?_eq_getElem hj
 have ht:l.take (j+1)=l.take j ++ [l[j]]:=by rw [List.take_add_one,hg];rfl
 rw [ht]
 have hl:(l.take j).length=j:=by rw [List.length_take];omega
 rcases Nat.lt_or_ge j (8 * i) with h1 | h1
 · rw [List.drop_eq_nil_of_le (by rw [List.length_append,hl];simp;omega),List.drop_eq_nil_of_le (by omega)]
 · rw [List.drop_append_of_le_length (by omega),List.take_append_of_le_length (by rw [List.length_drop,hl];omega)]
theorem part_this (l:List UInt8) (j i:Nat) (hj:j < l.length) (h:j / 8=i):partW l (j+1) i=partW l j i ||| (BitVec.ofNat 64 (l.getD j 0).toNat <<< (8 * (j % 8))):=by
 have hg:l[j]? = some (l.getD j 0):=by simp [List.getD,List.getElem?_eq_getElem hj]
 have hl:(l.take j).length=j:=by rw [List.length_take];omega
 have ht:l.take (j+1)=l.take j ++ [l.getD j 0]:=by rw [List.take_add_one,hg];rfl
 unfold partW
 rw [ht,List.drop_append_of_le_length (by omega)]
 generalize hX:(l.take j).drop (8 * i)=X
 have hXl:X.length=j % 8:=by rw [← hX,List.length_drop,hl];omega
 have hb:=(l.getD j 0).toNat_lt
 generalize l.getD j 0=b at *
 rw [List.take_of_length_le (by rw [List.length_append,hXl];simp;omega),List.take_of_length_le (by omega),valW_snoc,hXl]
 have hv:=valW_lt X
 rw [hXl] at hv
 have hp:(256:Nat) ^ (j % 8)=2 ^ (8 * (j % 8)):=by rw [Nat.pow_mul]
 rw [hp] at hv ⊢
 generalize hm:8 * (j % 8)=m at *
 have hm56:m ≤ 56:=by omega
 have hbm:b.toNat * 2 ^ m < 2 ^ 64:=by
   have h1:b.toNat * 2 ^ m < 2 ^ 8 * 2 ^ m:=Nat.mul_lt_mul_of_pos_right (by omega) (Nat.two_pow_pos m)
   rw [← Nat.pow_add] at h1
   exact Nat.lt_of_lt_of_le h1 (Nat.pow_le_pow_right (by omega) (by omega))
 have hv64:valW X < 2 ^ 64:=Nat.lt_of_lt_of_le hv (Nat.pow_le_pow_right (by omega) (by omega))
 apply BitVec.eq_of_toNat_eq
 rw [BitVec.toNat_or,BitVec.toNat_shiftLeft,BitVec.toNat_ofNat,BitVec.toNat_ofNat,BitVec.toNat_ofNat,Nat.shiftLeft_eq,Nat.mod_eq_of_lt hv64,Nat.mod_eq_of_lt (show b.toNat < 2 ^ 64 by omega),Nat.mod_eq_of_lt hbm]
 have hor:=Nat.two_pow_add_eq_or_of_lt hv b.toNat
 rw [Nat.mul_comm] at hor
 rw [Nat.or_comm,← hor,Nat.add_comm (valW X)]
 refine Nat.mod_eq_of_lt ?_
 rw [hor]
 exact Nat.or_lt_two_pow hbm hv64
end Im
theorem shl_byte (b m:Nat) (hb:b < 256):IntKind.u64.wrap ((b:Int) * 2 ^ (m * 8))=Oc.U (BitVec.ofNat 64 b <<< (8 * m)):=by
 rw [IntKind.wrap_u64]
 unfold Oc.U
 rw [BitVec.toNat_shiftLeft,BitVec.toNat_ofNat,Nat.shiftLeft_eq,Nat.mod_eq_of_lt (show b < 2 ^ 64 by omega),Nat.mul_comm 8 m]
 rw [Int.natCast_emod,Int.natCast_mul,Int.natCast_pow]
 rfl
theorem four_put {w:World} {b:Nat} {x0 x1 x2 x3:Value} {t:TypeId} (h:w.heap[b]? = some (.cells #[x0,x1,x2,x3] t)) :
   (∀ v,(w.setCell ⟨b,0,none⟩ v).heap[b]? = some (.cells #[v,x1,x2,x3] t))∧(∀ v,(w.setCell ⟨b,1,none⟩ v).heap[b]? = some (.cells #[x0,v,x2,x3] t)) ∧
   (∀ v,(w.setCell ⟨b,2,none⟩ v).heap[b]? = some (.cells #[x0,x1,v,x3] t))∧(∀ v,(w.setCell ⟨b,3,none⟩ v).heap[b]? = some (.cells #[x0,x1,x2,v] t)):=by
 refine ⟨fun v=>?_,fun v=>?_,fun v=>?_,fun v=>?_⟩ <;> simp [World.setCell,Array.getElem?_modify,h]
theorem set_yes (W0 w:World) (R:Nat) (l:List UInt8) (hl:l.length ≤ 140737488351232) (h32:32 ≤ l.length) (hb:Below W0.heap.size W0 w) (hR:W0.heap.size ≤ R) (hr:RdI W0 w R l) :
   Calls Tryd.prog 42 #[.pointer (some ⟨R,0,none⟩)] w fun e w'=>e=.returned (.tuple #[(.agg #[.int .u64 (Oc.U (Im.wordOf l 0)),.int .u64 (Oc.U (Im.wordOf l 1)),.int .u64 (Oc.U (Im.wordOf l 2)),.int .u64 (Oc.U (Im.wordOf l 3))]),.bool true])∧RdI W0 w' R (l.drop 32)∧w.grownBy w' (some R):=by
 have hRw:R < w.heap.size:=by obtain ⟨v,h,-⟩:=hr;exact (Array.getElem?_eq_some_iff.1 h).1
 have HW:=Lib.hid (fun o=>(Below.refl w.heap.size w).alloc (Nat.le_refl _) o)
 have HRI:=Lib.hid (fun o=>show RdI W0 (w.alloc o) R l from by obtain ⟨v,h,h2⟩:=hr;exact ⟨v,heap_alloc_lt h,h2⟩)
 have HB0:=Lib.hid hb
 clear hb hr
 go_enter Tryd.func42,Tryd.ntmps42
 go_upto_region 1 with (fail)
 have Z1':=Lib.hid (heap_alloc_new w (.cells #[.int .u64 0,.int .u64 0,.int .u64 0,.int .u64 0] 24))
 generalize hW1:World.alloc w _=W1 at *
 have HB1:=Lib.hid (show Below w.heap.size w W1 from hW1 ▸ HW.out _)
 have HR1:=Lib.hid (show RdI W0 W1 R l from hW1 ▸ HRI.out _)
 have hz1:W1.heap.size=w.heap.size+1:=by rw [← hW1];simp
 have HZ1:=Lib.hid hz1
 clear hW1 HW HRI hz1
 have HTK:=Lib.hid (take_yes W0 W1 R l 32 (by omega) h32 hl HR1.out)
 go_wp2_with fail
 refine HTK.out.mono ?_
 rintro e w3 ⟨⟨v5,rfl,hb5⟩,hr5,hg5⟩
 have hlt:(l.take 32).length=32:=by rw [List.length_take];omega
 rcases hb5 with ⟨-,h2⟩ | ⟨g5,o5,c5,rfl,hc5,hrd5⟩
 · rw [h2] at hlt;simp at hlt
 have hz1:=HZ1.out
 have hs3:w.heap.size+1 ≤ w3.heap.size:=by have:=hg5.size;omega
 have Y1:=Lib.hid ((hg5.block w.heap.size (by omega) (by intro e;injection e;omega)).trans Z1'.out)
 have hgw:w.grownBy w3 (some R):=grownBy_trans (r':=some R) ⟨HB1.out.os,HB1.out.tape,HB1.out.output,HB1.out.size,fun k hk _=>HB1.out.block k hk⟩ hg5 (.inl rfl)
 have hbw3:Below W0.heap.size W0 w3:=HB0.out.grown hgw HB0.out.size (fun k e=>by injection e;omega)
 have HRD:=Lib.hid (show ∀ j,j < 32→w3.cell? ⟨g5,o5+j,none⟩=some (.int .u8 ((l.getD j 0).toNat:Int))∧g5 < w3.heap.size from fun j hj=>by
   have h:=hrd5 j (by rw [hlt];exact hj)
   have h2:=(hbw3.cell (p:=⟨g5,o5+j,none⟩) (block_lt_of_cell h)).trans h
   refine ⟨?_,block_lt_of_cell h2⟩
   rw [h2]
   simp [List.getD,List.getElem?_eq_getElem (show j < l.length by omega)])
 have HGW:=Lib.hid hgw;have HR5:=Lib.hid hr5
 rw [hlt] at hc5 ⊢
 clear hg5 hlt hrd5 hgw hbw3 HTK hr5 hz1
 go_upto_region 5 with (fail)
 have N5':=Lib.hid (heap_alloc_new w3 (.cells #[.int .u64 0,.int .u64 0,.int .u64 0,.int .u64 0] 24))
 have hbx:=Lib.hid (fun o=>(Below.refl w3.heap.size w3).alloc (Nat.le_refl _) o)
 generalize hW5:World.alloc w3 _=W5 at *
 have HB5:=Lib.hid (show Below w3.heap.size w3 W5 from hW5 ▸ hbx.out _)
 have HZ5:=Lib.hid (show W5.heap.size=w3.heap.size+1 by rw [← hW5];simp)
 clear hW5 hbx
 go_wp2
 go_loopw [19] (fun iv wr=>∃ j:Nat,iv=.int .i64 j∧j ≤ 32∧Hid (wr.heap[w3.heap.size]? = some (.cells #[.int .u64 (Oc.U (Im.partW l j 0)),.int .u64 (Oc.U (Im.partW l j 1)),.int .u64 (Oc.U (Im.partW l j 2)),.int .u64 (Oc.U (Im.partW l j 3))] 24))∧Hid (W5.grownBy wr (some w3.heap.size))) (fun iv _=>32 - (intOf iv).toNat)
 case atStart=>exact ⟨0,rfl,by omega,Lib.hid (by simp only [Im.partW_zero];exact N5'.out),Lib.hid ⟨rfl,rfl,rfl,Nat.le_refl _,fun _ _ _=>rfl⟩⟩
 case round =>
   obtain ⟨j,rfl,hj,HP,HG⟩:=hrel
   have wj:IntKind.i64.wrap ((j:Int)+1)=(j:Int)+1:=IntWalk.i64_in _ (by omega)
   by_cases hlt:j < 32
   · have hz5:=HZ5.out
     obtain ⟨hcl,hgl⟩:=HRD.out j hlt
     have cj:wr.cell? ⟨g5,o5+j,none⟩=some (.int .u8 ((l.getD j 0).toNat:Int)):=by
       have e1:W5.heap[g5]? = w3.heap[g5]?:=HB5.out.block g5 hgl
       have e2:wr.heap[g5]? = W5.heap[g5]?:=HG.out.block g5 (by omega) (by intro e;injection e;omega)
       rw [← hcl];unfold World.cell?;rw [e2,e1]
     have hjl:j < l.length:=by omega
     have q8:=Im.part_other l j
     have q9:=Im.part_this l j
     have hb8:=(l.getD j 0).toNat_lt
     obtain ⟨m,hm,hmm⟩:∃ m:Nat,m < 8∧j % 8=m:=⟨j % 8,by omega,rfl⟩
     rw [hmm] at q9
     have rm:(j:Int) % 8=(m:Int):=by omega
     obtain ⟨hp0,hp1,hp2,hp3⟩:=four_put HP.out
     obtain ⟨c0,c1,c2,c3,f0,f1,f2,f3⟩:=four HP.out
     generalize l.getD j 0=b at *
     have hq:j / 8=0 ∨ j / 8=1 ∨ j / 8=2 ∨ j / 8=3:=by omega
     rcases hq with hq | hq | hq | hq
     · have rq:(j:Int) / 8=0:=by omega
       have HN:=Lib.hid (q9 0 hjl hq)
       have HO1:=Lib.hid (q8 1 hjl (by omega));have HO2:=Lib.hid (q8 2 hjl (by omega));have HO3:=Lib.hid (q8 3 hjl (by omega))
       have HSH:=Lib.hid (show bits .or .u64 (Oc.U (Im.partW l j 0)) (IntKind.u64.wrap ((b.toNat:Int) * 2 ^ (m * 8)))=Oc.U (Im.partW l (j+1) 0) by rw [shl_byte b.toNat m hb8,Oc.orU,← HN.out])
       clear q8 q9 HN hq rm
       go_upto_region 8 with (fail)
       go_region
       rw [HSH.out]
       go_wp2
       exact ⟨⟨j+1,by go_num,by omega,Lib.hid (by rw [HO1.out,HO2.out,HO3.out];exact hp0 _),Lib.hid ⟨HG.out.os,HG.out.tape,HG.out.output,by simpa using HG.out.size,fun k hk hne=>(Below.heap_setCell _ _ _ _ (fun e=>hne (by rw [e]))).trans (HG.out.block k hk hne)⟩⟩,by simp [intOf];omega⟩
     · have rq:(j:Int) / 8=1:=by omega
       have HN:=Lib.hid (q9 1 hjl hq)
       have HO0:=Lib.hid (q8 0 hjl (by omega));have HO2:=Lib.hid (q8 2 hjl (by omega));have HO3:=Lib.hid (q8 3 hjl (by omega))
       have HSH:=Lib.hid (show bits .or .u64 (Oc.U (Im.partW l j 1)) (IntKind.u64.wrap ((b.toNat:Int) * 2 ^ (m * 8)))=Oc.U (Im.partW l (j+1) 1) by rw [shl_byte b.toNat m hb8,Oc.orU,← HN.out])
       clear q8 q9 HN hq rm
       go_upto_region 8 with (fail)
       go_region
       rw [HSH.out]
       go_wp2
       exact ⟨⟨j+1,by go_num,by omega,Lib.hid (by rw [HO0.out,HO2.out,HO3.out];exact hp1 _),Lib.hid ⟨HG.out.os,HG.out.tape,HG.out.output,by simpa using HG.out.size,fun k hk hne=>(Below.heap_setCell _ _ _ _ (fun e=>hne (by rw [e]))).trans (HG.out.block k hk hne)⟩⟩,by simp [intOf];omega⟩
     · have rq:(j:Int) / 8=2:=by omega
       have HN:=Lib.hid (q9 2 hjl hq)
       have HO0:=Lib.hid (q8 0 hjl (by omega));have HO1:=Lib.hid (q8 1 hjl (by omega));have HO3:=Lib.hid (q8 3 hjl (by omega))
       have HSH:=Lib.hid (show bits .or .u64 (Oc.U (Im.partW l j 2)) (IntKind.u64.wrap ((b.toNat:Int) * 2 ^ (m * 8)))=Oc.U (Im.partW l (j+1) 2) by rw [shl_byte b.toNat m hb8,Oc.orU,← HN.out])
       clear q8 q9 HN hq rm
       go_upto_region 8 with (fail)
       go_region
       rw [HSH.out]
       go_wp2
       exact ⟨⟨j+1,by go_num,by omega,Lib.hid (by rw [HO0.out,HO1.out,HO3.out];exact hp2 _),Lib.hid ⟨HG.out.os,HG.out.tape,HG.out.output,by simpa using HG.out.size,fun k hk hne=>(Below.heap_setCell _ _ _ _ (fun e=>hne (by rw [e]))).trans (HG.out.block k hk hne)⟩⟩,by simp [intOf];omega⟩
     · have rq:(j:Int) / 8=3:=by omega
       have HN:=Lib.hid (q9 3 hjl hq)
       have HO0:=Lib.hid (q8 0 hjl (by omega));have HO1:=Lib.hid (q8 1 hjl (by omega));have HO2:=Lib.hid (q8 2 hjl (by omega))
       have HSH:=Lib.hid (show bits .or .u64 (Oc.U (Im.partW l j 3)) (IntKind.u64.wrap ((b.toNat:Int) * 2 ^ (m * 8)))=Oc.U (Im.partW l (j+1) 3) by rw [shl_byte b.toNat m hb8,Oc.orU,← HN.out])
       clear q8 q9 HN hq rm
       go_upto_region 8 with (fail)
       go_region
       rw [HSH.out]
       go_wp2
       exact ⟨⟨j+1,by go_num,by omega,Lib.hid (by rw [HO0.out,HO1.out,HO2.out];exact hp3 _),Lib.hid ⟨HG.out.os,HG.out.tape,HG.out.output,by simpa using HG.out.size,fun k hk hne=>(Below.heap_setCell _ _ _ _ (fun e=>hne (by rw [e]))).trans (HG.out.block k hk hne)⟩⟩,by simp [intOf];omega⟩
   · obtain rfl:j=32:=by omega
     have hz1:=HZ1.out;have hz5:=HZ5.out
     have hp:=HP.out
     rw [Im.partW_end l 0 (by omega),Im.partW_end l 1 (by omega),Im.partW_end l 2 (by omega),Im.partW_end l 3 (by omega)] at hp
     have HPN:=Lib.hid hp
     have HY:=Lib.hid ((HG.out.block w.heap.size (by omega) (by intro e;injection e;omega)).trans ((HB5.out.block w.heap.size (by omega)).trans Y1.out))
     have k5:∀ k,k < w.heap.size→wr.heap[k]? = w3.heap[k]?:=fun k hk=>(HG.out.block k (by omega) (by intro e;injection e;omega)).trans (HB5.out.block k (by omega))
     have HGF:=Lib.hid (show ∀ cs,w.grownBy (wr.setRow w.heap.size cs) (some R) from fun cs=>⟨HG.out.os.trans (HB5.out.os.trans HGW.out.os),HG.out.tape.trans (HB5.out.tape.trans HGW.out.tape),HG.out.output.trans (HB5.out.output.trans HGW.out.output),
       by simp;exact Nat.le_trans HGW.out.size (Nat.le_trans HB5.out.size HG.out.size),fun k hk hne=>(heap_setRow_other _ _ _ (by omega)).trans ((k5 k hk).trans (HGW.out.block k hk hne))⟩)
     have HRF:=Lib.hid (show ∀ cs,RdI W0 (wr.setRow w.heap.size cs) R (l.drop 32) from fun cs=>by
       obtain ⟨vv,e1,e2⟩:=HR5.out
       exact ⟨vv,(heap_setRow_other _ _ _ (by omega)).trans ((k5 R hRw).trans e1),e2⟩)
     clear hp HP HG HB5 Y1 HGW HR5 k5 hz1 hz5 HRD
     go_wp2_with (first
       | (refine wpList_load_row rfl 24 (.tmp 6) rfl w3.heap.size rfl 24 _ (0,0) _ HPN.out Tryd.underlying24 rfl (by kernel_rfl) ?_)
       | (refine wpList_store_row rfl 24 (.tmp 2) (.tmp 37) rfl w.heap.size #[.int .u64 (Oc.U (Im.wordOf l 0)),.int .u64 (Oc.U (Im.wordOf l 1)),.int .u64 (Oc.U (Im.wordOf l 2)),.int .u64 (Oc.U (Im.wordOf l 3))] rfl rfl 24 _ HY.out (by kernel_rfl) (by kernel_rfl) (by simp [Value.oneCell']) ?_)
       | fail)
     exact bodyPost_ret (results_row_one rfl _ _ w.heap.size 24 #[.int .u64 (Oc.U (Im.wordOf l 0)),.int .u64 (Oc.U (Im.wordOf l 1)),.int .u64 (Oc.U (Im.wordOf l 2)),.int .u64 (Oc.U (Im.wordOf l 3))] (0,0) _ (.bool true) rfl rfl (heap_setRow HY.out) Tryd.underlying24 rfl (by kernel_rfl)) rfl ⟨rfl,HRF.out _,HGF.out _⟩
theorem set_no (W0 w:World) (R:Nat) (l:List UInt8) (h32:l.length < 32) (hr:RdI W0 w R l) :
   Calls Tryd.prog 42 #[.pointer (some ⟨R,0,none⟩)] w fun e w'=>e=.returned (.tuple #[.agg #[.int .u64 0,.int .u64 0,.int .u64 0,.int .u64 0],.bool false])∧w.grownBy w' (some R):=by
 have HRI:=Lib.hid (fun o=>show RdI W0 (w.alloc o) R l from by obtain ⟨v,h,h2⟩:=hr;exact ⟨v,heap_alloc_lt h,h2⟩)
 clear hr
 go_enter Tryd.func42,Tryd.ntmps42
 go_upto_region 1 with (fail)
 have Z1':=Lib.hid (heap_alloc_new w (.cells #[.int .u64 0,.int .u64 0,.int .u64 0,.int .u64 0] 24))
 have hgf:∀ o cs,w.grownBy ((w.alloc o).setRow w.heap.size cs) (some R):=fun o cs=>⟨rfl,rfl,rfl,by simp,fun k hk hne=>(heap_setRow_other _ _ _ (by omega)).trans ((World.grownBy_alloc w o none).block k hk (by simp))⟩
 have HGF:=Lib.hid hgf
 clear hgf
 have HR1:=Lib.hid (HRI.out (.cells #[.int .u64 0,.int .u64 0,.int .u64 0,.int .u64 0] 24))
 have HGX:=Lib.hid (HGF.out (.cells #[.int .u64 0,.int .u64 0,.int .u64 0,.int .u64 0] 24) #[.int .u64 0,.int .u64 0,.int .u64 0,.int .u64 0])
 clear HRI HGF
 generalize hW1:World.alloc w _=W1 at *
 have HTK:=Lib.hid (take_no W0 W1 R l 32 h32 HR1.out)
 clear hW1
 go_wp2_with fail
 refine HTK.out.mono ?_
 rintro e w3 ⟨rfl,rfl⟩
 go_wp2_with (first
   | (refine wpList_store_row rfl 24 (.tmp 2) (.tmp 16) rfl w.heap.size #[.int .u64 0,.int .u64 0,.int .u64 0,.int .u64 0] rfl rfl 24 _ Z1'.out (by kernel_rfl) (by kernel_rfl) (by simp [Value.oneCell']) ?_)
   | fail)
 exact bodyPost_ret (results_row_one rfl _ _ w.heap.size 24 #[.int .u64 0,.int .u64 0,.int .u64 0,.int .u64 0] (0,0) _ (.bool false) rfl rfl (heap_setRow Z1'.out) Tryd.underlying24 rfl (by kernel_rfl)) rfl ⟨rfl,HGX.out⟩
end Go.Proofs.YtnfgalgifgfojaaDoor
namespace Go.Proofs.YtnfgalgifgfojaaDoor
open Go.RowKit
theorem wp_append_op {P:Program} (w:World) {o:Oper} {a:Act} {K:Act→World→Prop} {Q:Exit→Act→World→Prop} (s x:Operand) (t:TypeId)
   (ho:o.op=.call { callee:=.builtin .append,args:=#[s,x],argTypes:=#[t,t] })
   (base:Nat) (e:TypeId) (i:TypeInfo) (z:Value) (size bytes:Nat) (ht:P.underlying t=some (.slice e)) (hi:P.info? e=some i) (hz:i.zero=some z)
   (hsize:i.size=size) (hby:i.bytes=bytes) (hzs:z.cells.size=size) (hsz:0 < size)
   (v:Value) (n:Nat) (xs:List Value) (hs:a.eval s=v) (hown:w.ownsRow base e size v n xs)
   (ad:Addr) (m c:Nat) (news:List Value) (hx:a.eval x=.slice (some ad) m c) (hl:news.length=m * size) (hnews:∀ j u,news[j]? = some u→w.cell? (ad.add j)=some u) (h1:∀ u ∈ news,u.oneCell'=true) (hm:0 < m)
   (h63:n+m ≤ maxLen) (hbytes:(n+m) * bytes ≤ 140737488355328) (hbase:base ≤ w.heap.size)
   (h:∀ v' w',w'.ownsRow base e size v' (n+m) (xs ++ news)→w.grownBy w' v.ownBlock→(v'.ownBlock=v.ownBlock ∨ v'.ownBlock=some w.heap.size)→K (a.put o.dst v') w'):o.wp P a w K Q:=by
 obtain ⟨v',w',hr,h2,h3,-⟩:=run_append_own (P:=P) w base t o.type e i z size bytes ht hi hz hsize hby hzs hsz v n xs hown ad m c news hl hnews h1 h63 hbytes hbase
 have h4:=append_block base t o.type e i z size bytes ht hi hz hsize hby v v' n xs hown ad m c news hl hnews h1 hm h63 hbytes hr
 unfold Oper.wp execOp
 simp only [ho,resolve,invoke,builtin,Sem.run_bind,Sem.run_pure,Result.andThen_ok,List.map_toArray,List.map_cons,List.map_nil,hs,hx,hr]
 exact h v' w' h2 h3 h4
theorem row_last {w:World} {base:Nat} {e:TypeId} {g i c:Nat} {A zs ys:List Value} (hA:A.length=i * 10) (_hz:zs.length=10) (hy:ys.length=10)
   (h:w.ownsRow base e 10 (.slice (some ⟨g,0,none⟩) (i+1) c) (i+1) (A ++ zs)) :
   w.there g (i * 10) 10∧(w.setCells g (i * 10) ys).ownsRow base e 10 (.slice (some ⟨g,0,none⟩) (i+1) c) (i+1) (A ++ ys)∧base ≤ g:=by
 rcases h.2 with ⟨e1,-⟩ | ⟨g',cap,cur,e1,hb,hg,hnc,hcm,hcs,ht⟩
 · cases e1
 · injection e1 with e1 e2 e3
   injection e1 with e1
   injection e1 with e1
   subst e1;subst e3
   have hsz:i * 10+10 ≤ cur.size:=by rw [hcs];have:=Nat.mul_le_mul_right 10 hnc;omega
   have hset:∀ (ys:List Value) (o:Nat) (w:World) (cur:Array Value),w.heap[g]? = some (.cells cur e (0,0))→o+ys.length ≤ cur.size→(w.setCells g o ys).heap[g]? = some (.cells (cur.toList.take o ++ ys ++ cur.toList.drop (o+ys.length)).toArray e (0,0)):=by
     intro ys
     induction ys with
     | nil=>intro o w cur h _;rw [World.setCells];simp [h]
     | cons y ys ih =>
       intro o w cur h hl
       have hlo:o < cur.size:=by simp at hl;omega
       have h2:(w.setCell ⟨g,o,none⟩ y).heap[g]? = some (.cells (cur.setIfInBounds o y) e (0,0)):=by simp [World.setCell,Array.getElem?_modify,h]
       rw [World.setCells,ih (o+1) _ _ h2 (by simp at hl ⊢;omega)]
       congr 3
       have e2:=list_seg_step cur.toList o y ys (by simp at hl ⊢;omega)
       simpa [Array.toList_setIfInBounds,Nat.add_assoc] using e2
   refine ⟨fun j hj=>?_,⟨by rw [List.length_append];omega,.inr ⟨g,c,_,rfl,hb,hset ys (i * 10) w cur hg (by omega),hnc,hcm, ?_, ?_⟩⟩,hb⟩
   · have hj2:i * 10+j < cur.size:=by omega
     simp [World.cell?,World.frozen?,hg,hj2]
   · simp only [List.size_toArray,List.length_append,List.length_take,List.length_drop,Array.length_toList]
     omega
   · have hta:cur.toList.take (i * 10)=A:=by
       have h1:(cur.toList.take ((i+1) * 10)).take (i * 10)=cur.toList.take (i * 10):=by rw [List.take_take,Nat.min_eq_left (by omega)]
       rw [← h1,ht,List.take_append_of_le_length (by omega),List.take_of_length_le (by omega)]
     rw [hta,List.take_append_of_le_length (by rw [List.length_append];omega),List.take_of_length_le (by rw [List.length_append];omega)]
structure RegI (W:World) (T:Nat) (hc:Value→Array Value) (xs zs:Array Value) (u:Value) (i:Nat) (A:List Value) (L:Nat→Bool) (v:Nat→Value) (w':World):Prop where
 os:w'.os=W.os
 tape:w'.tape=W.tape
 output:w'.output=W.output
 size:W.heap.size ≤ w'.heap.size
 blk:∀ k,k < W.heap.size→k ≠ T→u.ownBlock ≠ some k→w'.heap[k]? = W.heap[k]?
 d5:L 5=true→L 0=true∧L 1=true∧L 2=true∧L 3=true∧L 4=true
 d7:L 7=true→L 5=true
 d9:L 9=true→L 5=true
 t0:L 9=false→w'.heap[T]? = some (.cells (hc u) 27)
 t1:L 9=true→w'.heap[T]? = some (.cells (hc (v 5)) 27)
 r0:L 5=false→w'.ownsRow (T+1) 27 10 u i A
 r1:L 5=true→L 7=false→w'.ownsRow (T+1) 27 10 (v 5) (i+1) (A ++ zs.toList)
 r2:L 7=true→w'.ownsRow (T+1) 27 10 (v 5) (i+1) (A ++ xs.toList)
 ob:L 5=true→(v 5).ownBlock=u.ownBlock ∨ ∃ k,(v 5).ownBlock=some k∧W.heap.size ≤ k
 v0:L 0=true→v 0=.pointer (some ⟨T,5,none⟩)
 v1:L 1=true→v 1=u
 v2:L 2=true→v 2=.agg xs
 v3:L 3=true→v 3=.int .i64 (i:Int)
 v4:L 4=true→∃ z,v 4=.slice (some ⟨z,0,none⟩) 1 1∧W.heap.size ≤ z∧(L 5=false→w'.heap[z]? = some (.cells zs 27))
 v6:L 6=true→L 5=true∧∃ g c,v 5=.slice (some ⟨g,0,none⟩) (i+1) c∧v 6=.pointer (some ⟨g,i * 10,none⟩)
 v8:L 8=true→v 8=.pointer (some ⟨T,5,none⟩)
end Go.Proofs.YtnfgalgifgfojaaDoor
namespace Go.Proofs.YtnfgalgifgfojaaDoor
open Go.RowKit
theorem wp_node0 {o:Oper} {a:Act} {w:World} {K:Act→World→Prop} {Q:Exit→Act→World→Prop} (ho:o.op=.buildSlice 25 1 #[(0,.const (.agg #[.int .i64 0,.int .u64 0,.int .u64 0,.int .u64 0,.int .u64 0,.slice none 0 0,.int .i64 0,.int .i64 0,.int .i64 0,.bool false]))])
   (h:K (a.put o.dst (.slice (some ⟨w.heap.size,0,none⟩) 1 1)) (w.alloc (.cells #[.int .i64 0,.int .u64 0,.int .u64 0,.int .u64 0,.int .u64 0,.slice none 0 0,.int .i64 0,.int .i64 0,.int .i64 0,.bool false] 27))):o.wp Tryd.prog a w K Q:=by
 obtain ⟨ie,hi,hz0,hz1,-⟩:=info_parts Tryd.infoNode
 refine wp_buildSlice 25 27 1 _ ho _ ie _ Tryd.underlying25 hi hz0 (by rw [hz1];decide) (by rw [hz1];decide) ?_ h
 rw [hz1]
 kernel_rfl
theorem wp_append1 {o:Oper} {a:Act} {w:World} {K:Act→World→Prop} {Q:Exit→Act→World→Prop} (s x:Operand) (ho:o.op=.call { callee:=.builtin .append,args:=#[s,x],argTypes:=#[25,25] })
   (base n:Nat) (v:Value) (xs:List Value) (hs:a.eval s=v) (hown:w.ownsRow base 27 10 v n xs)
   (z:Nat) (hx:a.eval x=.slice (some ⟨z,0,none⟩) 1 1) (hz:w.heap[z]? = some (.cells #[.int .i64 0,.int .u64 0,.int .u64 0,.int .u64 0,.int .u64 0,.slice none 0 0,.int .i64 0,.int .i64 0,.int .i64 0,.bool false] 27)) (hn:n ≤ 2147483647) (hbase:base ≤ w.heap.size)
   (h:∀ v' w',w'.ownsRow base 27 10 v' (n+1) (xs ++ (#[.int .i64 0,.int .u64 0,.int .u64 0,.int .u64 0,.int .u64 0,.slice none 0 0,.int .i64 0,.int .i64 0,.int .i64 0,.bool false]:Array Value).toList)→w.grownBy w' v.ownBlock→(v'.ownBlock=v.ownBlock ∨ v'.ownBlock=some w.heap.size)→K (a.put o.dst v') w'):o.wp Tryd.prog a w K Q:=by
 obtain ⟨ie,hi,hz0,hz1,hz2⟩:=info_parts Tryd.infoNode
 refine wp_append_op w s x 25 ho base 27 ie _ 10 96 Tryd.underlying25 hi hz0 hz1 hz2 rfl (by decide) v n xs hs hown ⟨z,0,none⟩ 1 1 (#[.int .i64 0,.int .u64 0,.int .u64 0,.int .u64 0,.int .u64 0,.slice none 0 0,.int .i64 0,.int .i64 0,.int .i64 0,.bool false]:Array Value).toList hx rfl ?_ (by simp [Value.oneCell']) (by decide) (by unfold maxLen;omega) (by omega) hbase h
 intro j u hu
 have ea:(⟨z,0,none⟩:Addr).add j=⟨z,j,none⟩:=by unfold Addr.add;split <;> simp_all
 rw [ea]
 simpa [World.cell?,hz] using hu
theorem wp_index1 {o:Oper} {a:Act} {w:World} {K:Act→World→Prop} {Q:Exit→Act→World→Prop} (s i:Operand) (ho:o.op=.indexAddr 25 s i) (g n c:Nat) (hs:a.eval s=.slice (some ⟨g,0,none⟩) (n+1) c) (hi:a.eval i=.int .i64 (n:Int))
   (h:K (a.put o.dst (.pointer (some ⟨g,n * 10,none⟩))) w):o.wp Tryd.prog a w K Q:=by
 obtain ⟨ie,hie,-⟩:=info_parts Tryd.infoNode
 have he:(Instr.indexAt 25 (.slice (some ⟨g,0,none⟩) (n+1) c) (.int .i64 (n:Int))).run Tryd.prog w=.ok (.pointer (some ⟨g,n * 10,none⟩)) w:=by
   have hel:Tryd.prog.elem 25=27:=by kernel_rfl
   have hco:Tryd.prog.cellsOf 27=10:=by kernel_rfl
   have hun:Tryd.prog.underlying 25=some (.slice (Tryd.prog.elem 25)):=by kernel_rfl
   rw [run_indexAt_slice (t:=25) (h:=hun),if_pos ⟨by omega,by omega⟩,hel,run_sizeOf (h:=hie),hco]
   simp only [Result.andThen_ok,Int.toNat_natCast]
   have ea:(⟨g,0,none⟩:Addr).add (n * 10)=⟨g,n * 10,none⟩:=by unfold Addr.add;split <;> simp_all
   rw [ea]
 unfold Oper.wp execOp
 simp only [ho,hs,hi,Sem.run_bind,he,Result.andThen_ok]
 exact h
theorem owns_slice {w:World} {base:Nat} {e:TypeId} {n:Nat} {v:Value} {xs:List Value} (h:w.ownsRow base e 10 v (n+1) xs):∃ g c,v=.slice (some ⟨g,0,none⟩) (n+1) c:=by
 rcases h.2 with ⟨-,h0⟩ | ⟨g,cap,cur,e,-⟩
 · cases h0
 · exact ⟨g,_,e⟩
theorem owns_setCell {w:World} {base:Nat} {e:TypeId} {n T o:Nat} {v y:Value} {xs:List Value} (h:w.ownsRow base e 10 v n xs) (hT:T < base):(w.setCell ⟨T,o,none⟩ y).ownsRow base e 10 v n xs:=by
 refine World.ownsRow.kept h (row:=some T) ⟨rfl,rfl,rfl,by simp,fun k _ hne=>Below.heap_setCell _ _ _ _ (fun e=>hne (by rw [e]))⟩ ?_
 cases hv:Value.ownBlock v with
 | none=>exact .inl rfl
 | some g=>exact .inr (by have:=h.lt g hv;intro e;injection e with e;omega)
end Go.Proofs.YtnfgalgifgfojaaDoor
namespace Go.Proofs.YtnfgalgifgfojaaDoor
open Go.RowKit
theorem node_nil (W0 w:World) (R:Nat) (room:Nat) (hr:RdI W0 w R []) :
   Calls Tryd.prog 25 #[.pointer (some ⟨R,0,none⟩),.int .i64 room] w fun e w'=>e=.returned (.tuple #[.agg #[.int .i64 0,.int .u64 0,.int .u64 0,.int .u64 0,.int .u64 0,.slice none 0 0,.int .i64 0,.int .i64 0,.int .i64 0,.bool false],.bool false])∧w.grownBy w' (some R):=by
 have HRI:=Lib.hid (fun o=>show RdI W0 (w.alloc o) R [] from by obtain ⟨v,h,h2⟩:=hr;exact ⟨v,heap_alloc_lt h,h2⟩)
 clear hr
 go_enter Tryd.func25,Tryd.ntmps25
 go_upto_region 1 with (fail)
 have Z1':=Lib.hid (heap_alloc_new w (.cells #[.int .i64 0,.int .u64 0,.int .u64 0,.int .u64 0,.int .u64 0,.slice none 0 0,.int .i64 0,.int .i64 0,.int .i64 0,.bool false] 27))
 have hgf:∀ o cs,w.grownBy ((w.alloc o).setRow w.heap.size cs) (some R):=fun o cs=>⟨rfl,rfl,rfl,by simp,fun k hk hne=>(heap_setRow_other _ _ _ (by omega)).trans ((World.grownBy_alloc w o none).block k hk (by simp))⟩
 have HGF:=Lib.hid hgf
 clear hgf
 have HR1:=Lib.hid (HRI.out (.cells #[.int .i64 0,.int .u64 0,.int .u64 0,.int .u64 0,.int .u64 0,.slice none 0 0,.int .i64 0,.int .i64 0,.int .i64 0,.bool false] 27))
 have HGX:=Lib.hid (HGF.out (.cells #[.int .i64 0,.int .u64 0,.int .u64 0,.int .u64 0,.int .u64 0,.slice none 0 0,.int .i64 0,.int .i64 0,.int .i64 0,.bool false] 27) #[.int .i64 0,.int .u64 0,.int .u64 0,.int .u64 0,.int .u64 0,.slice none 0 0,.int .i64 0,.int .i64 0,.int .i64 0,.bool false])
 clear HRI HGF
 generalize hW1:World.alloc w _=W1 at *
 have HTK:=Lib.hid (take_no W0 W1 R [] 1 (by simp) HR1.out)
 clear hW1
 go_wp2_with fail
 refine HTK.out.mono ?_
 rintro e w3 ⟨rfl,rfl⟩
 go_wp2_with (first
   | (refine wpList_store_row rfl 27 (.tmp 4) (.tmp 23) rfl w.heap.size #[.int .i64 0,.int .u64 0,.int .u64 0,.int .u64 0,.int .u64 0,.slice none 0 0,.int .i64 0,.int .i64 0,.int .i64 0,.bool false] rfl rfl 27 _ Z1'.out (by kernel_rfl) (by kernel_rfl) (by simp [Value.oneCell']) ?_)
   | fail)
 exact bodyPost_ret (results_row_one rfl _ _ w.heap.size 27 #[.int .i64 0,.int .u64 0,.int .u64 0,.int .u64 0,.int .u64 0,.slice none 0 0,.int .i64 0,.int .i64 0,.int .i64 0,.bool false] (0,0) _ (.bool false) rfl rfl (heap_setRow Z1'.out) Tryd.underlying27 rfl (by kernel_rfl)) rfl ⟨rfl,HGX.out⟩
theorem node_room (W0 w:World) (R:Nat) (k:UInt8) (l:List UInt8) (hl:(k :: l).length ≤ 140737488351232) (hR:R < w.heap.size) (hr:RdI W0 w R (k :: l)) :
   Calls Tryd.prog 25 #[.pointer (some ⟨R,0,none⟩),.int .i64 0] w fun e w'=>e=.returned (.tuple #[.agg #[.int .i64 0,.int .u64 0,.int .u64 0,.int .u64 0,.int .u64 0,.slice none 0 0,.int .i64 0,.int .i64 0,.int .i64 0,.bool false],.bool false])∧w.grownBy w' (some R):=by
 have HRI:=Lib.hid (fun o=>show RdI W0 (w.alloc o) R (k :: l) from by obtain ⟨v,h,h2⟩:=hr;exact ⟨v,heap_alloc_lt h,h2⟩)
 have HWB:=Lib.hid (fun o=>(Below.refl w.heap.size w).alloc (Nat.le_refl _) o)
 clear hr
 go_enter Tryd.func25,Tryd.ntmps25
 go_upto_region 1 with (fail)
 have Z1':=Lib.hid (heap_alloc_new w (.cells #[.int .i64 0,.int .u64 0,.int .u64 0,.int .u64 0,.int .u64 0,.slice none 0 0,.int .i64 0,.int .i64 0,.int .i64 0,.bool false] 27))
 generalize hW1:World.alloc w _=W1 at *
 have HB1:=Lib.hid (show Below w.heap.size w W1 from hW1 ▸ HWB.out _)
 have HR1:=Lib.hid (show RdI W0 W1 R (k :: l) from hW1 ▸ HRI.out _)
 have HZ1:=Lib.hid (show W1.heap.size=w.heap.size+1 by rw [← hW1];simp)
 clear hW1 HWB HRI
 have HTK:=Lib.hid (take_yes W0 W1 R (k :: l) 1 (by omega) (by simp) hl HR1.out)
 go_wp2_with fail
 refine HTK.out.mono ?_
 rintro e w3 ⟨⟨v5,rfl,-⟩,-,hg5⟩
 have hz1:=HZ1.out
 have HY:=Lib.hid ((hg5.block w.heap.size (by omega) (by intro e;injection e;omega)).trans Z1'.out)
 have HGF:=Lib.hid (show ∀ cs,w.grownBy (w3.setRow w.heap.size cs) (some R) from fun cs=>⟨hg5.os.trans HB1.out.os,hg5.tape.trans HB1.out.tape,hg5.output.trans HB1.out.output,
   by simp;have:=hg5.size;omega,fun k hk hne=>(heap_setRow_other _ _ _ (by omega)).trans ((hg5.block k (by omega) hne).trans (HB1.out.block k hk))⟩)
 clear hg5 hz1 HTK Z1'
 go_wp2_with (first
   | (refine wpList_store_row rfl 27 (.tmp 4) (.tmp 23) rfl w.heap.size #[.int .i64 0,.int .u64 0,.int .u64 0,.int .u64 0,.int .u64 0,.slice none 0 0,.int .i64 0,.int .i64 0,.int .i64 0,.bool false] rfl rfl 27 _ HY.out (by kernel_rfl) (by kernel_rfl) (by simp [Value.oneCell']) ?_)
   | fail)
 exact bodyPost_ret (results_row_one rfl _ _ w.heap.size 27 #[.int .i64 0,.int .u64 0,.int .u64 0,.int .u64 0,.int .u64 0,.slice none 0 0,.int .i64 0,.int .i64 0,.int .i64 0,.bool false] (0,0) _ (.bool false) rfl rfl (heap_setRow HY.out) Tryd.underlying27 rfl (by kernel_rfl)) rfl ⟨rfl,HGF.out _⟩
end Go.Proofs.YtnfgalgifgfojaaDoor
namespace Go.Proofs.YtnfgalgifgfojaaDoor
open Go.RowKit
def NdEnd (W0:World) (R room:Nat) (l:List UInt8) (w:World) (e:Ending) (w':World):Prop :=
 w.grownBy w' (some R)∧match Im.rdT room l with
   | some (t,r)=>(∃ s,e=.returned (.tuple #[.agg (t.cells s),.bool true])∧TreesAt w' (fun b=>w.heap.size ≤ b) s t.subs)∧RdI W0 w' R r
   | none=>e=.returned (.tuple #[.agg #[.int .i64 0,.int .u64 0,.int .u64 0,.int .u64 0,.int .u64 0,.slice none 0 0,.int .i64 0,.int .i64 0,.int .i64 0,.bool false],.bool false])
def HeadP (W0 W4:World) (R T:Nat) (k:Int) (l:List UInt8) (v7 v9:Value) (w:World):Prop :=
 Gr W4 w R T∧match Im.rdHead k l with
   | some (h,n,r)=>v7=.bool true∧v9=.int .i64 (n:Int)∧n ≤ 2147483647∧h.subs=[]∧RdI W0 w R r∧w.heap[T]? = some (.cells (h.cells (.slice none 0 0)) 27)
   | none=>v7=.bool false
theorem four_in {w:World} {b:Nat} {x0 x1 x2 x3 x4 x5 x6 x7 x8 x9:Value} {t:TypeId} (h:w.heap[b]? = some (.cells #[x0,x1,x2,x3,x4,x5,x6,x7,x8,x9] t)) (a b' c d:Value) :
   (w.setCells b 1 [a,b',c,d]).heap[b]? = some (.cells #[x0,a,b',c,d,x5,x6,x7,x8,x9] t):=by
 simp [World.setCells,World.setCell,Array.getElem?_modify,h]
theorem setCells_other (w:World) (b o:Nat) (vs:List Value) {k:Nat} (h:k ≠ b):(w.setCells b o vs).heap[k]? = w.heap[k]?:=by
 induction vs generalizing o w with
 | nil=>rfl
 | cons v vs ih=>rw [World.setCells,ih];exact Below.heap_setCell _ _ _ _ (by exact h)
theorem Gr.setCells {a b:World} {R T o:Nat} {vs:List Value} (h:Gr a b R T):Gr a (b.setCells T o vs) R T:=by
 induction vs generalizing o b with
 | nil=>exact h
 | cons v vs ih=>rw [World.setCells];exact ih h.setCell
theorem RdI.other {W0 w w':World} {R:Nat} {l:List UInt8} (h:RdI W0 w R l) (hk:w'.heap[R]? = w.heap[R]?):RdI W0 w' R l:=by
 obtain ⟨v,e1,e2⟩:=h;exact ⟨v,hk.trans e1,e2⟩
theorem there_ten {w:World} {b:Nat} {x0 x1 x2 x3 x4 x5 x6 x7 x8 x9:Value} {t:TypeId} (h:w.heap[b]? = some (.cells #[x0,x1,x2,x3,x4,x5,x6,x7,x8,x9] t)):w.there b 1 4:=by
 intro j hj
 rcases (show j=0 ∨ j=1 ∨ j=2 ∨ j=3 by omega) with rfl | rfl | rfl | rfl <;> simp [World.cell?,World.frozen?,h]
theorem rdS_len {f:List UInt8→Option (Tr × List UInt8)} (hf:∀ l t r,f l=some (t,r)→r.length < l.length):∀ (n:Nat) (l:List UInt8) (ts:List Tr) (r:List UInt8),Im.rdS f n l=some (ts,r)→ts.length+r.length ≤ l.length
 | 0,l,ts,r,h=>by
   rw [Im.rdS] at h
   simp only [Option.some.injEq,Prod.mk.injEq] at h
   obtain ⟨rfl,rfl⟩:=h;simp
 | n+1,l,ts,r,h=>by
   rw [Im.rdS] at h
   split at h
   · cases h
   · rename_i t r1 h1
     split at h
     · cases h
     · rename_i ts' r' h2
       simp only [Option.some.injEq,Prod.mk.injEq] at h
       obtain ⟨rfl,rfl⟩:=h
       have:=hf _ _ _ h1
       have:=rdS_len hf n _ _ _ h2
       simp;omega
theorem rdRep_len {l:List UInt8} {x:Int × Int × Bool × List UInt8} (h:Im.rdRep l=some x):x.2.2.2.length < l.length:=by
 unfold Im.rdRep at h
 split at h
 · cases h
 · rename_i h1
   split at h
   · cases h
   · rename_i h2
     have a1:=(rdNum_len h1).1;have a2:=(rdNum_len h2).1
     split at h
     · cases h
     · rename_i l2 br l3 h3
       simp only [Option.some.injEq] at h
       subst h
       unfold Im.rdBare at h3
       split at h3
       · cases h3
       · split at h3
         · cases h3
         · simp only [Option.some.injEq,Prod.mk.injEq] at h3
           obtain ⟨rfl,rfl⟩:=h3
           simp at a2 ⊢;omega
theorem rdHead_len {k:Int} {l:List UInt8} {h:Tr} {n:Nat} {r:List UInt8} (hh:Im.rdHead k l=some (h,n,r)):r.length ≤ l.length:=by
 unfold Im.rdHead at hh
 split at hh
 · split at hh
   · simp only [Option.some.injEq,Prod.mk.injEq] at hh
     obtain ⟨-,-,rfl⟩:=hh;rw [List.length_drop];omega
   · cases hh
 · split at hh
   · split at hh
     · cases hh
     · rename_i h1
       simp only [Option.some.injEq,Prod.mk.injEq] at hh
       obtain ⟨-,-,rfl⟩:=hh
       have:=(rdNum_len h1).1;omega
   · split at hh
     · split at hh
       · cases hh
       · rename_i h1
         simp only [Option.some.injEq,Prod.mk.injEq] at hh
         obtain ⟨-,-,rfl⟩:=hh
         have:=(rdNum_len h1).1;omega
     · split at hh
       · split at hh
         · cases hh
         · rename_i h1
           simp only [Option.some.injEq,Prod.mk.injEq] at hh
           obtain ⟨-,-,rfl⟩:=hh
           have:=rdRep_len h1
           simp at this;omega
       · simp only [Option.some.injEq,Prod.mk.injEq] at hh
         obtain ⟨-,-,rfl⟩:=hh;omega
theorem rdT_len:∀ (room:Nat) (l:List UInt8) (t:Tr) (r:List UInt8),Im.rdT room l=some (t,r)→r.length < l.length
 | 0,l,t,r,h=>by rw [Im.rdT] at h;cases h
 | room+1,[],t,r,h=>by rw [Im.rdT] at h;cases h
 | room+1,k :: l,t,r,h=>by
   rw [Im.rdT] at h
   split at h
   · cases h
   · rename_i hd n r1 h1
     split at h
     · cases h
     · rename_i ts r' h2
       simp only [Option.some.injEq,Prod.mk.injEq] at h
       obtain ⟨-,rfl⟩:=h
       have a:=rdHead_len h1
       have b:=rdS_len (rdT_len room) n r1 ts r' h2
       simp;omega
structure SubsP (W0 W4:World) (R T:Nat) (room:Nat) (h:Tr) (n:Nat) (r:List UInt8) (ps:List (Tr × Value)) (rr:List UInt8) (u:Value) (w:World):Prop where
 read:Im.rdS (Im.rdT room) n r=match Im.rdS (Im.rdT room) (n - ps.length) rr with
   | none=>none
   | some (ts,r')=>some (ps.map (·.1) ++ ts,r')
 rest:RdI W0 w R rr
 len:ps.length+rr.length ≤ 140737488351232
 cell:w.heap[T]? = some (.cells (h.cells u) 27)
 row:w.ownsRow (T+1) 27 10 u ps.length (rowOf ps)
 subs:∀ (i:Nat) (t:Tr) (s:Value),ps[i]? = some (t,s)→TreesAt w (fun b=>T+1 ≤ b∧u.ownBlock ≠ some b) s t.subs
 gr:Gr W4 w R T
theorem SubsP.next {W0 W4 W6 w9:World} {R T room n m Z:Nat} {r rr r1:List UInt8} {ps:List (Tr × Value)} {t:Tr} {s u vv:Value} {kd:Int} {a b c d:BitVec 64} {sb:List Tr} {nu lo hi:Int} {br:Bool} {zs:Array Value} {L:Nat→Bool} {v:Nat→Value}
   (hI:RegI W6 T (fun y=>#[.int .i64 kd,.int .u64 (Oc.U a),.int .u64 (Oc.U b),.int .u64 (Oc.U c),.int .u64 (Oc.U d),y,.int .i64 nu,.int .i64 lo,.int .i64 hi,.bool br]) (t.cells s) zs u ps.length (rowOf ps) L v w9)
   (h9:L 9=true) (h7:L 7=true) (h5:L 5=true) (hvv:v 5=vv) (hm:n - ps.length=m+1)
   (hread:Im.rdS (Im.rdT room) n r=match (match Im.rdS (Im.rdT room) m r1 with | none=>none | some (ts,r')=>some (t :: ts,r')) with | none=>none | some (ts,r')=>some (ps.map (·.1) ++ ts,r'))
   (hr:RdI W0 W6 R r1) (hRT:R < T) (hTs:T < W6.heap.size) (hlen:ps.length+rr.length ≤ 140737488351232) (hr1:r1.length < rr.length)
   (hown:∀ g,u.ownBlock=some g→T+1 ≤ g∧g < Z) (hsu:∀ (i:Nat) (t:Tr) (s:Value),ps[i]? = some (t,s)→TreesAt W6 (fun b=>T+1 ≤ b∧u.ownBlock ≠ some b) s t.subs)
   (hsn:TreesAt W6 (fun b=>Z ≤ b) s t.subs) (hZ:T+1 ≤ Z) (hg:Gr W4 W6 R T) (h4:W4.heap.size=T+1) :
   SubsP W0 W4 R T room (.node kd a b c d sb nu lo hi br) n r (ps ++ [(t,s)]) r1 vv w9:=by
 subst hvv
 have hn:∀ k,k < W6.heap.size→T+1 ≤ k→u.ownBlock ≠ some k→(v 5).ownBlock ≠ some k:=fun k hk _ hu e=>by
   rcases hI.ob h5 with h | ⟨q,h,hq⟩
   · rw [h] at e;exact hu e
   · rw [h] at e;injection e with e;omega
 have hkeep:∀ (ts:List Tr) (s:Value),TreesAt W6 (fun b=>T+1 ≤ b∧u.ownBlock ≠ some b) s ts→TreesAt w9 (fun b=>T+1 ≤ b∧(v 5).ownBlock ≠ some b) s ts:=fun ts s h =>
   (h.mono (B':=fun b=>(T+1 ≤ b∧u.ownBlock ≠ some b)∧(v 5).ownBlock ≠ some b) fun b hb hB=>⟨hB,hn b hb hB.1 hB.2⟩).keep (fun b hb hB=>hI.blk b hb (by have:=hB.1.1;omega) hB.1.2) |>.mono fun b _ hB=>⟨hB.1.1,hB.2⟩
 refine ⟨?_,hr.other (hI.blk R (by omega) (by omega) fun e=>by have:=(hown R e).1;omega), ?_,hI.t1 h9, ?_, ?_, ?_⟩
 · rw [hread,show n - (ps ++ [(t,s)]).length=m by rw [List.length_append];simp;omega]
   cases Im.rdS (Im.rdT room) m r1 with
   | none=>rfl
   | some x=>simp
 · rw [List.length_append];simp;omega
 · rw [rowOf_snoc,List.length_append];exact hI.r2 h7
 · intro i t' s' hi
   by_cases hip:i < ps.length
   · rw [List.getElem?_append_left hip] at hi
     exact hkeep _ _ (hsu i t' s' hi)
   · rw [List.getElem?_append_right (by omega)] at hi
     rcases hz:i - ps.length with _ | q
     · rw [hz] at hi
       simp only [List.getElem?_cons_zero,Option.some.injEq,Prod.mk.injEq] at hi
       obtain ⟨rfl,rfl⟩:=hi
       exact hkeep _ _ (hsn.mono fun b _ hb=>⟨by omega,fun e=>by have:=(hown b e).2;omega⟩)
     · rw [hz] at hi;simp at hi
 · exact ⟨hI.os.trans hg.os,hI.tape.trans hg.tape,hI.output.trans hg.output,Nat.le_trans hg.size hI.size,fun k hk h1 h2=>(hI.blk k (Nat.lt_of_lt_of_le hk hg.size) h2 fun e=>by have:=(hown k e).1;omega).trans (hg.block k hk h1 h2)⟩
theorem node_any (W0:World) (R:Nat) (hR:W0.heap.size ≤ R):∀ (room:Nat) (l:List UInt8) (w:World),room ≤ 1000→l.length ≤ 140737488351232→Below W0.heap.size W0 w→RdI W0 w R l →
   Calls Tryd.prog 25 #[.pointer (some ⟨R,0,none⟩),.int .i64 room] w (NdEnd W0 R room l w):=by
 intro room
 induction room with
 | zero =>
   intro l w hroom hl hb hr
   have hn:Im.rdT 0 l=none:=by rw [Im.rdT]
   cases l with
   | nil =>
     refine (node_nil W0 w R 0 hr).mono ?_
     rintro e w' ⟨rfl,hg⟩
     exact ⟨hg,by rw [hn]⟩
   | cons k l =>
     have hRw:R < w.heap.size:=by obtain ⟨v,h,-⟩:=hr;exact (Array.getElem?_eq_some_iff.1 h).1
     refine (node_room W0 w R k l hl hRw hr).mono ?_
     rintro e w' ⟨rfl,hg⟩
     exact ⟨hg,by rw [hn]⟩
 | succ room ih =>
   intro l w hroom hl hb hr
   cases l with
   | nil =>
     have hn:Im.rdT (room+1) []=none:=by rw [Im.rdT]
     refine (node_nil W0 w R (room+1) hr).mono ?_
     rintro e w' ⟨rfl,hg⟩
     exact ⟨hg,by rw [hn]⟩
   | cons k l =>
     have hRw:R < w.heap.size:=by obtain ⟨v,h,-⟩:=hr;exact (Array.getElem?_eq_some_iff.1 h).1
     have hll:l.length ≤ 140737488351231:=by simp at hl;omega
     have IH:=Lib.hid ih
     have HB0:=Lib.hid hb
     have HRI:=Lib.hid (fun o=>show RdI W0 (w.alloc o) R (k :: l) from by obtain ⟨v,h,h2⟩:=hr;exact ⟨v,heap_alloc_lt h,h2⟩)
     have HWB:=Lib.hid (fun o=>(Below.refl w.heap.size w).alloc (Nat.le_refl _) o)
     clear ih hb hr
     go_enter Tryd.func25,Tryd.ntmps25
     go_upto_region 1 with (fail)
     have Z1':=Lib.hid (heap_alloc_new w (.cells #[.int .i64 0,.int .u64 0,.int .u64 0,.int .u64 0,.int .u64 0,.slice none 0 0,.int .i64 0,.int .i64 0,.int .i64 0,.bool false] 27))
     generalize hW1:World.alloc w _=W1 at *
     have HB1:=Lib.hid (show Below w.heap.size w W1 from hW1 ▸ HWB.out _)
     have HR1:=Lib.hid (show RdI W0 W1 R (k :: l) from hW1 ▸ HRI.out _)
     have HZ1:=Lib.hid (show W1.heap.size=w.heap.size+1 by rw [← hW1];simp)
     clear hW1 HWB HRI
     have HTK:=Lib.hid (take_yes W0 W1 R (k :: l) 1 (by omega) (by simp) hl HR1.out)
     go_wp2_with fail
     refine HTK.out.mono ?_
     rintro e w3 ⟨⟨v5,rfl,hb5⟩,hr5,hg5⟩
     rcases hb5 with ⟨-,h2⟩ | ⟨g5,o5,c5,rfl,hc5,hrd5⟩
     · simp at h2
     have hz1:=HZ1.out
     have hs3:w.heap.size+1 ≤ w3.heap.size:=by have:=hg5.size;omega
     have Y1:=Lib.hid ((hg5.block w.heap.size (by omega) (by intro e;injection e;omega)).trans Z1'.out)
     have hgw:w.grownBy w3 (some R):=grownBy_trans (r':=some R) ⟨HB1.out.os,HB1.out.tape,HB1.out.output,HB1.out.size,fun k hk _=>HB1.out.block k hk⟩ hg5 (.inl rfl)
     have hbw3:Below W0.heap.size W0 w3:=HB0.out.grown hgw HB0.out.size (fun k e=>by injection e;omega)
     have hc:=hrd5 0 (by simp)
     have ck:w3.cell? ⟨g5,o5,none⟩=some (.int .u8 (k.toNat:Int)):=by
       have:=(hbw3.cell (p:=⟨g5,o5+0,none⟩) (block_lt_of_cell hc)).trans hc
       simpa using this
     have HGW:=Lib.hid hgw;have HR3:=Lib.hid (show RdI W0 w3 R l from hr5);have HBW3:=Lib.hid hbw3
     have hl1:(List.take 1 (k :: l)).length=1:=by simp
     rw [hl1] at hc5 ⊢
     have hk8:=k.toNat_lt
     have q0:((room+1:Nat):Int) ≠ 0:=by omega
     have q0':((room:Int)+1 == 0)=false:=by rw [beq_eq_false_iff_ne];omega
     have wk:IntKind.i64.wrap (k.toNat:Int)=(k.toNat:Int):=IntWalk.i64_in _ (by omega)
     clear hr5 hg5 hgw hbw3 hc hrd5 hl1 HTK hz1
     have hRT:R ≠ w3.heap.size:=by omega
     have HRT:=Lib.hid (show Im.rdT (room+1) (k :: l)=match Im.rdHead (k.toNat:Int) l with
       | none=>none
       | some (h,n,r)=>match Im.rdS (Im.rdT room) n r with
         | none=>none
         | some (ts,r')=>some (Im.withSubs h ts,r') from by rw [Im.rdT];rfl)
     generalize k.toNat=kk at *
     go_upto_region 5 with (fail)
     have HT4':=Lib.hid (heap_alloc_new w3 (.cells #[.int .i64 (kk:Int),.int .u64 0,.int .u64 0,.int .u64 0,.int .u64 0,.slice none 0 0,.int .i64 0,.int .i64 0,.int .i64 0,.bool false] 27))
     have HA4:=Lib.hid (fun o=>(Below.refl w3.heap.size w3).alloc (Nat.le_refl _) o)
     have hZ4:∀ o,(w3.alloc o).heap.size=w3.heap.size+1:=fun o=>by simp
     have HZ4':=Lib.hid hZ4
     clear hZ4
     generalize hW4:World.alloc w3 _=W4 at *
     have HB4:=Lib.hid (show Below w3.heap.size w3 W4 from hW4 ▸ HA4.out _)
     have HZ4:=Lib.hid (show W4.heap.size=w3.heap.size+1 from hW4 ▸ HZ4'.out _)
     have HT4:=Lib.hid HT4'.out
     clear hW4 HA4 HZ4' HT4'
     have HR4:=Lib.hid (HR3.out.other (HB4.out.block R (by have:=HR3.out;obtain ⟨v,h,-⟩:=this;exact (Array.getElem?_eq_some_iff.1 h).1)))
     have HBW4:=Lib.hid (HBW3.out.trans (HB4.out.mono HBW3.out.size))
     have HG4:=Lib.hid (show Gr W4 W4 R w3.heap.size from ⟨rfl,rfl,rfl,Nat.le_refl _,fun _ _ _ _=>rfl⟩)
     have hW0T:W0.heap.size ≤ w3.heap.size:=HBW3.out.size
     obtain ⟨d0,d1,d2,d3,d4,d5,d6,d7,d8,d9⟩:=allTen HT4.out
     generalize hTT:w3.heap.size=T at *
     go_upto_block 0 with (fail)
     go_cut [7,9] (fun v7 v9 wx=>Hid (HeadP W0 W4 R T (kk:Int) l v7 v9 wx))
     case first =>
       by_cases k2:kk=2
       · subst k2
         by_cases h32:32 ≤ l.length
         · have hh:Im.rdHead ((2:Nat):Int) l=some (.node 2 (Im.wordOf l 0) (Im.wordOf l 1) (Im.wordOf l 2) (Im.wordOf l 3) [] 0 0 0 false,0,l.drop 32):=by unfold Im.rdHead;rw [if_pos (show ((2:Nat):Int)=2 from rfl),if_pos h32]
           have HH:=Lib.hid hh
           have HC:=Lib.hid (set_yes W0 W4 R l (by omega) h32 HBW4.out hR HR4.out)
           clear hh
           go_wp2_with fail
           refine HC.out.mono ?_
           rintro e w6 ⟨rfl,hr6,hg6⟩
           have hT6:=(hg6.block T (by have:=HZ4.out;omega) (by intro e;injection e;omega)).trans HT4.out
           have HTH:=Lib.hid (there_ten hT6)
           have HT6:=Lib.hid hT6;have HG6:=Lib.hid (HG4.out.trans (Gr.of T hg6));have HR6:=Lib.hid hr6
           clear hr6 hg6 hT6 HC
           go_wp2_with (first
             | (refine wpList_store_mid rfl 24 (.tmp 38) (.tmp 36) rfl T 1 #[.int .u64 (Oc.U (Im.wordOf l 0)),.int .u64 (Oc.U (Im.wordOf l 1)),.int .u64 (Oc.U (Im.wordOf l 2)),.int .u64 (Oc.U (Im.wordOf l 3))] rfl rfl HTH.out (by kernel_rfl) (by simp [Value.oneCell']) ?_)
             | fail)
           go_meet
           refine Lib.hid ⟨HG6.out.setCells, ?_⟩
           rw [HH.out]
           exact ⟨rfl,rfl,by omega,rfl,HR6.out.other (setCells_other _ _ _ _ hRT),four_in HT6.out _ _ _ _⟩
         · have hh:Im.rdHead ((2:Nat):Int) l=none:=by unfold Im.rdHead;rw [if_pos (show ((2:Nat):Int)=2 from rfl),if_neg h32]
           have HH:=Lib.hid hh
           have HC:=Lib.hid (set_no W0 W4 R l (by omega) HR4.out)
           clear hh
           go_wp2_with fail
           refine HC.out.mono ?_
           rintro e w6 ⟨rfl,hg6⟩
           have hT6:=(hg6.block T (by have:=HZ4.out;omega) (by intro e;injection e;omega)).trans HT4.out
           have HTH:=Lib.hid (there_ten hT6)
           have HG6:=Lib.hid (HG4.out.trans (Gr.of T hg6))
           clear hg6 hT6 HC
           go_wp2_with (first
             | (refine wpList_store_mid rfl 24 (.tmp 38) (.tmp 36) rfl T 1 #[.int .u64 0,.int .u64 0,.int .u64 0,.int .u64 0] rfl rfl HTH.out (by kernel_rfl) (by simp [Value.oneCell']) ?_)
             | fail)
           go_meet
           refine Lib.hid ⟨HG6.out.setCells, ?_⟩
           rw [HH.out]
       by_cases k5:kk=5
       · subst k5
         have HC:=Lib.hid (number_any W0 W4 R l (by omega) HBW4.out hR HR4.out)
         go_wp2_with fail
         refine HC.out.mono ?_
         rintro e w6 ⟨hg6,he6⟩
         have hT6:=(hg6.block T (by have:=HZ4.out;omega) (by intro e;injection e;omega)).trans HT4.out
         have HT6:=Lib.hid hT6;have HG6:=Lib.hid (HG4.out.trans (Gr.of T hg6))
         clear hg6 hT6 HC
         cases hn:Im.rdNum l with
         | none =>
           rw [hn] at he6
           subst he6
           have HH:=Lib.hid (show Im.rdHead ((5:Nat):Int) l=none by unfold Im.rdHead;rw [if_neg (by decide),if_pos (by decide)];simp only [hn])
           clear hn
           go_wp2
           go_meet
           refine Lib.hid ⟨HG6.out, ?_⟩
           rw [HH.out]
         | some x =>
           obtain ⟨n,r⟩:=x
           rw [hn] at he6
           obtain ⟨rfl,hr6⟩:=he6
           have hnl:=(rdNum_len hn).2
           have HH:=Lib.hid (show Im.rdHead ((5:Nat):Int) l=some (.node 5 0#64 0#64 0#64 0#64 [] 0 0 0 false,n,r) by unfold Im.rdHead;rw [if_neg (by decide),if_pos (by decide)];simp only [hn];rfl)
           have HR6:=Lib.hid hr6
           clear hn hr6
           go_wp2
           go_meet
           refine Lib.hid ⟨HG6.out, ?_⟩
           rw [HH.out]
           exact ⟨rfl,rfl,hnl,rfl,HR6.out,HT6.out⟩
       by_cases k6:kk=6
       · subst k6
         have HC:=Lib.hid (number_any W0 W4 R l (by omega) HBW4.out hR HR4.out)
         go_wp2_with fail
         refine HC.out.mono ?_
         rintro e w6 ⟨hg6,he6⟩
         have hT6:=(hg6.block T (by have:=HZ4.out;omega) (by intro e;injection e;omega)).trans HT4.out
         have HT6:=Lib.hid hT6;have HG6:=Lib.hid (HG4.out.trans (Gr.of T hg6))
         clear hg6 hT6 HC
         cases hn:Im.rdNum l with
         | none =>
           rw [hn] at he6
           subst he6
           have HH:=Lib.hid (show Im.rdHead ((6:Nat):Int) l=none by unfold Im.rdHead;rw [if_neg (by decide),if_pos (by decide)];simp only [hn])
           clear hn
           go_wp2
           go_meet
           refine Lib.hid ⟨HG6.out, ?_⟩
           rw [HH.out]
         | some x =>
           obtain ⟨n,r⟩:=x
           rw [hn] at he6
           obtain ⟨rfl,hr6⟩:=he6
           have hnl:=(rdNum_len hn).2
           have HH:=Lib.hid (show Im.rdHead ((6:Nat):Int) l=some (.node 6 0#64 0#64 0#64 0#64 [] 0 0 0 false,n,r) by unfold Im.rdHead;rw [if_neg (by decide),if_pos (by decide)];simp only [hn];rfl)
           have HR6:=Lib.hid hr6
           clear hn hr6
           go_wp2
           go_meet
           refine Lib.hid ⟨HG6.out, ?_⟩
           rw [HH.out]
           exact ⟨rfl,rfl,hnl,rfl,HR6.out,HT6.out⟩
       by_cases k7:kk=7
       · subst k7
         have HC:=Lib.hid (number_any W0 W4 R l (by omega) HBW4.out hR HR4.out)
         go_wp2_with fail
         refine HC.out.mono ?_
         rintro e w6 ⟨hg6,he6⟩
         have hT6:=(hg6.block T (by have:=HZ4.out;omega) (by intro e;injection e;omega)).trans HT4.out
         have HT6:=Lib.hid hT6;have HG6:=Lib.hid (HG4.out.trans (Gr.of T hg6))
         have c6:w6.cell? ⟨T,6,none⟩=some (.int .i64 0):=by simp [World.cell?,hT6]
         have f6:w6.frozen? ⟨T,6,none⟩=false:=by simp [World.frozen?,hT6]
         have HST:=Lib.hid (show ∀ v,(w6.setCell ⟨T,6,none⟩ v).heap[T]? = some (.cells #[.int .i64 ((7:Nat):Int),.int .u64 0,.int .u64 0,.int .u64 0,.int .u64 0,.slice none 0 0,v,.int .i64 0,.int .i64 0,.bool false] 27) from fun v=>by simp [World.setCell,Array.getElem?_modify,hT6])
         clear hg6 hT6 HC
         cases hn:Im.rdNum l with
         | none =>
           rw [hn] at he6
           subst he6
           have HH:=Lib.hid (show Im.rdHead ((7:Nat):Int) l=none by unfold Im.rdHead;rw [if_neg (by decide),if_neg (by decide),if_pos (by decide)];simp only [hn])
           clear hn
           go_wp2
           go_meet
           refine Lib.hid ⟨HG6.out.setCell, ?_⟩
           rw [HH.out]
         | some x =>
           obtain ⟨n,r⟩:=x
           rw [hn] at he6
           obtain ⟨rfl,hr6⟩:=he6
           have HH:=Lib.hid (show Im.rdHead ((7:Nat):Int) l=some (.node 7 0#64 0#64 0#64 0#64 [] n 0 0 false,1,r) by unfold Im.rdHead;rw [if_neg (by decide),if_neg (by decide),if_pos (by decide)];simp only [hn];rfl)
           have HR6:=Lib.hid hr6
           clear hn hr6
           go_wp2
           go_meet
           refine Lib.hid ⟨HG6.out.setCell, ?_⟩
           rw [HH.out]
           exact ⟨rfl,rfl,by omega,rfl,HR6.out.other (Below.heap_setCell _ _ _ _ (by exact hRT)),HST.out _⟩
       by_cases k8:kk=8
       · subst k8
         have HC:=Lib.hid (repeat_any W0 W4 R T l (by omega) HBW4.out hR (Ne.symm hRT) hW0T HR4.out _ _ _ _ _ _ _ _ _ _ HT4.out)
         go_wp2_with fail
         refine HC.out.mono ?_
         rintro e w6 ⟨hg6,he6⟩
         have HG6:=Lib.hid hg6
         clear hg6 HC
         cases hn:Im.rdRep l with
         | none =>
           rw [hn] at he6
           subst he6
           have HH:=Lib.hid (show Im.rdHead ((8:Nat):Int) l=none by unfold Im.rdHead;rw [if_neg (by decide),if_neg (by decide),if_neg (by decide),if_pos (by decide)];simp only [hn])
           clear hn
           go_wp2
           go_meet
           refine Lib.hid ⟨HG6.out, ?_⟩
           rw [HH.out]
         | some x =>
           obtain ⟨lo,hi,br,r⟩:=x
           rw [hn] at he6
           obtain ⟨rfl,hr6,ht6⟩:=he6
           have HH:=Lib.hid (show Im.rdHead ((8:Nat):Int) l=some (.node 8 0#64 0#64 0#64 0#64 [] 0 lo hi br,1,r) by unfold Im.rdHead;rw [if_neg (by decide),if_neg (by decide),if_neg (by decide),if_pos (by decide)];simp only [hn];rfl)
           have HR6:=Lib.hid hr6;have HT6:=Lib.hid ht6
           clear hn hr6 ht6
           go_wp2
           go_meet
           refine Lib.hid ⟨HG6.out, ?_⟩
           rw [HH.out]
           exact ⟨rfl,rfl,by omega,rfl,HR6.out,HT6.out⟩
       have HH:=Lib.hid (show Im.rdHead (kk:Int) l=some (.node kk 0#64 0#64 0#64 0#64 [] 0 0 0 false,0,l) by unfold Im.rdHead;rw [if_neg (by omega),if_neg (by omega),if_neg (by omega),if_neg (by omega)])
       have n2:((kk:Int) == 2)=false:=by rw [beq_eq_false_iff_ne];omega
       have n5:((kk:Int) == 5)=false:=by rw [beq_eq_false_iff_ne];omega
       have n6:((kk:Int) == 6)=false:=by rw [beq_eq_false_iff_ne];omega
       have n7:((kk:Int) == 7)=false:=by rw [beq_eq_false_iff_ne];omega
       have n8:((kk:Int) == 8)=false:=by rw [beq_eq_false_iff_ne];omega
       clear k2 k5 k6 k7 k8
       go_wp2
       go_meet
       refine Lib.hid ⟨HG4.out, ?_⟩
       rw [HH.out]
       exact ⟨rfl,rfl,by omega,rfl,HR4.out,HT4.out⟩
     case rest =>
       rename World=>wx
       have HX:=hcut
       have hz4:=HZ4.out
       have hgr:Gr W4 wx R T:=HX.out.1
       have key:∀ k,k < w.heap.size→k ≠ R→wx.heap[k]? = w.heap[k]?:=fun k hk hk2=>(hgr.block k (by omega) hk2 (by omega)).trans ((HB4.out.block k (by omega)).trans (HGW.out.block k hk (by intro e;injection e;omega)))
       have hgrw:∀ w',Gr W4 w' R T→∀ k,k < w.heap.size→k ≠ R→w'.heap[k]? = w.heap[k]?:=fun w' hg k hk hk2=>(hg.block k (by omega) hk2 (by omega)).trans ((HB4.out.block k (by omega)).trans (HGW.out.block k hk (by intro e;injection e;omega)))
       have HFIN:=Lib.hid (show ∀ w' cs,Gr W4 w' R T→w.grownBy (w'.setRow w.heap.size cs) (some R) from fun w' cs hg=>⟨hg.os.trans (HB4.out.os.trans HGW.out.os),hg.tape.trans (HB4.out.tape.trans HGW.out.tape),hg.output.trans (HB4.out.output.trans HGW.out.output),
         by simp;exact Nat.le_trans HGW.out.size (by have:=hg.size;omega),fun k hk hne=>(heap_setRow_other _ _ _ (by omega)).trans (hgrw w' hg k hk (fun e=>hne (by rw [e])))⟩)
       have HYF:=Lib.hid (show ∀ w',Gr W4 w' R T→w'.heap[w.heap.size]? = some (.cells #[.int .i64 0,.int .u64 0,.int .u64 0,.int .u64 0,.int .u64 0,.slice none 0 0,.int .i64 0,.int .i64 0,.int .i64 0,.bool false] 27) from fun w' hg=>(hg.block w.heap.size (by omega) (by omega) (by omega)).trans ((HB4.out.block w.heap.size (by omega)).trans Y1.out))
       clear key hgrw d0 d1 d2 d3 d4 d5 d6 d7 d8 d9
       cases hh:Im.rdHead (kk:Int) l with
       | none =>
         have h7:=HX.out.2
         rw [hh] at h7
         have HN:=Lib.hid (HRT.out.trans (by rw [hh]))
         have HY:=Lib.hid (HYF.out wx hgr);have HF:=Lib.hid (fun cs=>HFIN.out wx cs hgr)
         subst h7
         clear HX hgr hh hcut
         go_wp2_with (first
           | (refine wpList_store_row rfl 27 (.tmp 4) (.tmp 61) rfl w.heap.size #[.int .i64 0,.int .u64 0,.int .u64 0,.int .u64 0,.int .u64 0,.slice none 0 0,.int .i64 0,.int .i64 0,.int .i64 0,.bool false] rfl rfl 27 _ HY.out (by kernel_rfl) (by kernel_rfl) (by simp [Value.oneCell']) ?_)
           | fail)
         refine bodyPost_ret (results_row_one rfl _ _ w.heap.size 27 #[.int .i64 0,.int .u64 0,.int .u64 0,.int .u64 0,.int .u64 0,.slice none 0 0,.int .i64 0,.int .i64 0,.int .i64 0,.bool false] (0,0) _ (.bool false) rfl rfl (heap_setRow HY.out) Tryd.underlying27 rfl (by kernel_rfl)) rfl ⟨HF.out _, ?_⟩
         rw [HN.out]
       | some x =>
         obtain ⟨h,n,r⟩:=x
         have h7:=HX.out.2
         rw [hh] at h7
         obtain ⟨rfl,rfl,hn,hsub,hrx,htx⟩:=h7
         have hrl:=rdHead_len hh
         have HN:=Lib.hid (HRT.out.trans (by rw [hh]))
         have HS0:=Lib.hid (show SubsP W0 W4 R T room h n r [] r (.slice none 0 0) wx from ⟨by
             rw [show n - ([]:List (Tr × Value)).length=n from rfl]
             cases Im.rdS (Im.rdT room) n r with
             | none=>rfl
             | some x=>rfl,hrx,by simp;omega,htx,World.ownsRow_nil _ _ _ _,fun i t s hi=>by simp at hi,hgr⟩)
         clear HX hgr hh hcut hrx htx HG4 HR4 HT4
         obtain ⟨hk,hw0,hw1,hw2,hw3,hsb,hnum,hlo,hhi,hbr,hcells⟩:∃ a b c d e f g i j k,h=.node a b c d e f g i j k:=by cases h;exact ⟨_,_,_,_,_,_,_,_,_,_,rfl⟩
         subst hcells
         unfold Tr.cells at *
         go_wp2
         go_loopw [63] (fun iv wr=>∃ (ps:List (Tr × Value)) (rr:List UInt8) (u:Value),iv=.int .i64 (ps.length:Int)∧ps.length ≤ n∧Hid (SubsP W0 W4 R T room (.node hk hw0 hw1 hw2 hw3 hsb hnum hlo hhi hbr) n r ps rr u wr)) (fun iv _=>n - (intOf iv).toNat)
         case atStart=>exact ⟨[],r,.slice none 0 0,rfl,by simp,HS0⟩
         case round =>
           obtain ⟨ps,rr,u,rfl,hi,HSP⟩:=hrel
           clear HS0
           have wi:IntKind.i64.wrap ((ps.length:Int)+1)=(ps.length:Int)+1:=IntWalk.i64_in _ (by omega)
           have wroom:IntKind.i64.wrap ((room:Int)+1 - 1)=(room:Int):=by rw [show (room:Int)+1 - 1=(room:Int) by omega];exact IntWalk.i64_in _ (by omega)
           have wroom':(room:Int)+1 - 1=(room:Int):=by omega
           by_cases hlt:ps.length < n
           · have HCALL:=Lib.hid (IH.out rr wr (by omega) (by have:=HSP.out.len;omega) (HSP.out.gr.below HBW4.out hR hW0T) HSP.out.rest)
             have hsp:=HSP.out.read
             obtain ⟨m,hm⟩:∃ m,n - ps.length=m+1:=⟨n - ps.length - 1,by omega⟩
             rw [hm,Im.rdS] at hsp
             go_wp2_with fail
             refine HCALL.out.mono ?_
             rintro e w5 ⟨hg5,he5⟩
             cases ht:Im.rdT room rr with
             | none =>
               rw [ht] at he5 hsp
               subst he5
               have HNN:=Lib.hid (HN.out.trans (by rw [hsp]))
               have hgr5:=HSP.out.gr.trans (Gr.of T hg5)
               have hgr6:∀ o,Gr W4 (w5.alloc o) R T:=fun o=>hgr5.trans ⟨rfl,rfl,rfl,by simp,fun k hk _ _=>(World.grownBy_alloc w5 o none).block k hk (by simp)⟩
               have HY:=Lib.hid (fun o=>HYF.out (w5.alloc o) (hgr6 o));have HF:=Lib.hid (fun o cs=>HFIN.out (w5.alloc o) cs (hgr6 o))
               clear hgr5 hgr6 hg5 hsp ht HCALL
               go_wp2_with (first
                 | (refine wpList_store_row rfl 27 (.tmp 4) (.tmp 74) rfl w.heap.size #[.int .i64 0,.int .u64 0,.int .u64 0,.int .u64 0,.int .u64 0,.slice none 0 0,.int .i64 0,.int .i64 0,.int .i64 0,.bool false] rfl rfl 27 _ (HY.out _) (by kernel_rfl) (by kernel_rfl) (by simp [Value.oneCell']) ?_)
                 | fail)
               refine bodyPost_ret (results_row_one rfl _ _ w.heap.size 27 #[.int .i64 0,.int .u64 0,.int .u64 0,.int .u64 0,.int .u64 0,.slice none 0 0,.int .i64 0,.int .i64 0,.int .i64 0,.bool false] (0,0) _ (.bool false) rfl rfl (heap_setRow (HY.out _)) Tryd.underlying27 rfl (by kernel_rfl)) rfl ⟨HF.out _ _, ?_⟩
               rw [HNN.out]
             | some y =>
               obtain ⟨t,r1⟩:=y
               rw [ht] at he5 hsp
               obtain ⟨⟨s5,rfl,hs5⟩,hr5⟩:=he5
               have hlen5:=rdT_len room rr t r1 ht
               obtain ⟨p5,c5',rfl,hl5⟩:=hs5.slice
               obtain ⟨pu,cu,hu⟩:∃ p c,u=.slice p ps.length c:=by
                 rcases HSP.out.row.2 with ⟨e,h0⟩ | ⟨g,cap,cur,e,-⟩
                 · exact ⟨none,0,by rw [e,h0]⟩
                 · exact ⟨_,_,e⟩
               have hT5:w5.heap[T]? = wr.heap[T]?:=hg5.block T (Array.getElem?_eq_some_iff.1 HSP.out.cell).1 (by intro e;injection e;omega)
               have hTl:=(Array.getElem?_eq_some_iff.1 HSP.out.cell).1
               have hgT:=HSP.out.row.lt
               have hw5s:=hg5.size
               have hk5:∀ k,k < wr.heap.size→k ≠ R→w5.heap[k]? = wr.heap[k]?:=fun k hk hk2=>hg5.block k hk (by intro e;injection e;omega)
               have hrow5:w5.ownsRow (T+1) 27 10 u ps.length (rowOf ps):=HSP.out.row.kept hg5 (by
                 cases hub:Value.ownBlock u with
                 | none=>exact .inl rfl
                 | some g=>exact .inr (by intro e;injection e with e;have:=(hgT g hub).1;omega))
               have hsub5:∀ (i:Nat) (t:Tr) (s:Value),ps[i]? = some (t,s)→TreesAt w5 (fun b=>T+1 ≤ b∧u.ownBlock ≠ some b) s t.subs:=fun i t s hi=>(HSP.out.subs i t s hi).keep fun b hb hB=>hk5 b hb (by have:=hB.1;omega)
               have HW6:=Lib.hid (show ∀ o cs,Below w5.heap.size w5 ((w5.alloc o).setRow w5.heap.size cs) from fun o cs=>⟨rfl,rfl,rfl,by simp,fun k hk=>(heap_setRow_other _ _ _ (by omega)).trans ((World.grownBy_alloc w5 o none).block k hk (by simp))⟩)
               have HZA:=Lib.hid (heap_alloc_new w5 (.cells #[.int .i64 0,.int .u64 0,.int .u64 0,.int .u64 0,.int .u64 0,.slice none 0 0,.int .i64 0,.int .i64 0,.int .i64 0,.bool false] 27))
               have hlen6:=HSP.out.len
               go_upto_region 25 with (first
                 | (refine wpList_store_row rfl 27 (.tmp 10) (.tmp 70) rfl w5.heap.size (t.cells (.slice p5 t.subs.length c5')) rfl rfl 27 _ HZA.out (by kernel_rfl) (by kernel_rfl) (by simp [Tr.cells,Value.oneCell']) ?_)
                 | fail)
               generalize hW6:World.setRow _ _ _=W6 at *
               have hb6:Below w5.heap.size w5 W6:=hW6 ▸ HW6.out _ _
               have hz6:W6.heap.size=w5.heap.size+1:=by rw [← hW6];simp
               have HX6:=Lib.hid (show W6.heap[w5.heap.size]? = some (.cells (t.cells (.slice p5 t.subs.length c5')) 27) from hW6 ▸ heap_setRow HZA.out)
               have HT6:=Lib.hid (show W6.heap[T]? = some (.cells ((fun y=>#[.int .i64 hk,.int .u64 (Oc.U hw0),.int .u64 (Oc.U hw1),.int .u64 (Oc.U hw2),.int .u64 (Oc.U hw3),y,.int .i64 hnum,.int .i64 hlo,.int .i64 hhi,.bool hbr]) u) 27) from (hb6.block T (by omega)).trans (hT5.trans HSP.out.cell))
               have HRW:=Lib.hid (show W6.ownsRow (T+1) 27 10 u ps.length (rowOf ps) from World.ownsRow.kept hrow5 (row:=none) ⟨hb6.os,hb6.tape,hb6.output,hb6.size,fun k hk _=>hb6.block k hk⟩ (by
                 cases hub:Value.ownBlock u with
                 | none=>exact .inl rfl
                 | some g=>exact .inr (by simp)))
               have HSU:=Lib.hid (fun i t s hi=>(hsub5 i t s hi).later hb6)
               have HSN:=Lib.hid (hs5.later hb6)
               have HR6:=Lib.hid (hr5.other (hb6.block R (by have:=hRw;have:=HZ4.out;have:=HSP.out.gr.size;omega)))
               have HG6:=Lib.hid (show Gr W4 W6 R T from (HSP.out.gr.trans (Gr.of T hg5)).trans ⟨hb6.os,hb6.tape,hb6.output,hb6.size,fun k hk _ _=>hb6.block k hk⟩)
               have HGT:=Lib.hid hgT
               have hX:w5.heap.size ≠ T∧u.ownBlock ≠ some w5.heap.size:=⟨by omega,fun e=>by have:=(hgT _ e).2;omega⟩
               have hspr:=HN.out
               have HREAD:=Lib.hid hsp
               clear hb6 hW6 HW6 HZA hrow5 hsub5 hs5 hr5 hg5 hT5 hk5 hgT hspr hsp ht HCALL
               obtain ⟨ie,hi0,hz0,hz1,hz2⟩:=info_parts Tryd.infoNode
               refine Ri.wp_region_frame (by kernel_rfl) (by kernel_rfl) (by kernel_rfl) (by kernel_rfl)
                 (fun L v w'=>RegI W6 T (fun y=>#[.int .i64 hk,.int .u64 (Oc.U hw0),.int .u64 (Oc.U hw1),.int .u64 (Oc.U hw2),.int .u64 (Oc.U hw3),y,.int .i64 hnum,.int .i64 hlo,.int .i64 hhi,.bool hbr]) (t.cells (.slice p5 t.subs.length c5')) #[.int .i64 0,.int .u64 0,.int .u64 0,.int .u64 0,.int .u64 0,.slice none 0 0,.int .i64 0,.int .i64 0,.int .i64 0,.bool false] u ps.length (rowOf ps) L v w') ?_ ?_ ?_
               · exact ⟨rfl,rfl,rfl,Nat.le_refl _,fun _ _ _ _=>rfl,fun h=>(by cases h),fun h=>(by cases h),fun h=>(by cases h),fun _=>HT6.out,fun h=>(by cases h),fun _=>HRW.out,fun h=>(by cases h),fun h=>(by cases h),fun h=>(by cases h),fun h=>(by cases h),fun h=>(by cases h),fun h=>(by cases h),fun h=>(by cases h),fun h=>(by cases h),fun h=>(by cases h),fun h=>(by cases h)⟩
               · intro i hi9 L v w9 xa hI hL hd hv ho
                 have hi':i=0 ∨ i=1 ∨ i=2 ∨ i=3 ∨ i=4 ∨ i=5 ∨ i=6 ∨ i=7 ∨ i=8 ∨ i=9:=by simp at hi9;omega
                 have f5:L 5=false ∨ L 5=true:=by cases L 5 <;> simp
                 rcases hi' with rfl | rfl | rfl | rfl | rfl | rfl | rfl | rfl | rfl | rfl
                 · have e8:xa.tmps.getD 8 undef=.pointer (some ⟨T,0,none⟩):=ho 8 (by kernel_rfl)
                   refine Ri.step_plain rfl rfl (fun K' hK=>?_)
                   go_simp
                   exact hK _ _ ⟨_,_,rfl,rfl,{ hI with d5:=fun h=>⟨rfl,(hI.d5 h).2⟩,v0:=fun _=>rfl }⟩
                 · have l0:L 0=true:=by have:=hd _ rfl;simp [Region.binds] at this;simp [this]
                   have h5:L 5=false:=by rcases f5 with h | h;exact h;rw [(hI.d5 h).2.1] at hL;cases hL
                   have h9:L 9=false:=by cases h:L 9 with | false=>rfl | true=>rw [hI.d9 h] at h5;cases h5
                   have f0:=(hv 0 75 rfl l0).trans (hI.v0 l0)
                   have ht0:=hI.t0 h9
                   have c5:w9.cell? ⟨T,5,none⟩=some u:=by simp [World.cell?,ht0]
                   refine Ri.step_plain rfl rfl (fun K' hK=>?_)
                   go_simp
                   exact hK _ _ ⟨_,_,rfl,rfl,{ hI with d5:=fun h=>⟨(hI.d5 h).1,rfl,(hI.d5 h).2.2⟩,v1:=fun _=>hu.symm }⟩
                 · have e10:xa.tmps.getD 10 undef=.pointer (some ⟨w5.heap.size,0,none⟩):=ho 10 (by kernel_rfl)
                   refine Ri.step_plain rfl rfl (fun K' hK=>?_)
                   refine wp_load_row _ _ rfl _ e10 _ _ _ _ ((hI.blk w5.heap.size (by omega) hX.1 hX.2).trans HX6.out) Tryd.underlying27 rfl (by kernel_rfl) ?_
                   exact hK _ _ ⟨_,_,rfl,rfl,{ hI with d5:=fun h=>⟨(hI.d5 h).1,(hI.d5 h).2.1,rfl,(hI.d5 h).2.2.2⟩,v2:=fun _=>rfl }⟩
                 · have l1:L 1=true:=by have:=hd _ rfl;simp [Region.binds] at this;simp [this]
                   have f1:=(hv 1 76 rfl l1).trans (hI.v1 l1)
                   rw [hu] at f1
                   refine Ri.step_plain rfl rfl (fun K' hK=>?_)
                   go_simp
                   exact hK _ _ ⟨_,_,rfl,rfl,{ hI with d5:=fun h=>⟨(hI.d5 h).1,(hI.d5 h).2.1,(hI.d5 h).2.2.1,rfl,(hI.d5 h).2.2.2.2⟩,v3:=fun _=>rfl }⟩
                 · have h5:L 5=false:=by rcases f5 with h | h;exact h;rw [(hI.d5 h).2.2.2.2] at hL;cases hL
                   have h7:L 7=false:=by cases h:L 7 with | false=>rfl | true=>rw [hI.d7 h] at h5;cases h5
                   have h9:L 9=false:=by cases h:L 9 with | false=>rfl | true=>rw [hI.d9 h] at h5;cases h5
                   refine Ri.step_plain rfl rfl (fun K' hK=>?_)
                   refine wp_node0 rfl ?_
                   have hal:=(World.grownBy_alloc w9 (.cells #[.int .i64 0,.int .u64 0,.int .u64 0,.int .u64 0,.int .u64 0,.slice none 0 0,.int .i64 0,.int .i64 0,.int .i64 0,.bool false] 27) none)
                   exact hK _ _ ⟨_,_,rfl,rfl,⟨hI.os,hI.tape,hI.output,Nat.le_trans hI.size hal.size,fun k hk h1 h2=>(hal.block k (Nat.lt_of_lt_of_le hk hI.size) (by simp)).trans (hI.blk k hk h1 h2),
                     fun h=>⟨(hI.d5 h).1,(hI.d5 h).2.1,(hI.d5 h).2.2.1,(hI.d5 h).2.2.2.1,rfl⟩,hI.d7,hI.d9,
                     fun h=>heap_alloc_lt (hI.t0 h),fun h=>heap_alloc_lt (hI.t1 h),fun h=>(hI.r0 h).alloc _,fun h h2=>(hI.r1 h h2).alloc _,fun h=>(hI.r2 h).alloc _,
                     hI.ob,hI.v0,hI.v1,hI.v2,hI.v3,fun _=>⟨_,rfl,hI.size,fun _=>heap_alloc_new _ _⟩,hI.v6,hI.v8⟩⟩
                 · have l1:L 1=true:=by have:=hd _ rfl;simp [Region.binds] at this;simp [this]
                   have l3:L 3=true:=by have:=hd _ rfl;simp [Region.binds] at this;simp [this]
                   have l4:L 4=true:=by have:=hd _ rfl;simp [Region.binds] at this;simp [this]
                   have l0:L 0=true:=by have:=hd _ rfl;simp [Region.binds] at this;simp [this]
                   have l2:L 2=true:=by have:=hd _ rfl;simp [Region.binds] at this;simp [this]
                   have f1:=(hv 1 76 rfl l1).trans (hI.v1 l1)
                   obtain ⟨z,hz,hzl,hzc⟩:=hI.v4 l4
                   have f4:=(hv 4 79 rfl l4).trans hz
                   have h7:L 7=false:=by cases h:L 7 with | false=>rfl | true=>have h5:=hI.d7 h;rw [hL] at h5;cases h5
                   have h9:L 9=false:=by cases h:L 9 with | false=>rfl | true=>have h5:=hI.d9 h;rw [hL] at h5;cases h5
                   have hTs:T < W6.heap.size:=by omega
                   refine Ri.step_plain rfl rfl (fun K' hK=>?_)
                   refine wp_append1 (.tmp 76) (.tmp 79) rfl (T+1) ps.length u (rowOf ps) f1 (hI.r0 hL) z f4 (hzc hL) (by omega) (by have:=hI.size;omega) ?_
                   intro v' w' h2 h3 h4
                   exact hK _ _ ⟨_,_,rfl,rfl,⟨h3.os.trans hI.os,h3.tape.trans hI.tape,h3.output.trans hI.output,Nat.le_trans hI.size h3.size,
                     fun k hk h1 h2=>(h3.block k (Nat.lt_of_lt_of_le hk hI.size) (fun e=>h2 e.symm)).trans (hI.blk k hk h1 h2),
                     fun _=>⟨l0,l1,l2,l3,l4⟩,fun _=>rfl,fun _=>rfl,
                     fun _=>(h3.block T (Nat.lt_of_lt_of_le hTs hI.size) (fun e=>by have:=(HGT.out T e.symm).1;omega)).trans (hI.t0 h9),fun h=>absurd (h9.symm.trans h) (by decide),fun h=>(by cases h),fun _ _=>h2,fun h=>absurd (h7.symm.trans h) (by decide),
                     fun _=>h4.imp id (fun e=>⟨_,e,hI.size⟩),hI.v0,hI.v1,hI.v2,hI.v3,fun _=>⟨z,hz,hzl,fun h=>(by cases h)⟩,fun h=>absurd (hL.symm.trans (hI.v6 h).1) (by decide),hI.v8⟩⟩
                 · have l5:L 5=true:=by have:=hd _ rfl;simp [Region.binds] at this;simp [this]
                   have l3:=(hI.d5 l5).2.2.2.1
                   obtain ⟨g,c,hgc⟩:∃ g c,v 5=.slice (some ⟨g,0,none⟩) (ps.length+1) c:=by
                     cases h7:L 7 with
                     | false=>exact owns_slice (hI.r1 l5 h7)
                     | true=>exact owns_slice (hI.r2 h7)
                   have f5':=(hv 5 80 rfl l5).trans hgc
                   have f3:=(hv 3 78 rfl l3).trans (hI.v3 l3)
                   refine Ri.step_plain rfl rfl (fun K' hK=>?_)
                   refine wp_index1 (.tmp 80) (.tmp 78) rfl g ps.length c f5' f3 ?_
                   exact hK _ _ ⟨_,_,rfl,rfl,{ hI with v6:=fun _=>⟨l5,g,c,hgc,rfl⟩ }⟩
                 · have l6:L 6=true:=by have:=hd _ rfl;simp [Region.binds] at this;simp [this]
                   obtain ⟨l5,g,c,hgc,hp6⟩:=hI.v6 l6
                   have l2:=(hI.d5 l5).2.2.1
                   have f6:=(hv 6 81 rfl l6).trans hp6
                   have f2:=(hv 2 77 rfl l2).trans (hI.v2 l2)
                   have hrow:=hI.r1 l5 hL
                   rw [hgc] at hrow
                   obtain ⟨hth,hrow2,hgb⟩:=row_last (rowOf_length ps) rfl (show (t.cells (.slice p5 t.subs.length c5')).toList.length=10 by simp [Tr.cells]) hrow
                   have hst:=streams_setCells g (t.cells (.slice p5 t.subs.length c5')).toList (ps.length * 10) w9
                   have hsz:=size_setCells g (t.cells (.slice p5 t.subs.length c5')).toList (ps.length * 10) w9
                   have hog:∀ k,k < W6.heap.size→u.ownBlock ≠ some k→k ≠ g:=fun k hk hne e=>by
                     rcases hI.ob l5 with h | ⟨q,h,hq⟩
                     · rw [hgc] at h;exact hne (h.symm.trans (by rw [e];rfl))
                     · rw [hgc] at h;have h2:some g=some q:=h;injection h2 with h2;omega
                   refine Ri.step_plain rfl rfl (fun K' hK=>?_)
                   refine wp_store_mid 27 (.tmp 81) (.tmp 77) rfl g (ps.length * 10) (t.cells (.slice p5 t.subs.length c5')) f6 f2 hth (by kernel_rfl) (by simp [Tr.cells,Value.oneCell']) ?_
                   exact hK _ _ ⟨_,_,rfl,rfl,⟨hst.1.trans hI.os,hst.2.1.trans hI.tape,hst.2.2.trans hI.output,by rw [hsz];exact hI.size,
                     fun k hk h1 h2=>(setCells_other _ _ _ _ (hog k hk h2)).trans (hI.blk k hk h1 h2),
                     hI.d5,fun _=>l5,hI.d9,fun h=>(setCells_other _ _ _ _ (by omega)).trans (hI.t0 h),fun h=>(setCells_other _ _ _ _ (by omega)).trans (hI.t1 h),
                     fun h=>absurd (l5.symm.trans h) (by decide),fun _ h=>(by cases h),fun _=>(show World.ownsRow _ (T+1) 27 10 (v 5) (ps.length+1) (rowOf ps ++ (t.cells (.slice p5 t.subs.length c5')).toList) by rw [hgc];exact hrow2),
                     hI.ob,hI.v0,hI.v1,hI.v2,hI.v3,fun h=>(hI.v4 h).imp fun z hz=>⟨hz.1,hz.2.1,fun h5=>absurd (l5.symm.trans h5) (by decide)⟩,hI.v6,hI.v8⟩⟩
                 · have e8:xa.tmps.getD 8 undef=.pointer (some ⟨T,0,none⟩):=ho 8 (by kernel_rfl)
                   refine Ri.step_plain rfl rfl (fun K' hK=>?_)
                   go_simp
                   exact hK _ _ ⟨_,_,rfl,rfl,{ hI with v8:=fun _=>rfl }⟩
                 · have l8:L 8=true:=by have:=hd _ rfl;simp [Region.binds] at this;simp [this]
                   have l5:L 5=true:=by have:=hd _ rfl;simp [Region.binds] at this;simp [this]
                   have f8:=(hv 8 82 rfl l8).trans (hI.v8 l8)
                   have f5':=hv 5 80 rfl l5
                   have hT0:=hI.t0 hL
                   have c5:w9.cell? ⟨T,5,none⟩=some u:=by simp [World.cell?,hT0]
                   have z5:w9.frozen? ⟨T,5,none⟩=false:=by simp [World.frozen?,hT0]
                   obtain ⟨g,c,hgc⟩:∃ g c,v 5=.slice (some ⟨g,0,none⟩) (ps.length+1) c:=by
                     cases h7:L 7 with
                     | false=>exact owns_slice (hI.r1 l5 h7)
                     | true=>exact owns_slice (hI.r2 h7)
                   have f5'':=f5'.trans hgc
                   refine Ri.step_plain rfl rfl (fun K' hK=>?_)
                   go_simp
                   exact hK _ _ ⟨_,undef,rfl,rfl,⟨hI.os,hI.tape,hI.output,by simpa using hI.size,
                     fun k hk h1 h2=>(Below.heap_setCell _ _ _ _ (by exact h1)).trans (hI.blk k hk h1 h2),
                     hI.d5,hI.d7,fun _=>l5,fun h=>(by cases h),fun _=>(by show _=some (Obj.cells ((fun y=>#[.int .i64 hk,.int .u64 (Oc.U hw0),.int .u64 (Oc.U hw1),.int .u64 (Oc.U hw2),.int .u64 (Oc.U hw3),y,.int .i64 hnum,.int .i64 hlo,.int .i64 hhi,.bool hbr]) (v 5)) 27);rw [hgc];exact set5 hT0),
                     fun h=>absurd (l5.symm.trans h) (by decide),fun h h2=>owns_setCell (hI.r1 h h2) (by omega),fun h=>owns_setCell (hI.r2 h) (by omega),
                     hI.ob,hI.v0,hI.v1,hI.v2,hI.v3,fun h=>(hI.v4 h).imp fun z hz=>⟨hz.1,hz.2.1,fun h5=>absurd (l5.symm.trans h5) (by decide)⟩,hI.v6,hI.v8⟩⟩
               · rintro v w9 hI
                 simp only [Ri.frame,List.zipIdx,List.foldl_cons,List.foldl_nil,if_true,List.setIfInBounds_toArray,List.set_cons_zero,List.set_cons_succ,Nat.reduceAdd]
                 have HIF:=Lib.hid hI
                 clear hI
                 generalize hv5:v 5=vv at *
                 generalize v 0=y0;generalize v 1=y1;generalize v 2=y2;generalize v 3=y3;generalize v 4=y4;generalize v 6=y6;generalize v 8=y8
                 go_wp2
                 exact ⟨⟨ps ++ [(t,.slice p5 t.subs.length c5')],r1,vv,by rw [List.length_append];go_num,by rw [List.length_append];simp;omega,
                   Lib.hid (SubsP.next HIF.out rfl rfl rfl hv5 hm HREAD.out HR6.out (by omega) (by omega) hlen6 hlen5 HGT.out HSU.out HSN.out (by have:=HSP.out.gr.size;have:=HZ4.out;omega) HG6.out HZ4.out)⟩,by simp [intOf];omega⟩
           · have hin:ps.length=n:=by omega
             obtain ⟨pu,cu,hu⟩:∃ p c,u=.slice p ps.length c:=by
               rcases HSP.out.row.2 with ⟨e,h0⟩ | ⟨g,cap,cur,e,-⟩
               · exact ⟨none,0,by rw [e,h0]⟩
               · exact ⟨_,_,e⟩
             subst hu
             have hsp:=HSP.out.read
             rw [show n - ps.length=0 by omega,Im.rdS] at hsp
             have HNN:=Lib.hid (HN.out.trans (by rw [hsp]))
             have hTw:=HSP.out.cell
             have HTW:=Lib.hid hTw
             have HY:=Lib.hid (HYF.out wr HSP.out.gr);have HF:=Lib.hid (fun cs=>HFIN.out wr cs HSP.out.gr)
             have HTR:=Lib.hid (trees_of_row (B':=fun b=>T+1 ≤ b) HSP.out.row (by have:=HSP.out.len;omega) HSP.out.subs (fun b hb=>hb.1) (fun g hg=>(HSP.out.row.lt g hg).1))
             have HRR:=Lib.hid HSP.out.rest
             have e1:decide ((ps.length:Int) < n)=false:=by rw [decide_eq_false_iff_not];omega
             have e1':decide (ps.length < n)=false:=by rw [decide_eq_false_iff_not];omega
             clear hsp hTw HSP hin
             unfold Tr.cells at *
             go_wp2_with (first
               | (refine wpList_load_row rfl 27 (.tmp 8) rfl T rfl 27 _ (0,0) _ HTW.out Tryd.underlying27 rfl (by kernel_rfl) ?_)
               | (refine wpList_store_row rfl 27 (.tmp 4) (.tmp 84) rfl w.heap.size _ rfl rfl 27 _ HY.out (by kernel_rfl) (by kernel_rfl) (by simp [Value.oneCell']) ?_)
               | fail)
             refine bodyPost_ret (results_row_one rfl _ _ w.heap.size 27 _ (0,0) _ (.bool true) rfl rfl (heap_setRow HY.out) Tryd.underlying27 rfl (by kernel_rfl)) rfl ⟨HF.out _, ?_⟩
             rw [HNN.out]
             refine ⟨⟨.slice pu ps.length cu,rfl, ?_⟩,HRR.out.other (heap_setRow_other _ _ _ (by omega))⟩
             rw [List.append_nil]
             exact (HTR.out.keep (w':=wr.setRow w.heap.size _) fun b _ hb=>heap_setRow_other _ _ _ (by omega)).mono fun b _ hb=>by omega
end Go.Proofs.YtnfgalgifgfojaaDoor
namespace Go.Proofs.YtnfgalgifgfojaaDoor
namespace Im
theorem numB_ne (n:Nat):numB n ≠ []:=by
 by_cases h:n < 128
 · rw [numB_small h];simp
 · rw [numB_big h];simp
theorem valB_numB (n:Nat):valB (numB n)=n:=by
 induction n using Nat.strongRecOn with
 | _ n ih =>
   by_cases h:n < 128
   · rw [numB_small h,valB,valB,UInt8.toNat_ofNat'];omega
   · rw [numB_big h,valB,ih (n / 128) (by omega),UInt8.toNat_ofNat'];omega
theorem lastB_numB (n:Nat) (r:List UInt8):lastB (numB n ++ r)=some ((numB n).length - 1):=by
 induction n using Nat.strongRecOn with
 | _ n ih =>
   by_cases h:n < 128
   · rw [numB_small h,List.cons_append,lastB,if_pos (by rw [UInt8.toNat_ofNat'];omega)];rfl
   · have hl:0 < (numB (n / 128)).length:=List.length_pos_iff.2 (numB_ne _)
     rw [numB_big h,List.cons_append,lastB,if_neg (by rw [UInt8.toNat_ofNat'];omega),ih (n / 128) (by omega)]
     simp only [List.length_cons,Option.some.injEq];omega
theorem last_numB (n:Nat) (h:1 ≤ n):((numB n).getD ((numB n).length - 1) 0).toNat ≠ 0:=by
 induction n using Nat.strongRecOn with
 | _ n ih =>
   by_cases h2:n < 128
   · rw [numB_small h2]
     show (UInt8.ofNat n).toNat ≠ 0
     rw [UInt8.toNat_ofNat'];omega
   · have hl:0 < (numB (n / 128)).length:=List.length_pos_iff.2 (numB_ne _)
     have:=ih (n / 128) (by omega) (by omega)
     rw [numB_big h2,List.length_cons]
     obtain ⟨m,hm⟩:∃ m,(numB (n / 128)).length=m+1:=⟨(numB (n / 128)).length - 1,by omega⟩
     rw [hm] at this ⊢
     simpa using this
theorem rdNum_numB (n:Nat) (hn:n ≤ 2147483647) (r:List UInt8):rdNum (numB n ++ r)=some (n,r):=by
 have hl:0 < (numB n).length:=List.length_pos_iff.2 (numB_ne _)
 have ht:(numB n ++ r).take ((numB n).length - 1+1)=numB n:=by rw [show (numB n).length - 1+1=(numB n).length by omega];exact List.take_left
 have hd:(numB n ++ r).drop ((numB n).length - 1+1)=r:=by rw [show (numB n).length - 1+1=(numB n).length by omega];exact List.drop_left
 have hg:(numB n ++ r).getD ((numB n).length - 1) 0=(numB n).getD ((numB n).length - 1) 0:=by simp [List.getD,List.getElem?_append_left (show (numB n).length - 1 < (numB n).length by omega)]
 unfold rdNum
 rw [lastB_numB]
 simp only [ht,hd,hg,valB_numB]
 rw [if_neg,if_neg (by omega)]
 rintro ⟨h1,h2⟩
 have h128:¬ n < 128:=fun h=>by rw [numB_small h] at h1;simp at h1
 exact last_numB n (by omega) h2
theorem numB_valB:∀ (l:List UInt8) (k:Nat),lastB l=some k→(0 < k→(l.getD k 0).toNat ≠ 0)→numB (valB (l.take (k+1)))=l.take (k+1)∧((l.getD k 0).toNat ≠ 0→1 ≤ valB (l.take (k+1)))
 | [],k,h,_=>by simp [lastB] at h
 | b :: l,k,h,hz=>by
   have hb:=b.toNat_lt
   rw [lastB] at h
   split at h
   · rename_i hs
     obtain rfl:0=k:=Option.some.inj h
     have e:UInt8.ofNat b.toNat=b:=by apply UInt8.toNat_inj.1;rw [UInt8.toNat_ofNat'];omega
     rw [show (b :: l).take (0+1)=[b] from rfl,valB,valB,Nat.mul_zero,Nat.add_zero,Nat.mod_eq_of_lt hs,numB_small hs,e]
     exact ⟨rfl,fun h=>by simp at h;omega⟩
   · rename_i hs
     split at h
     · rename_i k' hk
       obtain rfl:k'+1=k:=Option.some.inj h
       have hz':(l.getD k' 0).toNat ≠ 0:=by have:=hz (by omega);simpa using this
       obtain ⟨h1,h2⟩:=numB_valB l k' hk (fun _=>hz')
       have h3:=h2 hz'
       have e:UInt8.ofNat (128+b.toNat % 128)=b:=by apply UInt8.toNat_inj.1;rw [UInt8.toNat_ofNat'];omega
       rw [List.take_succ_cons,valB]
       have hm:(b.toNat % 128+128 * valB (l.take (k'+1))) % 128=b.toNat % 128:=by omega
       have hd:(b.toNat % 128+128 * valB (l.take (k'+1))) / 128=valB (l.take (k'+1)):=by omega
       refine ⟨?_,fun _=>by omega⟩
       rw [numB_big (by omega),hm,hd,e,h1]
     · cases h
theorem rdNum_back {l:List UInt8} {n:Nat} {r:List UInt8} (h:rdNum l=some (n,r)):l=numB n ++ r:=by
 unfold rdNum at h
 split at h
 · cases h
 · rename_i k hk
   split at h
   · cases h
   · rename_i hz
     split at h
     · cases h
     · simp only [Option.some.injEq,Prod.mk.injEq] at h
       obtain ⟨rfl,rfl⟩:=h
       rw [(numB_valB l k hk (fun h0 h1=>hz ⟨h0,h1⟩)).1,List.take_append_drop]
theorem valW_wordB (x:BitVec 64):∀ k,valW (wordB x k)=x.toNat % 256 ^ k
 | 0=>by simp [wordB,valW];omega
 | k+1=>by
   rw [wordB_succ,valW_snoc,valW_wordB x k,wordB_len,UInt8.toNat_ofNat',Nat.mod_mod,Nat.pow_succ,Nat.mod_mul]
   rw [Nat.mul_comm (x.toNat / 256 ^ k % 256)]
theorem ofNat_wordB (x:BitVec 64):BitVec.ofNat 64 (valW (wordB x 8))=x:=by
 apply BitVec.eq_of_toNat_eq
 rw [valW_wordB,BitVec.toNat_ofNat]
 have:=x.isLt
 omega
theorem setB_drop (a b c d:BitVec 64) (r:List UInt8):(setB a b c d 4 ++ r).drop 32=r∧32 ≤ (setB a b c d 4 ++ r).length:=by
 have hl:=setB_len a b c d 4
 exact ⟨by rw [List.drop_append_of_le_length (by omega),List.drop_eq_nil_of_le (by omega)];simp,by rw [List.length_append];omega⟩
theorem wordOf_setB (a b c d:BitVec 64) (r:List UInt8) (i:Nat) (hi:i < 4):wordOf (setB a b c d 4 ++ r) i=wd a b c d i:=by
 have h0:=wordB_len (wd a b c d 0) 8;have h1:=wordB_len (wd a b c d 1) 8;have h2:=wordB_len (wd a b c d 2) 8;have h3:=wordB_len (wd a b c d 3) 8
 have e:setB a b c d 4 ++ r=wordB (wd a b c d 0) 8 ++ (wordB (wd a b c d 1) 8 ++ (wordB (wd a b c d 2) 8 ++ (wordB (wd a b c d 3) 8 ++ r))):=by simp [setB,List.append_assoc]
 unfold wordOf
 rw [e]
 have d8:∀ (x y:List UInt8) (n:Nat),x.length=8→(x ++ y).drop (8+n)=y.drop n:=fun x y n hx=>by
   have h8:(x ++ y).drop 8=y:=by rw [List.drop_append_of_le_length (by omega),List.drop_eq_nil_of_le (show x.length ≤ 8 by omega),List.nil_append]
   rw [← List.drop_drop,h8]
 have t8:∀ (x y:List UInt8),x.length=8→(x ++ y).take 8=x:=fun x y hx=>by rw [List.take_append_of_le_length (by omega),List.take_of_length_le (by omega)]
 rcases (show i=0 ∨ i=1 ∨ i=2 ∨ i=3 by omega) with rfl | rfl | rfl | rfl
 · rw [show 8 * 0=0 from rfl,List.drop_zero,t8 _ _ h0,ofNat_wordB]
 · rw [show 8 * 1=8+0 from rfl,d8 _ _ _ h0,List.drop_zero,t8 _ _ h1,ofNat_wordB]
 · rw [show 8 * 2=8+(8+0) from rfl,d8 _ _ _ h0,d8 _ _ _ h1,List.drop_zero,t8 _ _ h2,ofNat_wordB]
 · rw [show 8 * 3=8+(8+(8+0)) from rfl,d8 _ _ _ h0,d8 _ _ _ h1,d8 _ _ _ h2,List.drop_zero,t8 _ _ h3,ofNat_wordB]
theorem wordB_valW:∀ (k:Nat) (l:List UInt8),l.length=k→k ≤ 8→wordB (BitVec.ofNat 64 (valW l)) k=l:=by
 intro k
 induction k with
 | zero=>intro l h _;rw [List.length_eq_zero_iff.1 h];rfl
 | succ k ih =>
   intro l h hk
   obtain ⟨m,b,rfl⟩:∃ m b,l=m ++ [b]:=⟨l.dropLast,l.getLast (by intro e;rw [e] at h;simp at h),(List.dropLast_concat_getLast _).symm⟩
   have hm:m.length=k:=by simpa using h
   have hv:=valW_lt m
   rw [hm] at hv
   have hb:=b.toNat_lt
   have h256:(256:Nat) ^ (k+1) ≤ 2 ^ 64:=by
     rw [show (256:Nat)=2 ^ 8 from rfl,← Nat.pow_mul];exact Nat.pow_le_pow_right (by omega) (by omega)
   have hp:0 < 256 ^ k:=Nat.pow_pos (by omega)
   have htot:valW m+b.toNat * 256 ^ k < 256 ^ (k+1):=by
     rw [Nat.pow_succ]
     have:b.toNat * 256 ^ k ≤ 255 * 256 ^ k:=Nat.mul_le_mul_right _ (by omega)
     omega
   have e1:(BitVec.ofNat 64 (valW (m ++ [b]))).toNat=valW m+b.toNat * 256 ^ k:=by
     rw [valW_snoc,hm,BitVec.toNat_ofNat,Nat.mod_eq_of_lt (by omega)]
   have e2:(valW m+b.toNat * 256 ^ k) / 256 ^ k=b.toNat:=by rw [Nat.add_mul_div_right _ _ hp,Nat.div_eq_of_lt hv,Nat.zero_add]
   have e3:wordB (BitVec.ofNat 64 (valW (m ++ [b]))) k=wordB (BitVec.ofNat 64 (valW m)) k:=by
     unfold wordB
     refine List.map_congr_left fun j hj=>?_
     have hjk:j < k:=List.mem_range.1 hj
     rw [e1,BitVec.toNat_ofNat,Nat.mod_eq_of_lt (show valW m < 2 ^ 64 by omega)]
     congr 1
     obtain ⟨i,hi⟩:∃ i,k=j+1+i:=⟨k - (j+1),by omega⟩
     rw [show b.toNat * 256 ^ k=256 ^ j * (256 * (256 ^ i * b.toNat)) by rw [hi,Nat.pow_add,Nat.pow_succ];simp only [Nat.mul_comm,Nat.mul_left_comm,Nat.mul_assoc]]
     rw [Nat.add_mul_div_left _ _ (Nat.pow_pos (by omega)),Nat.add_mul_mod_self_left]
   rw [wordB_succ,e3,ih m hm (by omega),e1,e2,Nat.mod_eq_of_lt (by omega)]
   congr 1
   simp
theorem setB_wordOf (l:List UInt8) (h:32 ≤ l.length):setB (wordOf l 0) (wordOf l 1) (wordOf l 2) (wordOf l 3) 4 ++ l.drop 32=l:=by
 have key:∀ i,i < 4→wordB (wordOf l i) 8=(l.drop (8 * i)).take 8:=fun i hi=>wordB_valW 8 _ (by rw [List.length_take,List.length_drop];omega) (by omega)
 have e:setB (wordOf l 0) (wordOf l 1) (wordOf l 2) (wordOf l 3) 4=wordB (wordOf l 0) 8 ++ wordB (wordOf l 1) 8 ++ wordB (wordOf l 2) 8 ++ wordB (wordOf l 3) 8:=by simp [setB,wd]
 rw [e,key 0 (by omega),key 1 (by omega),key 2 (by omega),key 3 (by omega)]
 have step:∀ n,(l.drop n).take 8 ++ l.drop (n+8)=l.drop n:=fun n=>by rw [← List.drop_drop,List.take_append_drop]
 rw [show 8 * 0=0 from rfl,show 8 * 1=8 from rfl,show 8 * 2=16 from rfl,show 8 * 3=24 from rfl,List.append_assoc,List.append_assoc,List.append_assoc]
 have s24:=step 24;have s16:=step 16;have s8:=step 8;have s0:=step 0
 simp only [Nat.reduceAdd] at s24 s16 s8 s0
 rw [s24,s16,s8,s0,List.drop_zero]
end Im
end Go.Proofs.YtnfgalgifgfojaaDoor
namespace Go.Proofs.YtnfgalgifgfojaaDoor
namespace Im
def tailF (k:Int) (a b c d:BitVec 64) (n:Nat) (nu lo hi:Int) (br:Bool):List UInt8 :=
 if k=2 then setB a b c d 4 else if k=5 ∨ k=6 then numB n else if k=7 then numB nu.toNat else if k=8 then numB lo.toNat ++ numB (hi+1).toNat ++ [if br then 1 else 0] else []
def tailB (t:Tr):List UInt8:=tailF t.kind t.w0 t.w1 t.w2 t.w3 t.subs.length t.num t.least t.most t.bare
theorem headB_eq (t:Tr):headB t=UInt8.ofNat t.kind.toNat :: tailB t:=rfl
theorem withSubs_self (t:Tr):withSubs (withSubs t []) t.subs=t:=by cases t;rfl
theorem rdHead_tailB (t:Tr) (hf:t.fieldsOk) (hn:t.subs.length ≤ 2147483647) (r:List UInt8):rdHead t.kind (tailB t ++ r)=some (withSubs t [],t.subs.length,r):=by
 obtain ⟨k,a,b,c,d,s,nu,lo,hi,br⟩:=t
 simp only [Tr.fieldsOk,Tr.kind,Tr.w0,Tr.w1,Tr.w2,Tr.w3,Tr.num,Tr.least,Tr.most,Tr.bare,Tr.subs] at hf hn
 show rdHead k (tailF k a b c d s.length nu lo hi br ++ r)=some (.node k a b c d [] nu lo hi br,s.length,r)
 unfold rdHead tailF
 rcases hf with ⟨hk,rfl,rfl,rfl,rfl,rfl,rfl,rfl,rfl,rfl⟩ | ⟨rfl,rfl,rfl,rfl,rfl,rfl⟩ | ⟨hk,rfl,rfl,rfl,rfl,h2,rfl,rfl,rfl,rfl⟩ | ⟨rfl,rfl,rfl,rfl,rfl,h1,hn1,hn2,rfl,rfl,rfl⟩ | ⟨rfl,rfl,rfl,rfl,rfl,h1,rfl,hl0,hl1,hm,hb⟩
 · rw [if_neg (by omega),if_neg (by omega),if_neg (by omega),if_neg (by omega),if_neg (by omega),if_neg (by omega),if_neg (by omega),if_neg (by omega)];rfl
 · obtain ⟨h3,h4⟩:=setB_drop a b c d r
   rw [if_pos rfl,if_pos rfl,if_pos h4,h3,wordOf_setB a b c d r 0 (by omega),wordOf_setB a b c d r 1 (by omega),wordOf_setB a b c d r 2 (by omega),wordOf_setB a b c d r 3 (by omega)]
   rfl
 · rw [if_neg (by omega),if_pos hk,if_neg (by omega),if_pos hk,rdNum_numB _ hn]
 · rw [if_neg (by decide),if_neg (by decide),if_pos rfl,if_neg (by decide),if_neg (by decide),if_pos rfl,rdNum_numB _ (by omega),h1]
   simp only [Option.some.injEq,Prod.mk.injEq,and_true]
   rw [show ((nu.toNat:Nat):Int)=nu by omega]
 · rw [if_neg (by decide),if_neg (by decide),if_neg (by decide),if_pos rfl,if_neg (by decide),if_neg (by decide),if_neg (by decide),if_pos rfl]
   have hR:rdRep (numB lo.toNat ++ numB (hi+1).toNat ++ [if br=true then 1 else 0] ++ r)=some (lo,hi,br,r):=by
     unfold rdRep
     rw [List.append_assoc,List.append_assoc,rdNum_numB _ (by omega)]
     simp only
     rw [rdNum_numB _ (by omega)]
     simp only [List.cons_append,List.nil_append,rdBare]
     rw [show ((lo.toNat:Nat):Int)=lo by omega,show (((hi+1).toNat:Nat):Int) - 1=hi by omega]
     cases br <;> rfl
   rw [hR,h1]
theorem rdS_imS {f:List UInt8→Option (Tr × List UInt8)} : ∀ (l:List Tr) (r:List UInt8),(∀ u,u ∈ l→∀ r,f (imT u ++ r)=some (u,r))→rdS f l.length (imS l ++ r)=some (l,r)
 | [],r,_=>by simp [rdS,imS]
 | t :: l,r,h=>by
   rw [List.length_cons,rdS,imS,List.append_assoc,h t List.mem_cons_self]
   simp only
   rw [rdS_imS l r fun u hu=>h u (List.mem_cons_of_mem _ hu)]
theorem ndT_le_ndS {u:Tr} : ∀ {l:List Tr},u ∈ l→u.ndT ≤ Tr.ndS l
 | [],h=>by cases h
 | t :: l,h=>by
   rw [Tr.ndS]
   rcases List.mem_cons.1 h with rfl | h
   · omega
   · have:=ndT_le_ndS h;omega
theorem rdT_imT (t:Tr):∀ (room:Nat) (r:List UInt8),t.InForm→t.dpT ≤ room→t.ndT ≤ 2147483647→rdT room (imT t ++ r)=some (t,r):=by
 induction t using Tr.rec_subs with
 | h t ih =>
   intro room r hf hd hn
   have hnd:=Tr.ndT_eq t
   have hl:=ndS_len t.subs
   have hdp:1 ≤ t.dpT∧Tr.dpS t.subs+1 ≤ max t.dpT (Tr.dpS t.subs+1)∧(t.subs ≠ []→Tr.dpS t.subs+1 ≤ t.dpT):=by
     have he:t.dpT=if t.subs.length=0 then 1 else Tr.dpS t.subs+(if t.kind=8∧¬ (t.least=0∧(t.most=1 ∨ t.most = -1)) then 2 else 1):=by cases t;rw [Tr.dpT];rfl
     refine ⟨?_,by omega,fun hne=>?_⟩
     · rw [he];split
       · omega
       · split <;> omega
     · have:t.subs.length ≠ 0:=fun h=>hne (List.length_eq_zero_iff.1 h)
       rw [he,if_neg this];split <;> omega
   obtain ⟨m,rfl⟩:∃ m,room=m+1:=⟨room - 1,by omega⟩
   have hk:1 ≤ t.kind∧t.kind ≤ 8:=by
     rcases hf.fields with ⟨h,-⟩ | ⟨h,-⟩ | ⟨h,-⟩ | ⟨h,-⟩ | ⟨h,-⟩ <;> omega
   have hkk:((UInt8.ofNat t.kind.toNat).toNat:Int)=t.kind:=by rw [UInt8.toNat_ofNat'];omega
   rw [imT_eq,headB_eq,List.cons_append,List.cons_append,rdT,hkk,List.append_assoc,rdHead_tailB t hf.fields (by omega)]
   simp only
   rw [rdS_imS t.subs r fun u hu r=>ih u hu m r (hf.sub hu) (by
     have h1:=Tr.dpT_le_dpS hu
     have h2:=hdp.2.2 (by intro e;rw [e] at hu;cases hu)
     omega) (by have:=ndT_le_ndS hu;omega)]
   simp only [withSubs_self]
theorem rdS_back {f:List UInt8→Option (Tr × List UInt8)} (hf:∀ l t r,f l=some (t,r)→t.InForm→l=imT t ++ r):∀ (n:Nat) (l:List UInt8) (ts:List Tr) (r:List UInt8),rdS f n l=some (ts,r)→(∀ u,u ∈ ts→u.InForm)→l=imS ts ++ r∧ts.length=n
 | 0,l,ts,r,h,_=>by
   rw [rdS] at h
   simp only [Option.some.injEq,Prod.mk.injEq] at h
   obtain ⟨rfl,rfl⟩:=h;simp [imS]
 | n+1,l,ts,r,h,hu=>by
   rw [rdS] at h
   split at h
   · cases h
   · rename_i t r1 h1
     split at h
     · cases h
     · rename_i ts' r' h2
       simp only [Option.some.injEq,Prod.mk.injEq] at h
       obtain ⟨rfl,rfl⟩:=h
       have e1:=hf _ _ _ h1 (hu t List.mem_cons_self)
       obtain ⟨e2,e3⟩:=rdS_back hf n r1 ts' r' h2 fun u h=>hu u (List.mem_cons_of_mem _ h)
       exact ⟨by rw [e1,e2,imS,List.append_assoc],by rw [List.length_cons,e3]⟩
theorem rdRep_back {l:List UInt8} {lo hi:Int} {br:Bool} {r:List UInt8} (h:rdRep l=some (lo,hi,br,r)):l=numB lo.toNat ++ numB (hi+1).toNat ++ [if br then 1 else 0] ++ r:=by
 unfold rdRep at h
 split at h
 · cases h
 · rename_i n1 l1 h1
   split at h
   · cases h
   · rename_i n2 l2 h2
     split at h
     · cases h
     · rename_i b l3 h3
       simp only [Option.some.injEq,Prod.mk.injEq] at h
       obtain ⟨rfl,rfl,rfl,rfl⟩:=h
       rw [rdNum_back h1,rdNum_back h2]
       cases l2 with
       | nil=>rw [rdBare] at h3;cases h3
       | cons x l2 =>
         rw [rdBare] at h3
         split at h3
         · cases h3
         · rename_i hx
           simp only [Option.some.injEq,Prod.mk.injEq] at h3
           obtain ⟨rfl,rfl⟩:=h3
           have e:x=if (x.toNat == 1)=true then 1 else 0:=by
             by_cases h1:x.toNat=1
             · rw [if_pos (by simpa using h1)];apply UInt8.toNat_inj.1;rw [h1];rfl
             · rw [if_neg (by simpa using h1)];apply UInt8.toNat_inj.1;show x.toNat=0;omega
           rw [show ((n1:Int)).toNat=n1 by omega,show ((n2:Int) - 1+1).toNat=n2 by omega,← e]
           simp [List.append_assoc]
theorem rdHead_back {k:Int} {l:List UInt8} {h:Tr} {n:Nat} {r:List UInt8} (hh:rdHead k l=some (h,n,r)) (ts:List Tr) (hl:ts.length=n):l=tailB (withSubs h ts) ++ r∧h.kind=k:=by
 unfold rdHead at hh
 split at hh
 · rename_i hk
   subst hk
   split at hh
   · rename_i h32
     simp only [Option.some.injEq,Prod.mk.injEq] at hh
     obtain ⟨rfl,rfl,rfl⟩:=hh
     refine ⟨?_,rfl⟩
     show l=tailF 2 (wordOf l 0) (wordOf l 1) (wordOf l 2) (wordOf l 3) ts.length 0 0 0 false ++ _
     unfold tailF
     rw [if_pos rfl,setB_wordOf l h32]
   · cases hh
 · rename_i hk2
   split at hh
   · rename_i hk5
     split at hh
     · cases hh
     · rename_i h1
       simp only [Option.some.injEq,Prod.mk.injEq] at hh
       obtain ⟨rfl,rfl,rfl⟩:=hh
       refine ⟨?_,rfl⟩
       show l=tailF k 0#64 0#64 0#64 0#64 ts.length 0 0 0 false ++ _
       unfold tailF
       rw [if_neg hk2,if_pos hk5,hl];exact rdNum_back h1
   · rename_i hk5
     split at hh
     · rename_i hk7
       split at hh
       · cases hh
       · rename_i n1 l1 h1
         simp only [Option.some.injEq,Prod.mk.injEq] at hh
         obtain ⟨rfl,rfl,rfl⟩:=hh
         refine ⟨?_,rfl⟩
         show l=tailF k 0#64 0#64 0#64 0#64 ts.length n1 0 0 false ++ _
         unfold tailF
         rw [if_neg hk2,if_neg hk5,if_pos hk7,show ((n1:Int)).toNat=n1 by omega];exact rdNum_back h1
     · rename_i hk7
       split at hh
       · rename_i hk8
         split at hh
         · cases hh
         · rename_i lo hi br l1 h1
           simp only [Option.some.injEq,Prod.mk.injEq] at hh
           obtain ⟨rfl,rfl,rfl⟩:=hh
           refine ⟨?_,rfl⟩
           show l=tailF k 0#64 0#64 0#64 0#64 ts.length 0 lo hi br ++ _
           unfold tailF
           rw [if_neg hk2,if_neg hk5,if_neg hk7,if_pos hk8];exact rdRep_back h1
       · rename_i hk8
         simp only [Option.some.injEq,Prod.mk.injEq] at hh
         obtain ⟨rfl,rfl,rfl⟩:=hh
         refine ⟨?_,rfl⟩
         show l=tailF k 0#64 0#64 0#64 0#64 ts.length 0 0 0 false ++ _
         unfold tailF
         rw [if_neg hk2,if_neg hk5,if_neg hk7,if_neg hk8];rfl
theorem rdT_back:∀ (room:Nat) (l:List UInt8) (t:Tr) (r:List UInt8),rdT room l=some (t,r)→t.InForm→l=imT t ++ r
 | 0,l,t,r,h,_=>by rw [rdT] at h;cases h
 | room+1,[],t,r,h,_=>by rw [rdT] at h;cases h
 | room+1,k :: l,t,r,h,hf=>by
   rw [rdT] at h
   split at h
   · cases h
   · rename_i hd n r1 h1
     split at h
     · cases h
     · rename_i ts r' h2
       simp only [Option.some.injEq,Prod.mk.injEq] at h
       obtain ⟨rfl,rfl⟩:=h
       obtain ⟨e2,e3⟩:=rdS_back (fun l t r=>rdT_back room l t r) n r1 ts r' h2 fun u hu=>hf.sub hu
       obtain ⟨e4,e5⟩:=rdHead_back h1 ts e3
       have e6:UInt8.ofNat (withSubs hd ts).kind.toNat=k:=by
         show UInt8.ofNat hd.kind.toNat=k
         rw [e5]
         apply UInt8.toNat_inj.1
         rw [UInt8.toNat_ofNat']
         have:=k.toNat_lt
         omega
       rw [imT_eq,headB_eq,e6,List.cons_append,List.cons_append,e4,List.append_assoc]
       congr 1
       congr 1
end Im
end Go.Proofs.YtnfgalgifgfojaaDoor
namespace Go.Proofs.YtnfgalgifgfojaaDoor
open Go.RowKit
namespace Im
theorem rdS_dp {f:List UInt8→Option (Tr × List UInt8)} {D:Nat} (hf:∀ l t r,f l=some (t,r)→t.dpT ≤ D):∀ (n:Nat) (l:List UInt8) (ts:List Tr) (r:List UInt8),rdS f n l=some (ts,r)→Tr.dpS ts ≤ D
 | 0,l,ts,r,h=>by
   rw [rdS] at h
   simp only [Option.some.injEq,Prod.mk.injEq] at h
   obtain ⟨rfl,rfl⟩:=h;simp [Tr.dpS]
 | n+1,l,ts,r,h=>by
   rw [rdS] at h
   split at h
   · cases h
   · rename_i t r1 h1
     split at h
     · cases h
     · rename_i ts' r' h2
       simp only [Option.some.injEq,Prod.mk.injEq] at h
       obtain ⟨rfl,rfl⟩:=h
       have a:=hf _ _ _ h1
       have b:=rdS_dp hf n r1 ts' r' h2
       rw [Tr.dpS];omega
theorem rdT_dp:∀ (room:Nat) (l:List UInt8) (t:Tr) (r:List UInt8),rdT room l=some (t,r)→t.dpT ≤ 2 * room
 | 0,l,t,r,h=>by rw [rdT] at h;cases h
 | room+1,[],t,r,h=>by rw [rdT] at h;cases h
 | room+1,k :: l,t,r,h=>by
   rw [rdT] at h
   split at h
   · cases h
   · rename_i hd n r1 h1
     split at h
     · cases h
     · rename_i ts r' h2
       simp only [Option.some.injEq,Prod.mk.injEq] at h
       obtain ⟨rfl,rfl⟩:=h
       have b:=rdS_dp (rdT_dp room) n r1 ts r' h2
       unfold withSubs
       rw [Tr.dpT]
       split
       · omega
       · split <;> omega
def decB (l:List UInt8):Option Tr :=
 if isHead l=true then match rdT 200 (l.drop 5) with
   | some (t,[])=>if t.checkC=0 then some t else none
   | _=>none
 else none
end Im
theorem wpList_load_row_g {P:Program} {ops:Array Oper} {rest:List Oper} {op:Oper} {a:Act} {w:World} {Q:Exit→Act→World→Prop} {j d:Nat} {b:Bool} (hg:op.guard=some (j,b)) (hd:(ops[j]?).bind (·.dst)=some d) (hv:a.tmps.getD d undef=.bool b)
   (ty:TypeId) (x:Operand) (ho:op.op=.load ty x) (g:Nat) (hx:a.eval x=.pointer (some ⟨g,0,none⟩)) (t:TypeId) (cs:Array Value) (fr:Nat × Nat) (ds:TypeDesc) (hgx:w.heap[g]? = some (.cells cs t fr))
   (hu:P.underlying ty=some ds) (hdd:(match ds with | .struct _ | .array _ _=>true | _=>false)=true) (hi:(P.info? ty).map (·.size)=some cs.size)
   (h:wpList P ops Q rest (a.put op.dst (.agg cs)) w):wpList P ops Q (op :: rest) a w :=
 wpList_step fun K hK=>by
   rw [if_pos (by simp [Region.wanted,hg,yielded,hd,Ri.some_of_getD hv])];exact wp_load_row ty x ho g hx t cs fr ds hgx hu hdd hi (hK _ _ h)
theorem head_at (w:World):BsAt (w.alloc (.cells #[.int .u8 84,.int .u8 82,.int .u8 87,.int .u8 76,.int .u8 1] 5 (5,6))) (.slice (some ⟨w.heap.size,0,none⟩) 5 5) Im.head:=by
 have h:=heap_alloc_new w (.cells #[.int .u8 84,.int .u8 82,.int .u8 87,.int .u8 76,.int .u8 1] 5 (5,6))
 refine .inr ⟨w.heap.size,0,5,rfl,by decide,fun j hj=>?_⟩
 have hj5:j < 5:=hj
 unfold World.cell?
 simp only [Nat.zero_add,h]
 rcases (show j=0 ∨ j=1 ∨ j=2 ∨ j=3 ∨ j=4 by omega) with rfl | rfl | rfl | rfl | rfl <;> rfl
def DecEnd (A:Nat→Addr) (l:List UInt8) (w:World) (e:Ending) (w':World):Prop :=
 Below w.heap.size w w'∧match Im.decB l with
   | some t=>∃ s,e=.returned (.tuple #[.agg (t.cells s),.nilIface])∧TreesAt w' (fun b=>w.heap.size ≤ b) s t.subs
   | none=>e=.returned (.tuple #[.agg #[.int .i64 0,.int .u64 0,.int .u64 0,.int .u64 0,.int .u64 0,.slice none 0 0,.int .i64 0,.int .i64 0,.int .i64 0,.bool false],sentV A 17])
theorem decode_any (A:Nat→Addr) (l:List UInt8) (hl:l.length ≤ 140737488351232) (w:World) (hE:Errs w A) (v:Value) (hv:BsAt w v l):Calls Tryd.prog 14 #[v] w (DecEnd A l w):=by
 have HP:=Lib.hid (fun w' (h:Below w.heap.size w w') q hq=>cutprefix_any l hl v q w' (hv.below h) hq)
 have HCK:=Lib.hid (fun t (hd:t.dpT ≤ 1000000) w' (h:Below w.heap.size w w') B v hv=>treecheck_any A t hd w' (hE.below h) B v hv)
 have HE:=Lib.hid hE
 have hcv:∀ w:World,(convert 31 31 (.slice (some ⟨w.heap.size,0,none⟩) 5 5)).run Tryd.prog (w.alloc (.cells #[.int .u8 84,.int .u8 82,.int .u8 87,.int .u8 76,.int .u8 1] 5))=.ok (.slice (some ⟨w.heap.size,0,none⟩) 5 5) (w.alloc (.cells #[.int .u8 84,.int .u8 82,.int .u8 87,.int .u8 76,.int .u8 1] 5 (5,6))) :=
   fun w=>Lib.run_convert_bytes_const w 31 5 #[.int .u8 84,.int .u8 82,.int .u8 87,.int .u8 76,.int .u8 1] 5 5 Tryd.underlying31 Tryd.underlying5
 clear hE hv
 have hb0:∀ o,Below w.heap.size w (w.alloc o):=fun o=>(Below.refl _ _).alloc (Nat.le_refl _) o
 have HB0:=Lib.hid hb0
 clear hb0
 go_enter Tryd.func14,Tryd.ntmps14
 go_upto_region 1 with (fail)
 generalize hW1:World.alloc w _=W1
 have HB1:=Lib.hid (show Below w.heap.size w W1 from hW1 ▸ HB0.out _)
 have Z1:=Lib.hid (show W1.heap[w.heap.size]? = _ from hW1 ▸ heap_alloc_new w _)
 clear hW1
 have HB2:=Lib.hid (HB1.out.alloc HB1.out.size (.cells #[.int .u8 84,.int .u8 82,.int .u8 87,.int .u8 76,.int .u8 1] 5 (5,6)))
 have Z2:=Lib.hid (heap_alloc_lt (o:=.cells #[.int .u8 84,.int .u8 82,.int .u8 87,.int .u8 76,.int .u8 1] 5 (5,6)) Z1.out)
 go_wp2_with fail
 refine (HP.out _ HB2.out _ (head_at _)).mono ?_
 rintro e w1 ⟨⟨v',rfl,hv'⟩,rfl⟩
 generalize hW2:World.alloc W1 _=W2 at *
 have G:=(HE.out 16 (by omega)).1
 have G':w.cell? ⟨16,0,none⟩=some (.iface 101 (.pointer (some (A 16)))):=G
 have HG:=Lib.hid G'
 have hs2:w.heap.size < W2.heap.size:=(Array.getElem?_eq_some_iff.1 Z2.out).1
 have HVV:=Lib.hid hv'
 clear G G' hcv hv' hW2 HP HB0 Z1 HB1
 cases hh:isHead l with
 | false =>
   have HDB:=Lib.hid (show Im.decB l=none by unfold Im.decB;rw [hh];rfl)
   clear hh HVV HCK
   go_upto_region 3 with (fail)
   refine Ri.wp_region_frame (by kernel_rfl) (by kernel_rfl) (by kernel_rfl) (by kernel_rfl)
     (fun L v w'=>Below w.heap.size w w'∧W2.heap.size ≤ w'.heap.size∧(L 2=true→w'.heap[w.heap.size]? = some (.cells #[.int .i64 0,.int .u64 0,.int .u64 0,.int .u64 0,.int .u64 0,.slice none 0 0,.int .i64 0,.int .i64 0,.int .i64 0,.bool false] 27))∧(L 2=false→w'.heap[w.heap.size]? = some (.cells #[.int .i64 0,.int .u64 0,.int .u64 0,.int .u64 0,.int .u64 0,.slice none 0 0,.int .i64 0,.int .i64 0,.int .i64 0,.bool false] 27))∧(L 0=true→v 0=.agg #[.int .i64 0,.int .u64 0,.int .u64 0,.int .u64 0,.int .u64 0,.slice none 0 0,.int .i64 0,.int .i64 0,.int .i64 0,.bool false])∧(L 1=true→v 1=.iface 101 (.pointer (some (A 16))))∧(L 3=true→v 3=.iface 101 (.pointer (some (A 16)))))
     ?_ ?_ ?_
   · exact ⟨HB2.out.drew,Nat.le_refl _,(by simp),(fun _=>Z2.out),by simp,by simp,by simp⟩
   · intro i hi9 L v w9 xa hI hL hd hv ho
     have hi':i=0 ∨ i=1 ∨ i=2 ∨ i=3:=by simp at hi9;omega
     obtain ⟨hb,hz,qn,qo,q0,q1,q3⟩:=hI
     rcases hi' with rfl | rfl | rfl | rfl
     · refine Ri.step_plain rfl rfl (fun K' hK=>?_)
       go_simp
       exact hK _ _ ⟨_,_,rfl,rfl,hb,hz,qn,qo,fun _=>rfl,q1,q3⟩
     · refine Ri.step_plain rfl rfl (fun K' hK=>?_)
       obtain g9:=(hb.cell (p:=⟨16,0,none⟩) (block_lt_of_cell HG.out)).trans HG.out
       go_simp
       exact hK _ _ ⟨_,_,rfl,rfl,hb,hz,qn,qo,q0,fun _=>rfl,q3⟩
     · have l0:L 0=true:=by have:=hd _ rfl;simp [Region.binds] at this;simp [this]
       have f0:=(hv 0 17 rfl l0).trans (q0 l0)
       have e2:xa.tmps.getD 2 undef=.pointer (some ⟨w.heap.size,0,none⟩):=ho 2 (by kernel_rfl)
       refine Ri.step_plain rfl rfl (fun K' hK=>?_)
       refine wp_store_row _ _ _ rfl w.heap.size #[.int .i64 0,.int .u64 0,.int .u64 0,.int .u64 0,.int .u64 0,.slice none 0 0,.int .i64 0,.int .i64 0,.int .i64 0,.bool false] e2 f0 27 _ (qo hL) (by kernel_rfl) (by kernel_rfl) (by simp [Value.oneCell']) ?_
       exact hK _ _ ⟨_,undef,rfl,rfl,below_setRow hb (Nat.le_refl _) _,by simpa using hz,(fun _=>heap_setRow (qo hL)),(fun h=>by cases h),q0,q1,q3⟩
     · have l0:L 1=true:=by have:=hd _ rfl;simp [Region.binds] at this;simp [this]
       have f1:=(hv 1 18 rfl l0).trans (q1 l0)
       refine Ri.step_plain rfl rfl (fun K' hK=>?_)
       go_simp
       exact hK _ _ ⟨_,_,rfl,rfl,hb,hz,qn,qo,q0,q1,fun _=>rfl⟩
   · rintro v w9 ⟨hb,hz,qn,-,-,-,q3⟩
     have zN:=qn rfl;clear qn
     have q3':v 3=.iface 101 (.pointer (some (A 16))):=q3 rfl
     simp only [Ri.frame,List.zipIdx,List.foldl_cons,List.foldl_nil,if_true,List.setIfInBounds_toArray,List.set_cons_zero,List.set_cons_succ,Nat.reduceAdd,q3']
     clear q3 q3'
     generalize v 0=y0;generalize v 1=y1
     have HBw:=Lib.hid hb
     have ZN:=Lib.hid zN
     clear hb zN
     go_wp2
     exact bodyPost_ret (results_row_one rfl _ _ w.heap.size 27 #[.int .i64 0,.int .u64 0,.int .u64 0,.int .u64 0,.int .u64 0,.slice none 0 0,.int .i64 0,.int .i64 0,.int .i64 0,.bool false] (0,0) _ _ rfl rfl ZN.out Tryd.underlying27 rfl (by kernel_rfl)) rfl ⟨HBw.out,by rw [HDB.out];rfl⟩
 | true =>
   have hv2:=HVV.out hh
   have hl5:(l.drop 5).length ≤ 140737488351232:=by rw [List.length_drop];omega
   have HRN:=Lib.hid (show Im.decB l=match Im.rdT 200 (l.drop 5) with
     | some (t,[])=>if t.checkC=0 then some t else none
     | _=>none by unfold Im.decB;rw [if_pos hh])
   obtain ⟨p',c',rfl,-⟩:=hv2.len
   have HV2:=Lib.hid hv2
   have HZR:=Lib.hid (heap_alloc_new W2 (.cells #[.slice none 0 0] 59))
   have HAR:=Lib.hid (show ∀ o cs,Below W2.heap.size W2 ((W2.alloc o).setRow W2.heap.size cs) from fun o cs=>⟨rfl,rfl,rfl,by simp,fun k hk=>(heap_setRow_other _ _ _ (by omega)).trans ((World.grownBy_alloc W2 o none).block k hk (by simp))⟩)
   clear hv2 hh HVV
   generalize l.drop 5=m at *
   go_upto_region 5 with (first
     | (refine wpList_store_row rfl 59 (.tmp 6) (.tmp 20) rfl W2.heap.size #[.slice p' m.length c'] rfl rfl 59 _ HZR.out (by kernel_rfl) (by kernel_rfl) (by simp [Value.oneCell']) ?_)
     | fail)
   generalize hW3:World.setRow _ _ _=W3 at *
   have hb3:Below W2.heap.size W2 W3:=hW3 ▸ HAR.out _ _
   have hr3:RdI W2 W3 W2.heap.size m:=⟨.slice p' m.length c',hW3 ▸ heap_setRow HZR.out,HV2.out⟩
   have hs3:W2.heap.size+1 ≤ W3.heap.size:=by rw [← hW3];simp
   have HB3:=Lib.hid (HB2.out.trans (hb3.mono HB2.out.size))
   have Z3:=Lib.hid ((hb3.block w.heap.size hs2).trans Z2.out)
   have HND:=Lib.hid (node_any W2 W2.heap.size (Nat.le_refl _) 200 m W3 (by omega) hl5 hb3 hr3)
   clear hW3 hb3 hr3 HAR HZR HV2 Z2
   go_wp2_with fail
   refine HND.out.mono ?_
   rintro e w5 ⟨hg5,he5⟩
   have hs5:=hg5.size
   have hbw5:Below w.heap.size w w5:=HB3.out.grown hg5 HB3.out.size (fun k e=>by injection e;omega)
   have HB5:=Lib.hid hbw5
   have Z5:=Lib.hid ((hg5.block w.heap.size (by omega) (by intro e;injection e;omega)).trans Z3.out)
   clear hbw5 hg5 HND HB3 Z3 HB2
   cases hd:Im.rdT 200 m with
   | none =>
     rw [hd] at he5
     subst he5
     have HDB:=Lib.hid (HRN.out.trans (by rw [hd]))
     clear hd HRN HCK
     have HZ7:=Lib.hid (heap_alloc_new w5 (.cells #[.int .i64 0,.int .u64 0,.int .u64 0,.int .u64 0,.int .u64 0,.slice none 0 0,.int .i64 0,.int .i64 0,.int .i64 0,.bool false] 27))
     have HA7:=Lib.hid (show ∀ o cs,Below w5.heap.size w5 ((w5.alloc o).setRow w5.heap.size cs) from fun o cs=>⟨rfl,rfl,rfl,by simp,fun k hk=>(heap_setRow_other _ _ _ (by omega)).trans ((World.grownBy_alloc w5 o none).block k hk (by simp))⟩)
     go_upto_region 6 with (first
       | (refine wpList_store_row rfl 27 (.tmp 7) (.tmp 23) rfl w5.heap.size #[.int .i64 0,.int .u64 0,.int .u64 0,.int .u64 0,.int .u64 0,.slice none 0 0,.int .i64 0,.int .i64 0,.int .i64 0,.bool false] rfl rfl 27 _ HZ7.out (by kernel_rfl) (by kernel_rfl) (by simp [Value.oneCell']) ?_)
       | fail)
     generalize hW7:World.setRow _ _ _=W7 at *
     have hb7:Below w5.heap.size w5 W7:=hW7 ▸ HA7.out _ _
     have HB7:=Lib.hid (HB5.out.trans (hb7.mono HB5.out.size))
     have Z7:=Lib.hid ((hb7.block w.heap.size (by omega)).trans Z5.out)
     have HT7:=Lib.hid (show W7.heap[w5.heap.size]? = some (.cells #[.int .i64 0,.int .u64 0,.int .u64 0,.int .u64 0,.int .u64 0,.slice none 0 0,.int .i64 0,.int .i64 0,.int .i64 0,.bool false] 27) from hW7 ▸ heap_setRow HZ7.out)
     clear hW7 HA7 HZ7 hb7
     go_upto_region 7 with (fail)
     refine Ri.wp_region_frame (by kernel_rfl) (by kernel_rfl) (by kernel_rfl) (by kernel_rfl)
       (fun L v w'=>Below w.heap.size w w'∧W7.heap.size ≤ w'.heap.size∧(L 2=true→w'.heap[w.heap.size]? = some (.cells #[.int .i64 0,.int .u64 0,.int .u64 0,.int .u64 0,.int .u64 0,.slice none 0 0,.int .i64 0,.int .i64 0,.int .i64 0,.bool false] 27))∧(L 2=false→w'.heap[w.heap.size]? = some (.cells #[.int .i64 0,.int .u64 0,.int .u64 0,.int .u64 0,.int .u64 0,.slice none 0 0,.int .i64 0,.int .i64 0,.int .i64 0,.bool false] 27))∧(L 0=true→v 0=.agg #[.int .i64 0,.int .u64 0,.int .u64 0,.int .u64 0,.int .u64 0,.slice none 0 0,.int .i64 0,.int .i64 0,.int .i64 0,.bool false])∧(L 1=true→v 1=.iface 101 (.pointer (some (A 16))))∧(L 3=true→v 3=.iface 101 (.pointer (some (A 16)))))
       ?_ ?_ ?_
     · exact ⟨HB7.out.drew,Nat.le_refl _,(by simp),(fun _=>Z7.out),by simp,by simp,by simp⟩
     · intro i hi9 L v w9 xa hI hL hd hv ho
       have hi':i=0 ∨ i=1 ∨ i=2 ∨ i=3:=by simp at hi9;omega
       obtain ⟨hb,hz,qn,qo,q0,q1,q3⟩:=hI
       rcases hi' with rfl | rfl | rfl | rfl
       · refine Ri.step_plain rfl rfl (fun K' hK=>?_)
         go_simp
         exact hK _ _ ⟨_,_,rfl,rfl,hb,hz,qn,qo,fun _=>rfl,q1,q3⟩
       · refine Ri.step_plain rfl rfl (fun K' hK=>?_)
         obtain g9:=(hb.cell (p:=⟨16,0,none⟩) (block_lt_of_cell HG.out)).trans HG.out
         go_simp
         exact hK _ _ ⟨_,_,rfl,rfl,hb,hz,qn,qo,q0,fun _=>rfl,q3⟩
       · have l0:L 0=true:=by have:=hd _ rfl;simp [Region.binds] at this;simp [this]
         have f0:=(hv 0 38 rfl l0).trans (q0 l0)
         have e2:xa.tmps.getD 2 undef=.pointer (some ⟨w.heap.size,0,none⟩):=ho 2 (by kernel_rfl)
         refine Ri.step_plain rfl rfl (fun K' hK=>?_)
         refine wp_store_row _ _ _ rfl w.heap.size #[.int .i64 0,.int .u64 0,.int .u64 0,.int .u64 0,.int .u64 0,.slice none 0 0,.int .i64 0,.int .i64 0,.int .i64 0,.bool false] e2 f0 27 _ (qo hL) (by kernel_rfl) (by kernel_rfl) (by simp [Value.oneCell']) ?_
         exact hK _ _ ⟨_,undef,rfl,rfl,below_setRow hb (Nat.le_refl _) _,by simpa using hz,(fun _=>heap_setRow (qo hL)),(fun h=>by cases h),q0,q1,q3⟩
       · have l0:L 1=true:=by have:=hd _ rfl;simp [Region.binds] at this;simp [this]
         have f1:=(hv 1 39 rfl l0).trans (q1 l0)
         refine Ri.step_plain rfl rfl (fun K' hK=>?_)
         go_simp
         exact hK _ _ ⟨_,_,rfl,rfl,hb,hz,qn,qo,q0,q1,fun _=>rfl⟩
     · rintro v w9 ⟨hb,hz,qn,-,-,-,q3⟩
       have zN:=qn rfl;clear qn
       have q3':v 3=.iface 101 (.pointer (some (A 16))):=q3 rfl
       simp only [Ri.frame,List.zipIdx,List.foldl_cons,List.foldl_nil,if_true,List.setIfInBounds_toArray,List.set_cons_zero,List.set_cons_succ,Nat.reduceAdd,q3']
       clear q3 q3'
       generalize v 0=y0;generalize v 1=y1
       have HBw:=Lib.hid hb
       have ZN:=Lib.hid zN
       clear hb zN
       go_wp2
       exact bodyPost_ret (results_row_one rfl _ _ w.heap.size 27 #[.int .i64 0,.int .u64 0,.int .u64 0,.int .u64 0,.int .u64 0,.slice none 0 0,.int .i64 0,.int .i64 0,.int .i64 0,.bool false] (0,0) _ _ rfl rfl ZN.out Tryd.underlying27 rfl (by kernel_rfl)) rfl ⟨HBw.out,by rw [HDB.out];rfl⟩
   | some x =>
     obtain ⟨t,r⟩:=x
     rw [hd] at he5
     obtain ⟨⟨s,rfl,hs⟩,hr5⟩:=he5
     obtain ⟨p5,c5,rfl,hlen5⟩:=hs.slice
     have hdp:=Im.rdT_dp 200 m t r hd
     have HTS:=Lib.hid hs
     obtain ⟨vr,hR5,hbr⟩:=hr5
     obtain ⟨pr,cr,rfl,-⟩:=hbr.len
     have HR5:=Lib.hid hR5
     clear hs hR5 hbr
     have HZ7:=Lib.hid (heap_alloc_new w5 (.cells #[.int .i64 0,.int .u64 0,.int .u64 0,.int .u64 0,.int .u64 0,.slice none 0 0,.int .i64 0,.int .i64 0,.int .i64 0,.bool false] 27))
     have HA7:=Lib.hid (show ∀ o cs,Below w5.heap.size w5 ((w5.alloc o).setRow w5.heap.size cs) from fun o cs=>⟨rfl,rfl,rfl,by simp,fun k hk=>(heap_setRow_other _ _ _ (by omega)).trans ((World.grownBy_alloc w5 o none).block k hk (by simp))⟩)
     go_upto_region 6 with (first
       | (refine wpList_store_row rfl 27 (.tmp 7) (.tmp 23) rfl w5.heap.size (t.cells (.slice p5 t.subs.length c5)) rfl rfl 27 _ HZ7.out (by kernel_rfl) (by kernel_rfl) (by simp [Tr.cells,Value.oneCell']) ?_)
       | fail)
     generalize hW7:World.setRow _ _ _=W7 at *
     have hb7:Below w5.heap.size w5 W7:=hW7 ▸ HA7.out _ _
     have HB7:=Lib.hid (HB5.out.trans (hb7.mono HB5.out.size))
     have Z7:=Lib.hid ((hb7.block w.heap.size (by omega)).trans Z5.out)
     have HT7:=Lib.hid (show W7.heap[w5.heap.size]? = some (.cells (t.cells (.slice p5 t.subs.length c5)) 27) from hW7 ▸ heap_setRow HZ7.out)
     have hR7:=(hb7.block W2.heap.size (by omega)).trans HR5.out
     have HTS7:=Lib.hid (HTS.out.later hb7)
     have c0:W7.cell? ⟨W2.heap.size,0,none⟩=some (.slice pr r.length cr):=by simp [World.cell?,hR7]
     clear hW7 HA7 HZ7 hb7 hR7 HTS HR5
     cases r with
     | cons b r =>
       have HDB:=Lib.hid (HRN.out.trans (by rw [hd]))
       have d1:decide ((0:Int) < ((b :: r).length:Int))=true:=decide_eq_true (by simp)
       have d2:decide (0 < (b :: r).length)=true:=decide_eq_true (by simp)
       clear hd HRN HCK
       generalize (b :: r).length=LB at *
       go_upto_region 7 with (fail)
       refine Ri.wp_region_frame (by kernel_rfl) (by kernel_rfl) (by kernel_rfl) (by kernel_rfl)
         (fun L v w'=>Below w.heap.size w w'∧W7.heap.size ≤ w'.heap.size∧(L 2=true→w'.heap[w.heap.size]? = some (.cells #[.int .i64 0,.int .u64 0,.int .u64 0,.int .u64 0,.int .u64 0,.slice none 0 0,.int .i64 0,.int .i64 0,.int .i64 0,.bool false] 27))∧(L 2=false→w'.heap[w.heap.size]? = some (.cells #[.int .i64 0,.int .u64 0,.int .u64 0,.int .u64 0,.int .u64 0,.slice none 0 0,.int .i64 0,.int .i64 0,.int .i64 0,.bool false] 27))∧(L 0=true→v 0=.agg #[.int .i64 0,.int .u64 0,.int .u64 0,.int .u64 0,.int .u64 0,.slice none 0 0,.int .i64 0,.int .i64 0,.int .i64 0,.bool false])∧(L 1=true→v 1=.iface 101 (.pointer (some (A 16))))∧(L 3=true→v 3=.iface 101 (.pointer (some (A 16)))))
         ?_ ?_ ?_
       · exact ⟨HB7.out.drew,Nat.le_refl _,(by simp),(fun _=>Z7.out),by simp,by simp,by simp⟩
       · intro i hi9 L v w9 xa hI hL hd hv ho
         have hi':i=0 ∨ i=1 ∨ i=2 ∨ i=3:=by simp at hi9;omega
         obtain ⟨hb,hz,qn,qo,q0,q1,q3⟩:=hI
         rcases hi' with rfl | rfl | rfl | rfl
         · refine Ri.step_plain rfl rfl (fun K' hK=>?_)
           go_simp
           exact hK _ _ ⟨_,_,rfl,rfl,hb,hz,qn,qo,fun _=>rfl,q1,q3⟩
         · refine Ri.step_plain rfl rfl (fun K' hK=>?_)
           obtain g9:=(hb.cell (p:=⟨16,0,none⟩) (block_lt_of_cell HG.out)).trans HG.out
           go_simp
           exact hK _ _ ⟨_,_,rfl,rfl,hb,hz,qn,qo,q0,fun _=>rfl,q3⟩
         · have l0:L 0=true:=by have:=hd _ rfl;simp [Region.binds] at this;simp [this]
           have f0:=(hv 0 38 rfl l0).trans (q0 l0)
           have e2:xa.tmps.getD 2 undef=.pointer (some ⟨w.heap.size,0,none⟩):=ho 2 (by kernel_rfl)
           refine Ri.step_plain rfl rfl (fun K' hK=>?_)
           refine wp_store_row _ _ _ rfl w.heap.size #[.int .i64 0,.int .u64 0,.int .u64 0,.int .u64 0,.int .u64 0,.slice none 0 0,.int .i64 0,.int .i64 0,.int .i64 0,.bool false] e2 f0 27 _ (qo hL) (by kernel_rfl) (by kernel_rfl) (by simp [Value.oneCell']) ?_
           exact hK _ _ ⟨_,undef,rfl,rfl,below_setRow hb (Nat.le_refl _) _,by simpa using hz,(fun _=>heap_setRow (qo hL)),(fun h=>by cases h),q0,q1,q3⟩
         · have l0:L 1=true:=by have:=hd _ rfl;simp [Region.binds] at this;simp [this]
           have f1:=(hv 1 39 rfl l0).trans (q1 l0)
           refine Ri.step_plain rfl rfl (fun K' hK=>?_)
           go_simp
           exact hK _ _ ⟨_,_,rfl,rfl,hb,hz,qn,qo,q0,q1,fun _=>rfl⟩
       · rintro v w9 ⟨hb,hz,qn,-,-,-,q3⟩
         have zN:=qn rfl;clear qn
         have q3':v 3=.iface 101 (.pointer (some (A 16))):=q3 rfl
         simp only [Ri.frame,List.zipIdx,List.foldl_cons,List.foldl_nil,if_true,List.setIfInBounds_toArray,List.set_cons_zero,List.set_cons_succ,Nat.reduceAdd,q3']
         clear q3 q3'
         generalize v 0=y0;generalize v 1=y1
         have HBw:=Lib.hid hb
         have ZN:=Lib.hid zN
         clear hb zN
         go_wp2
         exact bodyPost_ret (results_row_one rfl _ _ w.heap.size 27 #[.int .i64 0,.int .u64 0,.int .u64 0,.int .u64 0,.int .u64 0,.slice none 0 0,.int .i64 0,.int .i64 0,.int .i64 0,.bool false] (0,0) _ _ rfl rfl ZN.out Tryd.underlying27 rfl (by kernel_rfl)) rfl ⟨HBw.out,by rw [HDB.out];rfl⟩
     | nil =>
       have HDB0:=Lib.hid (HRN.out.trans (by rw [hd]))
       have HCT:=Lib.hid (HCK.out t (by omega) W7 HB7.out _ (.agg (t.cells (.slice p5 t.subs.length c5))) ⟨_,rfl,HTS7.out⟩)
       clear hd HRN HCK
       go_wp2_with (first
         | (refine wpList_load_row_g rfl rfl rfl 27 (.tmp 7) rfl w5.heap.size rfl 27 _ (0,0) _ HT7.out Tryd.underlying27 rfl (by kernel_rfl) ?_)
         | fail)
       refine HCT.out.mono ?_
       rintro e w8 ⟨rfl,hb8⟩
       have hs7:w5.heap.size < W7.heap.size:=(Array.getElem?_eq_some_iff.1 HT7.out).1
       have HB8:=Lib.hid (HB7.out.trans (hb8.mono HB7.out.size))
       have Z8:=Lib.hid (keep_blk hb8 Z7.out);have HT8:=Lib.hid (keep_blk hb8 HT7.out)
       have HTS8:=Lib.hid (HTS7.out.later hb8)
       clear hb8 HB7 Z7 HT7 HTS7 HCT
       by_cases hc:t.checkC=0
       · have HDB:=Lib.hid (HDB0.out.trans (if_pos hc))
         rw [show sentV A t.checkC=.nilIface by unfold sentV;rw [if_pos hc]]
         clear hc HDB0
         go_wp2_with (first
           | (refine wpList_load_row rfl 27 (.tmp 7) rfl w5.heap.size rfl 27 _ (0,0) _ HT8.out Tryd.underlying27 rfl (by kernel_rfl) ?_)
           | (refine wpList_store_row rfl 27 (.tmp 2) (.tmp 40) rfl w.heap.size (t.cells (.slice p5 t.subs.length c5)) rfl rfl 27 _ Z8.out (by kernel_rfl) (by kernel_rfl) (by simp [Tr.cells,Value.oneCell']) ?_)
           | fail)
         refine bodyPost_ret (results_row_one rfl _ _ w.heap.size 27 (t.cells (.slice p5 t.subs.length c5)) (0,0) _ .nilIface rfl rfl (heap_setRow Z8.out) Tryd.underlying27 rfl (by kernel_rfl)) rfl ⟨below_setRow HB8.out (Nat.le_refl _) _, ?_⟩
         rw [HDB.out]
         exact ⟨_,rfl,(HTS8.out.keep (w':=w8.setRow w.heap.size _) fun b _ hb=>heap_setRow_other _ _ _ (by omega)).mono fun b _ hb=>by omega⟩
       · have HDB:=Lib.hid (HDB0.out.trans (if_neg hc))
         rw [show sentV A t.checkC=.iface 101 (.pointer (some (A (t.checkC - 1)))) by unfold sentV;rw [if_neg hc]]
         generalize A (t.checkC - 1)=aa
         clear hc HDB0
         go_upto_region 7 with (fail)
         refine Ri.wp_region_frame (by kernel_rfl) (by kernel_rfl) (by kernel_rfl) (by kernel_rfl)
           (fun L v w'=>Below w.heap.size w w'∧w8.heap.size ≤ w'.heap.size∧(L 2=true→w'.heap[w.heap.size]? = some (.cells #[.int .i64 0,.int .u64 0,.int .u64 0,.int .u64 0,.int .u64 0,.slice none 0 0,.int .i64 0,.int .i64 0,.int .i64 0,.bool false] 27))∧(L 2=false→w'.heap[w.heap.size]? = some (.cells #[.int .i64 0,.int .u64 0,.int .u64 0,.int .u64 0,.int .u64 0,.slice none 0 0,.int .i64 0,.int .i64 0,.int .i64 0,.bool false] 27))∧(L 0=true→v 0=.agg #[.int .i64 0,.int .u64 0,.int .u64 0,.int .u64 0,.int .u64 0,.slice none 0 0,.int .i64 0,.int .i64 0,.int .i64 0,.bool false])∧(L 1=true→v 1=.iface 101 (.pointer (some (A 16))))∧(L 3=true→v 3=.iface 101 (.pointer (some (A 16)))))
           ?_ ?_ ?_
         · exact ⟨HB8.out.drew,Nat.le_refl _,(by simp),(fun _=>Z8.out),by simp,by simp,by simp⟩
         · intro i hi9 L v w9 xa hI hL hd hv ho
           have hi':i=0 ∨ i=1 ∨ i=2 ∨ i=3:=by simp at hi9;omega
           obtain ⟨hb,hz,qn,qo,q0,q1,q3⟩:=hI
           rcases hi' with rfl | rfl | rfl | rfl
           · refine Ri.step_plain rfl rfl (fun K' hK=>?_)
             go_simp
             exact hK _ _ ⟨_,_,rfl,rfl,hb,hz,qn,qo,fun _=>rfl,q1,q3⟩
           · refine Ri.step_plain rfl rfl (fun K' hK=>?_)
             obtain g9:=(hb.cell (p:=⟨16,0,none⟩) (block_lt_of_cell HG.out)).trans HG.out
             go_simp
             exact hK _ _ ⟨_,_,rfl,rfl,hb,hz,qn,qo,q0,fun _=>rfl,q3⟩
           · have l0:L 0=true:=by have:=hd _ rfl;simp [Region.binds] at this;simp [this]
             have f0:=(hv 0 38 rfl l0).trans (q0 l0)
             have e2:xa.tmps.getD 2 undef=.pointer (some ⟨w.heap.size,0,none⟩):=ho 2 (by kernel_rfl)
             refine Ri.step_plain rfl rfl (fun K' hK=>?_)
             refine wp_store_row _ _ _ rfl w.heap.size #[.int .i64 0,.int .u64 0,.int .u64 0,.int .u64 0,.int .u64 0,.slice none 0 0,.int .i64 0,.int .i64 0,.int .i64 0,.bool false] e2 f0 27 _ (qo hL) (by kernel_rfl) (by kernel_rfl) (by simp [Value.oneCell']) ?_
             exact hK _ _ ⟨_,undef,rfl,rfl,below_setRow hb (Nat.le_refl _) _,by simpa using hz,(fun _=>heap_setRow (qo hL)),(fun h=>by cases h),q0,q1,q3⟩
           · have l0:L 1=true:=by have:=hd _ rfl;simp [Region.binds] at this;simp [this]
             have f1:=(hv 1 39 rfl l0).trans (q1 l0)
             refine Ri.step_plain rfl rfl (fun K' hK=>?_)
             go_simp
             exact hK _ _ ⟨_,_,rfl,rfl,hb,hz,qn,qo,q0,q1,fun _=>rfl⟩
         · rintro v w9 ⟨hb,hz,qn,-,-,-,q3⟩
           have zN:=qn rfl;clear qn
           have q3':v 3=.iface 101 (.pointer (some (A 16))):=q3 rfl
           simp only [Ri.frame,List.zipIdx,List.foldl_cons,List.foldl_nil,if_true,List.setIfInBounds_toArray,List.set_cons_zero,List.set_cons_succ,Nat.reduceAdd,q3']
           clear q3 q3'
           generalize v 0=y0;generalize v 1=y1
           have HBw:=Lib.hid hb
           have ZN:=Lib.hid zN
           clear hb zN
           go_wp2
           exact bodyPost_ret (results_row_one rfl _ _ w.heap.size 27 #[.int .i64 0,.int .u64 0,.int .u64 0,.int .u64 0,.int .u64 0,.slice none 0 0,.int .i64 0,.int .i64 0,.int .i64 0,.bool false] (0,0) _ _ rfl rfl ZN.out Tryd.underlying27 rfl (by kernel_rfl)) rfl ⟨HBw.out,by rw [HDB.out];rfl⟩
end Go.Proofs.YtnfgalgifgfojaaDoor
namespace Go.Proofs.YtnfgalgifgfojaaDoor
open Go.RowKit
namespace Im
theorem ndT_le_imT (t:Tr):t.ndT ≤ (imT t).length:=by
 induction t using Tr.rec_subs with
 | h t ih =>
   have hs:∀ l:List Tr,(∀ u,u ∈ l→u.ndT ≤ (imT u).length)→Tr.ndS l ≤ (imS l).length:=by
     intro l
     induction l with
     | nil=>intro _;simp [Tr.ndS]
     | cons a l ih2 =>
       intro h
       have h1:=h a List.mem_cons_self
       have h2:=ih2 fun u hu=>h u (List.mem_cons_of_mem _ hu)
       rw [Tr.ndS,imS,List.length_append];omega
   have:=hs t.subs ih
   rw [Tr.ndT_eq,imT_eq,headB_eq,List.length_append,List.length_cons];omega
theorem decB_some {l:List UInt8} {t:Tr} (h:decB l=some t):l=head ++ imT t∧t.checkC=0∧t.InForm:=by
 unfold decB at h
 split at h
 · rename_i hh
   split at h
   · rename_i t' hd
     split at h
     · rename_i hc
       obtain rfl:t'=t:=Option.some.inj h
       have hf:=(Tr.checkC_zero.1 hc).1
       have e:=rdT_back _ _ _ _ hd hf
       have h5:l.take 5=head:=of_decide_eq_true hh
       refine ⟨?_,hc,hf⟩
       rw [← List.take_append_drop 5 l,h5,e,List.append_nil]
     · cases h
   · cases h
 · cases h
end Im
end Go.Proofs.YtnfgalgifgfojaaDoor
namespace Go.Proofs.YtnfgalgifgfojaaDoor
namespace Im
theorem isHead_head (m:List UInt8):isHead (head ++ m)=true:=decide_eq_true (by simp [head])
theorem drop_head (m:List UInt8):(head ++ m).drop 5=m:=by simp [head]
theorem decB_image {t:Tr} (hc:t.checkC=0) (hn:t.ndT ≤ 2147483647):decB (head ++ imT t)=some t:=by
 obtain ⟨hf,hd,-⟩:=Tr.checkC_zero.1 hc
 have h:=rdT_imT t 200 [] hf hd hn
 rw [List.append_nil] at h
 unfold decB
 rw [if_pos (isHead_head _),drop_head,h]
 exact if_pos hc
theorem decB_longer {t:Tr} (hc:t.checkC=0) (hn:t.ndT ≤ 2147483647) {x:List UInt8} (hx:x ≠ []):decB (head ++ imT t ++ x)=none:=by
 obtain ⟨hf,hd,-⟩:=Tr.checkC_zero.1 hc
 have h:=rdT_imT t 200 x hf hd hn
 unfold decB
 rw [List.append_assoc,if_pos (isHead_head _),drop_head,h]
 cases x with
 | nil=>exact absurd rfl hx
 | cons b x=>rfl
theorem decB_shorter {t:Tr} (hc:t.checkC=0) (hn:t.ndT ≤ 3000) {m r:List UInt8} (h:m ++ r=head ++ imT t) (hr:r ≠ []):decB m=none:=by
 obtain ⟨hf,hd,-⟩:=Tr.checkC_zero.1 hc
 cases hm:decB m with
 | none=>rfl
 | some t' =>
   obtain ⟨e,hc',hf'⟩:=decB_some hm
   obtain ⟨-,hd',-⟩:=Tr.checkC_zero.1 hc'
   rw [e,List.append_assoc] at h
   have h2:=List.append_cancel_left h
   have hl:=congrArg List.length h2
   rw [List.length_append] at hl
   have h1:=ndT_le_imT t'
   have h3:=imT_nd t hf (by omega)
   have r1:=rdT_imT t' 200 r hf' hd' (by omega)
   have r2:=rdT_imT t 200 [] hf hd (by omega)
   rw [h2] at r1
   rw [List.append_nil,r1] at r2
   have:=congrArg Prod.snd (Option.some.inj r2)
   exact absurd this hr
theorem imT_inj {t u:Tr} (ht:t.checkC=0) (hu:u.checkC=0) (hn:t.ndT ≤ 2147483647) (hm:u.ndT ≤ 2147483647) (h:imT t=imT u):t=u:=by
 obtain ⟨hf,hd,-⟩:=Tr.checkC_zero.1 ht
 obtain ⟨hf',hd',-⟩:=Tr.checkC_zero.1 hu
 have r1:=rdT_imT t 200 [] hf hd hn
 have r2:=rdT_imT u 200 [] hf' hd' hm
 rw [h,r2] at r1
 exact (congrArg Prod.fst (Option.some.inj r1)).symm
end Im
end Go.Proofs.YtnfgalgifgfojaaDoor
namespace Go.Proofs.YtnfgalgifgfojaaDoor
open Go.RowKit
def SameT (t:Tr):Prop:=∀ (u:Tr) (w:World) (B C:Nat→Prop) (va vb:Value),NodeV w B va t→NodeV w C vb u→Calls Tryd.prog 18 #[va,vb] w (SameEnd t u w)
theorem equalfunc_of (ts us:List Tr) (ih:∀ t,t ∈ ts→SameT t) (w:World) (B C:Nat→Prop) (va vb:Value) (ha:TreesAt w B va ts) (hb:TreesAt w C vb us) :
   Calls Tryd.prog 30 #[va,vb,.func (.func 18) #[] #[]] w fun e w'=>∃ b:Bool,e=.returned (.bool b)∧(b=true ↔ ts=us)∧Below w.heap.size w w':=by
 obtain ⟨p,cap,rfl,hla⟩:=ha.slice
 obtain ⟨q,cbp,rfl,hlb⟩:=hb.slice
 have IH:=Lib.hid ih;have HSA:=Lib.hid ha;have HSB:=Lib.hid hb
 clear ih ha hb
 by_cases hx:ts.length=us.length
 case neg =>
   have HN:=Lib.hid (show ts ≠ us from fun h=>hx (by rw [h]))
   have e1:((ts.length:Int) != (us.length:Int))=true:=by simp;omega
   have e2:(ts.length != us.length)=true:=by simpa using hx
   have e3:(ts.length == us.length)=false:=by simpa using hx
   clear hx
   go_enter Tryd.func30,Tryd.ntmps30
   go_wp2
   go_ret
   exact ⟨false,rfl,⟨fun h=>(by cases h),fun h=>absurd h HN.out⟩,by go_grown⟩
 have hlen:us.length=ts.length:=hx.symm
 clear hx
 rw [hlen] at HSB hlb ⊢
 go_enter Tryd.func30,Tryd.ntmps30
 go_wp2
 go_loopw [17] (fun iv wr=>∃ m:Nat,iv=.int .i64 m∧m ≤ ts.length∧Hid (∀ j,j < m→ts[j]? = us[j]?)∧Hid (Below w.heap.size w wr)) (fun iv _=>ts.length - (intOf iv).toNat)
 case atStart=>exact ⟨0,rfl,Nat.zero_le _,Lib.hid (fun j hj=>absurd hj (Nat.not_lt_zero _)),Lib.hid (Below.refl _ _)⟩
 case round =>
   obtain ⟨m,rfl,hm,HALL,HB⟩:=hrel
   have wm:IntKind.i64.wrap ((m:Int)+1)=(m:Int)+1:=IntWalk.i64_in _ (by omega)
   by_cases hlt:m < ts.length
   · obtain ⟨x,hx⟩:∃ x,ts[m]? = some x:=⟨_,List.getElem?_eq_getElem hlt⟩
     obtain ⟨y,hy⟩:∃ y,us[m]? = some y:=⟨_,List.getElem?_eq_getElem (by omega)⟩
     obtain ⟨b1,o1,s1,rfl,-,t1,sub1⟩:=HSA.out.get hx
     obtain ⟨b2,o2,s2,rfl,-,t2,sub2⟩:=HSB.out.get hy
     obtain ⟨p1,c1,rfl,hl1⟩:=sub1.slice
     obtain ⟨p2,c2,rfl,hl2⟩:=sub2.slice
     obtain ⟨d0,d1,d2,d3,d4,d5,d6,d7,d8,d9⟩:=t1.keep (HB.out.block _ t1.lt)
     have T2:=Lib.hid t2
     have l2:=t2.lt
     have HS:=Lib.hid (fun w9 (hb:Below w.heap.size w w9)=>IH.out x (List.mem_of_getElem? hx) y w9 B C (.agg (x.cells (.slice p1 x.subs.length c1))) (.agg (y.cells (.slice p2 y.subs.length c2))) ⟨_,rfl,sub1.later hb⟩ ⟨_,rfl,sub2.later hb⟩)
     have HX:=Lib.hid hx;have HY:=Lib.hid hy
     clear t1 t2 sub1 sub2 hx hy
     unfold Tr.cells at HS
     have hwz:=HB.out.size
     have hbx:Below wr.heap.size wr (wr.alloc (.cells #[.int .i64 x.kind,.int .u64 (Oc.U x.w0),.int .u64 (Oc.U x.w1),.int .u64 (Oc.U x.w2),.int .u64 (Oc.U x.w3),.slice p1 x.subs.length c1,.int .i64 x.num,.int .i64 x.least,.int .i64 x.most,.bool x.bare] 27)):=(Below.refl _ _).alloc (Nat.le_refl _) _
     have HB1:=Lib.hid (HB.out.trans (hbx.mono hwz))
     obtain ⟨e0,e1,e2,e3,e4,e5,e6,e7,e8,e9⟩:=T2.out.keep (HB1.out.block _ l2)
     clear hbx
     have HZ:=Lib.hid (heap_alloc_new wr (.cells #[.int .i64 x.kind,.int .u64 (Oc.U x.w0),.int .u64 (Oc.U x.w1),.int .u64 (Oc.U x.w2),.int .u64 (Oc.U x.w3),.slice p1 x.subs.length c1,.int .i64 x.num,.int .i64 x.least,.int .i64 x.most,.bool x.bare] 27))
     go_upto_region 6 with (fail)
     generalize wr.alloc (.cells #[.int .i64 x.kind,.int .u64 (Oc.U x.w0),.int .u64 (Oc.U x.w1),.int .u64 (Oc.U x.w2),.int .u64 (Oc.U x.w3),.slice p1 x.subs.length c1,.int .i64 x.num,.int .i64 x.least,.int .i64 x.most,.bool x.bare] 27)=w1 at *
     clear d0 d1 d2 d3 d4 d5 d6 d7 d8 d9
     have hbn:Below w1.heap.size w1 (w1.alloc (.cells #[.int .i64 y.kind,.int .u64 (Oc.U y.w0),.int .u64 (Oc.U y.w1),.int .u64 (Oc.U y.w2),.int .u64 (Oc.U y.w3),.slice p2 y.subs.length c2,.int .i64 y.num,.int .i64 y.least,.int .i64 y.most,.bool y.bare] 27)):=(Below.refl _ _).alloc (Nat.le_refl _) _
     have HB2:=Lib.hid (HB1.out.trans (hbn.mono HB1.out.size))
     have HZ2:=Lib.hid (keep_blk hbn HZ.out)
     have HY2:=Lib.hid (heap_alloc_new w1 (.cells #[.int .i64 y.kind,.int .u64 (Oc.U y.w0),.int .u64 (Oc.U y.w1),.int .u64 (Oc.U y.w2),.int .u64 (Oc.U y.w3),.slice p2 y.subs.length c2,.int .i64 y.num,.int .i64 y.least,.int .i64 y.most,.bool y.bare] 27))
     clear hbn HZ
     go_upto_region 7 with (fail)
     generalize w1.alloc (.cells #[.int .i64 y.kind,.int .u64 (Oc.U y.w0),.int .u64 (Oc.U y.w1),.int .u64 (Oc.U y.w2),.int .u64 (Oc.U y.w3),.slice p2 y.subs.length c2,.int .i64 y.num,.int .i64 y.least,.int .i64 y.most,.bool y.bare] 27)=w2 at *
     clear e0 e1 e2 e3 e4 e5 e6 e7 e8 e9
     obtain ⟨d0,d1,d2,d3,d4,d5,d6,d7,d8,d9⟩:=allTen HZ2.out
     obtain ⟨e0,e1,e2,e3,e4,e5,e6,e7,e8,e9⟩:=allTen HY2.out
     go_wp2_with fail
     refine (HS.out _ HB2.out).mono ?_
     rintro e w3 ⟨b,rfl,hbe,hb3⟩
     have HB3:=Lib.hid (HB2.out.trans (hb3.mono HB2.out.size))
     have HBE:=Lib.hid hbe
     clear hb3 hbe d0 d1 d2 d3 d4 d5 d6 d7 d8 d9 e0 e1 e2 e3 e4 e5 e6 e7 e8 e9
     cases b with
     | false =>
       go_wp2
       go_ret
       exact ⟨false,rfl,⟨fun h=>(by cases h),fun h=>by
         have h2:=HX.out;rw [h,HY.out] at h2
         have:=HBE.out.2 (Option.some.inj h2).symm
         cases this⟩,HB3.out⟩
     | true =>
       go_wp2
       refine ⟨⟨m+1,by go_num,by omega,Lib.hid ?_,HB3⟩,by simp [intOf];omega⟩
       intro j hj
       by_cases hjm:j=m
       · subst hjm;rw [HX.out,HY.out,HBE.out.1 trivial]
       · exact HALL.out j (by omega)
   · obtain rfl:m=ts.length:=by omega
     go_wp2
     go_ret
     refine ⟨true,rfl,⟨fun _=>?_,fun _=>rfl⟩,HB.out⟩
     refine List.ext_getElem? fun j=>?_
     rcases Nat.lt_or_ge j ts.length with h | h
     · exact HALL.out j h
     · rw [List.getElem?_eq_none h,List.getElem?_eq_none (by omega)]
theorem bne_int {a b:Int} (h:a ≠ b):(a != b)=true:=by simpa using h
theorem treesame_any:∀ t:Tr,SameT t:=by
 intro t
 induction t using Tr.rec_subs with
 | h t ih =>
   intro u w B C va vb ha hb
   obtain ⟨sa,rfl,hsa⟩:=ha
   obtain ⟨sb,rfl,hsb⟩:=hb
   obtain ⟨p,cap,rfl,hla⟩:=hsa.slice
   obtain ⟨q,cbp,rfl,hlb⟩:=hsb.slice
   have he:=eq4
   cases t with | node k a b c d ts n lo hi br =>
   cases u with | node k' a' b' c' d' us n' lo' hi' br' =>
   simp only [Tr.cells,Tr.kind,Tr.w0,Tr.w1,Tr.w2,Tr.w3,Tr.num,Tr.least,Tr.most,Tr.bare,Tr.subs] at *
   have HEQ:=Lib.hid (fun w9 (h9:Below w.heap.size w w9)=>equalfunc_of ts us ih w9 B C _ _ (hsa.later h9) (hsb.later h9))
   clear ih hsa hsb
   by_cases hx:k=k'
   case neg =>
     have HN:=Lib.hid (show Tr.node k a b c d ts n lo hi br ≠ .node k' a' b' c' d' us n' lo' hi' br' from fun h=>by cases h;exact hx rfl)
     have e1:=bne_int hx
     clear hx HEQ
     go_enter Tryd.func18,Tryd.ntmps18
     go_wp2
     go_ret
     exact sameEnd_no HN.out (by go_grown)
   obtain rfl:=hx
   by_cases hx:a=a'∧b=b'∧c=c'∧d=d'
   case neg =>
     have HN:=Lib.hid (show Tr.node k a b c d ts n lo hi br ≠ .node k a' b' c' d' us n' lo' hi' br' from fun h=>by cases h;exact hx ⟨rfl,rfl,rfl,rfl⟩)
     have e2:=U_ne hx
     clear hx HEQ
     go_enter Tryd.func18,Tryd.ntmps18
     go_wp2
     go_ret
     exact sameEnd_no HN.out (by go_grown)
   obtain ⟨rfl,rfl,rfl,rfl⟩:=hx
   by_cases hx:n=n'
   case neg =>
     have HN:=Lib.hid (show Tr.node k a b c d ts n lo hi br ≠ .node k a b c d us n' lo' hi' br' from fun h=>by cases h;exact hx rfl)
     have e1:=bne_int hx
     clear hx HEQ
     go_enter Tryd.func18,Tryd.ntmps18
     go_wp2
     go_ret
     exact sameEnd_no HN.out (by go_grown)
   obtain rfl:=hx
   by_cases hx:lo=lo'
   case neg =>
     have HN:=Lib.hid (show Tr.node k a b c d ts n lo hi br ≠ .node k a b c d us n lo' hi' br' from fun h=>by cases h;exact hx rfl)
     have e1:=bne_int hx
     clear hx HEQ
     go_enter Tryd.func18,Tryd.ntmps18
     go_wp2
     go_ret
     exact sameEnd_no HN.out (by go_grown)
   obtain rfl:=hx
   by_cases hx:hi=hi'
   case neg =>
     have HN:=Lib.hid (show Tr.node k a b c d ts n lo hi br ≠ .node k a b c d us n lo hi' br' from fun h=>by cases h;exact hx rfl)
     have e1:=bne_int hx
     clear hx HEQ
     go_enter Tryd.func18,Tryd.ntmps18
     go_wp2
     go_ret
     exact sameEnd_no HN.out (by go_grown)
   obtain rfl:=hx
   by_cases hx:br=br'
   case neg =>
     have HN:=Lib.hid (show Tr.node k a b c d ts n lo hi br ≠ .node k a b c d us n lo hi br' from fun h=>by cases h;exact hx rfl)
     have hbb:(br=true∧br'=false) ∨ (br=false∧br'=true):=by cases br <;> cases br' <;> simp at hx ⊢
     clear hx HEQ
     rcases hbb with ⟨rfl,rfl⟩ | ⟨rfl,rfl⟩
     all_goals
       go_enter Tryd.func18,Tryd.ntmps18
       go_wp2
       go_ret
       exact sameEnd_no HN.out (by go_grown)
   obtain rfl:=hx
   have hbw:Below w.heap.size w ((w.alloc (.cells #[.int .i64 k,.int .u64 (Oc.U a),.int .u64 (Oc.U b),.int .u64 (Oc.U c),.int .u64 (Oc.U d),.slice p ts.length cap,.int .i64 n,.int .i64 lo,.int .i64 hi,.bool br] 27)).alloc (.cells #[.int .i64 k,.int .u64 (Oc.U a),.int .u64 (Oc.U b),.int .u64 (Oc.U c),.int .u64 (Oc.U d),.slice q us.length cbp,.int .i64 n,.int .i64 lo,.int .i64 hi,.bool br] 27)):=by go_grown
   have HBW:=Lib.hid hbw
   clear hbw
   go_enter Tryd.func18,Tryd.ntmps18
   go_wp2_with fail
   refine (HEQ.out _ HBW.out).mono ?_
   rintro e w3 ⟨b1,rfl,hbe,hb3⟩
   have HB3:=Lib.hid (HBW.out.trans (hb3.mono HBW.out.size));have HBE:=Lib.hid hbe
   clear hb3 hbe
   go_wp2
   go_ret
   refine ⟨b1,rfl,⟨fun h=>by rw [HBE.out.1 h],fun h=>HBE.out.2 (by injection h)⟩,HB3.out⟩
end Go.Proofs.YtnfgalgifgfojaaDoor
namespace Go.Proofs.YtnfgalgifgfojaaDoor
open Go.RowKit
theorem BR.empty (B:Nat) (w:World) (hB:B ≤ w.heap.size):BR B (w.alloc (.cells #[] 5)) (.slice (some ⟨w.heap.size,0,none⟩) 0 0) [] :=
 ⟨rfl,.inr ⟨w.heap.size,0,#[],rfl,hB,heap_alloc_new _ _,Nat.le_refl _,by decide,rfl,rfl⟩⟩
theorem BsAt.arg {w:World} {v:Value} {l:List UInt8} (h:BsAt w v l):∃ p c,v=.slice p l.length c∧(p=none→l.length=0∧c=0)∧∀ ad,p=some ad→∀ j u,(Lib.byteCells l)[j]? = some u→w.cell? (ad.add j)=some u:=by
 rcases h with ⟨rfl,rfl⟩ | ⟨g,o,c,rfl,hc,hr⟩
 · exact ⟨none,0,rfl,fun _=>⟨rfl,rfl⟩,fun ad h=>(by cases h)⟩
 · refine ⟨some ⟨g,o,none⟩,c,rfl,fun h=>(by cases h),fun ad had j u hj=>?_⟩
   obtain rfl:=Option.some.inj had
   have hadd:(⟨g,o,none⟩:Addr).add j=⟨g,o+j,none⟩:=by unfold Addr.add;split <;> simp_all
   have hjl:j < l.length:=by
     have:=(List.getElem?_eq_some_iff.1 hj).1
     rwa [byteCells_len] at this
   rw [byteCells_get hjl] at hj
   rw [hadd,hr j hjl,hj]
theorem imageback_any (A:Nat→Addr) (t u:Tr) (k:Int) (x:List UInt8) (hx:x.length ≤ 1048576) (w:World) (hE:Errs w A) (C:Nat→Prop) (vt vu vx:Value) (hvt:NodeV w C vt t) (hvu:NodeV w C vu u) (hvx:BsAt w vx x) :
   Calls Tryd.prog 5 #[vt,vu,.int .i64 k,vx] w fun e w'=>e=.returned (.bool true)∧Below w.heap.size w w':=by
 have HLI:=Lib.hid (fun w' (h:Below w.heap.size w w')=>imlives_any A w' (hE.below h))
 have HFT:=Lib.hid (fun w' (h:Below w.heap.size w w')=>few_any t 3000 (by omega) w' C vt (hvt.later h))
 have HFU:=Lib.hid (fun w' (h:Below w.heap.size w w')=>few_any u 3000 (by omega) w' C vu (hvu.later h))
 have HEN:=Lib.hid (fun (t:Tr) (hd:t.ndT ≤ 3000) w' (h:Below w.heap.size w w') C' v' (hv':NodeV w' C' v' t)=>encode_any A t (by omega) w' (hE.below h) C' v' hv')
 have HDE:=Lib.hid (fun (l:List UInt8) (hl:l.length ≤ 140737488351232) w' (h:Below w.heap.size w w') v (hv:BsAt w' v l)=>decode_any A l hl w' (hE.below h) v hv)
 have HNU:=Lib.hid (fun c (hc:c < 22) w' (h:Below w.heap.size w w')=>sentV_num A c hc w' (hE.below h))
 have HCK:=Lib.hid (fun t (hd:t.dpT ≤ 1000000) w' (h:Below w.heap.size w w') B v hv=>treecheck_any A t hd w' (hE.below h) B v hv)
 have HVT:=Lib.hid (fun w' (h:Below w.heap.size w w')=>hvt.later h)
 have HVU:=Lib.hid (fun w' (h:Below w.heap.size w w')=>hvu.later h)
 have HVX:=Lib.hid (fun w' (h:Below w.heap.size w w')=>hvx.below h)
 obtain ⟨px,cx,rfl,-⟩:=hvx.len
 obtain ⟨s,rfl,hs⟩:=hvt
 obtain ⟨p,cap,rfl,-⟩:=hs.slice
 obtain ⟨s',rfl,hs'⟩:=hvu
 obtain ⟨p',cap',rfl,-⟩:=hs'.slice
 have Y1:=Lib.hid (heap_alloc_lt (o:=.cells (u.cells (.slice p' u.subs.length cap')) 27) (heap_alloc_new w (.cells (t.cells (.slice p t.subs.length cap)) 27)))
 have Y2':=heap_alloc_new (w.alloc (.cells (t.cells (.slice p t.subs.length cap)) 27)) (.cells (u.cells (.slice p' u.subs.length cap')) 27)
 rw [show (w.alloc (.cells (t.cells (.slice p t.subs.length cap)) 27)).heap.size=w.heap.size+1 by simp] at Y2'
 have Y2:=Lib.hid Y2'
 have HW:=Lib.hid (show Below w.heap.size w ((w.alloc (.cells (t.cells (.slice p t.subs.length cap)) 27)).alloc (.cells (u.cells (.slice p' u.subs.length cap')) 27)) from ((Below.refl _ _).alloc (Nat.le_refl _) _).alloc (by simp) _)
 clear hs hs' hvx hE Y2'
 unfold Tr.cells at *
 go_enter Tryd.func5,Tryd.ntmps5
 go_wp2_with fail
 refine (HLI.out _ HW.out).mono ?_
 rintro e w1 ⟨rfl,hb1⟩
 have Z1:=Lib.hid (keep_blk (hb1.mono (Nat.le_refl _)) Y1.out)
 have X1:=Lib.hid (keep_blk (hb1.mono (Nat.le_refl _)) Y2.out)
 have HB1:=Lib.hid (HW.out.trans (hb1.mono HW.out.size))
 clear hb1 Y1 Y2 HLI HW
 go_wp2_with (first
   | (refine wpList_load_row rfl 27 (.tmp 4) rfl w.heap.size rfl 27 _ (0,0) _ Z1.out Tryd.underlying27 rfl (by kernel_rfl) ?_)
   | fail)
 refine (HFT.out _ HB1.out).mono ?_
 rintro e w2 ⟨rfl,hb2⟩
 have Z2:=Lib.hid (keep_blk hb2 Z1.out);have X2:=Lib.hid (keep_blk hb2 X1.out)
 have HB2:=Lib.hid (HB1.out.trans (hb2.mono HB1.out.size))
 clear hb2 Z1 X1 HB1 HFT
 by_cases hd:t.ndT ≤ 3000
 case neg =>
   have e1:decide (t.ndT ≤ 3000)=false:=decide_eq_false hd
   rw [e1]
   go_wp2
   go_ret
   exact ⟨rfl,HB2.out⟩
 have e1:decide (t.ndT ≤ 3000)=true:=decide_eq_true hd
 rw [e1]
 clear e1
 go_wp2_with (first
   | (refine wpList_load_row_g rfl rfl rfl 27 (.tmp 5) rfl (w.heap.size+1) rfl 27 _ (0,0) _ X2.out Tryd.underlying27 rfl (by kernel_rfl) ?_)
   | fail)
 refine (HFU.out _ HB2.out).mono ?_
 rintro e w3 ⟨rfl,hb3⟩
 have Z3:=Lib.hid (keep_blk hb3 Z2.out);have X3:=Lib.hid (keep_blk hb3 X2.out)
 have HB3:=Lib.hid (HB2.out.trans (hb3.mono HB2.out.size))
 clear hb3 Z2 X2 HB2 HFU
 by_cases hdu:u.ndT ≤ 3000
 case neg =>
   have e1:decide (u.ndT ≤ 3000)=false:=decide_eq_false hdu
   rw [e1]
   go_wp2
   go_ret
   exact ⟨rfl,HB3.out⟩
 have e1:decide (u.ndT ≤ 3000)=true:=decide_eq_true hdu
 rw [e1]
 clear e1
 have HTV3:=Lib.hid (HVT.out _ HB3.out)
 go_wp2_with (first
   | (refine wpList_load_row rfl 27 (.tmp 4) rfl w.heap.size rfl 27 _ (0,0) _ Z3.out Tryd.underlying27 rfl (by kernel_rfl) ?_)
   | fail)
 refine (HEN.out t hd _ HB3.out _ _ HTV3.out).mono ?_
 rintro e w4 ⟨v4,rfl,hr4,hb4⟩
 have Z4:=Lib.hid (keep_blk hb4 Z3.out);have X4:=Lib.hid (keep_blk hb4 X3.out)
 have HB4:=Lib.hid (HB3.out.trans (hb4.mono HB3.out.size))
 have HR4:=Lib.hid hr4
 clear hb4 hr4 Z3 X3 HB3 HTV3
 by_cases hc:t.checkC=0
 case neg =>
   have hr4:=HR4.out
   rw [if_neg hc] at hr4
   obtain ⟨p4,c4,rfl,-⟩:=hr4.slice
   have HTV4:=Lib.hid (HVT.out _ HB4.out)
   have HC4:=Lib.hid (HCK.out t (by have:=Tr.dp_nd t;omega) _ HB4.out _ _ HTV4.out)
   rw [show sentV A t.checkC=.iface 101 (.pointer (some (A (t.checkC - 1)))) by unfold sentV;rw [if_neg hc]] at HC4 ⊢
   generalize A (t.checkC - 1)=aa at *
   clear hr4 HR4 hc HTV4
   go_wp2_with (first
     | (refine wpList_load_row rfl 27 (.tmp 4) rfl w.heap.size rfl 27 _ (0,0) _ Z4.out Tryd.underlying27 rfl (by kernel_rfl) ?_)
     | fail)
   refine HC4.out.mono ?_
   rintro e w5 ⟨rfl,hb5⟩
   have HB5:=Lib.hid (HB4.out.trans (hb5.mono HB4.out.size))
   clear hb5 HC4
   go_wp2
   go_ret
   exact ⟨rfl,HB5.out⟩
 rw [show sentV A t.checkC=.nilIface by unfold sentV;rw [if_pos hc]]
 have hr4:=HR4.out
 rw [if_pos hc] at hr4
 have hdec:=Im.decB_image hc (by omega)
 have hnd:=Im.imT_nd t (Tr.checkC_zero.1 hc).1 (by omega)
 have hLlen:(Im.head ++ Im.imT t).length=5+(Im.imT t).length:=by rw [List.length_append];rfl
 have HLO:=Lib.hid (fun (y:List UInt8) (hy:y ≠ [])=>Im.decB_longer hc (by omega) hy)
 have HSH:=Lib.hid (fun (m r:List UInt8) (h:m ++ r=Im.head ++ Im.imT t) (hr:r ≠ [])=>Im.decB_shorter hc hd h hr)
 have HINJ:=Lib.hid (fun (hu:u.checkC=0) (h:Im.head ++ Im.imT t=Im.head ++ Im.imT u)=>Im.imT_inj hc hu (by omega) (by omega) (List.append_cancel_left h))
 have HTI:=Lib.hid (rfl:Im.head ++ Im.imT t=Im.head ++ Im.imT t)
 generalize hLdef:Im.head ++ Im.imT t=L at hr4 hdec hLlen HLO HSH
 have HLD:=Lib.hid hLdef
 have HBS4:=Lib.hid hr4.reads
 rcases hr4.reads with ⟨-,h0⟩ | ⟨g4,o4,c4,rfl,hcap4,hrd4⟩
 · rw [h0] at hLlen;simp at hLlen
   omega
 obtain ⟨q,hq,hqn⟩:∃ q:Nat,IntKind.u64.wrap k % (L.length:Int)=(q:Int)∧q < L.length:=by
   have hpos:(0:Int) < L.length:=by omega
   have h1:=Int.emod_nonneg (IntKind.u64.wrap k) (Int.ne_of_gt hpos)
   have h2:=Int.emod_lt_of_pos (IntKind.u64.wrap k) hpos
   exact ⟨(IntKind.u64.wrap k % (L.length:Int)).toNat,by omega,by omega⟩
 have HTQ:=Lib.hid (BsAt.take hrd4 (n:=q) (by omega) hcap4)
 have HQN:=Lib.hid (HSH.out (L.take q) (L.drop q) (List.take_append_drop q L) (fun e=>by have:=congrArg List.length e;rw [List.length_drop] at this;simp at this;omega))
 have HQL:=Lib.hid (show (L.take q).length ≤ 140737488351232 by rw [List.length_take];omega)
 have ch:=cut_hi g4 o4 L.length c4 q (by omega)
 clear hrd4 HSH
 have HBR4:=Lib.hid hr4
 have hL1:0 < L.length:=by omega
 have hL2:L.length ≤ 120005:=by omega
 have HD4:=Lib.hid (HDE.out L (by omega) _ HB4.out _ HBS4.out)
 have HDC:=Lib.hid hdec
 clear hr4 HR4 hLdef hdec hnd hLlen HTI
 generalize hLL:L.length=n at *
 have HLN:=Lib.hid hLL
 clear hLL
 go_wp2_with fail
 refine HD4.out.mono ?_
 rintro e w5 ⟨hb5,he5⟩
 rw [HDC.out] at he5
 obtain ⟨s5,rfl,hs5⟩:=he5
 obtain ⟨p5,c5,rfl,-⟩:=hs5.slice
 have Z5:=Lib.hid (keep_blk hb5 Z4.out);have X5:=Lib.hid (keep_blk hb5 X4.out)
 have HB5:=Lib.hid (HB4.out.trans (hb5.mono HB4.out.size))
 have HTS5:=Lib.hid hs5
 have hs45:=hb5.size
 have HBR5:=Lib.hid (HBR4.out.below hb5)
 have HTQ5:=Lib.hid (HTQ.out.below hb5)
 clear HTQ hb5 hs5 Z4 X4 HB4 HD4 HDC HBS4 HBR4
 have HZ6:=Lib.hid (heap_alloc_new w5 (.cells #[.int .i64 0,.int .u64 0,.int .u64 0,.int .u64 0,.int .u64 0,.slice none 0 0,.int .i64 0,.int .i64 0,.int .i64 0,.bool false] 27))
 have HA6:=Lib.hid (show ∀ o cs,Below w5.heap.size w5 ((w5.alloc o).setRow w5.heap.size cs) from fun o cs=>⟨rfl,rfl,rfl,by simp,fun k hk=>(heap_setRow_other _ _ _ (by omega)).trans ((World.grownBy_alloc w5 o none).block k hk (by simp))⟩)
 go_upto_region 9 with (first
   | (refine wpList_store_row rfl 27 (.tmp 11) (.tmp 45) rfl w5.heap.size (t.cells (.slice p5 t.subs.length c5)) rfl rfl 27 _ HZ6.out (by kernel_rfl) (by kernel_rfl) (by simp [Tr.cells,Value.oneCell']) ?_)
   | fail)
 generalize hW6:World.setRow _ _ _=W6 at *
 have hb6:Below w5.heap.size w5 W6:=hW6 ▸ HA6.out _ _
 have HB6:=Lib.hid (HB5.out.trans (hb6.mono HB5.out.size))
 have Z6:=Lib.hid (keep_blk hb6 Z5.out);have X6:=Lib.hid (keep_blk hb6 X5.out)
 have HT6:=Lib.hid (show W6.heap[w5.heap.size]? = some (.cells (t.cells (.slice p5 t.subs.length c5)) 27) from hW6 ▸ heap_setRow HZ6.out)
 have HBR6:=Lib.hid (HBR5.out.below hb6)
 have HTQ6:=Lib.hid (HTQ5.out.below hb6)
 have HSM:=Lib.hid (treesame_any t t W6 _ _ (.agg (t.cells (.slice p5 t.subs.length c5))) _ ⟨_,rfl,HTS5.out.later hb6⟩ (HVT.out W6 HB6.out))
 have n0:((n:Int) == 0)=false:=by rw [beq_eq_false_iff_ne];omega
 clear hW6 hb6 HA6 HZ6 HB5 Z5 X5 HTS5 HBR5
 go_wp2_with (first
   | (refine wpList_load_row_g rfl rfl rfl 27 (.tmp 11) rfl w5.heap.size rfl 27 _ (0,0) _ HT6.out Tryd.underlying27 rfl (by kernel_rfl) ?_)
   | (refine wpList_load_row_g rfl rfl rfl 27 (.tmp 4) rfl w.heap.size rfl 27 _ (0,0) _ Z6.out Tryd.underlying27 rfl (by kernel_rfl) ?_)
   | fail)
 refine HSM.out.mono ?_
 rintro e w7 he7
 obtain ⟨rfl,hb7⟩:=he7.yes rfl
 have Z7:=Lib.hid (keep_blk hb7 Z6.out);have X7:=Lib.hid (keep_blk hb7 X6.out)
 have HB7:=Lib.hid (HB6.out.trans (hb7.mono HB6.out.size))
 have HBR7:=Lib.hid (HBR6.out.below hb7)
 have HTQ7:=Lib.hid (HTQ6.out.below hb7)
 have hw47:w4.heap.size ≤ w7.heap.size:=by have:=hb7.size;have:=(Array.getElem?_eq_some_iff.1 HT6.out).1;omega
 clear hb7 Z6 X6 HT6 HBR6 HSM HB6
 have wn:IntKind.u64.wrap (n:Int)=(n:Int):=by rw [IntKind.wrap_u64];exact Int.emod_eq_of_lt (by omega) (by omega)
 have wq:IntKind.i64.wrap (q:Int)=(q:Int):=IntWalk.i64_in _ (by omega)
 have hqt:(IntKind.u64.wrap k).tmod (n:Int)=(q:Int):=by
   rw [Int.tmod_eq_emod_of_nonneg (by rw [IntKind.wrap_u64];exact Int.emod_nonneg _ (by omega)),hq]
 have wq64:wrap64 (q:Int)=(q:Int):=by unfold wrap64;omega
 go_wp2_with fail
 refine (HDE.out _ HQL.out _ HB7.out _ HTQ7.out).mono ?_
 rintro e w8 ⟨hb8,he8⟩
 rw [HQN.out] at he8
 subst he8
 have Z8:=Lib.hid (keep_blk hb8 Z7.out);have X8:=Lib.hid (keep_blk hb8 X7.out)
 have HB8:=Lib.hid (HB7.out.trans (hb8.mono HB7.out.size))
 have HBR8:=Lib.hid (HBR7.out.below hb8)
 have hw48:w4.heap.size ≤ w8.heap.size:=Nat.le_trans hw47 hb8.size
 clear hb8 Z7 X7 HB7 HBR7 HTQ5 HTQ6 HTQ7 HQL HQN wq wq64 hqt hq hqn ch wn
 have HZ9:=Lib.hid (heap_alloc_new w8 (.cells #[.int .i64 0,.int .u64 0,.int .u64 0,.int .u64 0,.int .u64 0,.slice none 0 0,.int .i64 0,.int .i64 0,.int .i64 0,.bool false] 27))
 have HA9:=Lib.hid (show ∀ o cs,Below w8.heap.size w8 ((w8.alloc o).setRow w8.heap.size cs) from fun o cs=>⟨rfl,rfl,rfl,by simp,fun k hk=>(heap_setRow_other _ _ _ (by omega)).trans ((World.grownBy_alloc w8 o none).block k hk (by simp))⟩)
 go_upto_region 12 with (first
   | (refine wpList_store_row rfl 27 (.tmp 12) (.tmp 71) rfl w8.heap.size #[.int .i64 0,.int .u64 0,.int .u64 0,.int .u64 0,.int .u64 0,.slice none 0 0,.int .i64 0,.int .i64 0,.int .i64 0,.bool false] rfl rfl 27 _ HZ9.out (by kernel_rfl) (by kernel_rfl) (by simp [Value.oneCell']) ?_)
   | fail)
 generalize hW9:World.setRow _ _ _=W9 at *
 have hb9:Below w8.heap.size w8 W9:=hW9 ▸ HA9.out _ _
 have HB9:=Lib.hid (HB8.out.trans (hb9.mono HB8.out.size))
 have Z9:=Lib.hid (keep_blk hb9 Z8.out);have X9:=Lib.hid (keep_blk hb9 X8.out)
 have HBR9:=Lib.hid (HBR8.out.below hb9)
 have hw49:w4.heap.size ≤ W9.heap.size:=Nat.le_trans hw48 hb9.size
 clear hW9 hb9 HA9 HZ9 HB8 Z8 X8 HBR8
 have hba:Below W9.heap.size W9 (W9.alloc (.cells #[] 5)):=(Below.refl _ _).alloc (Nat.le_refl _) _
 have HCB:=Lib.hid (show ∀ ad,some (⟨g4,o4,none⟩:Addr)=some ad→∀ j u,(Lib.byteCells L)[j]? = some u→(W9.alloc (.cells #[] 5)).cell? (ad.add j)=some u by
   obtain ⟨pp,cc,hv,-,hcc⟩:=(HBR9.out.below hba).reads.arg
   injection hv with h1 h2 h3
   subst h1
   exact hcc)
 have HBE:=Lib.hid (BR.empty W9.heap.size W9 (Nat.le_refl _))
 have HBA:=Lib.hid hba
 have HBS:=Lib.hid (show W9.heap.size ≤ (W9.alloc (.cells #[] 5)).heap.size by simp)
 have HLE9:=Lib.hid (show ([]:List UInt8).length+L.length ≤ 140737488355328 by rw [HLN.out];simp;omega)
 have HLE10:=Lib.hid (show L.length+x.length ≤ 140737488355328 by rw [HLN.out];omega)
 clear hba
 go_wp2_with (first
   | (refine wp_appL (w0:=W9) (B:=W9.heap.size) (l:=[]) (m:=L) rfl (.tmp 74) (.tmp 75) rfl (some ⟨g4,o4,none⟩) c4 rfl (by rw [HLN.out];rfl) (fun h=>by cases h) HCB.out HBE.out HBA.out HBS.out HLE9.out ?_
      intro v10 W10 hrow10 hbel10
      rw [List.nil_append] at hrow10
      have HROW10:=Lib.hid hrow10
      obtain ⟨p10,c10,rfl,-⟩:=hrow10.slice
      have HBEL10:=Lib.hid hbel10
      have HX10:=Lib.hid (HVX.out _ (HB9.out.trans (hbel10.mono HB9.out.size)))
      clear hrow10 hbel10 HCB HBE HBA HBS HLE9)
   | (refine wp_appL (w0:=W9) (B:=W9.heap.size) (l:=L) (m:=x) rfl (.tmp 76) (.tmp 77) rfl px cx rfl rfl (fun h=>by
         obtain ⟨pp,cc,hv,hn,-⟩:=HX10.out.arg
         injection hv with h1 h2 h3
         subst h1 h3
         exact hn h) (fun ad h=>by
         obtain ⟨pp,cc,hv,-,hcc⟩:=HX10.out.arg
         injection hv with h1 h2 h3
         subst h1
         exact hcc ad h) HROW10.out HBEL10.out HBEL10.out.size HLE10.out ?_
      intro v11 W11 hrow11 hbel11
      have HROW11:=Lib.hid hrow11
      obtain ⟨p11,c11,rfl,-⟩:=hrow11.slice
      have HBEL11:=Lib.hid hbel11
      clear hrow11 hbel11 HROW10 HBEL10 HX10 HLE10)
   | fail)
 have HB11:=Lib.hid (HB9.out.trans (HBEL11.out.mono HB9.out.size))
 have Z11:=Lib.hid (keep_blk HBEL11.out Z9.out);have X11:=Lib.hid (keep_blk HBEL11.out X9.out)
 have HBR11:=Lib.hid (HBR9.out.below HBEL11.out)
 have HRD11:=Lib.hid (show BsAt W11 (.slice p11 (L.length+x.length) c11) (L ++ x) by have:=HROW11.out.reads;rwa [List.length_append] at this)
 have hw411:w4.heap.size ≤ W11.heap.size:=Nat.le_trans hw49 HBEL11.out.size
 clear HBEL11 HB9 Z9 X9 HBR9 HROW11
 refine (HDE.out (L ++ x) (by rw [List.length_append,HLN.out];omega) W11 HB11.out _ HRD11.out).mono ?_
 rintro e w12 ⟨hb12,he12⟩
 have HB12:=Lib.hid (HB11.out.trans (hb12.mono HB11.out.size))
 have Z12:=Lib.hid (keep_blk hb12 Z11.out);have X12:=Lib.hid (keep_blk hb12 X11.out)
 have HBR12:=Lib.hid (HBR11.out.below hb12)
 have hw412:w4.heap.size ≤ w12.heap.size:=Nat.le_trans hw411 hb12.size
 clear hb12 HRD11 HB11 Z11 X11 HBR11
 have hE12:(∃ p12 c12,e=.returned (.tuple #[.agg (t.cells (.slice p12 t.subs.length c12)),.nilIface])∧((x.length:Int) == 0)=true) ∨ (e=.returned (.tuple #[.agg #[.int .i64 0,.int .u64 0,.int .u64 0,.int .u64 0,.int .u64 0,.slice none 0 0,.int .i64 0,.int .i64 0,.int .i64 0,.bool false],.iface 101 (.pointer (some (A 16)))])∧((x.length:Int) == 0)=false):=by
   by_cases hxe:x=[]
   · refine .inl ?_
     subst hxe
     rw [List.append_nil,← HLD.out,Im.decB_image hc (by omega)] at he12
     obtain ⟨s12,h12,hs12⟩:=he12
     obtain ⟨p12,c12,rfl,-⟩:=hs12.slice
     exact ⟨p12,c12,h12,rfl⟩
   · refine .inr ⟨?_, ?_⟩
     · rw [HLO.out x hxe] at he12
       exact he12
     · rw [beq_eq_false_iff_ne]
       intro h
       exact hxe (List.length_eq_zero_iff.1 (by omega))
 clear he12 HLO
 have HZ13:=Lib.hid (heap_alloc_new w12 (.cells #[.int .i64 0,.int .u64 0,.int .u64 0,.int .u64 0,.int .u64 0,.slice none 0 0,.int .i64 0,.int .i64 0,.int .i64 0,.bool false] 27))
 have HA13:=Lib.hid (show ∀ o cs,Below w12.heap.size w12 ((w12.alloc o).setRow w12.heap.size cs) from fun o cs=>⟨rfl,rfl,rfl,by simp,fun k hk=>(heap_setRow_other _ _ _ (by omega)).trans ((World.grownBy_alloc w12 o none).block k hk (by simp))⟩)
 have HN13:=Lib.hid (HNU.out 17 (by omega))
 rcases hE12 with ⟨p12,c12,rfl,hx0⟩ | ⟨rfl,hx0⟩
 all_goals
   go_upto_region 13 with (first
     | (refine wpList_store_row rfl 27 (.tmp 14) (.tmp 80) rfl w12.heap.size _ rfl rfl 27 _ HZ13.out (by kernel_rfl) (by kernel_rfl) (by simp [Tr.cells,Value.oneCell']) ?_)
     | fail)
   generalize hW13:World.setRow _ _ _=W13 at *
   have hb13:Below w12.heap.size w12 W13:=hW13 ▸ HA13.out _ _
   have HB13:=Lib.hid (HB12.out.trans (hb13.mono HB12.out.size))
   have Z13:=Lib.hid (keep_blk hb13 Z12.out);have X13:=Lib.hid (keep_blk hb13 X12.out)
   have HBR13:=Lib.hid (HBR12.out.below hb13)
   clear hW13 hb13 HA13 HZ13 HB12 Z12 X12 HBR12
   go_wp2_with fail
   refine (HN13.out _ HB13.out).mono ?_
   rintro e w14 ⟨rfl,hb14⟩
   have Z14:=Lib.hid (keep_blk hb14 Z13.out);have X14:=Lib.hid (keep_blk hb14 X13.out)
   have HB14:=Lib.hid (HB13.out.trans (hb14.mono HB13.out.size))
   have HBR14:=Lib.hid (HBR13.out.below hb14)
   clear hb14 HN13 HB13 Z13 X13 HBR13
   go_wp2_with (first
     | (refine wpList_load_row rfl 27 (.tmp 5) rfl (w.heap.size+1) rfl 27 _ (0,0) _ X14.out Tryd.underlying27 rfl (by kernel_rfl) ?_)
     | fail)
   refine (HEN.out u hdu _ HB14.out _ _ (HVU.out _ HB14.out)).mono ?_
   rintro e w15 ⟨v15,rfl,hr15,hb15⟩
   have Z15:=Lib.hid (keep_blk hb15 Z14.out);have X15:=Lib.hid (keep_blk hb15 X14.out)
   have HB15:=Lib.hid (HB14.out.trans (hb15.mono HB14.out.size))
   have HBR15:=Lib.hid (HBR14.out.below hb15)
   have HR15:=Lib.hid hr15
   clear hb15 hr15 Z14 X14 HBR14 HB14
   by_cases hcu:u.checkC=0
   · rw [show sentV A u.checkC=.nilIface by unfold sentV;rw [if_pos hcu]]
     have hr15:=HR15.out
     rw [if_pos hcu] at hr15
     have HSM:=Lib.hid (show ∃ G:Bool,((bx L).toList == (bx (Im.head ++ Im.imT u)).toList)=G∧∀ w9,Below w15.heap.size w15 w9→Calls Tryd.prog 18 #[.agg #[.int .i64 t.kind,.int .u64 (Oc.U t.w0),.int .u64 (Oc.U t.w1),.int .u64 (Oc.U t.w2),.int .u64 (Oc.U t.w3),.slice p t.subs.length cap,.int .i64 t.num,.int .i64 t.least,.int .i64 t.most,.bool t.bare],.agg #[.int .i64 u.kind,.int .u64 (Oc.U u.w0),.int .u64 (Oc.U u.w1),.int .u64 (Oc.U u.w2),.int .u64 (Oc.U u.w3),.slice p' u.subs.length cap',.int .i64 u.num,.int .i64 u.least,.int .i64 u.most,.bool u.bare]] w9 fun e w'=>e=.returned (.bool G)∧Below w9.heap.size w9 w' by
       by_cases htu:t=u
       · refine ⟨true, ?_,fun w9 hb=>?_⟩
         · rw [← HLD.out,htu];simp
         · exact (treesame_any t u w9 _ _ _ _ (HVT.out w9 (HB15.out.trans (hb.mono HB15.out.size))) (HVU.out w9 (HB15.out.trans (hb.mono HB15.out.size)))).mono fun e w' h=>h.yes htu
       · refine ⟨false, ?_,fun w9 hb=>?_⟩
         · rw [← HLD.out,bx_list,bx_list,beq_eq_false_iff_ne]
           exact fun h=>htu (HINJ.out hcu h)
         · exact (treesame_any t u w9 _ _ _ _ (HVT.out w9 (HB15.out.trans (hb.mono HB15.out.size))) (HVU.out w9 (HB15.out.trans (hb.mono HB15.out.size)))).mono fun e w' h=>h.no htu)
     clear HVT HVU HINJ HLD HR15
     generalize Im.head ++ Im.imT u=M at *
     obtain ⟨p15,c15,rfl,-⟩:=hr15.slice
     have HSA:=Lib.hid (fun w9 (hb:Below w15.heap.size w15 w9)=>to_str (HBR15.out.below hb).reads)
     have HSB:=Lib.hid (fun w9 (hb:Below w15.heap.size w15 w9)=>to_str (hr15.below hb).reads)
     clear hr15 HBR15
     obtain ⟨G,hG,hsm⟩:=HSM.out
     clear HSM
     have HSM:=Lib.hid hsm
     clear hsm
     generalize bx L=xs at *
     generalize bx M=ys at *
     go_wp2_with fail
     refine Ri.wp_region_frame (by kernel_rfl) (by kernel_rfl) (by kernel_rfl) (by kernel_rfl)
       (fun L v w'=>Below w15.heap.size w15 w'∧(L 0=true→v 0=.nilIface)∧(L 1=true→v 1=.bool false)∧(L 2=true→v 2=.bool false)∧(L 3=true→v 3=.slice (some ⟨g4,o4,none⟩) n c4)∧(L 4=true→v 4=.string xs)∧(L 5=true→v 5=.slice p15 M.length c15)∧(L 6=true→v 6=.string ys)∧(L 7=true→v 7=.bool G)∧(L 8=true→v 8=.agg #[.int .i64 t.kind,.int .u64 (Oc.U t.w0),.int .u64 (Oc.U t.w1),.int .u64 (Oc.U t.w2),.int .u64 (Oc.U t.w3),.slice p t.subs.length cap,.int .i64 t.num,.int .i64 t.least,.int .i64 t.most,.bool t.bare])∧(L 9=true→v 9=.agg #[.int .i64 u.kind,.int .u64 (Oc.U u.w0),.int .u64 (Oc.U u.w1),.int .u64 (Oc.U u.w2),.int .u64 (Oc.U u.w3),.slice p' u.subs.length cap',.int .i64 u.num,.int .i64 u.least,.int .i64 u.most,.bool u.bare])∧(L 10=true→v 10=.bool G)∧(L 11=true→v 11=.bool true)∧(L 12=true→v 12=.bool true)∧(L 13=true→v 13=.bool true))
       ?_ ?_ ?_
     · exact ⟨(Below.refl _ _).drew,by simp,by simp,by simp,by simp,by simp,by simp,by simp,by simp,by simp,by simp,by simp,by simp,by simp,by simp⟩
     · intro i hi9 L v w9 xa hI hL hd hv ho
       have hi':i=0 ∨ i=1 ∨ i=2 ∨ i=3 ∨ i=4 ∨ i=5 ∨ i=6 ∨ i=7 ∨ i=8 ∨ i=9 ∨ i=10 ∨ i=11 ∨ i=12 ∨ i=13:=by simp at hi9;omega
       obtain ⟨hb,q0,q1,q2,q3,q4,q5,q6,q7,q8,q9,q10,q11,q12,q13⟩:=hI
       rcases hi' with rfl | rfl | rfl | rfl | rfl | rfl | rfl | rfl | rfl | rfl | rfl | rfl | rfl | rfl
       · have e10:xa.tmps.getD 10 undef=.nilIface:=ho 10 (by kernel_rfl)
         refine Ri.step_plain rfl rfl (fun K' hK=>?_)
         go_simp
         exact hK _ _ ⟨_,_,rfl,rfl,hb,fun _=>rfl,q1,q2,q3,q4,q5,q6,q7,q8,q9,q10,q11,q12,q13⟩
       · have l0:L 0=true:=by have:=hd _ rfl;simp [Region.binds] at this;simp [this]
         have f0:=(hv 0 98 rfl l0).trans (q0 l0)
         refine Ri.step_plain rfl rfl (fun K' hK=>?_)
         go_simp
         exact hK _ _ ⟨_,_,rfl,rfl,hb,q0,fun _=>rfl,q2,q3,q4,q5,q6,q7,q8,q9,q10,q11,q12,q13⟩
       · have l0:L 1=true:=by have:=hd _ rfl;simp [Region.binds] at this;simp [this]
         have f1:=(hv 1 99 rfl l0).trans (q1 l0)
         refine Ri.step_plain rfl rfl (fun K' hK=>?_)
         go_simp
         exact hK _ _ ⟨_,_,rfl,rfl,hb,q0,q1,fun _=>rfl,q3,q4,q5,q6,q7,q8,q9,q10,q11,q12,q13⟩
       · have l0:L 2=true:=by have:=hd _ rfl;simp [Region.binds] at this;simp [this]
         have f2:=(hv 2 100 rfl l0).trans (q2 l0)
         have e9:xa.tmps.getD 9 undef=.slice (some ⟨g4,o4,none⟩) n c4:=ho 9 (by kernel_rfl)
         refine Ri.step_wanted (b:=false) rfl rfl rfl f2 (fun K' hK=>?_)
         go_simp
         exact hK _ _ ⟨_,_,rfl,rfl,hb,q0,q1,q2,fun _=>rfl,q4,q5,q6,q7,q8,q9,q10,q11,q12,q13⟩
       · have l0:L 2=true∧L 3=true:=by have:=hd _ rfl;simp [Region.binds] at this;simp [this]
         have f2:=(hv 2 100 rfl l0.1).trans (q2 l0.1)
         have f3:=(hv 3 101 rfl l0.2).trans (q3 l0.2)
         refine Ri.step_wanted (b:=false) rfl rfl rfl f2 (fun K' hK=>?_)
         have cs:=HSA.out w9 hb
         go_simp
         exact hK _ _ ⟨_,_,rfl,rfl,hb,q0,q1,q2,q3,fun _=>rfl,q5,q6,q7,q8,q9,q10,q11,q12,q13⟩
       · have l0:L 2=true:=by have:=hd _ rfl;simp [Region.binds] at this;simp [this]
         have f2:=(hv 2 100 rfl l0).trans (q2 l0)
         have e16:xa.tmps.getD 16 undef=.slice p15 M.length c15:=ho 16 (by kernel_rfl)
         refine Ri.step_wanted (b:=false) rfl rfl rfl f2 (fun K' hK=>?_)
         go_simp
         exact hK _ _ ⟨_,_,rfl,rfl,hb,q0,q1,q2,q3,q4,fun _=>rfl,q6,q7,q8,q9,q10,q11,q12,q13⟩
       · have l0:L 2=true∧L 5=true:=by have:=hd _ rfl;simp [Region.binds] at this;simp [this]
         have f2:=(hv 2 100 rfl l0.1).trans (q2 l0.1)
         have f5:=(hv 5 103 rfl l0.2).trans (q5 l0.2)
         refine Ri.step_wanted (b:=false) rfl rfl rfl f2 (fun K' hK=>?_)
         have cs:=HSB.out w9 hb
         go_simp
         exact hK _ _ ⟨_,_,rfl,rfl,hb,q0,q1,q2,q3,q4,q5,fun _=>rfl,q7,q8,q9,q10,q11,q12,q13⟩
       · have l0:L 2=true∧L 4=true∧L 6=true:=by have:=hd _ rfl;simp [Region.binds] at this;simp [this]
         have f2:=(hv 2 100 rfl l0.1).trans (q2 l0.1)
         have f4:=(hv 4 102 rfl l0.2.1).trans (q4 l0.2.1)
         have f6:=(hv 6 104 rfl l0.2.2).trans (q6 l0.2.2)
         refine Ri.step_wanted (b:=false) rfl rfl rfl f2 (fun K' hK=>?_)
         go_simp
         exact hK _ _ ⟨_,_,rfl,rfl,hb,q0,q1,q2,q3,q4,q5,q6,fun _=>rfl,q8,q9,q10,q11,q12,q13⟩
       · have l0:L 2=true:=by have:=hd _ rfl;simp [Region.binds] at this;simp [this]
         have f2:=(hv 2 100 rfl l0).trans (q2 l0)
         have e4:xa.tmps.getD 4 undef=.pointer (some ⟨w.heap.size,0,none⟩):=ho 4 (by kernel_rfl)
         refine Ri.step_wanted (b:=false) rfl rfl rfl f2 (fun K' hK=>?_)
         refine wp_load_row _ _ rfl _ e4 _ _ _ _ (keep_blk hb Z15.out) Tryd.underlying27 rfl (by kernel_rfl) ?_
         exact hK _ _ ⟨_,_,rfl,rfl,hb,q0,q1,q2,q3,q4,q5,q6,q7,fun _=>rfl,q9,q10,q11,q12,q13⟩
       · have l0:L 2=true:=by have:=hd _ rfl;simp [Region.binds] at this;simp [this]
         have f2:=(hv 2 100 rfl l0).trans (q2 l0)
         have e5:xa.tmps.getD 5 undef=.pointer (some ⟨w.heap.size+1,0,none⟩):=ho 5 (by kernel_rfl)
         refine Ri.step_wanted (b:=false) rfl rfl rfl f2 (fun K' hK=>?_)
         refine wp_load_row _ _ rfl _ e5 _ _ _ _ (keep_blk hb X15.out) Tryd.underlying27 rfl (by kernel_rfl) ?_
         exact hK _ _ ⟨_,_,rfl,rfl,hb,q0,q1,q2,q3,q4,q5,q6,q7,q8,fun _=>rfl,q10,q11,q12,q13⟩
       · have l0:L 2=true∧L 8=true∧L 9=true:=by have:=hd _ rfl;simp [Region.binds] at this;simp [this]
         have f2:=(hv 2 100 rfl l0.1).trans (q2 l0.1)
         have f8:=(hv 8 106 rfl l0.2.1).trans (q8 l0.2.1)
         have f9:=(hv 9 107 rfl l0.2.2).trans (q9 l0.2.2)
         refine Ri.step_wanted (b:=false) rfl rfl rfl f2 (fun K' hK=>?_)
         go_simp
         refine (HSM.out w9 hb).mono ?_
         rintro e w8 ⟨rfl,hb8⟩
         exact hK _ _ ⟨_,_,rfl,rfl,hb.trans (hb8.mono hb.size),q0,q1,q2,q3,q4,q5,q6,q7,q8,q9,fun _=>rfl,q11,q12,q13⟩
       · have l0:L 2=true∧L 7=true∧L 10=true:=by have:=hd _ rfl;simp [Region.binds] at this;simp [this]
         have f2:=(hv 2 100 rfl l0.1).trans (q2 l0.1)
         have f7:=(hv 7 105 rfl l0.2.1).trans (q7 l0.2.1)
         have f10:=(hv 10 108 rfl l0.2.2).trans (q10 l0.2.2)
         refine Ri.step_wanted (b:=false) rfl rfl rfl f2 (fun K' hK=>?_)
         go_simp
         exact hK _ _ ⟨_,_,rfl,rfl,hb,q0,q1,q2,q3,q4,q5,q6,q7,q8,q9,q10,fun _=>rfl,q12,q13⟩
       · have l0:L 2=true∧L 11=true:=by have:=hd _ rfl;simp [Region.binds] at this;simp [this]
         have f2:=(hv 2 100 rfl l0.1).trans (q2 l0.1)
         have f11:=(hv 11 109 rfl l0.2).trans (q11 l0.2)
         refine Ri.step_plain rfl rfl (fun K' hK=>?_)
         go_simp
         exact hK _ _ ⟨_,_,rfl,rfl,hb,q0,q1,q2,q3,q4,q5,q6,q7,q8,q9,q10,q11,fun _=>rfl,q13⟩
       · have l0:L 12=true:=by have:=hd _ rfl;simp [Region.binds] at this;simp [this]
         have f12:=(hv 12 110 rfl l0).trans (q12 l0)
         refine Ri.step_plain rfl rfl (fun K' hK=>?_)
         go_simp
         exact hK _ _ ⟨_,_,rfl,rfl,hb,q0,q1,q2,q3,q4,q5,q6,q7,q8,q9,q10,q11,q12,fun _=>rfl⟩
     · rintro v w9 ⟨hb,-,-,-,-,-,-,-,-,-,-,-,-,-,q13⟩
       have q13':v 13=.bool true:=q13 rfl
       simp only [Ri.frame,List.zipIdx,List.foldl_cons,List.foldl_nil,if_true,List.setIfInBounds_toArray,List.set_cons_zero,List.set_cons_succ,Nat.reduceAdd,q13']
       clear q13 q13'
       generalize v 0=y0;generalize v 1=y1;generalize v 2=y2;generalize v 3=y3;generalize v 4=y4;generalize v 5=y5;generalize v 6=y6;generalize v 7=y7;generalize v 8=y8;generalize v 9=y9;generalize v 10=y10;generalize v 11=y11;generalize v 12=y12
       have HBE:=Lib.hid (HB15.out.trans (hb.mono HB15.out.size))
       clear hb
       go_wp2
       go_ret
       exact ⟨rfl,HBE.out⟩
   · rw [show sentV A u.checkC=.iface 101 (.pointer (some (A (u.checkC - 1)))) by unfold sentV;rw [if_neg hcu]]
     generalize A (u.checkC - 1)=aa at *
     clear HR15 hcu
     go_wp2_with fail
     refine Ri.wp_region_frame (by kernel_rfl) (by kernel_rfl) (by kernel_rfl) (by kernel_rfl)
       (fun L v w'=>Below w15.heap.size w15 w'∧(L 0=true→v 0=.iface 101 (.pointer (some aa)))∧(L 1=true→v 1=.bool true)∧(L 2=true→v 2=.bool true)∧(L 3=true→v 3=undef)∧(L 4=true→v 4=undef)∧(L 5=true→v 5=undef)∧(L 6=true→v 6=undef)∧(L 7=true→v 7=undef)∧(L 8=true→v 8=undef)∧(L 9=true→v 9=undef)∧(L 10=true→v 10=undef)∧(L 11=true→v 11=undef)∧(L 12=true→v 12=.bool true)∧(L 13=true→v 13=.bool true))
       ?_ ?_ ?_
     · exact ⟨(Below.refl _ _).drew,by simp,by simp,by simp,by simp,by simp,by simp,by simp,by simp,by simp,by simp,by simp,by simp,by simp,by simp⟩
     · intro i hi9 L v w9 xa hI hL hd hv ho
       have hi':i=0 ∨ i=1 ∨ i=2 ∨ i=3 ∨ i=4 ∨ i=5 ∨ i=6 ∨ i=7 ∨ i=8 ∨ i=9 ∨ i=10 ∨ i=11 ∨ i=12 ∨ i=13:=by simp at hi9;omega
       obtain ⟨hb,q0,q1,q2,q3,q4,q5,q6,q7,q8,q9,q10,q11,q12,q13⟩:=hI
       rcases hi' with rfl | rfl | rfl | rfl | rfl | rfl | rfl | rfl | rfl | rfl | rfl | rfl | rfl | rfl
       · have e10:xa.tmps.getD 10 undef=.iface 101 (.pointer (some aa)):=ho 10 (by kernel_rfl)
         refine Ri.step_plain rfl rfl (fun K' hK=>?_)
         go_simp
         exact hK _ _ ⟨_,_,rfl,rfl,hb,fun _=>rfl,q1,q2,q3,q4,q5,q6,q7,q8,q9,q10,q11,q12,q13⟩
       · have l0:L 0=true:=by have:=hd _ rfl;simp [Region.binds] at this;simp [this]
         have f0:=(hv 0 98 rfl l0).trans (q0 l0)
         refine Ri.step_plain rfl rfl (fun K' hK=>?_)
         go_simp
         exact hK _ _ ⟨_,_,rfl,rfl,hb,q0,fun _=>rfl,q2,q3,q4,q5,q6,q7,q8,q9,q10,q11,q12,q13⟩
       · have l0:L 1=true:=by have:=hd _ rfl;simp [Region.binds] at this;simp [this]
         have f1:=(hv 1 99 rfl l0).trans (q1 l0)
         refine Ri.step_plain rfl rfl (fun K' hK=>?_)
         go_simp
         exact hK _ _ ⟨_,_,rfl,rfl,hb,q0,q1,fun _=>rfl,q3,q4,q5,q6,q7,q8,q9,q10,q11,q12,q13⟩
       · have l0:L 2=true:=by have:=hd _ rfl;simp [Region.binds] at this;simp [this]
         have f2:=(hv 2 100 rfl l0).trans (q2 l0)
         exact Ri.step_unwanted (b:=true) rfl rfl rfl f2 ⟨_,_,rfl,rfl,hb,q0,q1,q2,fun _=>rfl,q4,q5,q6,q7,q8,q9,q10,q11,q12,q13⟩
       · have l0:L 2=true:=by have:=hd _ rfl;simp [Region.binds] at this;simp [this]
         have f2:=(hv 2 100 rfl l0).trans (q2 l0)
         exact Ri.step_unwanted (b:=true) rfl rfl rfl f2 ⟨_,_,rfl,rfl,hb,q0,q1,q2,q3,fun _=>rfl,q5,q6,q7,q8,q9,q10,q11,q12,q13⟩
       · have l0:L 2=true:=by have:=hd _ rfl;simp [Region.binds] at this;simp [this]
         have f2:=(hv 2 100 rfl l0).trans (q2 l0)
         exact Ri.step_unwanted (b:=true) rfl rfl rfl f2 ⟨_,_,rfl,rfl,hb,q0,q1,q2,q3,q4,fun _=>rfl,q6,q7,q8,q9,q10,q11,q12,q13⟩
       · have l0:L 2=true:=by have:=hd _ rfl;simp [Region.binds] at this;simp [this]
         have f2:=(hv 2 100 rfl l0).trans (q2 l0)
         exact Ri.step_unwanted (b:=true) rfl rfl rfl f2 ⟨_,_,rfl,rfl,hb,q0,q1,q2,q3,q4,q5,fun _=>rfl,q7,q8,q9,q10,q11,q12,q13⟩
       · have l0:L 2=true:=by have:=hd _ rfl;simp [Region.binds] at this;simp [this]
         have f2:=(hv 2 100 rfl l0).trans (q2 l0)
         exact Ri.step_unwanted (b:=true) rfl rfl rfl f2 ⟨_,_,rfl,rfl,hb,q0,q1,q2,q3,q4,q5,q6,fun _=>rfl,q8,q9,q10,q11,q12,q13⟩
       · have l0:L 2=true:=by have:=hd _ rfl;simp [Region.binds] at this;simp [this]
         have f2:=(hv 2 100 rfl l0).trans (q2 l0)
         exact Ri.step_unwanted (b:=true) rfl rfl rfl f2 ⟨_,_,rfl,rfl,hb,q0,q1,q2,q3,q4,q5,q6,q7,fun _=>rfl,q9,q10,q11,q12,q13⟩
       · have l0:L 2=true:=by have:=hd _ rfl;simp [Region.binds] at this;simp [this]
         have f2:=(hv 2 100 rfl l0).trans (q2 l0)
         exact Ri.step_unwanted (b:=true) rfl rfl rfl f2 ⟨_,_,rfl,rfl,hb,q0,q1,q2,q3,q4,q5,q6,q7,q8,fun _=>rfl,q10,q11,q12,q13⟩
       · have l0:L 2=true:=by have:=hd _ rfl;simp [Region.binds] at this;simp [this]
         have f2:=(hv 2 100 rfl l0).trans (q2 l0)
         exact Ri.step_unwanted (b:=true) rfl rfl rfl f2 ⟨_,_,rfl,rfl,hb,q0,q1,q2,q3,q4,q5,q6,q7,q8,q9,fun _=>rfl,q11,q12,q13⟩
       · have l0:L 2=true:=by have:=hd _ rfl;simp [Region.binds] at this;simp [this]
         have f2:=(hv 2 100 rfl l0).trans (q2 l0)
         exact Ri.step_unwanted (b:=true) rfl rfl rfl f2 ⟨_,_,rfl,rfl,hb,q0,q1,q2,q3,q4,q5,q6,q7,q8,q9,q10,fun _=>rfl,q12,q13⟩
       · have l0:L 2=true∧L 11=true:=by have:=hd _ rfl;simp [Region.binds] at this;simp [this]
         have f2:=(hv 2 100 rfl l0.1).trans (q2 l0.1)
         have f11:=(hv 11 109 rfl l0.2).trans (q11 l0.2)
         refine Ri.step_plain rfl rfl (fun K' hK=>?_)
         go_simp
         exact hK _ _ ⟨_,_,rfl,rfl,hb,q0,q1,q2,q3,q4,q5,q6,q7,q8,q9,q10,q11,fun _=>rfl,q13⟩
       · have l0:L 12=true:=by have:=hd _ rfl;simp [Region.binds] at this;simp [this]
         have f12:=(hv 12 110 rfl l0).trans (q12 l0)
         refine Ri.step_plain rfl rfl (fun K' hK=>?_)
         go_simp
         exact hK _ _ ⟨_,_,rfl,rfl,hb,q0,q1,q2,q3,q4,q5,q6,q7,q8,q9,q10,q11,q12,fun _=>rfl⟩
     · rintro v w9 ⟨hb,-,-,-,-,-,-,-,-,-,-,-,-,-,q13⟩
       have q13':v 13=.bool true:=q13 rfl
       simp only [Ri.frame,List.zipIdx,List.foldl_cons,List.foldl_nil,if_true,List.setIfInBounds_toArray,List.set_cons_zero,List.set_cons_succ,Nat.reduceAdd,q13']
       clear q13 q13'
       generalize v 0=y0;generalize v 1=y1;generalize v 2=y2;generalize v 3=y3;generalize v 4=y4;generalize v 5=y5;generalize v 6=y6;generalize v 7=y7;generalize v 8=y8;generalize v 9=y9;generalize v 10=y10;generalize v 11=y11;generalize v 12=y12
       have HBE:=Lib.hid (HB15.out.trans (hb.mono HB15.out.size))
       clear hb
       go_wp2
       go_ret
       exact ⟨rfl,HBE.out⟩
end Go.Proofs.YtnfgalgifgfojaaDoor
namespace Go.Proofs.YtnfgalgifgfojaaDoor
open Go.ChangeShapes Go.WideShapes Go.ChangeAt Go.RowKit
theorem Tryd.cellsSet:Tryd.prog.cellsOf 24=4:=by kernel_rfl
theorem Tryd.cellsU64:Tryd.prog.cellsOf 22=1:=by kernel_rfl
theorem word_of {n:Int} (h:(Lit.int .u64 n).wf=true):∃ x:BitVec 64,n=Oc.U x:=by
 simp only [Lit.wf,IntKind.min,IntKind.max,IntKind.signed,IntKind.bits,Bool.and_eq_true] at h
 refine ⟨BitVec.ofInt 64 n, ?_⟩
 unfold Oc.U;rw [BitVec.toNat_ofInt]
 have h1:=h.1;have h2:=h.2
 simp at h1 h2
 omega
theorem open_words {H:Type} {enc:TypeId × Value→H} {w:World} {base:Nat} {spare:Nat→Bool} {held:Bool} {fuel:Nat} {c0 c1 c2 c3:Value} {x:DataW H × List MemPlace}
   (h:DataW.trod enc Tryd.prog w base spare held fuel 24 [c0,c1,c2,c3]=some x):∃ a b c d:BitVec 64,c0=.int .u64 (Oc.U a)∧c1=.int .u64 (Oc.U b)∧c2=.int .u64 (Oc.U c)∧c3=.int .u64 (Oc.U d):=by
 obtain ⟨y0,y1,y2,y3,n,_,h0,h1,h2,h3⟩:=trod_array4 Tryd.underlying24 Tryd.cellsU64 h
 obtain ⟨n0,e0,-,w0⟩:=DataW.trod_int Tryd.underlying22 h0
 obtain ⟨n1,e1,-,w1⟩:=DataW.trod_int Tryd.underlying22 h1
 obtain ⟨n2,e2,-,w2⟩:=DataW.trod_int Tryd.underlying22 h2
 obtain ⟨n3,e3,-,w3⟩:=DataW.trod_int Tryd.underlying22 h3
 obtain ⟨a,rfl⟩:=word_of w0
 obtain ⟨b,rfl⟩:=word_of w1
 obtain ⟨c,rfl⟩:=word_of w2
 obtain ⟨d,rfl⟩:=word_of w3
 simp only [List.cons.injEq,and_true] at e0 e1 e2 e3
 exact ⟨a,b,c,d,e0,e1,e2,e3⟩
theorem Tryd.own:ownKnob Tryd.prog.godebug=none:=by kernel_rfl
theorem Tryd.laidOut:laidOutB Tryd.prog=true:=by kernel_rfl
end Go.Proofs.YtnfgalgifgfojaaDoor
namespace Go.Proofs.YtnfgalgifgfojaaDoor
open Go.ChangeShapes Go.WideShapes Go.ChangeAt Go.RowKit
theorem Tryd.cellsNodeO:Tryd.prog.cellsOf 27=10:=by kernel_rfl
theorem Tryd.cellsIntO:Tryd.prog.cellsOf 3=1:=by kernel_rfl
theorem Tryd.cellsBoolO:Tryd.prog.cellsOf 4=1:=by kernel_rfl
theorem Tryd.cellsNodesO:Tryd.prog.cellsOf 25=1:=by kernel_rfl
theorem Tryd.bytesNodeO:Tryd.prog.bytesOf 27=96:=by kernel_rfl
theorem list10 {α:Type} {l:List α} (h:l.length=10):∃ a0 a1 a2 a3 a4 a5 a6 a7 a8 a9,l=[a0,a1,a2,a3,a4,a5,a6,a7,a8,a9]:=by
 match l,h with
 | [a0,a1,a2,a3,a4,a5,a6,a7,a8,a9],_=>exact ⟨a0,a1,a2,a3,a4,a5,a6,a7,a8,a9,rfl⟩
theorem list7 {α:Type} {l:List α} (h:l.length=7):∃ a0 a1 a2 a3 a4 a5 a6,l=[a0,a1,a2,a3,a4,a5,a6]:=by
 match l,h with
 | [a0,a1,a2,a3,a4,a5,a6],_=>exact ⟨a0,a1,a2,a3,a4,a5,a6,rfl⟩
theorem weightsAll_mem {H:Type} {P:Program} {e:TypeId} {k:Nat} {d:DataW H} : ∀ {l:List (DataW H)},d ∈ l→k ∈ d.weights P e→k ∈ DataW.weightsAll P e l
 | [],h,_=>by cases h
 | x :: l,h,hk=>by
   rw [DataW.weightsAll]
   rcases List.mem_cons.1 h with rfl | h
   · exact List.mem_append_left _ hk
   · exact List.mem_append_right _ (weightsAll_mem h hk)
theorem add_at {a:Addr} (h:a.spot=none) (m:Nat):a.add m=⟨a.block,a.off+m,none⟩:=by
 unfold Addr.add
 split
 · rename_i h0;subst h0;cases a;simp_all
 · rfl
theorem open_node {H:Type} {enc:TypeId × Value→H} {W:World} {base:Nat} {spare:Nat→Bool} {held:Bool} : ∀ (fuel:Nat) (cs:List Value) (x:DataW H × List MemPlace),
   DataW.trod enc Tryd.prog W base spare held fuel 27 cs=some x→(∀ k,k ∈ x.1.weights Tryd.prog 27→k ≤ 140737488351232) →
   ∃ (t:Tr) (s:Value),cs=(t.cells s).toList∧TreesAt W (fun _=>True) s t.subs:=by
 intro fuel
 induction fuel using Nat.strongRecOn with
 | _ fuel ih =>
   intro cs x h hw
   obtain ⟨xs,n,rfl,rfl,hlen,hxs,hf⟩:=DataW.trod_struct Tryd.underlying27 h
   rw [Tryd.cellsNodeO] at hlen
   obtain ⟨c0,c1,c2,c3,c4,c5,c6,c7,c8,c9,rfl⟩:=list10 hlen
   obtain ⟨y0,y1,y2,y3,y4,y5,y6,rfl⟩:=list7 (by simpa using hxs)
   have f0:=hf 0 _ rfl;have f1:=hf 1 _ rfl;have f2:=hf 2 _ rfl;have f3:=hf 3 _ rfl;have f4:=hf 4 _ rfl;have f5:=hf 5 _ rfl;have f6:=hf 6 _ rfl
   simp only [List.getElem_toArray,List.getElem_cons_zero,List.getElem_cons_succ,Tryd.cellsIntO,Tryd.cellsBoolO,Tryd.cellsNodesO,Tryd.cellsSet,List.drop_zero,List.drop_succ_cons,List.take_succ_cons,List.take_zero,List.getElem?_cons_zero,List.getElem?_cons_succ] at f0 f1 f2 f3 f4 f5 f6
   obtain ⟨k,e0,-,-⟩:=DataW.trod_int Tryd.underlying3 f0
   obtain ⟨a,b,c,d,rfl,rfl,rfl,rfl⟩:=open_words f1
   obtain ⟨nn,e3,-,-⟩:=DataW.trod_int Tryd.underlying3 f3
   obtain ⟨lo,e4,-,-⟩:=DataW.trod_int Tryd.underlying3 f4
   obtain ⟨hi,e5,-,-⟩:=DataW.trod_int Tryd.underlying3 f5
   obtain ⟨br,e6,-⟩:=DataW.trod_bool Tryd.underlying4 f6
   simp only [List.cons.injEq,and_true] at e0 e3 e4 e5 e6
   subst e0 e3 e4 e5 e6
   have fin:∀ (ts:List Tr),TreesAt W (fun _=>True) c5 ts→∃ (t:Tr) (s:Value),[.int .i64 k,.int .u64 (Oc.U a),.int .u64 (Oc.U b),.int .u64 (Oc.U c),.int .u64 (Oc.U d),c5,.int .i64 nn,.int .i64 lo,.int .i64 hi,.bool br]=(t.cells s).toList∧TreesAt W (fun _=>True) s t.subs :=
     fun ts hts=>⟨.node k a b c d ts nn lo hi br,c5,rfl,hts⟩
   rcases DataW.trod_slice Tryd.underlying25 f2 with ⟨hc5,-⟩ | ⟨ad,len,cap,elems,rest,n',rfl,hc5,hx,-,-,-,hel,hall,-,-⟩
   · simp only [List.cons.injEq,and_true] at hc5
     subst hc5
     exact fin [] TreesAt.nil
   · simp only [List.cons.injEq,and_true] at hc5
     subst hc5
     rw [Tryd.cellsNodeO] at hall
     have hwn:∀ k,k ∈ y2.1.weights Tryd.prog 25→k ≤ 140737488351232:=fun k hk=>hw k (by
       rw [DataW.weights,Tryd.underlying27]
       exact DataW.weights_mem_each (j:=2) rfl rfl k hk)
     have hlen96:len * 96 ≤ 140737488351232:=by
       have:=hwn ((elems.length+rest.length) * 96) (by
         rw [hx]
         simp only [DataW.weights,Tryd.underlying25,Tryd.bytesNodeO,List.length_map]
         exact List.mem_cons_self)
       rw [hel] at this
       have h2:len * 96 ≤ (len+rest.length) * 96:=Nat.mul_le_mul_right _ (by omega)
       omega
     have key:∀ i,∃ (t:Tr) (s:Value),i < len→(∃ b o,some ad=some ⟨b,o,none⟩∧TenAt W b (o+i * 10) t s)∧TreesAt W (fun _=>True) s t.subs:=by
       intro i
       by_cases hi:i < len
       · have h1:=hall i hi
         rw [List.getElem?_eq_getElem (by omega)] at h1
         obtain ⟨csi,hcs,htr⟩:=Option.bind_eq_some_iff.1 h1
         obtain ⟨t,s,hts,hsub⟩:=ih n' (by omega) csi _ htr (fun k hk=>hwn k (by
           rw [hx]
           simp only [DataW.weights,Tryd.underlying25]
           refine List.mem_cons_of_mem _ (List.mem_append_left _ (weightsAll_mem (d:=elems[i].1) ?_ hk))
           exact List.mem_map.2 ⟨elems[i],List.getElem_mem _,rfl⟩))
         obtain ⟨-,-,hcell⟩:=World.cells?_some hcs
         have hspot:ad.spot=none:=by
           have h0:=hall 0 (by omega)
           rw [List.getElem?_eq_getElem (by omega)] at h0
           obtain ⟨cs0,hcs0,htr0⟩:=Option.bind_eq_some_iff.1 h0
           obtain ⟨t0,s0,hts0,-⟩:=ih n' (by omega) cs0 _ htr0 (fun k hk=>hwn k (by
             rw [hx]
             simp only [DataW.weights,Tryd.underlying25]
             refine List.mem_cons_of_mem _ (List.mem_append_left _ (weightsAll_mem (d:=elems[0].1) ?_ hk))
             exact List.mem_map.2 ⟨elems[0],List.getElem_mem _,rfl⟩))
           have h2:=(World.cells?_some hcs0).2.2 0 (by omega)
           rw [hts0] at h2
           have e:(ad.add (0 * 10)).add 0=ad:=by simp [Addr.add]
           rw [e] at h2
           cases hsp:ad.spot with
           | none=>rfl
           | some z =>
             unfold World.cell? at h2
             rw [hsp] at h2
             split at h2 <;> simp [Tr.cells] at h2
         have hadd:∀ j,(ad.add (i * 10)).add j=⟨ad.block,ad.off+i * 10+j,none⟩:=fun j=>by
           rw [add_at hspot,add_at (a:=⟨ad.block,ad.off+i * 10,none⟩) rfl]
         refine ⟨t,s,fun _=>⟨⟨ad.block,ad.off,by cases ad;simp_all, ?_⟩,hsub⟩⟩
         rw [hts] at hcell
         have get:∀ j u,j < 10→(t.cells s).toList[j]? = some u→W.cell? ⟨ad.block,ad.off+i * 10+j,none⟩=some u:=fun j u hj hu=>by
           rw [← hadd j,hcell j hj,hu]
         exact ⟨get 0 _ (by omega) rfl,get 1 _ (by omega) rfl,get 2 _ (by omega) rfl,get 3 _ (by omega) rfl,get 4 _ (by omega) rfl,get 5 _ (by omega) rfl,get 6 _ (by omega) rfl,get 7 _ (by omega) rfl,get 8 _ (by omega) rfl,get 9 _ (by omega) rfl⟩
       · exact ⟨.node 0 0#64 0#64 0#64 0#64 [] 0 0 0 false,.nilIface,fun h=>absurd h hi⟩
     obtain ⟨T,hT⟩:=Classical.axiomOfChoice key
     obtain ⟨S,hS⟩:=Classical.axiomOfChoice hT
     have hl:((List.range len).map T).length=len:=by simp
     have hg:∀ i t,((List.range len).map T)[i]? = some t→i < len∧t=T i:=fun i t h=>by
       rw [List.getElem?_map] at h
       by_cases hi:i < len
       · rw [List.getElem?_range hi] at h
         exact ⟨hi,(Option.some.inj h).symm⟩
       · rw [List.getElem?_eq_none (by simp;omega)] at h;cases h
     have:=TreesAt.mk (w:=W) (B:=fun _=>True) (some ad) cap ((List.range len).map T) S (by rw [hl];exact hlen96) (fun i t h=>by
       obtain ⟨hi,rfl⟩:=hg i t h
       obtain ⟨⟨b,o,e,ht⟩,-⟩:=hS i hi
       exact ⟨b,o,e,trivial,ht⟩) (fun i t h=>by
       obtain ⟨hi,rfl⟩:=hg i t h
       exact (hS i hi).2)
     rw [hl] at this
     exact fin _ this
theorem open_tree {H:Type} {enc:TypeId × Value→H} {w:World} {base b0:Nat} {spare:Nat→Bool} {held:Bool} {v:Value} {y:DataW H} {ps:List MemPlace} {r:Reach}
   (hv:Value.okWide Tryd.prog w r b0 27 v) (h:DataW.Trod enc Tryd.prog w base spare held 27 v y ps) (hw:∀ k,k ∈ y.weights Tryd.prog 27→k ≤ 140737488351232):∃ t,NodeV w (fun _=>True) v t:=by
 unfold Value.okWide at hv
 rw [Tryd.underlying27] at hv
 obtain ⟨cs,rfl,hsz,-⟩:=hv
 obtain ⟨fuel,hf⟩:=h
 obtain ⟨t,s,e,hs⟩:=open_node fuel _ _ hf hw
 refine ⟨t,s, ?_,hs⟩
 simp only [Value.cells] at e
 exact congrArg Value.agg (Array.toList_inj.1 e)
end Go.Proofs.YtnfgalgifgfojaaDoor
namespace Go.Proofs.YtnfgalgifgfojaaDoor
open Go.ChangeShapes Go.WideShapes Go.ChangeAt Go.RowKit
theorem byte_of {n:Int} (h:(Lit.int .u8 n).wf=true):0 ≤ n∧n < 256:=by
 simp only [Lit.wf,IntKind.min,IntKind.max,IntKind.signed,IntKind.bits,Bool.and_eq_true] at h
 have h1:=h.1;have h2:=h.2
 simp at h1 h2
 omega
theorem Tryd.cellsU8:Tryd.prog.cellsOf 5=1:=by kernel_rfl
theorem open_bytesV {H:Type} {enc:TypeId × Value→H} {W:World} {base b0:Nat} {spare:Nat→Bool} {held:Bool} {v:Value} {y:DataW H} {ps:List MemPlace} {r:Reach}
   (hv:Value.okWide Tryd.prog W r b0 31 v) (h:DataW.Trod enc Tryd.prog W base spare held 31 v y ps):∃ l:List UInt8,BsAt W v l:=by
 have hspot:∀ a len cap,v=.slice (some a) len cap→a.spot=none:=by
   rintro a len cap rfl
   simp only [Value.okWide,Tryd.underlying31,Cell.okWide,Cell.ok] at hv
   exact hv.2.2.2.1
 obtain ⟨a1,len,cap,rfl⟩:=okWide_slice Tryd.underlying31 hv
 obtain ⟨fuel,hf⟩:=h
 rcases open_ints Tryd.underlying31 Tryd.underlying5 Tryd.cellsU8 hf with ⟨hcs,-⟩ | ⟨a,len',cap',zs,hcs,-,hl,-,hz,-,hcell,hwz⟩
 · simp [Value.cells] at hcs
   obtain ⟨rfl,rfl,rfl⟩:=hcs
   exact ⟨[],.inl ⟨rfl,rfl⟩⟩
 · simp [Value.cells] at hcs
   obtain ⟨rfl,rfl,rfl⟩:=hcs
   have hsp:=hspot a len cap rfl
   have hzl:len ≤ zs.length:=by rw [hz];split <;> omega
   have hlen:((zs.take len).map fun n=>UInt8.ofNat n.toNat).length=len:=by rw [List.length_map,List.length_take];omega
   refine ⟨(zs.take len).map fun n=>UInt8.ofNat n.toNat,.inr ⟨a.block,a.off,cap, ?_, ?_,fun j hj=>?_⟩⟩
   · rw [hlen]
     obtain ⟨b,o,s⟩:=a
     have hs:s=none:=hsp
     rw [hs]
   · rw [hlen];exact hl
   · rw [hlen] at hj
     have hcj:=hcell j (by omega)
     rw [add_at hsp] at hcj
     rw [hcj]
     have hjz:j < zs.length:=by omega
     have hb:=byte_of (hwz zs[j] (List.getElem_mem hjz))
     simp only [List.getElem_map,List.getElem_take,List.getD,List.getElem?_eq_getElem hjz,Option.getD_some,UInt8.toNat_ofNat']
     congr 2
     omega
end Go.Proofs.YtnfgalgifgfojaaDoor
namespace Go.Proofs.YtnfgalgifgfojaaDoor
open Go.ChangeShapes Go.WideShapes Go.ChangeAt Go.RowKit
theorem bulk_pos {H:Type} (x:DataW H):1 ≤ Rows.uptoBulk x:=by
 cases x with
 | lit l=>cases l <;> simp [Rows.uptoBulk]
 | _=>simp [Rows.uptoBulk]
theorem bulk_len {H:Type} : ∀ l:List (DataW H),l.length ≤ Rows.uptoBulkAll l
 | []=>by simp
 | x :: r=>by
   have h1:=bulk_pos x
   have h2:=bulk_len r
   simp only [Rows.uptoBulkAll,List.length_cons]
   omega
theorem open_bytesU {H:Type} {enc:TypeId × Value→H} {W:World} {base b0:Nat} {spare:Nat→Bool} {held:Bool} {v:Value} {y:DataW H} {ps:List MemPlace} {r:Reach}
   (hv:Value.okWide Tryd.prog W r b0 31 v) (h:DataW.Trod enc Tryd.prog W base spare held 31 v y ps):∃ l:List UInt8,BsAt W v l∧l.length ≤ Rows.uptoBulk y:=by
 obtain ⟨l,hl⟩:=open_bytesV hv h
 refine ⟨l,hl, ?_⟩
 obtain ⟨fuel,hf⟩:=h
 obtain ⟨p0,c0,rfl,-⟩:=hl.len
 rcases open_ints Tryd.underlying31 Tryd.underlying5 Tryd.cellsU8 hf with ⟨hcs,-⟩ | ⟨a,len',cap',zs,hcs,-,hl',-,hz,hx,hcell,hwz⟩
 · simp [Value.cells] at hcs
   rw [hcs.2.1];simp
 · simp [Value.cells] at hcs
   obtain ⟨-,h2,-⟩:=hcs
   obtain ⟨rfl,-⟩:y=_∧ps=_:=by simpa using hx
   have h3:=bulk_len (lits (H:=H) .u8 (zs.take len'))
   have h4:(lits (H:=H) .u8 (zs.take len')).length=len':=by
     unfold lits
     rw [List.length_map,List.length_take,hz]
     split <;> omega
   simp only [Rows.uptoBulk]
   omega
end Go.Proofs.YtnfgalgifgfojaaDoor
namespace Go.Proofs.YtnfgalgifgfojaaDoor
open Go.ChangeShapes Go.WideShapes Go.ChangeAt Go.RowKit
theorem im_laid_split {P:Program} {l:List (String × DataW Unit)} {W:World} (h:laidMetH P l W):laidMet P (l.filter fun x=>x.2.handleName?.isNone) W:=by
 unfold laidMetH at h
 generalize hfl:(l.filter fun x=>x.2.handleName?.isSome)=fl at h
 cases fl with
 | nil =>
   have e:(l.filter fun x=>x.2.handleName?.isNone)=l:=by
     rw [List.filter_eq_self]
     intro x hx
     have:=List.filter_eq_nil_iff.1 hfl x hx
     cases hh:x.2.handleName? with
     | none=>rfl
     | some y=>rw [hh] at this;simp at this
   rw [e]
   exact h
 | cons x r=>exact h.1
theorem im_errList_plain:∀ x,x ∈ errList→x.2.handleName?.isNone=true:=by
 have h:(errList.all fun x=>x.2.handleName?.isNone)=true:=by kernel_rfl
 intro x hx
 exact List.all_eq_true.1 h x hx
theorem im_env_of {l:List (String × DataW Unit)} {W:World} (h:laidMetH Tryd.prog l W) (hl:∀ x,x ∈ errList→x ∈ l):∃ A,Errs W A :=
 errs_of (im_laid_split h) fun x hx=>List.mem_filter.2 ⟨hl x hx,im_errList_plain x hx⟩
end Go.Proofs.YtnfgalgifgfojaaDoor
