/- Part 2 of what these proofs need. -/
import Derived.ChangeOld
import Derived.Deep.Slices
import Derived.Laws.IdiomArrays
import Derived.Lib.SmallJoins
import Derived.SizedLaws
import Derived.DataReads
import Derived.LaidLaws
import Derived.Test.YtedjkbmfpjmlpaaDoorTb1
set_option maxRecDepth 100000
set_option maxHeartbeats 16000000
namespace Go.Proofs.YtedjkbmfpjmlpaaDoor
open Go.RowKit
namespace Tr
def gsFrom (a:Int) (l:List Tr) (m:Nat):Int:=max a (gsS (l.take m))
theorem gsFrom_zero {a:Int} (h:0 ≤ a) (l:List Tr):gsFrom a l 0=a:=by unfold gsFrom;rw [List.take_zero,gsS];omega
theorem gsFrom_succ {a:Int} (h:0 ≤ a) {l:List Tr} {m:Nat} {x:Tr} (hx:l[m]? = some x):gsFrom a l (m+1)=if gsFrom a l m < x.gsT then x.gsT else gsFrom a l m:=by
 have:=gsS_take l m x hx a h
 unfold gsFrom
 rw [← this]
 split <;> omega
end Tr
theorem nmgroups_any:∀ t:Tr,∀ (w:World) (B:Nat→Prop) (v:Value),NodeV w B v t→Calls Tryd.prog 47 #[v] w fun e w'=>e=.returned (.int .i64 t.gsT)∧Below w.heap.size w w':=by
 intro t
 induction t using Tr.rec_subs with
 | h t ih =>
 intro w B v hv
 obtain ⟨s,rfl,hs⟩:=hv
 obtain ⟨p,cap,rfl,hlen⟩:=hs.slice
 rw [Tr.gsT_eq]
 by_cases h7:t.kind=7
 · by_cases h0:0 < t.num
   · rw [if_pos h7,show max 0 t.num=t.num by omega]
     generalize hts:t.subs=ts at *
     have IH:=Lib.hid ih;have HS:=Lib.hid hs
     clear ih hs hts
     unfold Tr.cells
     rw [h7]
     have hm0:max 0 t.num=t.num:=by omega
     clear h7
     go_enter Tryd.func47,Tryd.ntmps47
     go_wp2
     go_loopw [3,16] (fun gv iv wr=>∃ m:Nat,iv=.int .i64 m∧m ≤ ts.length∧gv=.int .i64 (Tr.gsFrom t.num ts m)∧Hid (Below w.heap.size w wr)) (fun _ iv _=>ts.length - (intOf iv).toNat)
     case atStart=>exact ⟨0,rfl,Nat.zero_le _,by rw [Tr.gsFrom_zero (by omega)],Lib.hid (by go_grown)⟩
     case round =>
       obtain ⟨m,rfl,hm,rfl,HB⟩:=hrel
       have wm:IntKind.i64.wrap ((m:Int)+1)=(m:Int)+1:=IntWalk.i64_in _ (by omega)
       by_cases hlt:m < ts.length
       · obtain ⟨x,hx⟩:∃ x,ts[m]? = some x:=⟨_,List.getElem?_eq_getElem hlt⟩
         obtain ⟨b1,o1,s1,rfl,-,t1,sub1⟩:=HS.out.get hx
         obtain ⟨d0,d1,d2,d3,d4,d5,d6,d7,d8,d9⟩:=t1.keep (HB.out.block _ t1.lt)
         have hmem:=List.mem_of_getElem? hx
         obtain ⟨p1,c1,rfl,hl1⟩:=sub1.slice
         have HC:=Lib.hid (fun w9 hb=>IH.out x hmem w9 B (.agg (x.cells (.slice p1 x.subs.length c1))) ⟨_,rfl,sub1.later hb⟩)
         have HSTP:=Lib.hid (Tr.gsFrom_succ (a:=t.num) (by omega) hx)
         clear t1 sub1 hmem hx
         unfold Tr.cells at HC
         go_wp2_with fail
         generalize hw1:World.alloc wr _=w1
         have hb1:Below wr.heap.size wr w1:=by rw [← hw1];exact (Below.refl _ _).alloc (Nat.le_refl _) _
         clear hw1
         refine (HC.out w1 (HB.out.trans (hb1.mono HB.out.size))).mono ?_
         rintro e w2 ⟨rfl,hb2⟩
         have HB2:=Lib.hid (HB.out.trans ((hb1.trans (hb2.mono hb1.size)).mono HB.out.size))
         clear d0 d1 d2 d3 d4 d5 d6 d7 d8 d9 hb1 hb2 HC
         generalize hq:Tr.gsFrom t.num ts m=q at *
         generalize x.gsT=N at *
         clear hq
         go_wp2
         all_goals exact ⟨⟨m+1,by go_num,by omega,by rw [HSTP.out];try (congr 1;split <;> omega),HB2⟩,by simp [intOf];omega⟩
       · obtain rfl:m=ts.length:=by omega
         have HE:Hid (Tr.gsFrom t.num ts ts.length=max t.num (Tr.gsS ts)):=Lib.hid (by unfold Tr.gsFrom;rw [List.take_length])
         go_wp2
         go_ret
         exact ⟨by rw [HE.out];rfl,HB.out⟩
   · rw [if_pos h7,show max 0 t.num=0 by omega]
     generalize hts:t.subs=ts at *
     have IH:=Lib.hid ih;have HS:=Lib.hid hs
     clear ih hs hts
     unfold Tr.cells
     rw [h7]
     have hm0:max 0 t.num=0:=by omega
     clear h7
     go_enter Tryd.func47,Tryd.ntmps47
     go_wp2
     go_loopw [3,16] (fun gv iv wr=>∃ m:Nat,iv=.int .i64 m∧m ≤ ts.length∧gv=.int .i64 (Tr.gsFrom 0 ts m)∧Hid (Below w.heap.size w wr)) (fun _ iv _=>ts.length - (intOf iv).toNat)
     case atStart=>exact ⟨0,rfl,Nat.zero_le _,by rw [Tr.gsFrom_zero (by omega)],Lib.hid (by go_grown)⟩
     case round =>
       obtain ⟨m,rfl,hm,rfl,HB⟩:=hrel
       have wm:IntKind.i64.wrap ((m:Int)+1)=(m:Int)+1:=IntWalk.i64_in _ (by omega)
       by_cases hlt:m < ts.length
       · obtain ⟨x,hx⟩:∃ x,ts[m]? = some x:=⟨_,List.getElem?_eq_getElem hlt⟩
         obtain ⟨b1,o1,s1,rfl,-,t1,sub1⟩:=HS.out.get hx
         obtain ⟨d0,d1,d2,d3,d4,d5,d6,d7,d8,d9⟩:=t1.keep (HB.out.block _ t1.lt)
         have hmem:=List.mem_of_getElem? hx
         obtain ⟨p1,c1,rfl,hl1⟩:=sub1.slice
         have HC:=Lib.hid (fun w9 hb=>IH.out x hmem w9 B (.agg (x.cells (.slice p1 x.subs.length c1))) ⟨_,rfl,sub1.later hb⟩)
         have HSTP:=Lib.hid (Tr.gsFrom_succ (a:=0) (by omega) hx)
         clear t1 sub1 hmem hx
         unfold Tr.cells at HC
         go_wp2_with fail
         generalize hw1:World.alloc wr _=w1
         have hb1:Below wr.heap.size wr w1:=by rw [← hw1];exact (Below.refl _ _).alloc (Nat.le_refl _) _
         clear hw1
         refine (HC.out w1 (HB.out.trans (hb1.mono HB.out.size))).mono ?_
         rintro e w2 ⟨rfl,hb2⟩
         have HB2:=Lib.hid (HB.out.trans ((hb1.trans (hb2.mono hb1.size)).mono HB.out.size))
         clear d0 d1 d2 d3 d4 d5 d6 d7 d8 d9 hb1 hb2 HC
         generalize hq:Tr.gsFrom 0 ts m=q at *
         generalize x.gsT=N at *
         clear hq
         go_wp2
         all_goals exact ⟨⟨m+1,by go_num,by omega,by rw [HSTP.out];try (congr 1;split <;> omega),HB2⟩,by simp [intOf];omega⟩
       · obtain rfl:m=ts.length:=by omega
         have HE:Hid (Tr.gsFrom 0 ts ts.length=max 0 (Tr.gsS ts)):=Lib.hid (by unfold Tr.gsFrom;rw [List.take_length])
         go_wp2
         go_ret
         exact ⟨by rw [HE.out];rfl,HB.out⟩
 · rw [if_neg h7]
   generalize hts:t.subs=ts at *
   have IH:=Lib.hid ih;have HS:=Lib.hid hs
   clear ih hs hts
   unfold Tr.cells
   have e7:(t.kind == 7)=false:=by simpa using h7
   clear h7
   go_enter Tryd.func47,Tryd.ntmps47
   go_wp2
   go_loopw [3,16] (fun gv iv wr=>∃ m:Nat,iv=.int .i64 m∧m ≤ ts.length∧gv=.int .i64 (Tr.gsFrom 0 ts m)∧Hid (Below w.heap.size w wr)) (fun _ iv _=>ts.length - (intOf iv).toNat)
   case atStart=>exact ⟨0,rfl,Nat.zero_le _,by rw [Tr.gsFrom_zero (by omega)],Lib.hid (by go_grown)⟩
   case round =>
     obtain ⟨m,rfl,hm,rfl,HB⟩:=hrel
     have wm:IntKind.i64.wrap ((m:Int)+1)=(m:Int)+1:=IntWalk.i64_in _ (by omega)
     by_cases hlt:m < ts.length
     · obtain ⟨x,hx⟩:∃ x,ts[m]? = some x:=⟨_,List.getElem?_eq_getElem hlt⟩
       obtain ⟨b1,o1,s1,rfl,-,t1,sub1⟩:=HS.out.get hx
       obtain ⟨d0,d1,d2,d3,d4,d5,d6,d7,d8,d9⟩:=t1.keep (HB.out.block _ t1.lt)
       have hmem:=List.mem_of_getElem? hx
       obtain ⟨p1,c1,rfl,hl1⟩:=sub1.slice
       have HC:=Lib.hid (fun w9 hb=>IH.out x hmem w9 B (.agg (x.cells (.slice p1 x.subs.length c1))) ⟨_,rfl,sub1.later hb⟩)
       have HSTP:=Lib.hid (Tr.gsFrom_succ (a:=0) (by omega) hx)
       clear t1 sub1 hmem hx
       unfold Tr.cells at HC
       go_wp2_with fail
       generalize hw1:World.alloc wr _=w1
       have hb1:Below wr.heap.size wr w1:=by rw [← hw1];exact (Below.refl _ _).alloc (Nat.le_refl _) _
       clear hw1
       refine (HC.out w1 (HB.out.trans (hb1.mono HB.out.size))).mono ?_
       rintro e w2 ⟨rfl,hb2⟩
       have HB2:=Lib.hid (HB.out.trans ((hb1.trans (hb2.mono hb1.size)).mono HB.out.size))
       clear d0 d1 d2 d3 d4 d5 d6 d7 d8 d9 hb1 hb2 HC
       generalize hq:Tr.gsFrom 0 ts m=q at *
       generalize x.gsT=N at *
       clear hq
       go_wp2
       all_goals exact ⟨⟨m+1,by go_num,by omega,by rw [HSTP.out];try (congr 1;split <;> omega),HB2⟩,by simp [intOf];omega⟩
     · obtain rfl:m=ts.length:=by omega
       have HE:Hid (Tr.gsFrom 0 ts ts.length=max 0 (Tr.gsS ts)):=Lib.hid (by unfold Tr.gsFrom;rw [List.take_length])
       go_wp2
       go_ret
       exact ⟨by rw [HE.out];rfl,HB.out⟩
end Go.Proofs.YtedjkbmfpjmlpaaDoor
namespace Go.Proofs.YtedjkbmfpjmlpaaDoor
open Go.RowKit
namespace Tr
theorem szS_app:∀ l m:List Tr,szS (l ++ m)=szS l+szS m
 | [],m=>by rw [List.nil_append,szS];omega
 | t :: l,m=>by rw [List.cons_append,szS,szS,szS_app l m];omega
theorem szT_is (t:Tr):t.szT=if t.kind=8 then repSz t.least t.most (szH t.subs) else sat (1+szS t.subs):=by cases t;rw [szT];rfl
theorem turK_eight (k:Int):(turK k=8)=(k=8):=by
 unfold turK
 by_cases h:k=3
 · subst h;decide
 · by_cases h4:k=4
   · subst h4;decide
   · rw [if_neg h,if_neg h4]
theorem turK_seven (k:Int):(turK k=7)=(k=7):=by
 unfold turK
 by_cases h:k=3
 · subst h;decide
 · by_cases h4:k=4
   · subst h4;decide
   · rw [if_neg h,if_neg h4]
theorem sz_tur (t:Tr):t.turT.szT=t.szT:=by
 induction t using Tr.rec_subs with
 | h t ih =>
   rw [szT_is,szT_is t,turT_kind,turT_least,turT_most,turT_subs,turS_same szS (· + ·) szT 0 (by rw [szS]) (fun t l=>by rw [szS]) szS_app Nat.add_comm (fun a=>by simp) _ _ ih]
   simp only [turK_eight]
   by_cases h:t.kind=8
   · rw [if_pos h,if_pos h,rv_not (by omega)]
     cases hs:t.subs with
     | nil=>rfl
     | cons u l =>
       rw [List.map_cons,szH,szH,ih u (by rw [hs];exact List.mem_cons_self)]
   · rw [if_neg h,if_neg h]
theorem dp_tur (t:Tr):t.turT.dpT=t.dpT:=by
 induction t using Tr.rec_subs with
 | h t ih =>
   rw [dpT_eq,dpT_eq t,turT_kind,turT_least,turT_most,turT_subs,turS_same dpS max dpT 0 (by rw [dpS]) (fun t l=>by rw [dpS]) dpS_append Nat.max_comm (fun a=>by omega) _ _ ih,rv_length,List.length_map]
   simp only [turK_eight]
theorem gs_tur (t:Tr):t.turT.gsT=t.gsT:=by
 induction t using Tr.rec_subs with
 | h t ih =>
   have hn:∀ l:List Tr,gsS (rv t.kind (l.map turT))=max (gsS (rv t.kind (l.map turT))) 0:=fun l=>by have:=gsS_nn (rv t.kind (l.map turT));omega
   rw [gsT_eq,gsT_eq t,turT_kind,turT_num,turT_subs]
   simp only [turK_seven]
   congr 1
   have:=turS_same (fun l=>(gsS l).toNat) max (fun t=>t.gsT.toNat) 0 (by rw [gsS];rfl) (fun t l=>by simp only [gsS];have:=gsS_nn l;omega) (fun l m=>by simp only [gsS_append];have:=gsS_nn l;have:=gsS_nn m;omega) Nat.max_comm (fun a=>by omega) t.kind t.subs fun u hu=>by simp only [ih u hu]
   have a:=gsS_nn (rv t.kind (t.subs.map turT));have b:=gsS_nn t.subs
   omega
theorem turK_anchor (k:Int):(turK k=1 ∨ turK k=3 ∨ turK k=4)=(k=1 ∨ k=3 ∨ k=4):=by
 unfold turK
 by_cases h:k=3
 · subst h;decide
 · by_cases h4:k=4
   · subst h4;decide
   · rw [if_neg h,if_neg h4]
theorem turK_two (k:Int):(turK k=2)=(k=2):=by
 unfold turK
 by_cases h:k=3
 · subst h;decide
 · by_cases h4:k=4
   · subst h4;decide
   · rw [if_neg h,if_neg h4]
theorem turK_six (k:Int):(turK k=6)=(k=6):=by
 unfold turK
 by_cases h:k=3
 · subst h;decide
 · by_cases h4:k=4
   · subst h4;decide
   · rw [if_neg h,if_neg h4]
theorem fields_tur (t:Tr):t.turT.fieldsB=t.fieldsB:=by
 unfold fieldsB noSet noCounts countsB
 rw [turT_kind,turT_w0,turT_w1,turT_w2,turT_w3,turT_num,turT_least,turT_most,turT_bare,turT_subs,rv_length,List.length_map]
 simp only [turK_anchor,turK_two,turK_five,turK_six,turK_seven,turK_eight]
theorem form_tur (t:Tr):t.turT.formB=t.formB:=by
 induction t using Tr.rec_subs with
 | h t ih =>
   rw [formB_eq,formB_eq t,fields_tur,turT_subs,turS_same formS (· && ·) formB true (by rw [formS]) (fun t l=>by rw [formS]) formS_append Bool.and_comm (fun a=>by simp) _ _ ih]
theorem check_tur (t:Tr):t.turT.checkC=t.checkC:=by
 unfold checkC;rw [form_tur,dp_tur,sz_tur]
end Tr
end Go.Proofs.YtedjkbmfpjmlpaaDoor
namespace Go.Proofs.YtedjkbmfpjmlpaaDoor
namespace Tr
theorem dpS_nd:∀ {l:List Tr},(∀ t,t ∈ l→t.dpT ≤ 2 * t.ndT)→dpS l ≤ 2 * ndS l
 | [],_=>by simp [dpS]
 | t :: l,h=>by
   have h1:=h t List.mem_cons_self
   have h2:=dpS_nd (l:=l) fun u hu=>h u (List.mem_cons_of_mem _ hu)
   rw [dpS,ndS];omega
theorem dp_nd (t:Tr):t.dpT ≤ 2 * t.ndT:=by
 induction t using Tr.rec_subs with
 | h t ih =>
   have h:=dpS_nd ih
   rw [dpT_eq,ndT_eq]
   split
   · omega
   · split <;> omega
end Tr
end Go.Proofs.YtedjkbmfpjmlpaaDoor
namespace Go.Proofs.YtedjkbmfpjmlpaaDoor
open Go.RowKit
namespace Ri
variable {P:Program} {ops:Array Oper} {Q:Exit→Act→World→Prop}
def Fa (K:Nat→World→Value→Prop) (W:World) (L:Nat→Bool) (v:Nat→Value) (w:World):Prop:=Below W.heap.size W w∧∀ k,L k=true→K k w (v k)
theorem Fa.step {K:Nat→World→Value→Prop} (hK:∀ k w v w',K k w v→Below w.heap.size w w'→K k w' v) {W:World} {L:Nat→Bool} {v:Nat→Value} {w w':World} {i:Nat} {u:Value} (h:Fa K W L v w) (hb:Below w.heap.size w w') (hu:K i w' u):Fa K W (up L i true) (up v i u) w':=by
 refine ⟨h.1.trans (hb.mono h.1.size),fun k hk=>?_⟩
 by_cases e:k=i
 · subst e;rw [up_same];exact hu
 · rw [up_other _ _ _ _ e] at hk ⊢
   exact hK k w _ w' (h.2 k hk) hb
theorem wp_region_facts {id:Nat} {a:Act} {w:World} (hm:P.follows .mixedOrders=true) (hb:backward ops=true) (hap:apart ops=true) (hsz0:(ops.toList.all fun o=>o.dst.all fun d=>decide (d < a.tmps.size))=true)
   (n:Nat) (hn:ops.size=n) (K:Nat→World→Value→Prop)
   (hK:∀ k w v w',K k w v→Below w.heap.size w w'→K k w' v)
   (step:∀ i,i < n→∀ L v w' (a':Act),Fa K w L v w'→L i=false→(∀ o,ops[i]? = some o→∀ e ∈ o.after,Region.binds .any e=true→L e.on=true) →
     (∀ j d:Nat,(ops[j]?).bind (·.dst)=some d→L j=true→a'.tmps.getD d undef=v j)→(∀ d,ops.toList.all (fun o=>o.dst != some d)=true→a'.tmps.getD d undef=a.tmps.getD d undef) →
     wpOp P ops Q i (fun b w''=>∃ (o:Oper) (u:Value),ops[i]? = some o∧b=a'.put o.dst u∧Below w'.heap.size w' w''∧K i w'' u) a' w')
   (fin:∀ v w',Below w.heap.size w w'→(∀ k,k < n→K k w' (v k))→Q .normal (frame ops a (fun _=>true) v) w'):(Code.region id ops true).wp P Q a w:=by
 refine wp_region_frame hm hb hap hsz0 (fun L v w'=>Fa K w L v w') ⟨(Below.refl _ _).drew,fun k h=>by cases h⟩ ?_ ?_
 · intro i hi L v w' a' hI hL hd hv ho
   refine wpOp_mono ?_ (step i (by rw [← hn];exact hi) L v w' a' hI hL hd hv ho)
   rintro b w'' ⟨o,u,h1,h2,h3,h4⟩
   exact ⟨o,u,h1,h2,hI.step hK h3 h4⟩
 · intro v w' hI
   exact fin v w' hI.1 fun k hk=>hI.2 k (by rw [hn];simpa using hk)
end Ri
end Go.Proofs.YtedjkbmfpjmlpaaDoor
namespace Go.Proofs.YtedjkbmfpjmlpaaDoor
open Go.RowKit
theorem treeSizeAll (t:Tr) (w:World) (B:Nat→Prop) (v:Value) (hv:NodeV w B v t):Calls Tryd.prog 45 #[v] w (SizeEnd (if t.formB=true then t.szT else 0) w):=by
 by_cases hf:t.formB=true
 · rw [if_pos hf]
   exact treeSize_any t (t.formB_iff.1 hf) w B v hv
 · rw [if_neg hf]
   have hff:t.formB=false:=by simpa using hf
   obtain ⟨s,rfl,hs⟩:=hv
   have H1:=Lib.hid (fun w' (hb:Below w.heap.size w w')=>treeinform_any t w' B (.agg (t.cells s)) ⟨s,rfl,TreesAt.later (w':=w') hs hb⟩)
   rw [hff] at H1
   obtain ⟨p,cap,rfl,hlen⟩:=hs.slice
   have Z0:=Lib.hid (heap_alloc_new w (.cells (t.cells (.slice p t.subs.length cap)) 37))
   clear hs hf hff
   unfold Tr.cells at *
   go_enter Tryd.func45,Tryd.ntmps45
   go_wp2_with (first
     | (refine wpList_load_row rfl 37 (.tmp 1) rfl w.heap.size rfl 37 _ (0,0) _ Z0.out Tryd.underlying37 rfl (by kernel_rfl) ?_)
     | fail)
   refine (H1.out _ ((Below.refl _ _).alloc (Nat.le_refl _) _)).mono ?_
   rintro e w1 ⟨rfl,hb1⟩
   have HB1:=Lib.hid (((Below.refl _ _).alloc (Nat.le_refl _) _).trans (hb1.mono (by simp)))
   clear hb1 Z0
   go_wp2
   go_ret
   exact ⟨rfl,HB1.out⟩
theorem turnback_any (A:Nat→Addr) (t:Tr) (w:World) (hE:Errs w A) (B:Nat→Prop) (v:Value) (hv:NodeV w B v t) :
   Calls Tryd.prog 7 #[v] w fun e w'=>e=.returned (.bool true)∧Below w.heap.size w w':=by
 have HE:=Lib.hid (fun w9 (h:Below w.heap.size w w9)=>hE.below h)
 obtain ⟨s,rfl,hs⟩:=hv
 obtain ⟨p,cap,rfl,-⟩:=hs.slice
 have HV:=Lib.hid (fun w9 (hb:Below w.heap.size w w9)=>(show NodeV w9 B (.agg (t.cells (.slice p t.subs.length cap))) t from ⟨_,rfl,hs.later hb⟩))
 clear hs hE
 have HF:=Lib.hid (fun w9 (hb:Below w.heap.size w w9)=>few_any t 3000 (by omega) w9 B _ (HV.out w9 hb))
 have HT:=Lib.hid (heap_alloc_new w (.cells (t.cells (.slice p t.subs.length cap)) 37))
 have HW:=Lib.hid (show Below w.heap.size w (w.alloc (.cells (t.cells (.slice p t.subs.length cap)) 37)) from (Below.refl _ _).alloc (Nat.le_refl _) _)
 unfold Tr.cells at *
 go_enter Tryd.func7,Tryd.ntmps7
 go_upto_region 1 with (fail)
 generalize w.alloc _=w0 at *
 go_wp2_with fail
 refine (tulives_any w0).mono ?_
 rintro e w1 ⟨rfl,hb1⟩
 have HB1:=Lib.hid (HW.out.trans (hb1.mono HW.out.size));have T1:=Lib.hid (keep_blk hb1 HT.out)
 clear hb1 HW HT
 go_wp2_with (first
   | (refine wpList_load_row rfl 37 (.tmp 1) rfl w.heap.size rfl 37 _ (0,0) _ T1.out Tryd.underlying37 rfl (by kernel_rfl) ?_)
   | fail)
 refine (HF.out w1 HB1.out).mono ?_
 rintro e w2 ⟨rfl,hb2⟩
 have HB2:=Lib.hid (HB1.out.trans (hb2.mono HB1.out.size));have T2:=Lib.hid (keep_blk hb2 T1.out)
 clear hb2 HF HB1 T1
 by_cases hf:t.ndT ≤ 3000
 case neg =>
   rw [decide_eq_false hf]
   go_wp2
   go_ret
   exact ⟨rfl,HB2.out⟩
 rw [decide_eq_true hf]
 have hd:t.dpT ≤ 1000000:=by have:=Tr.dp_nd t;omega
 have hdo:=Tr.dp_tur t
 have hco:=Tr.check_tur t
 have hfo:=Tr.form_tur t
 have hso:=Tr.sz_tur t
 have hgo:=Tr.gs_tur t
 have hto:=Tr.tur_tur t
 have HX:=Lib.hid (fun w9 (hb:Below w.heap.size w w9)=>tuapi_any t w9 B _ (HV.out w9 hb))
 generalize t.turT=o at *
 go_wp2_with (first
   | (refine wpList_load_row rfl 37 (.tmp 1) rfl w.heap.size rfl 37 _ (0,0) _ T2.out Tryd.underlying37 rfl (by kernel_rfl) ?_)
   | fail)
 refine (HX.out w2 HB2.out).mono ?_
 rintro e w3 ⟨s3,F3,rfl,ho3,-,hb3⟩
 obtain ⟨px,cx,rfl,-⟩:=ho3.slice
 have hba:Below w3.heap.size w3 (w3.alloc (.cells (o.cells (.slice px o.subs.length cx)) 37)):=(Below.refl _ _).alloc (Nat.le_refl _) _
 have HB:=Lib.hid ((HB2.out.trans (hb3.mono HB2.out.size)).alloc (HB2.out.trans (hb3.mono HB2.out.size)).size (.cells (o.cells (.slice px o.subs.length cx)) 37))
 have X0:=Lib.hid (heap_alloc_lt (o:=.cells (o.cells (.slice px o.subs.length cx)) 37) (keep_blk hb3 T2.out))
 have X3:=Lib.hid (heap_alloc_new w3 (.cells (o.cells (.slice px o.subs.length cx)) 37))
 have HO3:=Lib.hid (ho3.trees.later hba)
 clear ho3 hb3 hba HX HB2 T2
 unfold Tr.cells at HB X0 X3 HO3 ⊢
 go_upto_region 6 with (fail)
 generalize w3.alloc _=w4 at *
 have HVX:=Lib.hid (fun w9 (hb:Below w4.heap.size w4 w9)=>(show NodeV w9 (fun b=>b ∈ F3) (.agg (o.cells (.slice px o.subs.length cx))) o from ⟨_,rfl,HO3.out.later hb⟩))
 have HVT:=Lib.hid (fun w9 (hb:Below w4.heap.size w4 w9)=>HV.out w9 (HB.out.trans (hb.mono HB.out.size)))
 have HE4:=Lib.hid (fun w9 (hb:Below w4.heap.size w4 w9)=>HE.out w9 (HB.out.trans (hb.mono HB.out.size)))
 have HTU:=Lib.hid (fun w9 (hb:Below w4.heap.size w4 w9)=>tuapi_any o w9 _ _ (HVX.out w9 hb))
 rw [hto] at HTU
 have HSM:=Lib.hid (fun w9 (hb:Below w4.heap.size w4 w9) (v9:Value) (B9:Nat→Prop) (hv9:NodeV w9 B9 v9 t)=>(treesame_any t t w9 _ _ v9 _ hv9 (HVT.out w9 hb)).mono (fun e w' h=>h.yes rfl))
 have HKX:=Lib.hid (fun w9 (hb:Below w4.heap.size w4 w9)=>treecheck_any A o (by omega) w9 (HE4.out w9 hb) _ _ (HVX.out w9 hb))
 have HKT:=Lib.hid (fun w9 (hb:Below w4.heap.size w4 w9)=>treecheck_any A t hd w9 (HE4.out w9 hb) _ _ (HVT.out w9 hb))
 rw [hco] at HKX
 have HNU:=Lib.hid (fun w9 (hb:Below w4.heap.size w4 w9)=>sentV_num A t.checkC (Tr.checkC_lt t) w9 (HE4.out w9 hb))
 have HSX:=Lib.hid (fun w9 (hb:Below w4.heap.size w4 w9)=>treeSizeAll o w9 _ _ (HVX.out w9 hb))
 have HST:=Lib.hid (fun w9 (hb:Below w4.heap.size w4 w9)=>treeSizeAll t w9 _ _ (HVT.out w9 hb))
 rw [hfo,hso] at HSX
 have HDX:=Lib.hid (fun w9 (hb:Below w4.heap.size w4 w9)=>treedepth_any o (by omega) w9 _ _ (HVX.out w9 hb))
 have HDT:=Lib.hid (fun w9 (hb:Below w4.heap.size w4 w9)=>treedepth_any t hd w9 _ _ (HVT.out w9 hb))
 rw [hdo] at HDX
 have HGX:=Lib.hid (fun w9 (hb:Below w4.heap.size w4 w9)=>nmgroups_any o w9 _ _ (HVX.out w9 hb))
 have HGT:=Lib.hid (fun w9 (hb:Below w4.heap.size w4 w9)=>nmgroups_any t w9 _ _ (HVT.out w9 hb))
 rw [hgo] at HGX
 unfold SizeEnd at HSX HST HDX HDT
 generalize (if t.formB=true then t.szT else 0)=n at *
 generalize sentV A t.checkC=ev at *
 generalize t.checkC=c at *
 generalize t.dpT=dt at *
 generalize t.gsT=gt at *
 clear hf hd hdo hco hfo hso hgo hto HVX HVT HE HE4 HV HO3
 unfold Tr.cells at HTU HKX HSX HDX HGX
 refine Ri.wp_region_facts (by kernel_rfl) (by kernel_rfl) (by kernel_rfl) (by kernel_rfl) 35 (by kernel_rfl) (fun kk ww vv=>match kk with | 0=>vv=.agg #[.int .i64 o.kind,.int .u64 (Oc.U o.w0),.int .u64 (Oc.U o.w1),.int .u64 (Oc.U o.w2),.int .u64 (Oc.U o.w3),.slice px o.subs.length cx,.int .i64 o.num,.int .i64 o.least,.int .i64 o.most,.bool o.bare] | 1=>∃ (p2:Option Addr) (c2:Nat) (F2:List Nat),vv=.agg (t.cells (.slice p2 t.subs.length c2))∧TreesAt ww (fun b=>b ∈ F2) (.slice p2 t.subs.length c2) t.subs | 2=>vv=.agg #[.int .i64 t.kind,.int .u64 (Oc.U t.w0),.int .u64 (Oc.U t.w1),.int .u64 (Oc.U t.w2),.int .u64 (Oc.U t.w3),.slice p t.subs.length cap,.int .i64 t.num,.int .i64 t.least,.int .i64 t.most,.bool t.bare] | 3=>vv=.bool true | 4=>vv=.bool true | 5=>vv=.agg #[.int .i64 o.kind,.int .u64 (Oc.U o.w0),.int .u64 (Oc.U o.w1),.int .u64 (Oc.U o.w2),.int .u64 (Oc.U o.w3),.slice px o.subs.length cx,.int .i64 o.num,.int .i64 o.least,.int .i64 o.most,.bool o.bare] | 6=>vv=ev | 7=>vv=.int .i64 (c:Int) | 8=>vv=.agg #[.int .i64 t.kind,.int .u64 (Oc.U t.w0),.int .u64 (Oc.U t.w1),.int .u64 (Oc.U t.w2),.int .u64 (Oc.U t.w3),.slice p t.subs.length cap,.int .i64 t.num,.int .i64 t.least,.int .i64 t.most,.bool t.bare] | 9=>vv=ev | 10=>vv=.int .i64 (c:Int) | 11=>vv=.bool true | 12=>vv=.bool true | 13=>vv=.bool true | 14=>vv=.agg #[.int .i64 o.kind,.int .u64 (Oc.U o.w0),.int .u64 (Oc.U o.w1),.int .u64 (Oc.U o.w2),.int .u64 (Oc.U o.w3),.slice px o.subs.length cx,.int .i64 o.num,.int .i64 o.least,.int .i64 o.most,.bool o.bare] | 15=>vv=.int .i64 (n:Int) | 16=>vv=.agg #[.int .i64 t.kind,.int .u64 (Oc.U t.w0),.int .u64 (Oc.U t.w1),.int .u64 (Oc.U t.w2),.int .u64 (Oc.U t.w3),.slice p t.subs.length cap,.int .i64 t.num,.int .i64 t.least,.int .i64 t.most,.bool t.bare] | 17=>vv=.int .i64 (n:Int) | 18=>vv=.bool true | 19=>vv=.bool true | 20=>vv=.bool true | 21=>vv=.agg #[.int .i64 o.kind,.int .u64 (Oc.U o.w0),.int .u64 (Oc.U o.w1),.int .u64 (Oc.U o.w2),.int .u64 (Oc.U o.w3),.slice px o.subs.length cx,.int .i64 o.num,.int .i64 o.least,.int .i64 o.most,.bool o.bare] | 22=>vv=.int .i64 (dt:Int) | 23=>vv=.agg #[.int .i64 t.kind,.int .u64 (Oc.U t.w0),.int .u64 (Oc.U t.w1),.int .u64 (Oc.U t.w2),.int .u64 (Oc.U t.w3),.slice p t.subs.length cap,.int .i64 t.num,.int .i64 t.least,.int .i64 t.most,.bool t.bare] | 24=>vv=.int .i64 (dt:Int) | 25=>vv=.bool true | 26=>vv=.bool true | 27=>vv=.bool true | 28=>vv=.agg #[.int .i64 o.kind,.int .u64 (Oc.U o.w0),.int .u64 (Oc.U o.w1),.int .u64 (Oc.U o.w2),.int .u64 (Oc.U o.w3),.slice px o.subs.length cx,.int .i64 o.num,.int .i64 o.least,.int .i64 o.most,.bool o.bare] | 29=>vv=.int .i64 gt | 30=>vv=.agg #[.int .i64 t.kind,.int .u64 (Oc.U t.w0),.int .u64 (Oc.U t.w1),.int .u64 (Oc.U t.w2),.int .u64 (Oc.U t.w3),.slice p t.subs.length cap,.int .i64 t.num,.int .i64 t.least,.int .i64 t.most,.bool t.bare] | 31=>vv=.int .i64 gt | 32=>vv=.bool true | 33=>vv=.bool true | 34=>vv=.bool true | _=>True) (fun kk ww vv w8 h hb=>by
       match kk,h with
       | 0,h=>exact h
       | 1,h=>exact h.imp fun p2 h=>h.imp fun c2 h=>h.imp fun F2 h=>⟨h.1,h.2.later hb⟩
       | 2,h=>exact h
       | 3,h=>exact h
       | 4,h=>exact h
       | 5,h=>exact h
       | 6,h=>exact h
       | 7,h=>exact h
       | 8,h=>exact h
       | 9,h=>exact h
       | 10,h=>exact h
       | 11,h=>exact h
       | 12,h=>exact h
       | 13,h=>exact h
       | 14,h=>exact h
       | 15,h=>exact h
       | 16,h=>exact h
       | 17,h=>exact h
       | 18,h=>exact h
       | 19,h=>exact h
       | 20,h=>exact h
       | 21,h=>exact h
       | 22,h=>exact h
       | 23,h=>exact h
       | 24,h=>exact h
       | 25,h=>exact h
       | 26,h=>exact h
       | 27,h=>exact h
       | 28,h=>exact h
       | 29,h=>exact h
       | 30,h=>exact h
       | 31,h=>exact h
       | 32,h=>exact h
       | 33,h=>exact h
       | 34,h=>exact h
       | _+35,_=>trivial) ?_ ?_
 · intro i hi9 L v w9 xa hF9 hL hd hv ho
   obtain ⟨hb,hk⟩:=hF9
   have hi':i=0 ∨ i=1 ∨ i=2 ∨ i=3 ∨ i=4 ∨ i=5 ∨ i=6 ∨ i=7 ∨ i=8 ∨ i=9 ∨ i=10 ∨ i=11 ∨ i=12 ∨ i=13 ∨ i=14 ∨ i=15 ∨ i=16 ∨ i=17 ∨ i=18 ∨ i=19 ∨ i=20 ∨ i=21 ∨ i=22 ∨ i=23 ∨ i=24 ∨ i=25 ∨ i=26 ∨ i=27 ∨ i=28 ∨ i=29 ∨ i=30 ∨ i=31 ∨ i=32 ∨ i=33 ∨ i=34:=by omega
   rcases hi' with rfl | rfl | rfl | rfl | rfl | rfl | rfl | rfl | rfl | rfl | rfl | rfl | rfl | rfl | rfl | rfl | rfl | rfl | rfl | rfl | rfl | rfl | rfl | rfl | rfl | rfl | rfl | rfl | rfl | rfl | rfl | rfl | rfl | rfl | rfl
   · have e3:xa.tmps.getD 3 undef=.pointer (some ⟨w3.heap.size,0,none⟩):=ho 3 (by kernel_rfl)
     refine Ri.step_plain rfl rfl (fun K' hK'=>?_)
     refine wp_load_row _ _ rfl _ e3 _ _ _ _ (keep_blk hb X3.out) Tryd.underlying37 rfl (by kernel_rfl) ?_
     exact hK' _ _ ⟨_,_,rfl,rfl,Below.refl _ _,rfl⟩
   · have j0:L 0=true:=by have:=hd _ rfl;simp [Region.binds] at this;simp [this]
     have f0:=(hv 0 11 rfl j0).trans (hk 0 j0)
     refine Ri.step_plain rfl rfl (fun K' hK'=>?_)
     go_simp
     refine (HTU.out w9 hb).mono ?_
     rintro e w8 ⟨s8,F8,rfl,ho8,-,hb8⟩
     obtain ⟨p8,c8,rfl,-⟩:=ho8.slice
     exact hK' _ _ ⟨_,_,rfl,rfl,hb8,⟨p8,c8,F8,rfl,ho8.trees⟩⟩
   · have e1:xa.tmps.getD 1 undef=.pointer (some ⟨w.heap.size,0,none⟩):=ho 1 (by kernel_rfl)
     refine Ri.step_plain rfl rfl (fun K' hK'=>?_)
     refine wp_load_row _ _ rfl _ e1 _ _ _ _ (keep_blk hb X0.out) Tryd.underlying37 rfl (by kernel_rfl) ?_
     exact hK' _ _ ⟨_,_,rfl,rfl,Below.refl _ _,rfl⟩
   · obtain ⟨j1,j2⟩:L 1=true∧L 2=true:=by have:=hd _ rfl;simp [Region.binds] at this;simp [this]
     have k1:∃ (p2:Option Addr) (c2:Nat) (F2:List Nat),(v 1)=.agg (t.cells (.slice p2 t.subs.length c2))∧TreesAt w9 (fun b=>b ∈ F2) (.slice p2 t.subs.length c2) t.subs:=hk 1 j1
     have f1:=hv 1 12 rfl j1
     have f2:=(hv 2 13 rfl j2).trans (hk 2 j2)
     refine Ri.step_plain rfl rfl (fun K' hK'=>?_)
     obtain ⟨p2,c2,F2,e2,ht2⟩:=k1
     replace f1:=f1.trans e2
     unfold Tr.cells at f1
     go_simp
     refine ((HSM.out w9 hb (.agg (t.cells (.slice p2 t.subs.length c2))) _ ⟨_,rfl,ht2⟩)).mono ?_
     rintro e w8 ⟨rfl,hb8⟩
     exact hK' _ _ ⟨_,_,rfl,rfl,hb8,rfl⟩
   · have j3:L 3=true:=by have:=hd _ rfl;simp [Region.binds] at this;simp [this]
     have f3:=(hv 3 14 rfl j3).trans (hk 3 j3)
     refine Ri.step_plain rfl rfl (fun K' hK'=>?_)
     go_simp
     exact hK' _ _ ⟨_,_,rfl,rfl,(Below.refl _ _),rfl⟩
   · have j4:L 4=true:=by have:=hd _ rfl;simp [Region.binds] at this;simp [this]
     have f4:=(hv 4 15 rfl j4).trans (hk 4 j4)
     have e3:xa.tmps.getD 3 undef=.pointer (some ⟨w3.heap.size,0,none⟩):=ho 3 (by kernel_rfl)
     refine Ri.step_wanted (b:=true) rfl rfl rfl f4 (fun K' hK'=>?_)
     refine wp_load_row _ _ rfl _ e3 _ _ _ _ (keep_blk hb X3.out) Tryd.underlying37 rfl (by kernel_rfl) ?_
     exact hK' _ _ ⟨_,_,rfl,rfl,Below.refl _ _,rfl⟩
   · obtain ⟨j4,j5⟩:L 4=true∧L 5=true:=by have:=hd _ rfl;simp [Region.binds] at this;simp [this]
     have f4:=(hv 4 15 rfl j4).trans (hk 4 j4)
     have f5:=(hv 5 16 rfl j5).trans (hk 5 j5)
     refine Ri.step_wanted (b:=true) rfl rfl rfl f4 (fun K' hK'=>?_)
     go_simp
     refine (HKX.out w9 hb).mono ?_
     rintro e w8 ⟨rfl,hb8⟩
     exact hK' _ _ ⟨_,_,rfl,rfl,hb8,rfl⟩
   · obtain ⟨j4,j6⟩:L 4=true∧L 6=true:=by have:=hd _ rfl;simp [Region.binds] at this;simp [this]
     have f4:=(hv 4 15 rfl j4).trans (hk 4 j4)
     have f6:=(hv 6 17 rfl j6).trans (hk 6 j6)
     refine Ri.step_wanted (b:=true) rfl rfl rfl f4 (fun K' hK'=>?_)
     go_simp
     refine (HNU.out w9 hb).mono ?_
     rintro e w8 ⟨rfl,hb8⟩
     exact hK' _ _ ⟨_,_,rfl,rfl,hb8,rfl⟩
   · have j4:L 4=true:=by have:=hd _ rfl;simp [Region.binds] at this;simp [this]
     have f4:=(hv 4 15 rfl j4).trans (hk 4 j4)
     have e1:xa.tmps.getD 1 undef=.pointer (some ⟨w.heap.size,0,none⟩):=ho 1 (by kernel_rfl)
     refine Ri.step_wanted (b:=true) rfl rfl rfl f4 (fun K' hK'=>?_)
     refine wp_load_row _ _ rfl _ e1 _ _ _ _ (keep_blk hb X0.out) Tryd.underlying37 rfl (by kernel_rfl) ?_
     exact hK' _ _ ⟨_,_,rfl,rfl,Below.refl _ _,rfl⟩
   · obtain ⟨j4,j8⟩:L 4=true∧L 8=true:=by have:=hd _ rfl;simp [Region.binds] at this;simp [this]
     have f4:=(hv 4 15 rfl j4).trans (hk 4 j4)
     have f8:=(hv 8 19 rfl j8).trans (hk 8 j8)
     refine Ri.step_wanted (b:=true) rfl rfl rfl f4 (fun K' hK'=>?_)
     go_simp
     refine (HKT.out w9 hb).mono ?_
     rintro e w8 ⟨rfl,hb8⟩
     exact hK' _ _ ⟨_,_,rfl,rfl,hb8,rfl⟩
   · obtain ⟨j4,j9⟩:L 4=true∧L 9=true:=by have:=hd _ rfl;simp [Region.binds] at this;simp [this]
     have f4:=(hv 4 15 rfl j4).trans (hk 4 j4)
     have f9:=(hv 9 20 rfl j9).trans (hk 9 j9)
     refine Ri.step_wanted (b:=true) rfl rfl rfl f4 (fun K' hK'=>?_)
     go_simp
     refine (HNU.out w9 hb).mono ?_
     rintro e w8 ⟨rfl,hb8⟩
     exact hK' _ _ ⟨_,_,rfl,rfl,hb8,rfl⟩
   · obtain ⟨j4,j7,j10⟩:L 4=true∧L 7=true∧L 10=true:=by have:=hd _ rfl;simp [Region.binds] at this;simp [this]
     have f4:=(hv 4 15 rfl j4).trans (hk 4 j4)
     have f7:=(hv 7 18 rfl j7).trans (hk 7 j7)
     have f10:=(hv 10 21 rfl j10).trans (hk 10 j10)
     refine Ri.step_wanted (b:=true) rfl rfl rfl f4 (fun K' hK'=>?_)
     go_simp
     exact hK' _ _ ⟨_,_,rfl,rfl,(Below.refl _ _),rfl⟩
   · obtain ⟨j4,j11⟩:L 4=true∧L 11=true:=by have:=hd _ rfl;simp [Region.binds] at this;simp [this]
     have f4:=(hv 4 15 rfl j4).trans (hk 4 j4)
     have f11:=(hv 11 22 rfl j11).trans (hk 11 j11)
     refine Ri.step_plain rfl rfl (fun K' hK'=>?_)
     go_simp
     exact hK' _ _ ⟨_,_,rfl,rfl,(Below.refl _ _),rfl⟩
   · have j12:L 12=true:=by have:=hd _ rfl;simp [Region.binds] at this;simp [this]
     have f12:=(hv 12 23 rfl j12).trans (hk 12 j12)
     refine Ri.step_plain rfl rfl (fun K' hK'=>?_)
     go_simp
     exact hK' _ _ ⟨_,_,rfl,rfl,(Below.refl _ _),rfl⟩
   · have j13:L 13=true:=by have:=hd _ rfl;simp [Region.binds] at this;simp [this]
     have f13:=(hv 13 24 rfl j13).trans (hk 13 j13)
     have e3:xa.tmps.getD 3 undef=.pointer (some ⟨w3.heap.size,0,none⟩):=ho 3 (by kernel_rfl)
     refine Ri.step_wanted (b:=true) rfl rfl rfl f13 (fun K' hK'=>?_)
     refine wp_load_row _ _ rfl _ e3 _ _ _ _ (keep_blk hb X3.out) Tryd.underlying37 rfl (by kernel_rfl) ?_
     exact hK' _ _ ⟨_,_,rfl,rfl,Below.refl _ _,rfl⟩
   · obtain ⟨j13,j14⟩:L 13=true∧L 14=true:=by have:=hd _ rfl;simp [Region.binds] at this;simp [this]
     have f13:=(hv 13 24 rfl j13).trans (hk 13 j13)
     have f14:=(hv 14 25 rfl j14).trans (hk 14 j14)
     refine Ri.step_wanted (b:=true) rfl rfl rfl f13 (fun K' hK'=>?_)
     go_simp
     refine (HSX.out w9 hb).mono ?_
     rintro e w8 ⟨rfl,hb8⟩
     exact hK' _ _ ⟨_,_,rfl,rfl,hb8,rfl⟩
   · have j13:L 13=true:=by have:=hd _ rfl;simp [Region.binds] at this;simp [this]
     have f13:=(hv 13 24 rfl j13).trans (hk 13 j13)
     have e1:xa.tmps.getD 1 undef=.pointer (some ⟨w.heap.size,0,none⟩):=ho 1 (by kernel_rfl)
     refine Ri.step_wanted (b:=true) rfl rfl rfl f13 (fun K' hK'=>?_)
     refine wp_load_row _ _ rfl _ e1 _ _ _ _ (keep_blk hb X0.out) Tryd.underlying37 rfl (by kernel_rfl) ?_
     exact hK' _ _ ⟨_,_,rfl,rfl,Below.refl _ _,rfl⟩
   · obtain ⟨j13,j16⟩:L 13=true∧L 16=true:=by have:=hd _ rfl;simp [Region.binds] at this;simp [this]
     have f13:=(hv 13 24 rfl j13).trans (hk 13 j13)
     have f16:=(hv 16 27 rfl j16).trans (hk 16 j16)
     refine Ri.step_wanted (b:=true) rfl rfl rfl f13 (fun K' hK'=>?_)
     go_simp
     refine (HST.out w9 hb).mono ?_
     rintro e w8 ⟨rfl,hb8⟩
     exact hK' _ _ ⟨_,_,rfl,rfl,hb8,rfl⟩
   · obtain ⟨j13,j15,j17⟩:L 13=true∧L 15=true∧L 17=true:=by have:=hd _ rfl;simp [Region.binds] at this;simp [this]
     have f13:=(hv 13 24 rfl j13).trans (hk 13 j13)
     have f15:=(hv 15 26 rfl j15).trans (hk 15 j15)
     have f17:=(hv 17 28 rfl j17).trans (hk 17 j17)
     refine Ri.step_wanted (b:=true) rfl rfl rfl f13 (fun K' hK'=>?_)
     go_simp
     exact hK' _ _ ⟨_,_,rfl,rfl,(Below.refl _ _),rfl⟩
   · obtain ⟨j13,j18⟩:L 13=true∧L 18=true:=by have:=hd _ rfl;simp [Region.binds] at this;simp [this]
     have f13:=(hv 13 24 rfl j13).trans (hk 13 j13)
     have f18:=(hv 18 29 rfl j18).trans (hk 18 j18)
     refine Ri.step_plain rfl rfl (fun K' hK'=>?_)
     go_simp
     exact hK' _ _ ⟨_,_,rfl,rfl,(Below.refl _ _),rfl⟩
   · have j19:L 19=true:=by have:=hd _ rfl;simp [Region.binds] at this;simp [this]
     have f19:=(hv 19 30 rfl j19).trans (hk 19 j19)
     refine Ri.step_plain rfl rfl (fun K' hK'=>?_)
     go_simp
     exact hK' _ _ ⟨_,_,rfl,rfl,(Below.refl _ _),rfl⟩
   · have j20:L 20=true:=by have:=hd _ rfl;simp [Region.binds] at this;simp [this]
     have f20:=(hv 20 31 rfl j20).trans (hk 20 j20)
     have e3:xa.tmps.getD 3 undef=.pointer (some ⟨w3.heap.size,0,none⟩):=ho 3 (by kernel_rfl)
     refine Ri.step_wanted (b:=true) rfl rfl rfl f20 (fun K' hK'=>?_)
     refine wp_load_row _ _ rfl _ e3 _ _ _ _ (keep_blk hb X3.out) Tryd.underlying37 rfl (by kernel_rfl) ?_
     exact hK' _ _ ⟨_,_,rfl,rfl,Below.refl _ _,rfl⟩
   · obtain ⟨j20,j21⟩:L 20=true∧L 21=true:=by have:=hd _ rfl;simp [Region.binds] at this;simp [this]
     have f20:=(hv 20 31 rfl j20).trans (hk 20 j20)
     have f21:=(hv 21 32 rfl j21).trans (hk 21 j21)
     refine Ri.step_wanted (b:=true) rfl rfl rfl f20 (fun K' hK'=>?_)
     go_simp
     refine (HDX.out w9 hb).mono ?_
     rintro e w8 ⟨rfl,hb8⟩
     exact hK' _ _ ⟨_,_,rfl,rfl,hb8,rfl⟩
   · have j20:L 20=true:=by have:=hd _ rfl;simp [Region.binds] at this;simp [this]
     have f20:=(hv 20 31 rfl j20).trans (hk 20 j20)
     have e1:xa.tmps.getD 1 undef=.pointer (some ⟨w.heap.size,0,none⟩):=ho 1 (by kernel_rfl)
     refine Ri.step_wanted (b:=true) rfl rfl rfl f20 (fun K' hK'=>?_)
     refine wp_load_row _ _ rfl _ e1 _ _ _ _ (keep_blk hb X0.out) Tryd.underlying37 rfl (by kernel_rfl) ?_
     exact hK' _ _ ⟨_,_,rfl,rfl,Below.refl _ _,rfl⟩
   · obtain ⟨j20,j23⟩:L 20=true∧L 23=true:=by have:=hd _ rfl;simp [Region.binds] at this;simp [this]
     have f20:=(hv 20 31 rfl j20).trans (hk 20 j20)
     have f23:=(hv 23 34 rfl j23).trans (hk 23 j23)
     refine Ri.step_wanted (b:=true) rfl rfl rfl f20 (fun K' hK'=>?_)
     go_simp
     refine (HDT.out w9 hb).mono ?_
     rintro e w8 ⟨rfl,hb8⟩
     exact hK' _ _ ⟨_,_,rfl,rfl,hb8,rfl⟩
   · obtain ⟨j20,j22,j24⟩:L 20=true∧L 22=true∧L 24=true:=by have:=hd _ rfl;simp [Region.binds] at this;simp [this]
     have f20:=(hv 20 31 rfl j20).trans (hk 20 j20)
     have f22:=(hv 22 33 rfl j22).trans (hk 22 j22)
     have f24:=(hv 24 35 rfl j24).trans (hk 24 j24)
     refine Ri.step_wanted (b:=true) rfl rfl rfl f20 (fun K' hK'=>?_)
     go_simp
     exact hK' _ _ ⟨_,_,rfl,rfl,(Below.refl _ _),rfl⟩
   · obtain ⟨j20,j25⟩:L 20=true∧L 25=true:=by have:=hd _ rfl;simp [Region.binds] at this;simp [this]
     have f20:=(hv 20 31 rfl j20).trans (hk 20 j20)
     have f25:=(hv 25 36 rfl j25).trans (hk 25 j25)
     refine Ri.step_plain rfl rfl (fun K' hK'=>?_)
     go_simp
     exact hK' _ _ ⟨_,_,rfl,rfl,(Below.refl _ _),rfl⟩
   · have j26:L 26=true:=by have:=hd _ rfl;simp [Region.binds] at this;simp [this]
     have f26:=(hv 26 37 rfl j26).trans (hk 26 j26)
     refine Ri.step_plain rfl rfl (fun K' hK'=>?_)
     go_simp
     exact hK' _ _ ⟨_,_,rfl,rfl,(Below.refl _ _),rfl⟩
   · have j27:L 27=true:=by have:=hd _ rfl;simp [Region.binds] at this;simp [this]
     have f27:=(hv 27 38 rfl j27).trans (hk 27 j27)
     have e3:xa.tmps.getD 3 undef=.pointer (some ⟨w3.heap.size,0,none⟩):=ho 3 (by kernel_rfl)
     refine Ri.step_wanted (b:=true) rfl rfl rfl f27 (fun K' hK'=>?_)
     refine wp_load_row _ _ rfl _ e3 _ _ _ _ (keep_blk hb X3.out) Tryd.underlying37 rfl (by kernel_rfl) ?_
     exact hK' _ _ ⟨_,_,rfl,rfl,Below.refl _ _,rfl⟩
   · obtain ⟨j27,j28⟩:L 27=true∧L 28=true:=by have:=hd _ rfl;simp [Region.binds] at this;simp [this]
     have f27:=(hv 27 38 rfl j27).trans (hk 27 j27)
     have f28:=(hv 28 39 rfl j28).trans (hk 28 j28)
     refine Ri.step_wanted (b:=true) rfl rfl rfl f27 (fun K' hK'=>?_)
     go_simp
     refine (HGX.out w9 hb).mono ?_
     rintro e w8 ⟨rfl,hb8⟩
     exact hK' _ _ ⟨_,_,rfl,rfl,hb8,rfl⟩
   · have j27:L 27=true:=by have:=hd _ rfl;simp [Region.binds] at this;simp [this]
     have f27:=(hv 27 38 rfl j27).trans (hk 27 j27)
     have e1:xa.tmps.getD 1 undef=.pointer (some ⟨w.heap.size,0,none⟩):=ho 1 (by kernel_rfl)
     refine Ri.step_wanted (b:=true) rfl rfl rfl f27 (fun K' hK'=>?_)
     refine wp_load_row _ _ rfl _ e1 _ _ _ _ (keep_blk hb X0.out) Tryd.underlying37 rfl (by kernel_rfl) ?_
     exact hK' _ _ ⟨_,_,rfl,rfl,Below.refl _ _,rfl⟩
   · obtain ⟨j27,j30⟩:L 27=true∧L 30=true:=by have:=hd _ rfl;simp [Region.binds] at this;simp [this]
     have f27:=(hv 27 38 rfl j27).trans (hk 27 j27)
     have f30:=(hv 30 41 rfl j30).trans (hk 30 j30)
     refine Ri.step_wanted (b:=true) rfl rfl rfl f27 (fun K' hK'=>?_)
     go_simp
     refine (HGT.out w9 hb).mono ?_
     rintro e w8 ⟨rfl,hb8⟩
     exact hK' _ _ ⟨_,_,rfl,rfl,hb8,rfl⟩
   · obtain ⟨j27,j29,j31⟩:L 27=true∧L 29=true∧L 31=true:=by have:=hd _ rfl;simp [Region.binds] at this;simp [this]
     have f27:=(hv 27 38 rfl j27).trans (hk 27 j27)
     have f29:=(hv 29 40 rfl j29).trans (hk 29 j29)
     have f31:=(hv 31 42 rfl j31).trans (hk 31 j31)
     refine Ri.step_wanted (b:=true) rfl rfl rfl f27 (fun K' hK'=>?_)
     go_simp
     exact hK' _ _ ⟨_,_,rfl,rfl,(Below.refl _ _),rfl⟩
   · obtain ⟨j27,j32⟩:L 27=true∧L 32=true:=by have:=hd _ rfl;simp [Region.binds] at this;simp [this]
     have f27:=(hv 27 38 rfl j27).trans (hk 27 j27)
     have f32:=(hv 32 43 rfl j32).trans (hk 32 j32)
     refine Ri.step_plain rfl rfl (fun K' hK'=>?_)
     go_simp
     exact hK' _ _ ⟨_,_,rfl,rfl,(Below.refl _ _),rfl⟩
   · have j33:L 33=true:=by have:=hd _ rfl;simp [Region.binds] at this;simp [this]
     have f33:=(hv 33 44 rfl j33).trans (hk 33 j33)
     refine Ri.step_plain rfl rfl (fun K' hK'=>?_)
     go_simp
     exact hK' _ _ ⟨_,_,rfl,rfl,(Below.refl _ _),rfl⟩
 · intro v w9 hb hk
   have k0:v 0=.agg #[.int .i64 o.kind,.int .u64 (Oc.U o.w0),.int .u64 (Oc.U o.w1),.int .u64 (Oc.U o.w2),.int .u64 (Oc.U o.w3),.slice px o.subs.length cx,.int .i64 o.num,.int .i64 o.least,.int .i64 o.most,.bool o.bare]:=hk 0 (by omega)
   have k1:∃ (p2:Option Addr) (c2:Nat) (F2:List Nat),(v 1)=.agg (t.cells (.slice p2 t.subs.length c2))∧TreesAt w9 (fun b=>b ∈ F2) (.slice p2 t.subs.length c2) t.subs:=hk 1 (by omega)
   have k2:v 2=.agg #[.int .i64 t.kind,.int .u64 (Oc.U t.w0),.int .u64 (Oc.U t.w1),.int .u64 (Oc.U t.w2),.int .u64 (Oc.U t.w3),.slice p t.subs.length cap,.int .i64 t.num,.int .i64 t.least,.int .i64 t.most,.bool t.bare]:=hk 2 (by omega)
   have k3:v 3=.bool true:=hk 3 (by omega)
   have k4:v 4=.bool true:=hk 4 (by omega)
   have k5:v 5=.agg #[.int .i64 o.kind,.int .u64 (Oc.U o.w0),.int .u64 (Oc.U o.w1),.int .u64 (Oc.U o.w2),.int .u64 (Oc.U o.w3),.slice px o.subs.length cx,.int .i64 o.num,.int .i64 o.least,.int .i64 o.most,.bool o.bare]:=hk 5 (by omega)
   have k6:v 6=ev:=hk 6 (by omega)
   have k7:v 7=.int .i64 (c:Int):=hk 7 (by omega)
   have k8:v 8=.agg #[.int .i64 t.kind,.int .u64 (Oc.U t.w0),.int .u64 (Oc.U t.w1),.int .u64 (Oc.U t.w2),.int .u64 (Oc.U t.w3),.slice p t.subs.length cap,.int .i64 t.num,.int .i64 t.least,.int .i64 t.most,.bool t.bare]:=hk 8 (by omega)
   have k9:v 9=ev:=hk 9 (by omega)
   have k10:v 10=.int .i64 (c:Int):=hk 10 (by omega)
   have k11:v 11=.bool true:=hk 11 (by omega)
   have k12:v 12=.bool true:=hk 12 (by omega)
   have k13:v 13=.bool true:=hk 13 (by omega)
   have k14:v 14=.agg #[.int .i64 o.kind,.int .u64 (Oc.U o.w0),.int .u64 (Oc.U o.w1),.int .u64 (Oc.U o.w2),.int .u64 (Oc.U o.w3),.slice px o.subs.length cx,.int .i64 o.num,.int .i64 o.least,.int .i64 o.most,.bool o.bare]:=hk 14 (by omega)
   have k15:v 15=.int .i64 (n:Int):=hk 15 (by omega)
   have k16:v 16=.agg #[.int .i64 t.kind,.int .u64 (Oc.U t.w0),.int .u64 (Oc.U t.w1),.int .u64 (Oc.U t.w2),.int .u64 (Oc.U t.w3),.slice p t.subs.length cap,.int .i64 t.num,.int .i64 t.least,.int .i64 t.most,.bool t.bare]:=hk 16 (by omega)
   have k17:v 17=.int .i64 (n:Int):=hk 17 (by omega)
   have k18:v 18=.bool true:=hk 18 (by omega)
   have k19:v 19=.bool true:=hk 19 (by omega)
   have k20:v 20=.bool true:=hk 20 (by omega)
   have k21:v 21=.agg #[.int .i64 o.kind,.int .u64 (Oc.U o.w0),.int .u64 (Oc.U o.w1),.int .u64 (Oc.U o.w2),.int .u64 (Oc.U o.w3),.slice px o.subs.length cx,.int .i64 o.num,.int .i64 o.least,.int .i64 o.most,.bool o.bare]:=hk 21 (by omega)
   have k22:v 22=.int .i64 (dt:Int):=hk 22 (by omega)
   have k23:v 23=.agg #[.int .i64 t.kind,.int .u64 (Oc.U t.w0),.int .u64 (Oc.U t.w1),.int .u64 (Oc.U t.w2),.int .u64 (Oc.U t.w3),.slice p t.subs.length cap,.int .i64 t.num,.int .i64 t.least,.int .i64 t.most,.bool t.bare]:=hk 23 (by omega)
   have k24:v 24=.int .i64 (dt:Int):=hk 24 (by omega)
   have k25:v 25=.bool true:=hk 25 (by omega)
   have k26:v 26=.bool true:=hk 26 (by omega)
   have k27:v 27=.bool true:=hk 27 (by omega)
   have k28:v 28=.agg #[.int .i64 o.kind,.int .u64 (Oc.U o.w0),.int .u64 (Oc.U o.w1),.int .u64 (Oc.U o.w2),.int .u64 (Oc.U o.w3),.slice px o.subs.length cx,.int .i64 o.num,.int .i64 o.least,.int .i64 o.most,.bool o.bare]:=hk 28 (by omega)
   have k29:v 29=.int .i64 gt:=hk 29 (by omega)
   have k30:v 30=.agg #[.int .i64 t.kind,.int .u64 (Oc.U t.w0),.int .u64 (Oc.U t.w1),.int .u64 (Oc.U t.w2),.int .u64 (Oc.U t.w3),.slice p t.subs.length cap,.int .i64 t.num,.int .i64 t.least,.int .i64 t.most,.bool t.bare]:=hk 30 (by omega)
   have k31:v 31=.int .i64 gt:=hk 31 (by omega)
   have k32:v 32=.bool true:=hk 32 (by omega)
   have k33:v 33=.bool true:=hk 33 (by omega)
   have k34:v 34=.bool true:=hk 34 (by omega)
   simp only [Ri.frame,List.zipIdx,List.foldl_cons,List.foldl_nil,if_true,List.setIfInBounds_toArray,List.set_cons_zero,List.set_cons_succ,Nat.reduceAdd,k34]
   generalize v 0=z0;generalize v 1=z1;generalize v 2=z2;generalize v 3=z3;generalize v 4=z4;generalize v 5=z5;generalize v 6=z6;generalize v 7=z7;generalize v 8=z8;generalize v 9=z9;generalize v 10=z10;generalize v 11=z11;generalize v 12=z12;generalize v 13=z13;generalize v 14=z14;generalize v 15=z15;generalize v 16=z16;generalize v 17=z17;generalize v 18=z18;generalize v 19=z19;generalize v 20=z20;generalize v 21=z21;generalize v 22=z22;generalize v 23=z23;generalize v 24=z24;generalize v 25=z25;generalize v 26=z26;generalize v 27=z27;generalize v 28=z28;generalize v 29=z29;generalize v 30=z30;generalize v 31=z31;generalize v 32=z32;generalize v 33=z33
   have HB7:=Lib.hid (HB.out.trans (hb.mono HB.out.size))
   clear hb
   go_wp2
   go_ret
   exact ⟨rfl,HB7.out⟩
end Go.Proofs.YtedjkbmfpjmlpaaDoor
namespace Go.Proofs.YtedjkbmfpjmlpaaDoor
open Go.ChangeShapes Go.WideShapes Go.ChangeAt Go.RowKit
theorem Tryd.cellsSet:Tryd.prog.cellsOf 24=4:=by kernel_rfl
theorem Tryd.cellsU64:Tryd.prog.cellsOf 22=1:=by kernel_rfl
theorem word_of {n:Int} (h:(Lit.int .u64 n).wf=true):∃ x:BitVec 64,n=Oc.U x:=by
 simp only [Lit.wf,IntKind.min,IntKind.max,IntKind.signed,IntKind.bits,Bool.and_eq_true] at h
 refine ⟨BitVec.ofInt 64 n, ?_⟩
 unfold Oc.U;rw [BitVec.toNat_ofInt]
 have h1:=h.1;have h2:=h.2
 simp at h1 h2
 omega
theorem open_words {H:Type} {enc:TypeId × Value→H} {w:World} {base:Nat} {spare:Nat→Bool} {held:Bool} {fuel:Nat} {c0 c1 c2 c3:Value} {x:DataW H × List MemPlace}
   (h:DataW.trod enc Tryd.prog w base spare held fuel 24 [c0,c1,c2,c3]=some x):∃ a b c d:BitVec 64,c0=.int .u64 (Oc.U a)∧c1=.int .u64 (Oc.U b)∧c2=.int .u64 (Oc.U c)∧c3=.int .u64 (Oc.U d):=by
 obtain ⟨y0,y1,y2,y3,n,_,h0,h1,h2,h3⟩:=trod_array4 Tryd.underlying24 Tryd.cellsU64 h
 obtain ⟨n0,e0,-,w0⟩:=DataW.trod_int Tryd.underlying22 h0
 obtain ⟨n1,e1,-,w1⟩:=DataW.trod_int Tryd.underlying22 h1
 obtain ⟨n2,e2,-,w2⟩:=DataW.trod_int Tryd.underlying22 h2
 obtain ⟨n3,e3,-,w3⟩:=DataW.trod_int Tryd.underlying22 h3
 obtain ⟨a,rfl⟩:=word_of w0
 obtain ⟨b,rfl⟩:=word_of w1
 obtain ⟨c,rfl⟩:=word_of w2
 obtain ⟨d,rfl⟩:=word_of w3
 simp only [List.cons.injEq,and_true] at e0 e1 e2 e3
 exact ⟨a,b,c,d,e0,e1,e2,e3⟩
theorem Tryd.own:ownKnob Tryd.prog.godebug=none:=by kernel_rfl
theorem Tryd.laidOut:laidOutB Tryd.prog=true:=by kernel_rfl
end Go.Proofs.YtedjkbmfpjmlpaaDoor
namespace Go.Proofs.YtedjkbmfpjmlpaaDoor
open Go.ChangeShapes Go.WideShapes Go.ChangeAt Go.RowKit
theorem Tryd.cellsNodeO:Tryd.prog.cellsOf 37=10:=by kernel_rfl
theorem Tryd.cellsIntO:Tryd.prog.cellsOf 3=1:=by kernel_rfl
theorem Tryd.cellsBoolO:Tryd.prog.cellsOf 4=1:=by kernel_rfl
theorem Tryd.cellsNodesO:Tryd.prog.cellsOf 35=1:=by kernel_rfl
theorem Tryd.bytesNodeO:Tryd.prog.bytesOf 37=96:=by kernel_rfl
theorem list10 {α:Type} {l:List α} (h:l.length=10):∃ a0 a1 a2 a3 a4 a5 a6 a7 a8 a9,l=[a0,a1,a2,a3,a4,a5,a6,a7,a8,a9]:=by
 match l,h with
 | [a0,a1,a2,a3,a4,a5,a6,a7,a8,a9],_=>exact ⟨a0,a1,a2,a3,a4,a5,a6,a7,a8,a9,rfl⟩
theorem list7 {α:Type} {l:List α} (h:l.length=7):∃ a0 a1 a2 a3 a4 a5 a6,l=[a0,a1,a2,a3,a4,a5,a6]:=by
 match l,h with
 | [a0,a1,a2,a3,a4,a5,a6],_=>exact ⟨a0,a1,a2,a3,a4,a5,a6,rfl⟩
theorem weightsAll_mem {H:Type} {P:Program} {e:TypeId} {k:Nat} {d:DataW H} : ∀ {l:List (DataW H)},d ∈ l→k ∈ d.weights P e→k ∈ DataW.weightsAll P e l
 | [],h,_=>by cases h
 | x :: l,h,hk=>by
   rw [DataW.weightsAll]
   rcases List.mem_cons.1 h with rfl | h
   · exact List.mem_append_left _ hk
   · exact List.mem_append_right _ (weightsAll_mem h hk)
theorem add_at {a:Addr} (h:a.spot=none) (m:Nat):a.add m=⟨a.block,a.off+m,none⟩:=by
 unfold Addr.add
 split
 · rename_i h0;subst h0;cases a;simp_all
 · rfl
theorem open_node {H:Type} {enc:TypeId × Value→H} {W:World} {base:Nat} {spare:Nat→Bool} {held:Bool} : ∀ (fuel:Nat) (cs:List Value) (x:DataW H × List MemPlace),
   DataW.trod enc Tryd.prog W base spare held fuel 37 cs=some x→(∀ k,k ∈ x.1.weights Tryd.prog 37→k ≤ 140737488351232) →
   ∃ (t:Tr) (s:Value),cs=(t.cells s).toList∧TreesAt W (fun _=>True) s t.subs:=by
 intro fuel
 induction fuel using Nat.strongRecOn with
 | _ fuel ih =>
   intro cs x h hw
   obtain ⟨xs,n,rfl,rfl,hlen,hxs,hf⟩:=DataW.trod_struct Tryd.underlying37 h
   rw [Tryd.cellsNodeO] at hlen
   obtain ⟨c0,c1,c2,c3,c4,c5,c6,c7,c8,c9,rfl⟩:=list10 hlen
   obtain ⟨y0,y1,y2,y3,y4,y5,y6,rfl⟩:=list7 (by simpa using hxs)
   have f0:=hf 0 _ rfl;have f1:=hf 1 _ rfl;have f2:=hf 2 _ rfl;have f3:=hf 3 _ rfl;have f4:=hf 4 _ rfl;have f5:=hf 5 _ rfl;have f6:=hf 6 _ rfl
   simp only [List.getElem_toArray,List.getElem_cons_zero,List.getElem_cons_succ,Tryd.cellsIntO,Tryd.cellsBoolO,Tryd.cellsNodesO,Tryd.cellsSet,List.drop_zero,List.drop_succ_cons,List.take_succ_cons,List.take_zero,List.getElem?_cons_zero,List.getElem?_cons_succ] at f0 f1 f2 f3 f4 f5 f6
   obtain ⟨k,e0,-,-⟩:=DataW.trod_int Tryd.underlying3 f0
   obtain ⟨a,b,c,d,rfl,rfl,rfl,rfl⟩:=open_words f1
   obtain ⟨nn,e3,-,-⟩:=DataW.trod_int Tryd.underlying3 f3
   obtain ⟨lo,e4,-,-⟩:=DataW.trod_int Tryd.underlying3 f4
   obtain ⟨hi,e5,-,-⟩:=DataW.trod_int Tryd.underlying3 f5
   obtain ⟨br,e6,-⟩:=DataW.trod_bool Tryd.underlying4 f6
   simp only [List.cons.injEq,and_true] at e0 e3 e4 e5 e6
   subst e0 e3 e4 e5 e6
   have fin:∀ (ts:List Tr),TreesAt W (fun _=>True) c5 ts→∃ (t:Tr) (s:Value),[.int .i64 k,.int .u64 (Oc.U a),.int .u64 (Oc.U b),.int .u64 (Oc.U c),.int .u64 (Oc.U d),c5,.int .i64 nn,.int .i64 lo,.int .i64 hi,.bool br]=(t.cells s).toList∧TreesAt W (fun _=>True) s t.subs :=
     fun ts hts=>⟨.node k a b c d ts nn lo hi br,c5,rfl,hts⟩
   rcases DataW.trod_slice Tryd.underlying35 f2 with ⟨hc5,-⟩ | ⟨ad,len,cap,elems,rest,n',rfl,hc5,hx,-,-,-,hel,hall,-,-⟩
   · simp only [List.cons.injEq,and_true] at hc5
     subst hc5
     exact fin [] TreesAt.nil
   · simp only [List.cons.injEq,and_true] at hc5
     subst hc5
     rw [Tryd.cellsNodeO] at hall
     have hwn:∀ k,k ∈ y2.1.weights Tryd.prog 35→k ≤ 140737488351232:=fun k hk=>hw k (by
       rw [DataW.weights,Tryd.underlying37]
       exact DataW.weights_mem_each (j:=2) rfl rfl k hk)
     have hlen96:len * 96 ≤ 140737488351232:=by
       have:=hwn ((elems.length+rest.length) * 96) (by
         rw [hx]
         simp only [DataW.weights,Tryd.underlying35,Tryd.bytesNodeO,List.length_map]
         exact List.mem_cons_self)
       rw [hel] at this
       have h2:len * 96 ≤ (len+rest.length) * 96:=Nat.mul_le_mul_right _ (by omega)
       omega
     have key:∀ i,∃ (t:Tr) (s:Value),i < len→(∃ b o,some ad=some ⟨b,o,none⟩∧TenAt W b (o+i * 10) t s)∧TreesAt W (fun _=>True) s t.subs:=by
       intro i
       by_cases hi:i < len
       · have h1:=hall i hi
         rw [List.getElem?_eq_getElem (by omega)] at h1
         obtain ⟨csi,hcs,htr⟩:=Option.bind_eq_some_iff.1 h1
         obtain ⟨t,s,hts,hsub⟩:=ih n' (by omega) csi _ htr (fun k hk=>hwn k (by
           rw [hx]
           simp only [DataW.weights,Tryd.underlying35]
           refine List.mem_cons_of_mem _ (List.mem_append_left _ (weightsAll_mem (d:=elems[i].1) ?_ hk))
           exact List.mem_map.2 ⟨elems[i],List.getElem_mem _,rfl⟩))
         obtain ⟨-,-,hcell⟩:=World.cells?_some hcs
         have hspot:ad.spot=none:=by
           have h0:=hall 0 (by omega)
           rw [List.getElem?_eq_getElem (by omega)] at h0
           obtain ⟨cs0,hcs0,htr0⟩:=Option.bind_eq_some_iff.1 h0
           obtain ⟨t0,s0,hts0,-⟩:=ih n' (by omega) cs0 _ htr0 (fun k hk=>hwn k (by
             rw [hx]
             simp only [DataW.weights,Tryd.underlying35]
             refine List.mem_cons_of_mem _ (List.mem_append_left _ (weightsAll_mem (d:=elems[0].1) ?_ hk))
             exact List.mem_map.2 ⟨elems[0],List.getElem_mem _,rfl⟩))
           have h2:=(World.cells?_some hcs0).2.2 0 (by omega)
           rw [hts0] at h2
           have e:(ad.add (0 * 10)).add 0=ad:=by simp [Addr.add]
           rw [e] at h2
           cases hsp:ad.spot with
           | none=>rfl
           | some z =>
             unfold World.cell? at h2
             rw [hsp] at h2
             split at h2 <;> simp [Tr.cells] at h2
         have hadd:∀ j,(ad.add (i * 10)).add j=⟨ad.block,ad.off+i * 10+j,none⟩:=fun j=>by
           rw [add_at hspot,add_at (a:=⟨ad.block,ad.off+i * 10,none⟩) rfl]
         refine ⟨t,s,fun _=>⟨⟨ad.block,ad.off,by cases ad;simp_all, ?_⟩,hsub⟩⟩
         rw [hts] at hcell
         have get:∀ j u,j < 10→(t.cells s).toList[j]? = some u→W.cell? ⟨ad.block,ad.off+i * 10+j,none⟩=some u:=fun j u hj hu=>by
           rw [← hadd j,hcell j hj,hu]
         exact ⟨get 0 _ (by omega) rfl,get 1 _ (by omega) rfl,get 2 _ (by omega) rfl,get 3 _ (by omega) rfl,get 4 _ (by omega) rfl,get 5 _ (by omega) rfl,get 6 _ (by omega) rfl,get 7 _ (by omega) rfl,get 8 _ (by omega) rfl,get 9 _ (by omega) rfl⟩
       · exact ⟨.node 0 0#64 0#64 0#64 0#64 [] 0 0 0 false,.nilIface,fun h=>absurd h hi⟩
     obtain ⟨T,hT⟩:=Classical.axiomOfChoice key
     obtain ⟨S,hS⟩:=Classical.axiomOfChoice hT
     have hl:((List.range len).map T).length=len:=by simp
     have hg:∀ i t,((List.range len).map T)[i]? = some t→i < len∧t=T i:=fun i t h=>by
       rw [List.getElem?_map] at h
       by_cases hi:i < len
       · rw [List.getElem?_range hi] at h
         exact ⟨hi,(Option.some.inj h).symm⟩
       · rw [List.getElem?_eq_none (by simp;omega)] at h;cases h
     have:=TreesAt.mk (w:=W) (B:=fun _=>True) (some ad) cap ((List.range len).map T) S (by rw [hl];exact hlen96) (fun i t h=>by
       obtain ⟨hi,rfl⟩:=hg i t h
       obtain ⟨⟨b,o,e,ht⟩,-⟩:=hS i hi
       exact ⟨b,o,e,trivial,ht⟩) (fun i t h=>by
       obtain ⟨hi,rfl⟩:=hg i t h
       exact (hS i hi).2)
     rw [hl] at this
     exact fin _ this
theorem open_tree {H:Type} {enc:TypeId × Value→H} {w:World} {base b0:Nat} {spare:Nat→Bool} {held:Bool} {v:Value} {y:DataW H} {ps:List MemPlace} {r:Reach}
   (hv:Value.okWide Tryd.prog w r b0 37 v) (h:DataW.Trod enc Tryd.prog w base spare held 37 v y ps) (hw:∀ k,k ∈ y.weights Tryd.prog 37→k ≤ 140737488351232):∃ t,NodeV w (fun _=>True) v t:=by
 unfold Value.okWide at hv
 rw [Tryd.underlying37] at hv
 obtain ⟨cs,rfl,hsz,-⟩:=hv
 obtain ⟨fuel,hf⟩:=h
 obtain ⟨t,s,e,hs⟩:=open_node fuel _ _ hf hw
 refine ⟨t,s, ?_,hs⟩
 simp only [Value.cells] at e
 exact congrArg Value.agg (Array.toList_inj.1 e)
end Go.Proofs.YtedjkbmfpjmlpaaDoor
namespace Go.Proofs.YtedjkbmfpjmlpaaDoor
open Go.ChangeShapes Go.WideShapes Go.ChangeAt Go.RowKit
theorem im_laid_split {P:Program} {l:List (String × DataW Unit)} {W:World} (h:laidMetH P l W):laidMet P (l.filter fun x=>x.2.handleName?.isNone) W:=by
 unfold laidMetH at h
 generalize hfl:(l.filter fun x=>x.2.handleName?.isSome)=fl at h
 cases fl with
 | nil =>
   have e:(l.filter fun x=>x.2.handleName?.isNone)=l:=by
     rw [List.filter_eq_self]
     intro x hx
     have:=List.filter_eq_nil_iff.1 hfl x hx
     cases hh:x.2.handleName? with
     | none=>rfl
     | some y=>rw [hh] at this;simp at this
   rw [e]
   exact h
 | cons x r=>exact h.1
theorem im_errList_plain:∀ x,x ∈ errList→x.2.handleName?.isNone=true:=by
 have h:(errList.all fun x=>x.2.handleName?.isNone)=true:=by kernel_rfl
 intro x hx
 exact List.all_eq_true.1 h x hx
theorem im_env_of {l:List (String × DataW Unit)} {W:World} (h:laidMetH Tryd.prog l W) (hl:∀ x,x ∈ errList→x ∈ l):∃ A,Errs W A :=
 errs_of (im_laid_split h) fun x hx=>List.mem_filter.2 ⟨hl x hx,im_errList_plain x hx⟩
end Go.Proofs.YtedjkbmfpjmlpaaDoor
