/- Part 5 of what these proofs need. -/
import Derived.ChangeOld
import Derived.Deep.Slices
import Derived.Laws.IdiomArrays
import Derived.Lib.SmallJoins
import Derived.SizedLaws
import Derived.DataReads
import Derived.LaidLaws
import Derived.Test.YtedjkbmfpjmlpaaDoorPc4
set_option maxRecDepth 100000
set_option maxHeartbeats 16000000
namespace Go.Proofs.YtedjkbmfpjmlpaaDoor
open Go.RowKit
def HandedAt (w:World) (v:Value) (ps:List Int):Prop:=∃ p cap,v=.slice p ps.length cap∧∀ (i:Nat) (k:Int),ps[i]? = some k→∃ b o,p=some ⟨b,o,none⟩∧b < w.heap.size∧w.cell? ⟨b,o+i,none⟩=some (.int .i64 k)
namespace Re
def okP (n:Nat) (p:Int):Bool:=decide (0 ≤ p) && decide (p ≤ (n:Int))
def code (t:Tr) (n:Nat) (ps:List Int):Nat:=if t.checkC ≠ 0 then t.checkC else if 63 < n then 12 else if ps.all (okP n)=true then 0 else 15
theorem code_zero {t:Tr} {n:Nat} {ps:List Int} : code t n ps=0 ↔ t.checkC=0∧n ≤ 63∧∀ p,p ∈ ps→0 ≤ p∧p ≤ n:=by
 unfold code
 by_cases h:t.checkC=0
 · rw [if_neg (by omega)]
   by_cases h1:63 < n
   · rw [if_pos h1];constructor
     · intro h;exact absurd h (by decide)
     · rintro ⟨-,a,-⟩;omega
   · rw [if_neg h1]
     have e:ps.all (okP n)=true ↔ ∀ p,p ∈ ps→0 ≤ p∧p ≤ n:=by
       rw [List.all_eq_true]
       constructor
       · intro a p hp;have:=a p hp;unfold okP at this;simpa using this
       · intro a p hp;have:=a p hp;unfold okP;simpa using this
     constructor
     · intro a
       by_cases b:ps.all (okP n)=true
       · exact ⟨h,by omega,e.1 b⟩
       · rw [if_neg b] at a;exact absurd a (by decide)
     · rintro ⟨-,-,a⟩
       rw [if_pos (e.2 a)]
 · rw [if_pos h]
   constructor
   · intro a;exact absurd a h
   · rintro ⟨a,-⟩;exact absurd a h
end Re
structure ReMemT (A:Nat→Addr) (w:World):Prop where
 env:ReEnv w
 errs:ErrsT w A
theorem ReMemT.below {A:Nat→Addr} {w w':World} (h:ReMemT A w) (hb:Below w.heap.size w w'):ReMemT A w':=⟨h.env.below hb,h.errs.below hb⟩
theorem recheckT_any (A:Nat→Addr) (t:Tr) (hd:t.dpT ≤ 1000000) (x:Sc) (b:Nat) (ps:List Int) (hps:ps.length ≤ 1000) (u:Value) (w:World) (hM:ReMemT A w) (hx:ScAt w b x) (B:Nat→Prop) (v:Value) (hv:NodeV w B v t) (hu:HandedAt w u ps) :
   Calls Tryd.prog 62 #[v,.pointer (some ⟨b,0,none⟩),u] w fun e w'=>e=.returned (sentV A (Re.code t x.t.size ps))∧Below w.heap.size w w':=by
 obtain ⟨s,rfl,hs⟩:=hv
 obtain ⟨p,cap,rfl,hlen⟩:=hs.slice
 obtain ⟨q,qc,rfl,hq⟩:=hu
 have HQ:=Lib.hid hq;have HM:=Lib.hid hM
 have HC:=Lib.hid (fun w9 (hb:Below w.heap.size w w9)=>treecheckT_any A t hd w9 (hM.errs.below hb) B (.agg (t.cells (.slice p t.subs.length cap))) ⟨_,rfl,hs.later hb⟩)
 have HL:=Lib.hid (fun w9 (hb:Below w.heap.size w w9)=>sclen_any x b w9 (hx.below hb))
 have hcd:Re.code t x.t.size ps=if t.checkC ≠ 0 then t.checkC else if 63 < x.t.size then 12 else if ps.all (Re.okP x.t.size)=true then 0 else 15:=rfl
 have HCD:=Lib.hid hcd
 clear hs hx hM hq hcd hd
 unfold Tr.cells at *
 generalize Re.code t x.t.size ps=c at *
 go_enter Tryd.func62,Tryd.ntmps62
 have hb1:Below w.heap.size w (w.alloc (.cells #[.int .i64 t.kind,.int .u64 (Oc.U t.w0),.int .u64 (Oc.U t.w1),.int .u64 (Oc.U t.w2),.int .u64 (Oc.U t.w3),.slice p t.subs.length cap,.int .i64 t.num,.int .i64 t.least,.int .i64 t.most,.bool t.bare] 37)):=(Below.refl _ _).alloc (Nat.le_refl _) _
 have Z0:=Lib.hid (heap_alloc_new w (.cells #[.int .i64 t.kind,.int .u64 (Oc.U t.w0),.int .u64 (Oc.U t.w1),.int .u64 (Oc.U t.w2),.int .u64 (Oc.U t.w3),.slice p t.subs.length cap,.int .i64 t.num,.int .i64 t.least,.int .i64 t.most,.bool t.bare] 37))
 go_wp2_with (first
   | (refine wpList_load_row rfl 37 (.tmp 3) rfl w.heap.size rfl 37 _ (0,0) _ Z0.out Tryd.underlying37 rfl (by kernel_rfl) ?_)
   | fail)
 have HB1:=Lib.hid hb1
 clear hb1 Z0
 generalize World.alloc w _=W1 at *
 refine (HC.out W1 HB1.out).mono ?_
 rintro e w2 ⟨rfl,hb2⟩
 have HB2:=Lib.hid (HB1.out.trans (hb2.mono HB1.out.size))
 clear hb2 HB1 HC
 have hcd:=HCD.out
 by_cases hc:t.checkC=0
 · rw [if_neg (by omega)] at hcd
   have e0:sentV A t.checkC=.nilIface:=by rw [hc];rfl
   rw [e0]
   have HCE:=Lib.hid hcd
   clear hcd HCD hc e0
   go_wp2_with fail
   refine (HL.out w2 HB2.out).mono ?_
   rintro e w3 ⟨rfl,rfl⟩
   generalize hn:x.t.size=n at *
   clear hn
   have hcd:=HCE.out
   by_cases h63:63 < n
   · rw [if_pos h63] at hcd
     have HF:=Lib.hid hcd
     have d1:decide ((63:Int) < n)=true:=by simp;omega
     have d2:decide (63 < n)=true:=decide_eq_true h63
     have G:w3.cell? ⟨13,0,none⟩=some (.iface 224 (.pointer (some (A 11)))):=((HM.out.errs.below HB2.out) 11 (by decide)).1
     clear hcd HCE h63 HL HQ
     go_wp2
     go_ret
     exact ⟨congrArg Ending.returned (by rw [HF.out];rfl),HB2.out⟩
   · rw [if_neg h63] at hcd
     have HF:=Lib.hid hcd
     have d1:decide ((63:Int) < n)=false:=by simp;omega
     have d2:decide (63 < n)=false:=decide_eq_false h63
     clear hcd HCE h63
     go_wp2
     go_loopw [21] (fun iv wr=>∃ k:Nat,iv=.int .i64 (k:Int)∧k ≤ ps.length∧wr=w3∧Hid (∀ i r,i < k→ps[i]? = some r→Re.okP n r=true)) (fun iv _=>ps.length - (intOf iv).toNat)
     case atStart=>exact ⟨0,rfl,Nat.zero_le _,rfl,Lib.hid (fun i r h=>by omega)⟩
     case round =>
       obtain ⟨k,rfl,hk,rfl,HS⟩:=hrel
       by_cases hlt:k < ps.length
       · have wi:IntKind.i64.wrap ((k:Int)+1)=(k:Int)+1:=IntWalk.i64_in _ (by omega)
         obtain ⟨r,hr⟩:∃ r,ps[k]? = some r:=⟨_,List.getElem?_eq_getElem hlt⟩
         obtain ⟨b1,o1,rfl,hb1,d⟩:=HQ.out k r hr
         have d0:=(HB2.out.cell (p:=⟨b1,o1+k,none⟩) hb1).trans d
         have HR:=Lib.hid hr
         have G:wr.cell? ⟨14,0,none⟩=some (.iface 224 (.pointer (some (A 14)))):=((HM.out.errs.below HB2.out) 14 (by decide)).1
         have HLr:=Lib.hid (HL.out wr HB2.out)
         have hbad:Re.okP n r=false→c=15:=fun hno=>by
           rw [HF.out,if_neg]
           intro hall
           have:=List.all_eq_true.1 hall r (List.mem_of_getElem? hr)
           rw [hno] at this;exact absurd this (by decide)
         have HBAD:=Lib.hid hbad
         clear hr hb1 d HQ HL hbad HF
         by_cases h0:r < 0
         · have d5:decide (r < 0)=true:=decide_eq_true h0
           have HV:=Lib.hid (HBAD.out (by unfold Re.okP;rw [decide_eq_false (by omega)];rfl))
           clear h0 HBAD HLr HS
           go_wp2
           go_ret
           exact ⟨congrArg Ending.returned (by rw [HV.out];rfl),HB2.out⟩
         · have d5:decide (r < 0)=false:=decide_eq_false h0
           by_cases h1:(n:Int) < r
           · have d6:decide ((n:Int) < r)=true:=decide_eq_true h1
             have HV:=Lib.hid (HBAD.out (by unfold Re.okP;rw [show decide (r ≤ (n:Int))=false from decide_eq_false (by omega),Bool.and_false]))
             clear h0 h1 HBAD HS
             go_wp2_with fail
             refine HLr.out.mono ?_
             rintro e w4 ⟨rfl,rfl⟩
             go_wp2
             go_ret
             exact ⟨congrArg Ending.returned (by rw [HV.out];rfl),HB2.out⟩
           · have d6:decide ((n:Int) < r)=false:=decide_eq_false h1
             have HOK:=Lib.hid (show Re.okP n r=true by unfold Re.okP;rw [decide_eq_true (by omega),decide_eq_true (by omega)];rfl)
             clear h0 h1 HBAD
             go_wp2_with fail
             refine HLr.out.mono ?_
             rintro e w4 ⟨rfl,rfl⟩
             go_wp2
             exact ⟨⟨k+1,by go_num,by omega,by first | rfl | trivial,Lib.hid (fun i r' hi hr'=>by
               by_cases e:i=k
               · subst e
                 rw [HR.out] at hr'
                 obtain rfl:=Option.some.inj hr'
                 exact HOK.out
               · exact HS.out i r' (by omega) hr')⟩,by simp [intOf];omega⟩
       · obtain rfl:k=ps.length:=by omega
         have HV:=Lib.hid (show c=0 by
           rw [HF.out,if_pos]
           rw [List.all_eq_true];intro r hr
           obtain ⟨i,hi,e⟩:=List.mem_iff_getElem.1 hr
           exact HS.out i r hi (by rw [List.getElem?_eq_getElem hi,e]))
         clear HF HS HQ HL
         go_wp2
         go_ret
         exact ⟨congrArg Ending.returned (by rw [HV.out];rfl),HB2.out⟩
 · rw [if_pos hc] at hcd
   have hne:sentV A t.checkC=.iface 224 (.pointer (some (A (t.checkC - 1)))):=by unfold sentV;rw [if_neg hc]
   rw [hne]
   have HV:=Lib.hid (show sentV A c=.iface 224 (.pointer (some (A (t.checkC - 1)))) by rw [hcd];exact hne)
   clear hcd HCD hc hne HL HQ
   go_wp2
   go_ret
   exact ⟨congrArg Ending.returned HV.out.symm,HB2.out⟩
end Go.Proofs.YtedjkbmfpjmlpaaDoor
namespace Go.Proofs.YtedjkbmfpjmlpaaDoor
open Go.RowKit
theorem sent_nil (A:Nat→Addr):sentV A 0=.nilIface:=rfl
theorem sent_ne {A:Nat→Addr} {c:Nat} (h:c ≠ 0):sentV A c=.iface 224 (.pointer (some (A (c - 1)))):=by unfold sentV;rw [if_neg h]
theorem handed_two {w:World} {g:Nat} {a b:Int} {ty:TypeId} (h:w.heap[g]? = some (.cells #[.int .i64 a,.int .i64 b] ty)):HandedAt w (.slice (some ⟨g,0,none⟩) 2 2) [a,b] :=
 ⟨some ⟨g,0,none⟩,2,rfl,fun i k hi=>by
   match i,hi with
   | 0,hi=>simp at hi;subst hi;exact ⟨g,0,rfl,blk_lt h,by unfold World.cell?;rw [h];rfl⟩
   | 1,hi=>simp at hi;subst hi;exact ⟨g,0,rfl,blk_lt h,by unfold World.cell?;rw [h];rfl⟩⟩
theorem one_and (x:BitVec 64) (k:Nat) (hk:k < 64):(x &&& (1#64 <<< k)=0#64) ↔ x.getLsbD k=false:=by
 rw [Re.zero_iff]
 constructor
 · intro h
   have:=h k
   rw [BitVec.getLsbD_and,Re.one_bit k k hk] at this
   simpa using this
 · intro h j
   rw [BitVec.getLsbD_and,Re.one_bit k j hk]
   by_cases e:j=k
   · subst e;rw [h];rfl
   · simp [e]
def TakesEnd (A:Nat→Addr) (x:Sc) (t:Tr) (f g:Int) (w:World) (e:Ending) (w':World):Prop :=
 e=.returned (.tuple #[.bool (decide (Re.code t x.t.size [f,g]=0) && (Tr.tabT x t f.toNat).getLsbD g.toNat),sentV A (Re.code t x.t.size [f,g])])∧Below w.heap.size w w'
theorem retakesT_any (A:Nat→Addr) (t:Tr) (hd:t.dpT ≤ 1000000) (x:Sc) (b:Nat) (f g:Int) (w:World) (hM:ReMemT A w) (hx:ScAt w b x) (B:Nat→Prop) (v:Value) (hv:NodeV w B v t) :
   Calls Tryd.prog 49 #[v,.pointer (some ⟨b,0,none⟩),.int .i64 f,.int .i64 g] w (TakesEnd A x t f g w):=by
 obtain ⟨s,rfl,hs⟩:=hv
 obtain ⟨p,cap,rfl,hlen⟩:=hs.slice
 have HCK:=Lib.hid (fun w9 (hb:Below w.heap.size w w9) u (hu:HandedAt w9 u [f,g])=>recheckT_any A t hd x b [f,g] (by simp) u w9 (hM.below hb) (hx.below hb) B (.agg (t.cells (.slice p t.subs.length cap))) ⟨_,rfl,hs.later hb⟩ hu)
 have HTK:=Lib.hid (fun (hf:t.InForm) (hn:x.t.size ≤ 63) w9 (hb:Below w.heap.size w w9)=>(retaken_any x b hn t hf w9 B (.agg (t.cells (.slice p t.subs.length cap))) (hx.below hb) (hM.env.below hb) ⟨_,rfl,hs.later hb⟩).mono fun _ _ h=>h.of)
 have HM:=Lib.hid (fun w9 (hb:Below w.heap.size w w9)=>hM.below hb)
 have HCZ:=Lib.hid (Re.code_zero (t:=t) (n:=x.t.size) (ps:=[f,g]))
 clear hs hx hM hd
 unfold Tr.cells at *
 go_enter Tryd.func49,Tryd.ntmps49
 have y0:(w.alloc (.cells #[.int .i64 t.kind,.int .u64 (Oc.U t.w0),.int .u64 (Oc.U t.w1),.int .u64 (Oc.U t.w2),.int .u64 (Oc.U t.w3),.slice p t.subs.length cap,.int .i64 t.num,.int .i64 t.least,.int .i64 t.most,.bool t.bare] 37)).heap[w.heap.size]? = some (.cells #[.int .i64 t.kind,.int .u64 (Oc.U t.w0),.int .u64 (Oc.U t.w1),.int .u64 (Oc.U t.w2),.int .u64 (Oc.U t.w3),.slice p t.subs.length cap,.int .i64 t.num,.int .i64 t.least,.int .i64 t.most,.bool t.bare] 37):=row_new _ _ _ rfl
 go_wp2_with (first
   | (refine wpList_load_row rfl 37 (.tmp 4) rfl w.heap.size rfl 37 _ (0,0) _ y0 Tryd.underlying37 rfl (by kernel_rfl) ?_)
   | fail)
 have hb1:Below w.heap.size w ((w.alloc (.cells #[.int .i64 t.kind,.int .u64 (Oc.U t.w0),.int .u64 (Oc.U t.w1),.int .u64 (Oc.U t.w2),.int .u64 (Oc.U t.w3),.slice p t.subs.length cap,.int .i64 t.num,.int .i64 t.least,.int .i64 t.most,.bool t.bare] 37)).alloc (.cells #[.int .i64 f,.int .i64 g] 3)):=by go_grown
 have hu:HandedAt ((w.alloc (.cells #[.int .i64 t.kind,.int .u64 (Oc.U t.w0),.int .u64 (Oc.U t.w1),.int .u64 (Oc.U t.w2),.int .u64 (Oc.U t.w3),.slice p t.subs.length cap,.int .i64 t.num,.int .i64 t.least,.int .i64 t.most,.bool t.bare] 37)).alloc (.cells #[.int .i64 f,.int .i64 g] 3)) (.slice (some ⟨w.heap.size+1,0,none⟩) 2 2) [f,g]:=handed_two (row_new _ _ _ (by simp))
 have Y0:=Lib.hid (show ((w.alloc (.cells #[.int .i64 t.kind,.int .u64 (Oc.U t.w0),.int .u64 (Oc.U t.w1),.int .u64 (Oc.U t.w2),.int .u64 (Oc.U t.w3),.slice p t.subs.length cap,.int .i64 t.num,.int .i64 t.least,.int .i64 t.most,.bool t.bare] 37)).alloc (.cells #[.int .i64 f,.int .i64 g] 3)).heap[w.heap.size]? = some (.cells #[.int .i64 t.kind,.int .u64 (Oc.U t.w0),.int .u64 (Oc.U t.w1),.int .u64 (Oc.U t.w2),.int .u64 (Oc.U t.w3),.slice p t.subs.length cap,.int .i64 t.num,.int .i64 t.least,.int .i64 t.most,.bool t.bare] 37) from heap_alloc_lt y0)
 have HB1:=Lib.hid hb1;have HU:=Lib.hid hu
 clear hb1 hu y0
 generalize ((w.alloc (.cells #[.int .i64 t.kind,.int .u64 (Oc.U t.w0),.int .u64 (Oc.U t.w1),.int .u64 (Oc.U t.w2),.int .u64 (Oc.U t.w3),.slice p t.subs.length cap,.int .i64 t.num,.int .i64 t.least,.int .i64 t.most,.bool t.bare] 37)).alloc (.cells #[.int .i64 f,.int .i64 g] 3))=W2 at *
 refine (HCK.out W2 HB1.out _ HU.out).mono ?_
 rintro e w2 ⟨rfl,hb2⟩
 have Z0:=Lib.hid (keep_blk hb2 Y0.out);have HB2:=Lib.hid (HB1.out.trans (hb2.mono HB1.out.size))
 clear hb2 HB1 HU Y0 HCK
 generalize hc:Re.code t x.t.size [f,g]=c at *
 by_cases h0:c=0
 · have hz:=HCZ.out.1 h0
   obtain ⟨k,rfl⟩:∃ k:Nat,f=k:=⟨f.toNat,by have:=hz.2.2 f (by simp);omega⟩
   obtain ⟨l,rfl⟩:∃ l:Nat,g=l:=⟨g.toNat,by have:=hz.2.2 g (by simp);omega⟩
   have hk:k < 64:=by have:=hz.2.2 (k:Int) (by simp);have:=hz.2.1;omega
   have hl:l < 64:=by have:=hz.2.2 (l:Int) (by simp);have:=hz.2.1;omega
   have HT:=Lib.hid (HTK.out (Tr.checkC_zero.1 hz.1).1 hz.2.1)
   have HC:=Lib.hid (hc.trans h0)
   subst h0
   rw [sent_nil]
   clear hz hc HCZ HTK
   generalize hP:Tr.tabT x t=P at *
   have HP:=Lib.hid hP
   clear hP
   have hix:=run_index_words P k hk
   have HO:=Lib.hid (fun w=>reonly_any l hl w)
   obtain ⟨M,hM⟩:∃ M:Int,M=Oc.U (P k &&& (1#64 <<< l)):=⟨_,rfl⟩
   have hand:bits .and .u64 (Oc.U (P k)) (Oc.U (1#64 <<< l))=M:=by rw [hM];exact Oc.andU _ _
   have hone:=one_and (P k) l hl
   cases hq:(P k).getLsbD l with
   | true =>
     have hMne:¬ M=0:=by
       rw [hM];refine U_ne0 fun e=>?_
       rw [hone.1 e] at hq;exact absurd hq (by decide)
     have hMb:(M == 0)=false:=by rw [beq_eq_false_iff_ne];exact hMne
     have hMn:(M != 0)=true:=by rw [bne,hMb];rfl
     have HQ:=Lib.hid hq
     clear hq hone hM
     go_wp2_with fail
     refine Ri.wp_region_frame (by kernel_rfl) (by kernel_rfl) (by kernel_rfl) (by kernel_rfl)
       (fun L v w'=>Below w2.heap.size w2 w'∧(L 0=true→v 0=.agg #[.int .i64 t.kind,.int .u64 (Oc.U t.w0),.int .u64 (Oc.U t.w1),.int .u64 (Oc.U t.w2),.int .u64 (Oc.U t.w3),.slice p t.subs.length cap,.int .i64 t.num,.int .i64 t.least,.int .i64 t.most,.bool t.bare])∧(L 1=true→v 1=.pointer (some ⟨b,0,none⟩))∧(L 2=true→v 2=.agg (words P))∧(L 3=true→v 3=.int .i64 (k:Int))∧(L 4=true→v 4=.int .u64 (Oc.U (P k)))∧(L 5=true→v 5=.int .i64 (l:Int))∧(L 6=true→v 6=.int .u64 (Oc.U (1#64 <<< l)))∧(L 7=true→v 7=.int .u64 M)∧(L 8=true→v 8=.bool true)∧(L 9=true→v 9=.bool true)∧(L 10=true→v 10=.nilIface))
       ?_ ?_ ?_
     · exact ⟨(Below.refl _ _).drew,by simp,by simp,by simp,by simp,by simp,by simp,by simp,by simp,by simp,by simp,by simp⟩
     · intro i hi9 L v w9 xa hI hL hd hv ho
       have hi':i=0 ∨ i=1 ∨ i=2 ∨ i=3 ∨ i=4 ∨ i=5 ∨ i=6 ∨ i=7 ∨ i=8 ∨ i=9 ∨ i=10:=by simp at hi9;omega
       obtain ⟨hb,q0,q1,q2,q3,q4,q5,q6,q7,q8,q9,q10⟩:=hI
       rcases hi' with rfl | rfl | rfl | rfl | rfl | rfl | rfl | rfl | rfl | rfl | rfl
       · have e4:xa.tmps.getD 4 undef=.pointer (some ⟨w.heap.size,0,none⟩):=ho 4 (by kernel_rfl)
         refine Ri.step_plain rfl rfl (fun K' hK=>?_)
         refine wp_load_row _ _ rfl _ e4 _ _ _ _ (keep_blk hb Z0.out) Tryd.underlying37 rfl (by kernel_rfl) ?_
         exact hK _ _ ⟨_,_,rfl,rfl,hb,fun _=>rfl,q1,q2,q3,q4,q5,q6,q7,q8,q9,q10⟩
       · have e1:xa.tmps.getD 1 undef=.pointer (some ⟨b,0,none⟩):=ho 1 (by kernel_rfl)
         refine Ri.step_plain rfl rfl (fun K' hK=>?_)
         go_simp
         exact hK _ _ ⟨_,_,rfl,rfl,hb,q0,fun _=>rfl,q2,q3,q4,q5,q6,q7,q8,q9,q10⟩
       · have l0:L 0=true∧L 1=true:=by have:=hd _ rfl;simp [Region.binds] at this;simp [this]
         have f0:=(hv 0 20 rfl l0.1).trans (q0 l0.1)
         have f1:=(hv 1 21 rfl l0.2).trans (q1 l0.2)
         refine Ri.step_plain rfl rfl (fun K' hK=>?_)
         go_simp
         refine (HT.out _ (HB2.out.trans (hb.mono HB2.out.size))).mono ?_
         rintro e w8 ⟨rfl,hb8⟩
         exact hK _ _ ⟨_,_,rfl,rfl,hb.trans (hb8.mono hb.size),q0,q1,fun _=>rfl,q3,q4,q5,q6,q7,q8,q9,q10⟩
       · have e2:xa.tmps.getD 2 undef=.int .i64 (k:Int):=ho 2 (by kernel_rfl)
         refine Ri.step_plain rfl rfl (fun K' hK=>?_)
         go_simp
         exact hK _ _ ⟨_,_,rfl,rfl,hb,q0,q1,q2,fun _=>rfl,q4,q5,q6,q7,q8,q9,q10⟩
       · have l0:L 2=true∧L 3=true:=by have:=hd _ rfl;simp [Region.binds] at this;simp [this]
         have f2:=(hv 2 22 rfl l0.1).trans (q2 l0.1)
         have f3:=(hv 3 23 rfl l0.2).trans (q3 l0.2)
         refine Ri.step_plain rfl rfl (fun K' hK=>?_)
         go_simp
         exact hK _ _ ⟨_,_,rfl,rfl,hb,q0,q1,q2,q3,fun _=>rfl,q5,q6,q7,q8,q9,q10⟩
       · have e3:xa.tmps.getD 3 undef=.int .i64 (l:Int):=ho 3 (by kernel_rfl)
         refine Ri.step_plain rfl rfl (fun K' hK=>?_)
         go_simp
         exact hK _ _ ⟨_,_,rfl,rfl,hb,q0,q1,q2,q3,q4,fun _=>rfl,q6,q7,q8,q9,q10⟩
       · have l0:L 5=true:=by have:=hd _ rfl;simp [Region.binds] at this;simp [this]
         have f5:=(hv 5 25 rfl l0).trans (q5 l0)
         refine Ri.step_plain rfl rfl (fun K' hK=>?_)
         go_simp
         refine (HO.out _).mono ?_
         rintro e w8 ⟨rfl,rfl⟩
         exact hK _ _ ⟨_,_,rfl,rfl,hb,q0,q1,q2,q3,q4,q5,fun _=>rfl,q7,q8,q9,q10⟩
       · have l0:L 4=true∧L 6=true:=by have:=hd _ rfl;simp [Region.binds] at this;simp [this]
         have f4:=(hv 4 24 rfl l0.1).trans (q4 l0.1)
         have f6:=(hv 6 26 rfl l0.2).trans (q6 l0.2)
         refine Ri.step_plain rfl rfl (fun K' hK=>?_)
         go_simp
         exact hK _ _ ⟨_,_,rfl,rfl,hb,q0,q1,q2,q3,q4,q5,q6,fun _=>rfl,q8,q9,q10⟩
       · have l0:L 7=true:=by have:=hd _ rfl;simp [Region.binds] at this;simp [this]
         have f7:=(hv 7 27 rfl l0).trans (q7 l0)
         refine Ri.step_plain rfl rfl (fun K' hK=>?_)
         go_simp
         exact hK _ _ ⟨_,_,rfl,rfl,hb,q0,q1,q2,q3,q4,q5,q6,q7,fun _=>rfl,q9,q10⟩
       · have l0:L 8=true:=by have:=hd _ rfl;simp [Region.binds] at this;simp [this]
         have f8:=(hv 8 28 rfl l0).trans (q8 l0)
         refine Ri.step_plain rfl rfl (fun K' hK=>?_)
         go_simp
         exact hK _ _ ⟨_,_,rfl,rfl,hb,q0,q1,q2,q3,q4,q5,q6,q7,q8,fun _=>rfl,q10⟩
       · refine Ri.step_plain rfl rfl (fun K' hK=>?_)
         go_simp
         exact hK _ _ ⟨_,_,rfl,rfl,hb,q0,q1,q2,q3,q4,q5,q6,q7,q8,q9,fun _=>rfl⟩
     · rintro v w9 ⟨hb,-,-,-,-,-,-,-,-,-,q9,q10⟩
       have q9':v 9=.bool true:=q9 rfl
       have q10':v 10=.nilIface:=q10 rfl
       simp only [Ri.frame,List.zipIdx,List.foldl_cons,List.foldl_nil,if_true,List.setIfInBounds_toArray,List.set_cons_zero,List.set_cons_succ,Nat.reduceAdd,q9',q10']
       clear q9 q9' q10 q10'
       generalize v 0=y0;generalize v 1=y1;generalize v 2=y2;generalize v 3=y3;generalize v 4=y4;generalize v 5=y5;generalize v 6=y6;generalize v 7=y7;generalize v 8=y8
       go_wp2
       go_ret2
       exact ⟨by (rw [HC.out,HP.out,Int.toNat_natCast,Int.toNat_natCast,HQ.out];rfl),HB2.out.trans (hb.mono HB2.out.size)⟩
   | false =>
     have hM0:M=0:=by rw [hM,hone.2 hq];decide
     subst hM0
     have HQ:=Lib.hid hq
     clear hq hone hM
     go_wp2_with fail
     refine Ri.wp_region_frame (by kernel_rfl) (by kernel_rfl) (by kernel_rfl) (by kernel_rfl)
       (fun L v w'=>Below w2.heap.size w2 w'∧(L 0=true→v 0=.agg #[.int .i64 t.kind,.int .u64 (Oc.U t.w0),.int .u64 (Oc.U t.w1),.int .u64 (Oc.U t.w2),.int .u64 (Oc.U t.w3),.slice p t.subs.length cap,.int .i64 t.num,.int .i64 t.least,.int .i64 t.most,.bool t.bare])∧(L 1=true→v 1=.pointer (some ⟨b,0,none⟩))∧(L 2=true→v 2=.agg (words P))∧(L 3=true→v 3=.int .i64 (k:Int))∧(L 4=true→v 4=.int .u64 (Oc.U (P k)))∧(L 5=true→v 5=.int .i64 (l:Int))∧(L 6=true→v 6=.int .u64 (Oc.U (1#64 <<< l)))∧(L 7=true→v 7=.int .u64 0)∧(L 8=true→v 8=.bool false)∧(L 9=true→v 9=.bool false)∧(L 10=true→v 10=.nilIface))
       ?_ ?_ ?_
     · exact ⟨(Below.refl _ _).drew,by simp,by simp,by simp,by simp,by simp,by simp,by simp,by simp,by simp,by simp,by simp⟩
     · intro i hi9 L v w9 xa hI hL hd hv ho
       have hi':i=0 ∨ i=1 ∨ i=2 ∨ i=3 ∨ i=4 ∨ i=5 ∨ i=6 ∨ i=7 ∨ i=8 ∨ i=9 ∨ i=10:=by simp at hi9;omega
       obtain ⟨hb,q0,q1,q2,q3,q4,q5,q6,q7,q8,q9,q10⟩:=hI
       rcases hi' with rfl | rfl | rfl | rfl | rfl | rfl | rfl | rfl | rfl | rfl | rfl
       · have e4:xa.tmps.getD 4 undef=.pointer (some ⟨w.heap.size,0,none⟩):=ho 4 (by kernel_rfl)
         refine Ri.step_plain rfl rfl (fun K' hK=>?_)
         refine wp_load_row _ _ rfl _ e4 _ _ _ _ (keep_blk hb Z0.out) Tryd.underlying37 rfl (by kernel_rfl) ?_
         exact hK _ _ ⟨_,_,rfl,rfl,hb,fun _=>rfl,q1,q2,q3,q4,q5,q6,q7,q8,q9,q10⟩
       · have e1:xa.tmps.getD 1 undef=.pointer (some ⟨b,0,none⟩):=ho 1 (by kernel_rfl)
         refine Ri.step_plain rfl rfl (fun K' hK=>?_)
         go_simp
         exact hK _ _ ⟨_,_,rfl,rfl,hb,q0,fun _=>rfl,q2,q3,q4,q5,q6,q7,q8,q9,q10⟩
       · have l0:L 0=true∧L 1=true:=by have:=hd _ rfl;simp [Region.binds] at this;simp [this]
         have f0:=(hv 0 20 rfl l0.1).trans (q0 l0.1)
         have f1:=(hv 1 21 rfl l0.2).trans (q1 l0.2)
         refine Ri.step_plain rfl rfl (fun K' hK=>?_)
         go_simp
         refine (HT.out _ (HB2.out.trans (hb.mono HB2.out.size))).mono ?_
         rintro e w8 ⟨rfl,hb8⟩
         exact hK _ _ ⟨_,_,rfl,rfl,hb.trans (hb8.mono hb.size),q0,q1,fun _=>rfl,q3,q4,q5,q6,q7,q8,q9,q10⟩
       · have e2:xa.tmps.getD 2 undef=.int .i64 (k:Int):=ho 2 (by kernel_rfl)
         refine Ri.step_plain rfl rfl (fun K' hK=>?_)
         go_simp
         exact hK _ _ ⟨_,_,rfl,rfl,hb,q0,q1,q2,fun _=>rfl,q4,q5,q6,q7,q8,q9,q10⟩
       · have l0:L 2=true∧L 3=true:=by have:=hd _ rfl;simp [Region.binds] at this;simp [this]
         have f2:=(hv 2 22 rfl l0.1).trans (q2 l0.1)
         have f3:=(hv 3 23 rfl l0.2).trans (q3 l0.2)
         refine Ri.step_plain rfl rfl (fun K' hK=>?_)
         go_simp
         exact hK _ _ ⟨_,_,rfl,rfl,hb,q0,q1,q2,q3,fun _=>rfl,q5,q6,q7,q8,q9,q10⟩
       · have e3:xa.tmps.getD 3 undef=.int .i64 (l:Int):=ho 3 (by kernel_rfl)
         refine Ri.step_plain rfl rfl (fun K' hK=>?_)
         go_simp
         exact hK _ _ ⟨_,_,rfl,rfl,hb,q0,q1,q2,q3,q4,fun _=>rfl,q6,q7,q8,q9,q10⟩
       · have l0:L 5=true:=by have:=hd _ rfl;simp [Region.binds] at this;simp [this]
         have f5:=(hv 5 25 rfl l0).trans (q5 l0)
         refine Ri.step_plain rfl rfl (fun K' hK=>?_)
         go_simp
         refine (HO.out _).mono ?_
         rintro e w8 ⟨rfl,rfl⟩
         exact hK _ _ ⟨_,_,rfl,rfl,hb,q0,q1,q2,q3,q4,q5,fun _=>rfl,q7,q8,q9,q10⟩
       · have l0:L 4=true∧L 6=true:=by have:=hd _ rfl;simp [Region.binds] at this;simp [this]
         have f4:=(hv 4 24 rfl l0.1).trans (q4 l0.1)
         have f6:=(hv 6 26 rfl l0.2).trans (q6 l0.2)
         refine Ri.step_plain rfl rfl (fun K' hK=>?_)
         go_simp
         exact hK _ _ ⟨_,_,rfl,rfl,hb,q0,q1,q2,q3,q4,q5,q6,fun _=>rfl,q8,q9,q10⟩
       · have l0:L 7=true:=by have:=hd _ rfl;simp [Region.binds] at this;simp [this]
         have f7:=(hv 7 27 rfl l0).trans (q7 l0)
         refine Ri.step_plain rfl rfl (fun K' hK=>?_)
         go_simp
         exact hK _ _ ⟨_,_,rfl,rfl,hb,q0,q1,q2,q3,q4,q5,q6,q7,fun _=>rfl,q9,q10⟩
       · have l0:L 8=true:=by have:=hd _ rfl;simp [Region.binds] at this;simp [this]
         have f8:=(hv 8 28 rfl l0).trans (q8 l0)
         refine Ri.step_plain rfl rfl (fun K' hK=>?_)
         go_simp
         exact hK _ _ ⟨_,_,rfl,rfl,hb,q0,q1,q2,q3,q4,q5,q6,q7,q8,fun _=>rfl,q10⟩
       · refine Ri.step_plain rfl rfl (fun K' hK=>?_)
         go_simp
         exact hK _ _ ⟨_,_,rfl,rfl,hb,q0,q1,q2,q3,q4,q5,q6,q7,q8,q9,fun _=>rfl⟩
     · rintro v w9 ⟨hb,-,-,-,-,-,-,-,-,-,q9,q10⟩
       have q9':v 9=.bool false:=q9 rfl
       have q10':v 10=.nilIface:=q10 rfl
       simp only [Ri.frame,List.zipIdx,List.foldl_cons,List.foldl_nil,if_true,List.setIfInBounds_toArray,List.set_cons_zero,List.set_cons_succ,Nat.reduceAdd,q9',q10']
       clear q9 q9' q10 q10'
       generalize v 0=y0;generalize v 1=y1;generalize v 2=y2;generalize v 3=y3;generalize v 4=y4;generalize v 5=y5;generalize v 6=y6;generalize v 7=y7;generalize v 8=y8
       go_wp2
       go_ret2
       exact ⟨by (rw [HC.out,HP.out,Int.toNat_natCast,Int.toNat_natCast,HQ.out];rfl),HB2.out.trans (hb.mono HB2.out.size)⟩
 · have HC:=Lib.hid hc
   rw [sent_ne h0]
   have H0:=Lib.hid h0
   clear hc h0 HCZ HTK
   go_wp2
   go_ret2
   exact ⟨by (rw [HC.out,sent_ne H0.out,decide_eq_false H0.out];rfl),HB2.out⟩
namespace Re
end Re
end Go.Proofs.YtedjkbmfpjmlpaaDoor
namespace Go.Proofs.YtedjkbmfpjmlpaaDoor
open Go.RowKit
def Ps.askB (x:Sc) (t:Tr) (f g:Int):Bool:=decide (Re.code t x.t.size [f,g]=0) && (Tr.tabT x t f.toNat).getLsbD g.toNat
theorem Ps.ask_at {x:Sc} {t:Tr} {f g:Int} (h:Ps.askB x t f g=true):∃ lo m:Nat,f=lo∧g=(lo:Int)+(m:Int)∧lo+m ≤ x.t.size∧x.t.size ≤ 63∧t.InForm∧t.Thin∧Re.code t x.t.size [f,g]=0:=by
 unfold Ps.askB at h
 rw [Bool.and_eq_true,decide_eq_true_eq] at h
 obtain ⟨hc,hb⟩:=h
 obtain ⟨h1,h2,h3⟩:=Re.code_zero.1 hc
 obtain ⟨k1,-,k3⟩:=Tr.checkC_zero.1 h1
 have hf:=h3 f (by simp);have hg:=h3 g (by simp)
 have hm:=(Tr.tabT_means x h2 t k1 f.toNat (by omega) g.toNat).1 hb
 have hon:=Tr.tk_on x t f.toNat g.toNat hm.1 hm.2
 exact ⟨f.toNat,g.toNat - f.toNat,by omega,by omega,by omega,h2,k1,Tr.thin_of k1 k3,hc⟩
theorem sentV_zero' (A:Nat→Addr):sentV A 0=.nilIface:=if_pos rfl
def RdyEnd (A:Nat→Addr) (x:Sc) (t:Tr) (f g:Int) (w:World) (e:Ending) (w':World):Prop :=
 if Ps.askB x t f g=true then ∃ b,e=.returned (.tuple #[.pointer (some ⟨b,0,none⟩),.nilIface])∧TkrAt x f.toNat (g.toNat - f.toNat) w' (fun k=>w.heap.size ≤ k) b t∧Below w.heap.size w w'
 else e=.returned (.tuple #[.pointer none,sentV A (Re.code t x.t.size [f,g])])∧Below w.heap.size w w'
theorem psready_any (A:Nat→Addr) (t:Tr) (hd:t.dpT ≤ 1000000) (x:Sc) (bx:Nat) (f g:Int) (w:World) (hM:ReMemT A w) (hx:ScAt w bx x) (B:Nat→Prop) (v:Value) (hv:NodeV w B v t) :
   Calls Tryd.prog 79 #[v,.pointer (some ⟨bx,0,none⟩),.int .i64 f,.int .i64 g] w (RdyEnd A x t f g w):=by
 obtain ⟨s,rfl,hs⟩:=hv
 obtain ⟨p,cap,rfl,-⟩:=hs.slice
 have z0:=heap_alloc_new w (.cells (t.cells (.slice p t.subs.length cap)) 37)
 have hb0:Below w.heap.size w (w.alloc (.cells (t.cells (.slice p t.subs.length cap)) 37)):=(Below.refl _ _).alloc (Nat.le_refl _) _
 have HK:=Lib.hid (fun w9 (hb:Below w.heap.size w w9)=>retakesT_any A t hd x bx f g w9 (hM.below hb) (hx.below hb) B (.agg (t.cells (.slice p t.subs.length cap))) ⟨_,rfl,hs.later hb⟩)
 have HX:=Lib.hid (fun (lo m:Nat) (h1:lo+m ≤ x.t.size) (h2:x.t.size ≤ 63) (h3:t.InForm) (h4:t.Thin) w9 (hb:Below w.heap.size w w9)=>pstaker_any x bx lo m (by omega) h1 (by omega) t h3 h4 w9 B (.agg (t.cells (.slice p t.subs.length cap))) (hx.below hb) ⟨_,rfl,hs.later hb⟩)
 have Z0:=Lib.hid z0;have HB0:=Lib.hid hb0
 clear hs z0 hb0 hM hx
 unfold Tr.cells TakesEnd at *
 rw [show (decide (Re.code t x.t.size [f,g]=0) && (Tr.tabT x t f.toNat).getLsbD g.toNat)=Ps.askB x t f g from rfl] at HK
 by_cases hask:Ps.askB x t f g=true
 · obtain ⟨lo,m,hf,hg,hn,hbig,hif,hth,hc⟩:=Ps.ask_at hask
   refine Calls.mono (show Calls _ _ _ w (fun e w'=>∃ b,e=.returned (.tuple #[.pointer (some ⟨b,0,none⟩),.nilIface])∧TkrAt x f.toNat (g.toNat - f.toNat) w' (fun k=>w.heap.size ≤ k) b t∧Below w.heap.size w w') from ?_) (fun e w' h=>by unfold RdyEnd;rw [if_pos hask];exact h)
   rw [hask,hc,sentV_zero'] at HK
   have HX2:=Lib.hid (fun w9 hb=>HX.out lo m hn hbig hif hth w9 hb)
   have hfn:f.toNat=lo:=by omega
   have hgn:g.toNat - f.toNat=m:=by omega
   rw [hfn,show g.toNat - lo=m by omega]
   subst hf hg
   clear hask hc hn hbig hif hth HX hfn hgn
   go_enter Tryd.func79,Tryd.ntmps79
   go_upto_region 1 with (fail)
   generalize w.alloc _=W0 at *
   go_wp2_with (first
     | (refine wpList_load_row rfl 37 (.tmp 4) rfl w.heap.size rfl 37 _ (0,0) _ Z0.out Tryd.underlying37 rfl (by kernel_rfl) ?_)
     | fail)
   refine (HK.out W0 HB0.out).mono ?_
   rintro e w1 ⟨rfl,hb1⟩
   have HB1:=Lib.hid (HB0.out.trans (hb1.mono HB0.out.size));have Z1:=Lib.hid (keep_blk hb1 Z0.out)
   clear hb1 HK Z0 HB0
   go_wp2_with (first
     | (refine wpList_load_row rfl 37 (.tmp 4) rfl w.heap.size rfl 37 _ (0,0) _ Z1.out Tryd.underlying37 rfl (by kernel_rfl) ?_)
     | fail)
   refine (HX2.out w1 HB1.out).mono ?_
   rintro e w2 ⟨b,rfl,htk,hb2⟩
   have HT:=Lib.hid (htk.wider (B':=fun k=>w.heap.size ≤ k) fun k hk=>Nat.le_trans HB1.out.size hk)
   have HB2:=Lib.hid (HB1.out.trans (hb2.mono HB1.out.size))
   clear htk hb2 HX2 Z1 HB1
   go_wp2
   go_returns
   exact ⟨b,rfl,HT.out,HB2.out⟩
 · have hask':Ps.askB x t f g=false:=by simpa using hask
   refine Calls.mono (show Calls _ _ _ w (fun e w'=>e=.returned (.tuple #[.pointer none,sentV A (Re.code t x.t.size [f,g])])∧Below w.heap.size w w') from ?_) (fun e w' h=>by unfold RdyEnd;rw [if_neg hask];exact h)
   rw [hask'] at HK
   by_cases hc:Re.code t x.t.size [f,g]=0
   · rw [hc,sentV_zero'] at HK ⊢
     clear hask hask' hc HX
     go_enter Tryd.func79,Tryd.ntmps79
     go_upto_region 1 with (fail)
     generalize w.alloc _=W0 at *
     go_wp2_with (first
       | (refine wpList_load_row rfl 37 (.tmp 4) rfl w.heap.size rfl 37 _ (0,0) _ Z0.out Tryd.underlying37 rfl (by kernel_rfl) ?_)
       | fail)
     refine (HK.out W0 HB0.out).mono ?_
     rintro e w1 ⟨rfl,hb1⟩
     have HB1:=Lib.hid (HB0.out.trans (hb1.mono HB0.out.size))
     clear hb1 HK Z0 HB0
     go_wp2
     go_returns
     exact ⟨rfl,HB1.out⟩
   · obtain ⟨ty,ad,hn⟩:=(show ∃ ty a,sentV A (Re.code t x.t.size [f,g])=.iface ty (.pointer (some a)) from ⟨_,_,if_neg hc⟩)
     rw [hn] at HK ⊢
     clear hask hask' hc hn HX
     go_enter Tryd.func79,Tryd.ntmps79
     go_upto_region 1 with (fail)
     generalize w.alloc _=W0 at *
     go_wp2_with (first
       | (refine wpList_load_row rfl 37 (.tmp 4) rfl w.heap.size rfl 37 _ (0,0) _ Z0.out Tryd.underlying37 rfl (by kernel_rfl) ?_)
       | fail)
     refine (HK.out W0 HB0.out).mono ?_
     rintro e w1 ⟨rfl,hb1⟩
     have HB1:=Lib.hid (HB0.out.trans (hb1.mono HB0.out.size))
     clear hb1 HK Z0 HB0
     go_wp2
     go_returns
     exact ⟨rfl,HB1.out⟩
end Go.Proofs.YtedjkbmfpjmlpaaDoor
namespace Go.Proofs.YtedjkbmfpjmlpaaDoor
open Go.RowKit
def AllFn (x:Sc) (t:Tr) (f g:Int) (w:World) (v:Value) (w':World):Prop :=
 ∃ bt bf bu,v=.func (.func 143) #[] #[.pointer (some ⟨bt,0,none⟩),.pointer (some ⟨bf,0,none⟩),.pointer (some ⟨bu,0,none⟩)]∧w.heap.size ≤ bt∧w.heap.size ≤ bf∧w.heap.size ≤ bu ∧
   w'.heap[bf]? = some (.cells #[.int .i64 f] 3)∧w'.heap[bu]? = some (.cells #[.int .i64 g] 3) ∧
   (if Ps.askB x t f g=true then ∃ b,w'.heap[bt]? = some (.cells #[.pointer (some ⟨b,0,none⟩)] 121)∧TkrAt x f.toNat (g.toNat - f.toNat) w' (fun k=>w.heap.size ≤ k) b t
    else w'.heap[bt]? = some (.cells #[.pointer none] 121))
def AllEnd (A:Nat→Addr) (x:Sc) (t:Tr) (f g:Int) (w:World) (e:Ending) (w':World):Prop :=
 (if Re.code t x.t.size [f,g]=0 then ∃ v,e=.returned (.tuple #[v,.nilIface])∧AllFn x t f g w v w' else e=.returned (.tuple #[.nilFunc,sentV A (Re.code t x.t.size [f,g])]))∧Below w.heap.size w w'
theorem ask_code {x:Sc} {t:Tr} {f g:Int} (h:Ps.askB x t f g=true):Re.code t x.t.size [f,g]=0:=by
 unfold Ps.askB at h
 rw [Bool.and_eq_true,decide_eq_true_eq] at h
 exact h.1
theorem psall_any (A:Nat→Addr) (t:Tr) (hd:t.dpT ≤ 1000000) (x:Sc) (bx:Nat) (f g:Int) (w:World) (hM:ReMemT A w) (hx:ScAt w bx x) (B:Nat→Prop) (v:Value) (hv:NodeV w B v t) :
   Calls Tryd.prog 117 #[v,.pointer (some ⟨bx,0,none⟩),.int .i64 f,.int .i64 g] w (AllEnd A x t f g w):=by
 obtain ⟨s,rfl,hs⟩:=hv
 obtain ⟨p,cap,rfl,-⟩:=hs.slice
 obtain ⟨z0,z1,z2⟩:=three_new w (.cells (t.cells (.slice p t.subs.length cap)) 37) (.cells #[.int .i64 f] 3) (.cells #[.int .i64 g] 3)
 have hb0:Below w.heap.size w (((w.alloc (.cells (t.cells (.slice p t.subs.length cap)) 37)).alloc (.cells #[.int .i64 f] 3)).alloc (.cells #[.int .i64 g] 3)):=by go_grown
 have HR:=Lib.hid (fun w9 (hb:Below w.heap.size w w9)=>psready_any A t hd x bx f g w9 (hM.below hb) (hx.below hb) B (.agg (t.cells (.slice p t.subs.length cap))) ⟨_,rfl,hs.later hb⟩)
 have Z0:=Lib.hid z0;have Z1:=Lib.hid z1;have Z2:=Lib.hid z2;have HB0:=Lib.hid hb0
 clear hs z0 z1 z2 hb0 hM hx
 unfold Tr.cells RdyEnd at *
 by_cases hask:Ps.askB x t f g=true
 · have hc:=ask_code hask
   refine Calls.mono (show Calls _ _ _ w (fun e w'=>∃ bt bf bu b,e=.returned (.tuple #[.func (.func 143) #[] #[.pointer (some ⟨bt,0,none⟩),.pointer (some ⟨bf,0,none⟩),.pointer (some ⟨bu,0,none⟩)],.nilIface])∧w.heap.size ≤ bt∧w.heap.size ≤ bf∧w.heap.size ≤ bu ∧
     w'.heap[bf]? = some (.cells #[.int .i64 f] 3)∧w'.heap[bu]? = some (.cells #[.int .i64 g] 3)∧w'.heap[bt]? = some (.cells #[.pointer (some ⟨b,0,none⟩)] 121)∧TkrAt x f.toNat (g.toNat - f.toNat) w' (fun k=>w.heap.size ≤ k) b t∧Below w.heap.size w w') from ?_) (fun e w' h=>by
       obtain ⟨bt,bf,bu,b,h1,h2,h3,h4,h5,h6,h7,h8,h9⟩:=h
       unfold AllEnd
       rw [if_pos hc]
       refine ⟨⟨_,h1,bt,bf,bu,rfl,h2,h3,h4,h5,h6, ?_⟩,h9⟩
       rw [if_pos hask]
       exact ⟨b,h7,h8⟩)
   simp only [if_pos hask] at HR
   clear hask hc
   go_enter Tryd.func117,Tryd.ntmps117
   go_upto_region 1 with (fail)
   generalize ((w.alloc _).alloc _).alloc _=W0 at *
   have c1:W0.cell? ⟨w.heap.size+1,0,none⟩=some (.int .i64 f):=by simp [World.cell?,Z1.out]
   have c2:W0.cell? ⟨w.heap.size+1+1,0,none⟩=some (.int .i64 g):=by simp [World.cell?,Z2.out]
   go_wp2_with (first
     | (refine wpList_load_row rfl 37 (.tmp 4) rfl w.heap.size rfl 37 _ (0,0) _ Z0.out Tryd.underlying37 rfl (by kernel_rfl) ?_)
     | fail)
   refine (HR.out W0 HB0.out).mono ?_
   rintro e w1 ⟨b,rfl,htk,hb1⟩
   have HN:=Lib.hid (heap_alloc_new w1 (.cells #[.pointer (some ⟨b,0,none⟩)] 121))
   have HA:=Lib.hid (show Below w1.heap.size w1 (w1.alloc (.cells #[.pointer (some ⟨b,0,none⟩)] 121)) from (Below.refl _ _).alloc (Nat.le_refl _) _)
   have HB1:=Lib.hid (HB0.out.trans (hb1.mono HB0.out.size))
   have HT:=Lib.hid ((htk.wider (B':=fun k=>w.heap.size ≤ k) fun k hk=>Nat.le_trans HB0.out.size hk).later HA.out)
   have Y1:=Lib.hid (keep_blk HA.out (keep_blk hb1 Z1.out));have Y2:=Lib.hid (keep_blk HA.out (keep_blk hb1 Z2.out))
   have HB2:=Lib.hid (HB1.out.trans (HA.out.mono HB1.out.size))
   clear htk hb1 HR c1 c2 Z0 Z1 Z2
   go_wp2
   go_returns
   exact ⟨w1.heap.size,w.heap.size+1,w.heap.size+1+1,b,rfl,HB1.out.size,by omega,by omega,Y1.out,Y2.out,HN.out,HT.out,HB2.out⟩
 · by_cases hc:Re.code t x.t.size [f,g]=0
   · refine Calls.mono (show Calls _ _ _ w (fun e w'=>∃ bt bf bu,e=.returned (.tuple #[.func (.func 143) #[] #[.pointer (some ⟨bt,0,none⟩),.pointer (some ⟨bf,0,none⟩),.pointer (some ⟨bu,0,none⟩)],.nilIface])∧w.heap.size ≤ bt∧w.heap.size ≤ bf∧w.heap.size ≤ bu ∧
       w'.heap[bf]? = some (.cells #[.int .i64 f] 3)∧w'.heap[bu]? = some (.cells #[.int .i64 g] 3)∧w'.heap[bt]? = some (.cells #[.pointer none] 121)∧Below w.heap.size w w') from ?_) (fun e w' h=>by
         obtain ⟨bt,bf,bu,h1,h2,h3,h4,h5,h6,h7,h9⟩:=h
         unfold AllEnd
         rw [if_pos hc]
         refine ⟨⟨_,h1,bt,bf,bu,rfl,h2,h3,h4,h5,h6, ?_⟩,h9⟩
         rw [if_neg hask]
         exact h7)
     simp only [if_neg hask,hc,sentV_zero'] at HR
     clear hask hc
     go_enter Tryd.func117,Tryd.ntmps117
     go_upto_region 1 with (fail)
     generalize ((w.alloc _).alloc _).alloc _=W0 at *
     have c1:W0.cell? ⟨w.heap.size+1,0,none⟩=some (.int .i64 f):=by simp [World.cell?,Z1.out]
     have c2:W0.cell? ⟨w.heap.size+1+1,0,none⟩=some (.int .i64 g):=by simp [World.cell?,Z2.out]
     go_wp2_with (first
       | (refine wpList_load_row rfl 37 (.tmp 4) rfl w.heap.size rfl 37 _ (0,0) _ Z0.out Tryd.underlying37 rfl (by kernel_rfl) ?_)
       | fail)
     refine (HR.out W0 HB0.out).mono ?_
     rintro e w1 ⟨rfl,hb1⟩
     have HN:=Lib.hid (heap_alloc_new w1 (.cells #[.pointer none] 121))
     have HA:=Lib.hid (show Below w1.heap.size w1 (w1.alloc (.cells #[.pointer none] 121)) from (Below.refl _ _).alloc (Nat.le_refl _) _)
     have HB1:=Lib.hid (HB0.out.trans (hb1.mono HB0.out.size))
     have Y1:=Lib.hid (keep_blk HA.out (keep_blk hb1 Z1.out));have Y2:=Lib.hid (keep_blk HA.out (keep_blk hb1 Z2.out))
     have HB2:=Lib.hid (HB1.out.trans (HA.out.mono HB1.out.size))
     clear hb1 HR c1 c2 Z0 Z1 Z2
     go_wp2
     go_returns
     exact ⟨w1.heap.size,w.heap.size+1,w.heap.size+1+1,rfl,HB1.out.size,by omega,by omega,Y1.out,Y2.out,HN.out,HB2.out⟩
   · refine Calls.mono (show Calls _ _ _ w (fun e w'=>e=.returned (.tuple #[.nilFunc,sentV A (Re.code t x.t.size [f,g])])∧Below w.heap.size w w') from ?_) (fun e w' h=>by
         unfold AllEnd
         rw [if_neg hc]
         exact h)
     simp only [if_neg hask] at HR
     obtain ⟨ty,ad,hn⟩:=(show ∃ ty a,sentV A (Re.code t x.t.size [f,g])=.iface ty (.pointer (some a)) from ⟨_,_,if_neg hc⟩)
     rw [hn] at HR ⊢
     clear hask hc hn
     go_enter Tryd.func117,Tryd.ntmps117
     go_upto_region 1 with (fail)
     generalize ((w.alloc _).alloc _).alloc _=W0 at *
     have c1:W0.cell? ⟨w.heap.size+1,0,none⟩=some (.int .i64 f):=by simp [World.cell?,Z1.out]
     have c2:W0.cell? ⟨w.heap.size+1+1,0,none⟩=some (.int .i64 g):=by simp [World.cell?,Z2.out]
     go_wp2_with (first
       | (refine wpList_load_row rfl 37 (.tmp 4) rfl w.heap.size rfl 37 _ (0,0) _ Z0.out Tryd.underlying37 rfl (by kernel_rfl) ?_)
       | fail)
     refine (HR.out W0 HB0.out).mono ?_
     rintro e w1 ⟨rfl,hb1⟩
     have HB1:=Lib.hid (HB0.out.trans (hb1.mono HB0.out.size))
     have HB2:=Lib.hid (HB1.out.alloc HB1.out.size (.cells #[.pointer none] 121))
     clear hb1 HR c1 c2 Z0 Z1 Z2
     go_wp2
     go_returns
     exact ⟨rfl,HB2.out⟩
end Go.Proofs.YtedjkbmfpjmlpaaDoor
namespace Go.Proofs.YtedjkbmfpjmlpaaDoor
open Go.RowKit
attribute [local go_sem] Oper.semAt_some
def BestInv (fn:FuncId) (tm:Array Value) (ps:Array Tmp) (asg body:Code) (D r8 r9 r10:Nat) (w0:World) (s:Option Pa) (W:World):Prop :=
 s=none∧W.heap[D+1]? = some (.loop (loopRec fn tm ps asg body D .ready none))∧W.heap[D]? = some (.deferred (some []))∧W.heap[r8]? = some (.cells #[.int .i64 0,.int .i64 0,.int .i64 0,.slice none 0 0] 57)∧W.heap[r9]? = some (.cells #[.bool false] 4)∧W.heap[r10]? = some (.cells #[.nilIface] 42)∧Below w0.heap.size w0 W
def BestStop (fn:FuncId) (tm:Array Value) (ps:Array Tmp) (asg body:Code) (D r8 r9 r10:Nat) (w0:World) (s:Option Pa) (W:World):Prop :=
 ∃ p v,s=some p∧W.heap[D+1]? = some (.loop (loopRec fn tm ps asg body D .done (some .ret)))∧W.heap[D]? = some (.deferred (some []))∧W.heap[r8]? = some (.cells (p.cells v) 57)∧W.heap[r9]? = some (.cells #[.bool true] 4)∧W.heap[r10]? = some (.cells #[.nilIface] 42)∧PasAt W (fun b=>D+2 ≤ b) v p.subs∧Below w0.heap.size w0 W
def BestEnd (L:List Pa) (w:World) (e:Ending) (w':World):Prop :=
 (match L with
  | []=>e=.returned (.tuple #[.agg #[.int .i64 0,.int .i64 0,.int .i64 0,.slice none 0 0],.bool false,.nilIface])
  | p :: _=>∃ s,e=.returned (.tuple #[.agg (p.cells s),.bool true,.nilIface])∧PasAt w' (fun b=>w.heap.size ≤ b) s p.subs)∧Below w.heap.size w w'
theorem psbest_yes (A:Nat→Addr) (t:Tr) (hd:t.dpT ≤ 1000000) (x:Sc) (bx:Nat) (f g:Int) (w:World) (hM:ReMemT A w) (hx:ScAt w bx x) (B:Nat→Prop) (v:Value) (hv:NodeV w B v t) (hask:Ps.askB x t f g=true) (hwy:t.wy x f.toNat g.toNat ≠ 0) :
   Calls Tryd.prog 77 #[v,.pointer (some ⟨bx,0,none⟩),.int .i64 f,.int .i64 g] w (BestEnd (t.al x f.toNat g.toNat) w):=by
 obtain ⟨s,rfl,hs⟩:=hv
 obtain ⟨p,cap,rfl,-⟩:=hs.slice
 obtain ⟨lo,m,rfl,rfl,hn,hbig,hif,hth,hc⟩:=Ps.ask_at hask
 have HR:=Lib.hid (fun w9 (hb:Below w.heap.size w w9)=>psall_any A t hd x bx lo ((lo:Int)+(m:Int)) w9 (hM.below hb) (hx.below hb) B (.agg (t.cells (.slice p t.subs.length cap))) ⟨_,rfl,hs.later hb⟩)
 unfold AllEnd AllFn at HR
 simp only [if_pos hask,if_pos (ask_code hask)] at HR
 have e1:((lo:Int)).toNat=lo:=by omega
 have e2:((lo:Int)+(m:Int)).toNat=lo+m:=by omega
 have e3:lo+m - lo=m:=by omega
 rw [e1,e2] at hwy ⊢
 simp only [e1,e2,e3] at HR
 have HAL:=Lib.hid (fun (l m' base:Nat) (Rg:Nat→Prop) (Inv Stop:Option Pa→World→Prop)=>all1_any x lo m (by omega) t hif hth lo (lo+m) (Nat.le_refl _) (by omega) (Nat.le_refl _) hwy (σ:=Option Pa) (l:=l) (m:=m') (base:=base) (Rg:=Rg) (Inv:=Inv) (Stop:=Stop) (step:=fun _ p=>(false,some p)))
 generalize t.al x lo (lo+m)=L at *
 obtain ⟨y0,y1,y2⟩:=three_new w (.cells (t.cells (.slice p t.subs.length cap)) 37) (.cells #[.int .i64 0,.int .i64 0,.int .i64 0,.slice none 0 0] 57) (.cells #[.bool false] 4)
 have Z0:=Lib.hid (heap_alloc_lt (o:=.cells #[.nilIface] 42) y0);have Z8:=Lib.hid (heap_alloc_lt (o:=.cells #[.nilIface] 42) y1);have Z9:=Lib.hid (heap_alloc_lt (o:=.cells #[.nilIface] 42) y2)
 have y3:=heap_alloc_new (((w.alloc (.cells (t.cells (.slice p t.subs.length cap)) 37)).alloc (.cells #[.int .i64 0,.int .i64 0,.int .i64 0,.slice none 0 0] 57)).alloc (.cells #[.bool false] 4)) (.cells #[.nilIface] 42)
 rw [show (((w.alloc (.cells (t.cells (.slice p t.subs.length cap)) 37)).alloc (.cells #[.int .i64 0,.int .i64 0,.int .i64 0,.slice none 0 0] 57)).alloc (.cells #[.bool false] 4)).heap.size=w.heap.size+1+1+1 by simp] at y3
 have hb0:Below w.heap.size w ((((w.alloc (.cells (t.cells (.slice p t.subs.length cap)) 37)).alloc (.cells #[.int .i64 0,.int .i64 0,.int .i64 0,.slice none 0 0] 57)).alloc (.cells #[.bool false] 4)).alloc (.cells #[.nilIface] 42)):=by go_grown
 have Z10:=Lib.hid y3;have HB0:=Lib.hid hb0
 clear hs y0 y1 y2 y3 hb0 hM hx hask hwy hn hbig hif hth hc e1 e2 e3
 unfold Tr.cells at *
 refine callsIn_wide (n:=9).1 ?_
 refine callsIn_of_wp_marks Tryd.func77 rfl trivial ?_ rfl
 simp only [Tryd.ntmps77,List.size_toArray,List.length_cons,List.length_nil,Nat.reduceAdd,Nat.reduceSub,Array.replicate_succ,Array.replicate_zero,List.push_toArray,List.append_toArray,List.nil_append,List.cons_append]
 refine (wpIn_wide (n:=9)).2 ?_
 go_upto_region 1 with (fail)
 generalize (((w.alloc _).alloc _).alloc _).alloc _=W0 at *
 go_wp2_with (first
   | (refine wpList_load_row rfl 37 (.tmp 4) rfl w.heap.size rfl 37 _ (0,0) _ Z0.out Tryd.underlying37 rfl (by kernel_rfl) ?_)
   | fail)
 refine (HR.out W0 HB0.out).mono ?_
 rintro e w1 ⟨⟨v,rfl,bt,bf,bu,rfl,k1,k2,k3,k4,k5,b,k6,k7⟩,hb1⟩
 have Y8:=Lib.hid (keep_blk hb1 Z8.out);have Y9:=Lib.hid (keep_blk hb1 Z9.out);have Y10:=Lib.hid (keep_blk hb1 Z10.out)
 have HB1:=Lib.hid (HB0.out.trans (hb1.mono HB0.out.size))
 have HK:=Lib.hid (And.intro k4 (And.intro k5 (And.intro k6 k7)))
 have HKB:=Lib.hid (And.intro k1 (And.intro k2 k3));have HW01:=Lib.hid hb1.size;have HZ0:=Lib.hid HB0.out.size;have HSZ:=Lib.hid (Array.getElem?_eq_some_iff.1 Z10.out).1
 clear hb1 HR Z0 Z8 Z9 Z10 k1 k2 k3 k4 k5 k6 k7
 go_wp2
 generalize hAS:Code.region 5 _ false=asg
 generalize hBD:Code.block 1 _=body
 generalize ha:Act.mk _ []=a0
 refine (wpIn_wide (n:=9)).1 ?_
 refine range_call rfl (by omega) (gf:=143) (lb:=#[.pointer (some ⟨bt,0,none⟩),.pointer (some ⟨bf,0,none⟩),.pointer (some ⟨bu,0,none⟩)]) (by rw [← ha];rfl) trivial (enters_of Tryd.func143 (by kernel_rfl) rfl) ?_
 intro fn hfn
 have hY:∀ (s:Option Pa) (W:World) (v:Value) (q:Pa),BestInv fn a0.tmps #[27] asg body w1.heap.size (w.heap.size+1) (w.heap.size+1+1) (w.heap.size+1+1+1) w s W→w1.heap.size+2 ≤ W.heap.size→PaV W (fun b=>w1.heap.size+2 ≤ b) v q→YieldAt Fence.wide 6 Tryd.prog (w1.heap.size+1) #[v] W fun e W' =>
     e=.returned (.bool false)∧Tld (fun k=>k=w1.heap.size+1 ∨ k=w.heap.size+1 ∨ k=w.heap.size+1+1 ∨ k=w.heap.size+1+1+1) (BestInv fn a0.tmps #[27] asg body w1.heap.size (w.heap.size+1) (w.heap.size+1+1) (w.heap.size+1+1+1) w) (BestStop fn a0.tmps #[27] asg body w1.heap.size (w.heap.size+1) (w.heap.size+1+1) (w.heap.size+1+1+1) w) (false,some q) W W':=by
   rintro s W v q ⟨-,i1,i2,i3,i4,i5,i6⟩ hsz ⟨sv,rfl,hsv⟩
   obtain ⟨qq,cc,rfl,-⟩:=hsv.slice
   refine yield_round i1 rfl hfn ?_
   generalize hBS:BestStop fn a0.tmps #[27] asg body w1.heap.size (w.heap.size+1) (w.heap.size+1+1) (w.heap.size+1+1+1) w=BS
   generalize BestInv fn a0.tmps #[27] asg body w1.heap.size (w.heap.size+1) (w.heap.size+1+1) (w.heap.size+1+1+1) w=BI
   have HBS:=Lib.hid hBS
   clear hBS
   generalize hrec:loopRec fn a0.tmps #[27] asg body w1.heap.size=rec at i1 ⊢
   have HREC:=Lib.hid hrec
   have HI:=Lib.hid (And.intro i1 (And.intro i2 (And.intro i3 (And.intro i4 (And.intro i5 i6)))));have HSV:=Lib.hid hsv;have HFN:=Lib.hid hfn
   clear i1 i2 i3 i4 i5 i6 hsv HAL hrec
   unfold Pa.cells
   rw [← hAS,← ha]
   gi_wp2
   refine ⟨heap_alloc_lt HI.out.1, ?_⟩
   rw [← hBD]
   have hne:W.heap.size ≠ w1.heap.size+1:=by omega
   have hl1:w1.heap.size+1 < (W.alloc (.cells #[.int .i64 q.lo,.int .i64 q.hi,.int .i64 q.pick,.slice qq q.subs.length cc] 57)).heap.size:=by simp;omega
   have X13:=Lib.hid ((World.putObj_heap_other (o:=.loop (rec .busy none)) hne).trans (heap_alloc_new W (.cells #[.int .i64 q.lo,.int .i64 q.hi,.int .i64 q.pick,.slice qq q.subs.length cc] 57)))
   have XL:=Lib.hid (World.putObj_heap_same (o:=.loop (rec .busy none)) hl1)
   have HO:=Lib.hid (fun k (hk:k < W.heap.size) (hk2:k ≠ w1.heap.size+1)=>(World.putObj_heap_other (w:=W.alloc (.cells #[.int .i64 q.lo,.int .i64 q.hi,.int .i64 q.pick,.slice qq q.subs.length cc] 57)) (o:=.loop (rec .busy none)) hk2).trans (Below.heap_alloc _ _ _ hk))
   have HSS:=Lib.hid (show ((W.alloc (.cells #[.int .i64 q.lo,.int .i64 q.hi,.int .i64 q.pick,.slice qq q.subs.length cc] 57)).putObj (w1.heap.size+1) (.loop (rec .busy none))).heap.size=W.heap.size+1 by simp)
   have hw01:=HW01.out;have hs01:=HSZ.out
   have HBW:=Lib.hid (show Below w.heap.size W ((W.alloc (.cells #[.int .i64 q.lo,.int .i64 q.hi,.int .i64 q.pick,.slice qq q.subs.length cc] 57)).putObj (w1.heap.size+1) (.loop (rec .busy none))) from ⟨rfl,rfl,rfl,by simp,fun k hk=>HO.out k (by omega) (by omega)⟩)
   clear hw01 hs01
   generalize (W.alloc _).putObj _ _=W2 at *
   have h01:=HW01.out;have hs0:=HSZ.out
   have X8:=Lib.hid ((HO.out (w.heap.size+1) (by omega) (by omega)).trans HI.out.2.2.1)
   have X9:=Lib.hid ((HO.out (w.heap.size+1+1) (by omega) (by omega)).trans HI.out.2.2.2.1)
   have X10:=Lib.hid ((HO.out (w.heap.size+1+1+1) (by omega) (by omega)).trans HI.out.2.2.2.2.1)
   have XD:=Lib.hid ((HO.out w1.heap.size (by omega) (by omega)).trans HI.out.2.1)
   clear h01 hs0 hne hl1 hsz
   have c0:W2.cell? ⟨W.heap.size,0,none⟩=some (.int .i64 q.lo):=by simp [World.cell?,X13.out]
   have c1:W2.cell? ⟨W.heap.size,1,none⟩=some (.int .i64 q.hi):=by simp [World.cell?,X13.out]
   have c2:W2.cell? ⟨W.heap.size,2,none⟩=some (.int .i64 q.pick):=by simp [World.cell?,X13.out]
   have c3:W2.cell? ⟨W.heap.size,3,none⟩=some (.slice qq q.subs.length cc):=by simp [World.cell?,X13.out]
   have e0:W2.cell? ⟨w.heap.size+1,0,none⟩=some (.int .i64 0):=by simp [World.cell?,X8.out]
   have e1:W2.cell? ⟨w.heap.size+1,1,none⟩=some (.int .i64 0):=by simp [World.cell?,X8.out]
   have e2:W2.cell? ⟨w.heap.size+1,2,none⟩=some (.int .i64 0):=by simp [World.cell?,X8.out]
   have e3:W2.cell? ⟨w.heap.size+1,3,none⟩=some (.slice none 0 0):=by simp [World.cell?,X8.out]
   have f0:W2.frozen? ⟨w.heap.size+1,0,none⟩=false:=by simp [World.frozen?,X8.out]
   have f1:W2.frozen? ⟨w.heap.size+1,1,none⟩=false:=by simp [World.frozen?,X8.out]
   have f2:W2.frozen? ⟨w.heap.size+1,2,none⟩=false:=by simp [World.frozen?,X8.out]
   have f3:W2.frozen? ⟨w.heap.size+1,3,none⟩=false:=by simp [World.frozen?,X8.out]
   have g0:W2.cell? ⟨w.heap.size+1+1,0,none⟩=some (.bool false):=by simp [World.cell?,X9.out]
   have g1:W2.frozen? ⟨w.heap.size+1+1,0,none⟩=false:=by simp [World.frozen?,X9.out]
   have h0:W2.cell? ⟨w.heap.size+1+1+1,0,none⟩=some .nilIface:=by simp [World.cell?,X10.out]
   have h1:W2.frozen? ⟨w.heap.size+1+1+1,0,none⟩=false:=by simp [World.frozen?,X10.out]
   gi_wp2
   clear c0 c1 c2 c3 e0 e1 e2 e3 f0 f1 f2 f3 g0 g1 h0 h1
   generalize hW3:World.setCell _ _ Value.nilIface=W3
   have N8:W3.heap[w.heap.size+1]? = some (.cells #[.int .i64 q.lo,.int .i64 q.hi,.int .i64 q.pick,.slice qq q.subs.length cc] 57):=by
     rw [← hW3,Below.heap_setCell _ _ _ _ (show w.heap.size+1 ≠ w.heap.size+1+1+1 by omega),Below.heap_setCell _ _ _ _ (show w.heap.size+1 ≠ w.heap.size+1+1 by omega)]
     simp [World.setCell,Array.getElem?_modify,X8.out]
   have N9:W3.heap[w.heap.size+1+1]? = some (.cells #[.bool true] 4):=by
     rw [← hW3];simp [World.setCell,Array.getElem?_modify,X9.out]
   have N10:W3.heap[w.heap.size+1+1+1]? = some (.cells #[.nilIface] 42):=by
     rw [← hW3];simp [World.setCell,Array.getElem?_modify,X10.out]
   have NO:∀ k,k ≠ w.heap.size+1→k ≠ w.heap.size+1+1→k ≠ w.heap.size+1+1+1→W3.heap[k]? = W2.heap[k]?:=by
     intro k h1 h2 h3
     rw [← hW3,Below.heap_setCell _ _ _ _ h3,Below.heap_setCell _ _ _ _ h2,Below.heap_setCell _ _ _ _ h1,Below.heap_setCell _ _ _ _ h1,Below.heap_setCell _ _ _ _ h1,Below.heap_setCell _ _ _ _ h1]
   have NB:Below w.heap.size W W3:=by
     rw [← hW3]
     exact (((((HBW.out.setCell (by simp) _).setCell (by simp) _).setCell (by simp) _).setCell (by simp) _).setCell (by simp;omega) _).setCell (by simp;omega) _
   have h01:=HW01.out;have hs0:=HSZ.out
   have NL:=(NO (w1.heap.size+1) (by omega) (by omega) (by omega)).trans XL.out
   have ND:=(NO w1.heap.size (by omega) (by omega) (by omega)).trans XD.out
   rw [← HREC.out] at NL
   refine round_ret NL ⟨rfl,Tld.no ?_⟩
   rw [← HBS.out]
   have hlL:=(Array.getElem?_eq_some_iff.1 NL).1
   refine ⟨q,.slice qq q.subs.length cc,rfl,World.putObj_heap_same hlL,(World.putObj_heap_other (by omega)).trans ND,(World.putObj_heap_other (by omega)).trans N8,(World.putObj_heap_other (by omega)).trans N9,(World.putObj_heap_other (by omega)).trans N10, ?_, ?_⟩
   · refine (HSV.out.keep (w':=W3.putObj (w1.heap.size+1) _) fun b hlt hb=>?_).mono fun b _ hb=>hb
     rw [World.putObj_heap_other (by omega),NO b (by omega) (by omega) (by omega),HO.out b hlt (by omega)]
   · exact HI.out.2.2.2.2.2.trans (NB.trans ⟨rfl,rfl,rfl,by simp,fun k hk=>World.putObj_heap_other (by omega)⟩)
 have HW1:=Lib.hid (show Below w1.heap.size w1 ((w1.alloc (.deferred (some []))).alloc (.loop (loopRec fn a0.tmps #[27] asg body w1.heap.size .ready none))) from ((Below.refl _ w1).alloc (Nat.le_refl _) _).alloc (by simp) _)
 have HR1:=Lib.hid (show ((w1.alloc (.deferred (some []))).alloc (.loop (loopRec fn a0.tmps #[27] asg body w1.heap.size .ready none))).heap[w1.heap.size+1]? = some (.loop (loopRec fn a0.tmps #[27] asg body w1.heap.size .ready none)) by
   have:=World.alloc_heap_new (w1.alloc (.deferred (some []))) (.loop (loopRec fn a0.tmps #[27] asg body w1.heap.size .ready none));rwa [World.size_alloc] at this)
 have HD1:=Lib.hid (show ((w1.alloc (.deferred (some []))).alloc (.loop (loopRec fn a0.tmps #[27] asg body w1.heap.size .ready none))).heap[w1.heap.size]? = some (.deferred (some [])) from (Below.heap_alloc _ _ _ (by simp)).trans (World.alloc_heap_new w1 _))
 have HZ1:=Lib.hid (show w1.heap.size+2 ≤ ((w1.alloc (.deferred (some []))).alloc (.loop (loopRec fn a0.tmps #[27] asg body w1.heap.size .ready none))).heap.size by simp)
 have HYY:=Lib.hid hY
 clear hY
 generalize (w1.alloc _).alloc _=W1 at *
 have h01:=HW01.out;have hs0:=HSZ.out
 refine (callsIn_wide.2 (HAL.out (w1.heap.size+1) 6 (w1.heap.size+2) (fun k=>k=w1.heap.size+1 ∨ k=w.heap.size+1 ∨ k=w.heap.size+1+1 ∨ k=w.heap.size+1+1+1) (BestInv fn a0.tmps #[27] asg body w1.heap.size (w.heap.size+1) (w.heap.size+1+1) (w.heap.size+1+1+1) w) (BestStop fn a0.tmps #[27] asg body w1.heap.size (w.heap.size+1) (w.heap.size+1+1) (w.heap.size+1+1+1) w) (fun b hb=>by omega) (fun s W W' hi hk=>?_) HYY.out none W1 (fun k=>W0.heap.size ≤ k∧k < w1.heap.size) b bt bf bu (HK.out.2.2.2.within.later HW1.out) (fun k hk=>⟨by omega,by have:=HZ1.out;omega⟩) HZ1.out ⟨rfl,HR1.out,HD1.out,keep_blk HW1.out Y8.out,keep_blk HW1.out Y9.out,keep_blk HW1.out Y10.out,HB1.out.trans (HW1.out.mono HB1.out.size)⟩ (keep_blk HW1.out HK.out.2.2.1) (keep_blk HW1.out HK.out.1) (keep_blk HW1.out HK.out.2.1))).mono ?_
 · obtain ⟨i0,i1,i2,i3,i4,i5,i6⟩:=hi
   exact ⟨i0,(hk.block _ (by omega)).trans i1,(hk.block _ (by omega)).trans i2,(hk.block _ (by omega)).trans i3,(hk.block _ (by omega)).trans i4,(hk.block _ (by omega)).trans i5,i6.trans (hk.mono (by omega))⟩
 · rintro e W2 ⟨rfl,htl⟩
   clear HYY HAL HK
   cases L with
   | nil =>
     obtain ⟨⟨-,i1,i2,i3,i4,i5,i6⟩,-⟩:=htl.1 rfl
     refine ⟨_,.ready,none,rfl,by decide,i1, ?_⟩
     have j2:=(World.putObj_heap_other (o:=.loop (loopRec fn a0.tmps #[27] asg body w1.heap.size .exhausted none)) (show w1.heap.size ≠ w1.heap.size+1 by omega)).trans i2
     have j3:=(World.putObj_heap_other (o:=.loop (loopRec fn a0.tmps #[27] asg body w1.heap.size .exhausted none)) (show w.heap.size+1 ≠ w1.heap.size+1 by omega)).trans i3
     have j4:=(World.putObj_heap_other (o:=.loop (loopRec fn a0.tmps #[27] asg body w1.heap.size .exhausted none)) (show w.heap.size+1+1 ≠ w1.heap.size+1 by omega)).trans i4
     have j5:=(World.putObj_heap_other (o:=.loop (loopRec fn a0.tmps #[27] asg body w1.heap.size .exhausted none)) (show w.heap.size+1+1+1 ≠ w1.heap.size+1 by omega)).trans i5
     have j6:Below w.heap.size w (W2.putObj (w1.heap.size+1) (.loop (loopRec fn a0.tmps #[27] asg body w1.heap.size .exhausted none))):=i6.trans ⟨rfl,rfl,rfl,by simp,fun k hk=>World.putObj_heap_other (by omega)⟩
     clear i1 i2 i3 i4 i5 i6 htl
     generalize W2.putObj _ _=W3 at *
     rw [← ha]
     unfold inLoop
     go_wp2_with (first
       | (refine wpList_store_row rfl 57 (.tmp 8) (.tmp 29) rfl (w.heap.size+1) #[.int .i64 0,.int .i64 0,.int .i64 0,.slice none 0 0] rfl rfl 57 _ j3 (by kernel_rfl) rfl (by simp [Value.oneCell']) ?_
          have m2:=(heap_setRow_other W3 (w.heap.size+1) #[.int .i64 0,.int .i64 0,.int .i64 0,.slice none 0 0] (show w1.heap.size ≠ w.heap.size+1 by omega)).trans j2
          have m3:=heap_setRow (cs:=#[.int .i64 0,.int .i64 0,.int .i64 0,.slice none 0 0]) j3
          have m4:=(heap_setRow_other W3 (w.heap.size+1) #[.int .i64 0,.int .i64 0,.int .i64 0,.slice none 0 0] (show w.heap.size+1+1 ≠ w.heap.size+1 by omega)).trans j4
          have m5:=(heap_setRow_other W3 (w.heap.size+1) #[.int .i64 0,.int .i64 0,.int .i64 0,.slice none 0 0] (show w.heap.size+1+1+1 ≠ w.heap.size+1 by omega)).trans j5
          have m6:Below w.heap.size w (W3.setRow (w.heap.size+1) #[.int .i64 0,.int .i64 0,.int .i64 0,.slice none 0 0]):=below_setRow j6 (Nat.le_succ _) _
          generalize W3.setRow _ _=W4 at *
          have g0:W4.cell? ⟨w.heap.size+1+1,0,none⟩=some (.bool false):=by simp [World.cell?,m4]
          have g1:W4.frozen? ⟨w.heap.size+1+1,0,none⟩=false:=by simp [World.frozen?,m4]
          have g2:W4.cell? ⟨w.heap.size+1+1+1,0,none⟩=some .nilIface:=by simp [World.cell?,m5]
          have g3:W4.frozen? ⟨w.heap.size+1+1+1,0,none⟩=false:=by simp [World.frozen?,m5])
       | fail)
     clear g0 g1 g2 g3
     generalize hW5:World.setCell _ _ Value.nilIface=W5
     have n2:W5.heap[w1.heap.size]? = some (.deferred (some [])):=by rw [← hW5,Below.heap_setCell _ _ _ _ (show w1.heap.size ≠ w.heap.size+1+1+1 by omega),Below.heap_setCell _ _ _ _ (show w1.heap.size ≠ w.heap.size+1+1 by omega)];exact m2
     have n3:W5.heap[w.heap.size+1]? = some (.cells #[.int .i64 0,.int .i64 0,.int .i64 0,.slice none 0 0] 57):=by rw [← hW5,Below.heap_setCell _ _ _ _ (show w.heap.size+1 ≠ w.heap.size+1+1+1 by omega),Below.heap_setCell _ _ _ _ (show w.heap.size+1 ≠ w.heap.size+1+1 by omega)];exact m3
     have n4:W5.heap[w.heap.size+1+1]? = some (.cells #[.bool false] 4):=by rw [← hW5];simp [World.setCell,Array.getElem?_modify,m4]
     have n5:W5.heap[w.heap.size+1+1+1]? = some (.cells #[.nilIface] 42):=by rw [← hW5];simp [World.setCell,Array.getElem?_modify,m5]
     have n6:Below w.heap.size w W5:=by rw [← hW5];exact (m6.setCell (by simp;omega) _).setCell (by simp;omega) _
     refine ⟨by simp,.inl ⟨_,_,rfl,run_takeDeferred n2, ?_⟩⟩
     have k3:=(World.putObj_heap_other (o:=.deferred none) (show w.heap.size+1 ≠ w1.heap.size by omega)).trans n3
     have k4:=(World.putObj_heap_other (o:=.deferred none) (show w.heap.size+1+1 ≠ w1.heap.size by omega)).trans n4
     have k5:=(World.putObj_heap_other (o:=.deferred none) (show w.heap.size+1+1+1 ≠ w1.heap.size by omega)).trans n5
     have k6:Below w.heap.size w (W5.putObj w1.heap.size (.deferred none)):=n6.trans ⟨rfl,rfl,rfl,by simp,fun k hk=>World.putObj_heap_other (by omega)⟩
     refine ⟨.tuple #[.agg #[.int .i64 0,.int .i64 0,.int .i64 0,.slice none 0 0],.bool false,.nilIface], ?_,rfl,k6⟩
     have u0:(W5.putObj w1.heap.size (.deferred none)).cell? ⟨w.heap.size+1,0,none⟩=some (.int .i64 0):=by simp [World.cell?,k3]
     have u1:(W5.putObj w1.heap.size (.deferred none)).cell? ⟨w.heap.size+1,1,none⟩=some (.int .i64 0):=by simp [World.cell?,k3]
     have u2:(W5.putObj w1.heap.size (.deferred none)).cell? ⟨w.heap.size+1,2,none⟩=some (.int .i64 0):=by simp [World.cell?,k3]
     have u3:(W5.putObj w1.heap.size (.deferred none)).cell? ⟨w.heap.size+1,3,none⟩=some (.slice none 0 0):=by simp [World.cell?,k3]
     have d4:(W5.putObj w1.heap.size (.deferred none)).cell? ⟨w.heap.size+1+1,0,none⟩=some (.bool false):=by simp [World.cell?,k4]
     have d5:(W5.putObj w1.heap.size (.deferred none)).cell? ⟨w.heap.size+1+1+1,0,none⟩=some .nilIface:=by simp [World.cell?,k5]
     simp [results,Tryd.results77,asAddr,u0,u1,u2,u3,d4,d5,go_sem]
   | cons q L =>
     obtain ⟨q',sv,hq,i1,i2,i3,i4,i5,i6,i7⟩:=htl.2 rfl
     obtain rfl:=Option.some.inj hq
     refine ⟨_,.done,some .ret,rfl,by decide,i1, ?_⟩
     have j2:=(World.putObj_heap_other (o:=.loop (loopRec fn a0.tmps #[27] asg body w1.heap.size .exhausted (some .ret))) (show w1.heap.size ≠ w1.heap.size+1 by omega)).trans i2
     have j3:=(World.putObj_heap_other (o:=.loop (loopRec fn a0.tmps #[27] asg body w1.heap.size .exhausted (some .ret))) (show w.heap.size+1 ≠ w1.heap.size+1 by omega)).trans i3
     have j4:=(World.putObj_heap_other (o:=.loop (loopRec fn a0.tmps #[27] asg body w1.heap.size .exhausted (some .ret))) (show w.heap.size+1+1 ≠ w1.heap.size+1 by omega)).trans i4
     have j5:=(World.putObj_heap_other (o:=.loop (loopRec fn a0.tmps #[27] asg body w1.heap.size .exhausted (some .ret))) (show w.heap.size+1+1+1 ≠ w1.heap.size+1 by omega)).trans i5
     have hw2:w1.heap.size+1 < W2.heap.size:=(Array.getElem?_eq_some_iff.1 i1).1
     have j6:Below w.heap.size w (W2.putObj (w1.heap.size+1) (.loop (loopRec fn a0.tmps #[27] asg body w1.heap.size .exhausted (some .ret)))):=i7.trans ⟨rfl,rfl,rfl,by simp,fun k hk=>World.putObj_heap_other (by omega)⟩
     have j7:PasAt (W2.putObj (w1.heap.size+1) (.loop (loopRec fn a0.tmps #[27] asg body w1.heap.size .exhausted (some .ret)))) (fun b=>w1.heap.size+2 ≤ b) sv q.subs:=i6.keep fun b hlt hb=>World.putObj_heap_other (by omega)
     clear i1 i2 i3 i4 i5 i6 htl hw2
     show Code.wpIn Fence.wide 9 _ Code.ret _ _ (W2.putObj (w1.heap.size+1) (.loop (loopRec fn a0.tmps #[27] asg body w1.heap.size .exhausted (some .ret))))
     generalize W2.putObj (w1.heap.size+1) (.loop (loopRec fn a0.tmps #[27] asg body w1.heap.size .exhausted (some .ret)))=W3 at *
     rw [← ha]
     unfold inLoop
     gi_wp2
     refine ⟨by simp,.inl ⟨_,_,rfl,run_takeDeferred j2, ?_⟩⟩
     have k3:=(World.putObj_heap_other (o:=.deferred none) (show w.heap.size+1 ≠ w1.heap.size by omega)).trans j3
     have k4:=(World.putObj_heap_other (o:=.deferred none) (show w.heap.size+1+1 ≠ w1.heap.size by omega)).trans j4
     have k5:=(World.putObj_heap_other (o:=.deferred none) (show w.heap.size+1+1+1 ≠ w1.heap.size by omega)).trans j5
     have k6:Below w.heap.size w (W3.putObj w1.heap.size (.deferred none)):=j6.trans ⟨rfl,rfl,rfl,by simp,fun k hk=>World.putObj_heap_other (by omega)⟩
     have k7:PasAt (W3.putObj w1.heap.size (.deferred none)) (fun b=>w.heap.size ≤ b) sv q.subs:=(j7.keep fun b hlt hb=>World.putObj_heap_other (by omega)).mono fun b _ hb=>by omega
     refine ⟨.tuple #[.agg (q.cells sv),.bool true,.nilIface], ?_,⟨sv,rfl,k7⟩,k6⟩
     unfold Pa.cells at k3 ⊢
     have u0:(W3.putObj w1.heap.size (.deferred none)).cell? ⟨w.heap.size+1,0,none⟩=some (.int .i64 q.lo):=by simp [World.cell?,k3]
     have u1:(W3.putObj w1.heap.size (.deferred none)).cell? ⟨w.heap.size+1,1,none⟩=some (.int .i64 q.hi):=by simp [World.cell?,k3]
     have u2:(W3.putObj w1.heap.size (.deferred none)).cell? ⟨w.heap.size+1,2,none⟩=some (.int .i64 q.pick):=by simp [World.cell?,k3]
     have u3:(W3.putObj w1.heap.size (.deferred none)).cell? ⟨w.heap.size+1,3,none⟩=some sv:=by simp [World.cell?,k3]
     have d4:(W3.putObj w1.heap.size (.deferred none)).cell? ⟨w.heap.size+1+1,0,none⟩=some (.bool true):=by simp [World.cell?,k4]
     have d5:(W3.putObj w1.heap.size (.deferred none)).cell? ⟨w.heap.size+1+1+1,0,none⟩=some .nilIface:=by simp [World.cell?,k5]
     simp [results,Tryd.results77,asAddr,u0,u1,u2,u3,d4,d5,go_sem]
end Go.Proofs.YtedjkbmfpjmlpaaDoor
namespace Go.Proofs.YtedjkbmfpjmlpaaDoor
open Go.RowKit
def Ps.cnt (x:Sc) (t:Tr) (f g:Int):Nat:=if Ps.askB x t f g=true then Ps.sat (t.wy x f.toNat g.toNat) else 0
theorem pscount_any (A:Nat→Addr) (t:Tr) (hd:t.dpT ≤ 1000000) (x:Sc) (bx:Nat) (f g:Int) (w:World) (hM:ReMemT A w) (hx:ScAt w bx x) (B:Nat→Prop) (v:Value) (hv:NodeV w B v t) :
   Calls Tryd.prog 40 #[v,.pointer (some ⟨bx,0,none⟩),.int .i64 f,.int .i64 g] w fun e w'=>e=.returned (.tuple #[.int .i64 (Ps.cnt x t f g:Nat),sentV A (Re.code t x.t.size [f,g])])∧Below w.heap.size w w':=by
 obtain ⟨s,rfl,hs⟩:=hv
 obtain ⟨p,cap,rfl,-⟩:=hs.slice
 have z0:=heap_alloc_new w (.cells (t.cells (.slice p t.subs.length cap)) 37)
 have hb0:Below w.heap.size w (w.alloc (.cells (t.cells (.slice p t.subs.length cap)) 37)):=(Below.refl _ _).alloc (Nat.le_refl _) _
 have HK:=Lib.hid (fun w9 (hb:Below w.heap.size w w9)=>psready_any A t hd x bx f g w9 (hM.below hb) (hx.below hb) B (.agg (t.cells (.slice p t.subs.length cap))) ⟨_,rfl,hs.later hb⟩)
 have Z0:=Lib.hid z0;have HB0:=Lib.hid hb0
 clear hs z0 hb0 hM hx
 unfold RdyEnd at HK
 unfold Ps.cnt
 by_cases hask:Ps.askB x t f g=true
 · obtain ⟨lo,m,hf,hg,hn,hbig,-,-,hc⟩:=Ps.ask_at hask
   rw [if_pos hask] at ⊢
   simp only [if_pos hask] at HK
   rw [hc,sentV_zero']
   have hfn:f.toNat=lo:=by omega
   have hgn:g.toNat - f.toNat=m:=by omega
   have hg2:g.toNat=lo+m:=by omega
   rw [hfn,hg2] at HK ⊢
   rw [show lo+m - lo=m by omega] at HK
   subst hf hg
   unfold Tr.cells at Z0 HB0 HK ⊢
   clear hask hc hfn hgn hg2
   go_enter Tryd.func40,Tryd.ntmps40
   go_upto_region 1 with (fail)
   generalize w.alloc _=W0 at *
   go_wp2_with (first
     | (refine wpList_load_row rfl 37 (.tmp 4) rfl w.heap.size rfl 37 _ (0,0) _ Z0.out Tryd.underlying37 rfl (by kernel_rfl) ?_)
     | fail)
   refine (HK.out W0 HB0.out).mono ?_
   rintro e w1 ⟨b,rfl,htk,hb1⟩
   obtain ⟨p2,c2,gw,rv,S,-,-,hcell,htab,-,-,-⟩:=htk.here
   have HB1:=Lib.hid (HB0.out.trans (hb1.mono HB0.out.size))
   have hat:=psat_any gw lo m 0 m (by omega) (by omega) (by omega) (Ps.rel lo (t.wy x)) (by unfold Ps.rel;exact Ps.sat_le _) w1 htab
   rw [show (lo:Int)+((0:Nat):Int)=(lo:Int) by omega,show Ps.rel lo (t.wy x) 0 m=Ps.sat (t.wy x lo (lo+m)) from rfl] at hat
   have HAT:=Lib.hid hat
   unfold Ps.tabV at HAT
   unfold tkC at hcell
   obtain ⟨d0,d1,d2,d3,d4,d5,d6,d7,-⟩:=tk8 hcell
   clear htk hb1 HK Z0 HB0 hat hcell htab d0 d1 d5 d6 d7
   go_wp2_with fail
   clear d2 d3 d4
   refine HAT.out.mono ?_
   rintro e w2 ⟨rfl,hb2⟩
   have HB2:=Lib.hid (HB1.out.trans (hb2.mono HB1.out.size))
   clear hb2 HAT
   go_wp2
   go_returns
   exact ⟨rfl,HB2.out⟩
 · rw [if_neg hask] at ⊢
   simp only [if_neg hask] at HK
   clear hask
   generalize sentV A (Re.code t x.t.size [f,g])=ev at *
   unfold Tr.cells at *
   go_enter Tryd.func40,Tryd.ntmps40
   go_upto_region 1 with (fail)
   generalize w.alloc _=W0 at *
   go_wp2_with (first
     | (refine wpList_load_row rfl 37 (.tmp 4) rfl w.heap.size rfl 37 _ (0,0) _ Z0.out Tryd.underlying37 rfl (by kernel_rfl) ?_)
     | fail)
   refine (HK.out W0 HB0.out).mono ?_
   rintro e w1 ⟨rfl,hb1⟩
   have HB1:=Lib.hid (HB0.out.trans (hb1.mono HB0.out.size))
   clear hb1 HK Z0 HB0
   go_wp2
   go_returns
   exact ⟨rfl,HB1.out⟩
end Go.Proofs.YtedjkbmfpjmlpaaDoor
namespace Go.Proofs.YtedjkbmfpjmlpaaDoor
open Go.RowKit
def LsAt (w:World) (v:Value) (ts:List Tr):Prop:=TreesAt w (fun _=>True) v ts
theorem LsAt.below {w w':World} {v:Value} {ts:List Tr} (h:LsAt w v ts) (hb:Below w.heap.size w w'):LsAt w' v ts:=TreesAt.later h hb
theorem TreesAt.any {w:World} {B:Nat→Prop} {s:Value} {ts:List Tr} (h:TreesAt w B s ts):TreesAt w (fun _=>True) s ts:=h.mono fun _ _ _=>trivial
theorem twenty {w:World} {b:Nat} {x0 x1 x2 x3 x4 x5 x6 x7 x8 x9 y0 y1 y2 y3 y4 y5 y6 y7 y8 y9:Value} {t:TypeId} (h:w.heap[b]? = some (.cells #[x0,x1,x2,x3,x4,x5,x6,x7,x8,x9,y0,y1,y2,y3,y4,y5,y6,y7,y8,y9] t)) :
   (w.cell? ⟨b,0,none⟩=some x0∧w.cell? ⟨b,1,none⟩=some x1∧w.cell? ⟨b,2,none⟩=some x2∧w.cell? ⟨b,3,none⟩=some x3∧w.cell? ⟨b,4,none⟩=some x4∧w.cell? ⟨b,5,none⟩=some x5∧w.cell? ⟨b,6,none⟩=some x6∧w.cell? ⟨b,7,none⟩=some x7∧w.cell? ⟨b,8,none⟩=some x8∧w.cell? ⟨b,9,none⟩=some x9) ∧
   (w.cell? ⟨b,10,none⟩=some y0∧w.cell? ⟨b,11,none⟩=some y1∧w.cell? ⟨b,12,none⟩=some y2∧w.cell? ⟨b,13,none⟩=some y3∧w.cell? ⟨b,14,none⟩=some y4∧w.cell? ⟨b,15,none⟩=some y5∧w.cell? ⟨b,16,none⟩=some y6∧w.cell? ⟨b,17,none⟩=some y7∧w.cell? ⟨b,18,none⟩=some y8∧w.cell? ⟨b,19,none⟩=some y9):=by
 simp [World.cell?,h]
def cells2 (t u:Tr) (s r:Value):Array Value :=
 #[.int .i64 t.kind,.int .u64 (Oc.U t.w0),.int .u64 (Oc.U t.w1),.int .u64 (Oc.U t.w2),.int .u64 (Oc.U t.w3),s,.int .i64 t.num,.int .i64 t.least,.int .i64 t.most,.bool t.bare,
   .int .i64 u.kind,.int .u64 (Oc.U u.w0),.int .u64 (Oc.U u.w1),.int .u64 (Oc.U u.w2),.int .u64 (Oc.U u.w3),r,.int .i64 u.num,.int .i64 u.least,.int .i64 u.most,.bool u.bare]
theorem LsAt.two {w:World} {t u:Tr} {s r:Value} (h:TreesAt w (fun _=>True) s t.subs) (k:TreesAt w (fun _=>True) r u.subs):LsAt (w.alloc (.cells (cells2 t u s r) 37)) (.slice (some ⟨w.heap.size,0,none⟩) 2 2) [t,u]:=by
 have hb:Below w.heap.size w (w.alloc (.cells (cells2 t u s r) 37)):=(Below.refl _ _).alloc (Nat.le_refl _) _
 have two:∀ (i:Nat) (t':Tr),([t,u]:List Tr)[i]? = some t'→(i=0∧t'=t) ∨ (i=1∧t'=u):=fun i t' hi=>by
   match i,hi with
   | 0,hi=>exact .inl ⟨rfl,by simpa using hi.symm⟩
   | 1,hi=>exact .inr ⟨rfl,by simpa using hi.symm⟩
   | i+2,hi=>simp at hi
 refine TreesAt.mk (ts:=[t,u]) (some ⟨w.heap.size,0,none⟩) 2 (fun i=>if i=0 then s else r) (by simp) (fun i t' hi=>?_) (fun i t' hi=>?_)
 · obtain ⟨⟨d0,d1,d2,d3,d4,d5,d6,d7,d8,d9⟩,e0,e1,e2,e3,e4,e5,e6,e7,e8,e9⟩:=twenty (heap_alloc_new w (.cells (cells2 t u s r) 37))
   rcases two i t' hi with ⟨rfl,rfl⟩ | ⟨rfl,rfl⟩
   · exact ⟨_,0,rfl,trivial,d0,d1,d2,d3,d4,d5,d6,d7,d8,d9⟩
   · exact ⟨_,0,rfl,trivial,e0,e1,e2,e3,e4,e5,e6,e7,e8,e9⟩
 · rcases two i t' hi with ⟨rfl,rfl⟩ | ⟨rfl,rfl⟩
   · exact h.later hb
   · exact k.later hb
theorem wp_node2 {Q:Exit→Act→World→Prop} {o:Oper} {a:Act} {w:World} {K:Act→World→Prop} (x y:Operand) (t u:Tr) (p:Option Addr) (len cap:Nat) (p':Option Addr) (len' cap':Nat) (ho:o.op=.buildSlice 35 2 #[(0,x),(1,y)]) (hx:a.eval x=.agg (t.cells (.slice p len cap))) (hy:a.eval y=.agg (u.cells (.slice p' len' cap')))
   (h:K (a.put o.dst (.slice (some ⟨w.heap.size,0,none⟩) 2 2)) (w.alloc (.cells (cells2 t u (.slice p len cap) (.slice p' len' cap')) 37))):Oper.wp Tryd.prog o a w K Q:=by
 obtain ⟨ie,hi,hz0,hz1,-⟩:=info_parts Tryd.infoNode
 refine wp_buildSlice 35 37 2 _ ho _ ie _ Tryd.underlying35 hi hz0 (by rw [hz1];decide) (by rw [hz1];decide) ?_ h
 rw [hz1]
 simp only [List.map_toArray,List.map_cons,List.map_nil,hx,hy]
 kernel_rfl
end Go.Proofs.YtedjkbmfpjmlpaaDoor
namespace Go.Proofs.YtedjkbmfpjmlpaaDoor
open Go.RowKit
namespace Ri
variable {P:Program} {ops:Array Oper} {Q:Exit→Act→World→Prop}
structure Ap (K:Nat→World→Value→List Nat→Prop) (W:World) (L:Nat→Bool) (v:Nat→Value) (B:Nat→List Nat) (w:World):Prop where
 below:Below W.heap.size W w
 fact:∀ k,L k=true→K k w (v k) (B k)
 within:∀ k b,b ∈ B k→W.heap.size ≤ b∧b < w.heap.size
 apart:∀ j k b,j ≠ k→b ∈ B j→b ∉ B k
theorem Ap.step {K:Nat→World→Value→List Nat→Prop} (hK:∀ k w v F w',K k w v F→Below w.heap.size w w'→K k w' v F) {W:World} {L:Nat→Bool} {v:Nat→Value} {B:Nat→List Nat} {w w':World} {i:Nat} {u:Value} {F:List Nat} (h:Ap K W L v B w) (hb:Below w.heap.size w w') (hu:K i w' u F) (hF:∀ b,b ∈ F→w.heap.size ≤ b∧b < w'.heap.size):Ap K W (up L i true) (up v i u) (up B i F) w':=by
 have hsz:=hb.size
 have hW:=h.below.size
 refine ⟨h.below.trans (hb.mono h.below.size),fun k hk=>?_,fun k b hbk=>?_,fun j k b hjk h1 h2=>?_⟩
 · by_cases e:k=i
   · subst e;rw [up_same,up_same];exact hu
   · rw [up_other _ _ _ _ e] at hk
     rw [up_other _ _ _ _ e,up_other _ _ _ _ e]
     exact hK k w _ _ w' (h.fact k hk) hb
 · by_cases e:k=i
   · subst e;rw [up_same] at hbk;have:=hF b hbk;exact ⟨by omega,this.2⟩
   · rw [up_other _ _ _ _ e] at hbk;have:=h.within k b hbk;exact ⟨this.1,by omega⟩
 · by_cases e1:j=i
   · subst e1
     rw [up_same] at h1
     rw [up_other _ _ _ _ (Ne.symm hjk)] at h2
     have:=hF b h1;have:=h.within k b h2;omega
   · rw [up_other _ _ _ _ e1] at h1
     by_cases e2:k=i
     · subst e2
       rw [up_same] at h2
       have:=hF b h2;have:=h.within j b h1;omega
     · rw [up_other _ _ _ _ e2] at h2
       exact h.apart j k b hjk h1 h2
def needs (ops:Array Oper):Nat→Nat→Nat→Bool
 | 0,_,_=>false
 | f+1,i,k=>match ops[i]? with
   | some o=>o.after.any fun e=>Region.binds .any e && (e.on == k || needs ops f e.on k)
   | none=>false
def waitsC (ops:Array Oper) (i:Nat):Bool:=(List.range i).all fun k=>needs ops 5 i k
def Cl (ops:Array Oper) (L:Nat→Bool):Prop:=∀ j,L j=true→∀ o,ops[j]? = some o→∀ e ∈ o.after,Region.binds .any e=true→L e.on=true
theorem needs_done {ops:Array Oper} {L:Nat→Bool} (hc:Cl ops L):∀ (f i k:Nat),(∀ o,ops[i]? = some o→∀ e ∈ o.after,Region.binds .any e=true→L e.on=true)→needs ops f i k=true→L k=true
 | 0,_,_,_,h=>by cases h
 | f+1,i,k,hd,h=>by
   unfold needs at h
   cases ho:ops[i]? with
   | none=>rw [ho] at h;cases h
   | some o =>
     rw [ho] at h
     obtain ⟨e,he,h2⟩:=Array.any_eq_true'.1 h
     rw [Bool.and_eq_true,Bool.or_eq_true,beq_iff_eq] at h2
     have hon:=hd o ho e he h2.1
     rcases h2.2 with h3 | h3
     · rw [← h3];exact hon
     · exact needs_done hc f e.on k (fun o' ho' e' he' hb'=>hc e.on hon o' ho' e' he' hb') h3
theorem waits_all {ops:Array Oper} {i:Nat} (hw:waitsC ops i=true) {L:Nat→Bool} (hc:Cl ops L) (hd:∀ o,ops[i]? = some o→∀ e ∈ o.after,Region.binds .any e=true→L e.on=true):∀ k,k < i→L k=true:=fun k hk =>
 needs_done hc 5 i k hd (List.all_eq_true.1 hw k (List.mem_range.2 hk))
theorem Cl.step {ops:Array Oper} {L:Nat→Bool} (hc:Cl ops L) {i:Nat} (hd:∀ o,ops[i]? = some o→∀ e ∈ o.after,Region.binds .any e=true→L e.on=true):Cl ops (up L i true):=by
 intro j hj o ho e he hb
 have key:L e.on=true:=by
   by_cases e1:j=i
   · subst e1;exact hd o ho e he hb
   · rw [up_other _ _ _ _ e1] at hj;exact hc j hj o ho e he hb
 by_cases e2:e.on=i
 · rw [e2];exact up_same _ _ _
 · rw [up_other _ _ _ _ e2];exact key
theorem wp_region_chain {id:Nat} {a:Act} {w:World} (hm:P.follows .mixedOrders=true) (hb:backward ops=true) (hap:apart ops=true) (hsz0:(ops.toList.all fun o=>o.dst.all fun d=>decide (d < a.tmps.size))=true)
   (n N:Nat) (hn:ops.size=n) (hN:N ≤ n) (hw:((List.range n).all fun i=>decide (i < N) || waitsC ops i)=true) (K:Nat→World→Value→List Nat→Prop) (Fin:Nat→(Nat→Value)→(Nat→List Nat)→World→Prop)
   (hK:∀ k w v F w',K k w v F→Below w.heap.size w w'→K k w' v F)
   (step:∀ i,i < N→∀ (L:Nat→Bool) (v:Nat→Value) (B:Nat→List Nat) (w':World) (a':Act),Ap K w L v B w'→L i=false→(∀ o,ops[i]? = some o→∀ e ∈ o.after,Region.binds .any e=true→L e.on=true) →
     (∀ j d:Nat,(ops[j]?).bind (·.dst)=some d→L j=true→a'.tmps.getD d undef=v j)→(∀ d,ops.toList.all (fun o=>o.dst != some d)=true→a'.tmps.getD d undef=a.tmps.getD d undef) →
     wpOp P ops Q i (fun b w''=>∃ (o:Oper) (u:Value) (F:List Nat),ops[i]? = some o∧b=a'.put o.dst u∧Below w'.heap.size w' w''∧K i w'' u F∧∀ b,b ∈ F→w'.heap.size ≤ b∧b < w''.heap.size) a' w')
   (first:∀ (v:Nat→Value) (B:Nat→List Nat) (w':World),Below w.heap.size w w'→(∀ k,k < N→K k w' (v k) (B k))→(∀ k b,b ∈ B k→w.heap.size ≤ b∧b < w'.heap.size)→(∀ j k b,j ≠ k→b ∈ B j→b ∉ B k)→Fin N v B w')
   (put:∀ i,N ≤ i→i < n→∀ (L:Nat→Bool) (v:Nat→Value) (B:Nat→List Nat) (w':World) (a':Act),Fin i v B w'→(∀ k,k < i→L k=true) →
     (∀ j d:Nat,(ops[j]?).bind (·.dst)=some d→L j=true→a'.tmps.getD d undef=v j)→(∀ d,ops.toList.all (fun o=>o.dst != some d)=true→a'.tmps.getD d undef=a.tmps.getD d undef) →
     wpOp P ops Q i (fun b w''=>∃ (o:Oper) (u:Value),ops[i]? = some o∧b=a'.put o.dst u∧Fin (i+1) (up v i u) B w'') a' w')
   (fin:∀ (v:Nat→Value) (B:Nat→List Nat) (w':World),Fin n v B w'→Q .normal (frame ops a (fun _=>true) v) w'):(Code.region id ops true).wp P Q a w:=by
 have hwi:∀ i,N ≤ i→i < n→waitsC ops i=true:=fun i h1 h2=>by
   have:=List.all_eq_true.1 hw i (List.mem_range.2 h2)
   simpa [show ¬ i < N by omega] using this
 refine wp_region_frame hm hb hap hsz0 (fun L v w'=>Cl ops L∧∃ B,((∀ i,N ≤ i→i < n→L i=false)∧Ap K w L v B w') ∨ ∃ j,N ≤ j∧j ≤ n∧(∀ k,k < j→L k=true)∧(∀ k,j ≤ k→k < n→L k=false)∧Fin j v B w')
   ⟨(fun j h=>by cases h),fun _=>[],.inl ⟨fun _ _ _=>rfl,(Below.refl _ _).drew,(fun k h=>by cases h),(fun k b h=>by cases h),(fun j k b _ h=>by cases h)⟩⟩ ?_ ?_
 · intro i hi L v w' a' hI hL hd hv ho
   rw [hn] at hi
   obtain ⟨hc,B,hI⟩:=hI
   -- an operation of the chain: all ahead of it are done
   have chain:N ≤ i→Fin i v B w'→(∀ k,i ≤ k→k < n→L k=false)→wpOp P ops Q i (fun b w''=>∃ (o:Oper) (u:Value),ops[i]? = some o∧b=a'.put o.dst u∧Cl ops (up L i true)∧∃ B,((∀ q,N ≤ q→q < n→up L i true q=false)∧Ap K w (up L i true) (up v i u) B w'') ∨ ∃ j,N ≤ j∧j ≤ n∧(∀ k,k < j→up L i true k=true)∧(∀ k,j ≤ k→k < n→up L i true k=false)∧Fin j (up v i u) B w'') a' w':=fun hNi hF hrest=>by
     have hall:=waits_all (hwi i hNi hi) hc hd
     refine wpOp_mono ?_ (put i hNi hi L v B w' a' hF hall hv ho)
     rintro b w'' ⟨o,u,h1,h2,h3⟩
     refine ⟨o,u,h1,h2,hc.step hd,B,.inr ⟨i+1,by omega,by omega,fun k hk=>?_,fun k hk hkn=>?_,h3⟩⟩
     · by_cases e:k=i
       · subst e;exact up_same _ _ _
       · rw [up_other _ _ _ _ e];exact hall k (by omega)
     · rw [up_other _ _ _ _ (by omega)];exact hrest k (by omega) hkn
   rcases hI with ⟨hno,hA⟩ | ⟨j,hNj,hjn,hdone,hrest,hF⟩
   · by_cases hiN:i < N
     · refine wpOp_mono ?_ (step i hiN L v B w' a' hA hL hd hv ho)
       rintro b w'' ⟨o,u,F,h1,h2,h3,h4,h5⟩
       exact ⟨o,u,h1,h2,hc.step hd,up B i F,.inl ⟨fun q h6 h7=>by rw [up_other _ _ _ _ (by omega)];exact hno q h6 h7,hA.step hK h3 h4 h5⟩⟩
     · have hall:=waits_all (hwi i (by omega) hi) hc hd
       have hiN2:i=N:=by
         by_cases e:i=N
         · exact e
         · have h1:=hall N (by omega)
           rw [hno N (Nat.le_refl _) (by omega)] at h1;cases h1
       subst hiN2
       exact chain (Nat.le_refl _) (first v B w' hA.below (fun k hk=>hA.fact k (hall k hk)) hA.within hA.apart) (fun k h1 h2=>hno k h1 h2)
   · have hij:i=j:=by
       have h1:¬ i < j:=fun h=>by rw [hdone i h] at hL;cases hL
       by_cases e:i=j
       · exact e
       · have hall:=waits_all (hwi i (by omega) hi) hc hd
         have h2:=hall j (by omega)
         rw [hrest j (Nat.le_refl _) (by omega)] at h2;cases h2
     subst hij
     exact chain hNj hF hrest
 · intro v w' hI
   obtain ⟨-,B,hI⟩:=hI
   rw [hn] at hI
   rcases hI with ⟨hno,hA⟩ | ⟨j,hNj,hjn,hdone,hrest,hF⟩
   · have hNn:N=n:=by
       by_cases e:N=n
       · exact e
       · have h1:=hno N (Nat.le_refl _) (by omega)
         simp at h1;omega
     subst hNn
     exact fin v B w' (first v B w' hA.below (fun k hk=>hA.fact k (by simpa using hk)) hA.within hA.apart)
   · have hjn2:j=n:=by
       by_cases e:j=n
       · exact e
       · have h1:=hrest j (Nat.le_refl _) (by omega)
         simp at h1;omega
     subst hjn2
     exact fin v B w' hF
end Ri
end Go.Proofs.YtedjkbmfpjmlpaaDoor
namespace Go.Proofs.YtedjkbmfpjmlpaaDoor
open Go.RowKit
namespace Ri
variable {P:Program} {ops:Array Oper} {Q:Exit→Act→World→Prop}
structure Ap2 (K:Nat→World→(Nat→Value)→(Nat→List Nat)→Prop) (W:World) (L:Nat→Bool) (v:Nat→Value) (B:Nat→List Nat) (w:World):Prop where
 below:Below W.heap.size W w
 fact:∀ k,L k=true→K k w v B
 within:∀ k b,b ∈ B k→W.heap.size ≤ b∧b < w.heap.size
 apart:∀ j k b,j ≠ k→b ∈ B j→b ∉ B k
def Looks (K:Nat→World→(Nat→Value)→(Nat→List Nat)→Prop) (dep:Nat→List Nat):Prop:=∀ k w v v' B B',(∀ j,j=k ∨ j ∈ dep k→v' j=v j∧B' j=B j)→K k w v B→K k w v' B'
theorem Ap2.step {K:Nat→World→(Nat→Value)→(Nat→List Nat)→Prop} {dep:Nat→List Nat} (hK:∀ k w v B w',K k w v B→Below w.heap.size w w'→K k w' v B) (hlk:Looks K dep) {W:World} {L:Nat→Bool} {v:Nat→Value} {B:Nat→List Nat} {w w':World} {i:Nat} {u:Value} {F:List Nat} (h:Ap2 K W L v B w) (hL:L i=false) (hdep:∀ k j,L k=true→j ∈ dep k→L j=true) (hb:Below w.heap.size w w') (hu:K i w' (up v i u) (up B i F)) (hF:∀ b,b ∈ F→w.heap.size ≤ b∧b < w'.heap.size):Ap2 K W (up L i true) (up v i u) (up B i F) w':=by
 have hsz:=hb.size
 have hW:=h.below.size
 refine ⟨h.below.trans (hb.mono h.below.size),fun k hk=>?_,fun k b hbk=>?_,fun j k b hjk h1 h2=>?_⟩
 · by_cases e:k=i
   · subst e;exact hu
   · rw [up_other _ _ _ _ e] at hk
     refine hlk k w' v _ B _ (fun j hj=>?_) (hK k w _ _ w' (h.fact k hk) hb)
     have hji:j ≠ i:=by
       rintro rfl
       rcases hj with hj | hj
       · exact e hj.symm
       · have:=hdep k j hk hj;rw [hL] at this;cases this
     exact ⟨up_other _ _ _ _ hji,up_other _ _ _ _ hji⟩
 · by_cases e:k=i
   · subst e;rw [up_same] at hbk;have:=hF b hbk;exact ⟨by omega,this.2⟩
   · rw [up_other _ _ _ _ e] at hbk;have:=h.within k b hbk;exact ⟨this.1,by omega⟩
 · by_cases e1:j=i
   · subst e1
     rw [up_same] at h1
     rw [up_other _ _ _ _ (Ne.symm hjk)] at h2
     have:=hF b h1;have:=h.within k b h2;omega
   · rw [up_other _ _ _ _ e1] at h1
     by_cases e2:k=i
     · subst e2
       rw [up_same] at h2
       have:=hF b h2;have:=h.within j b h1;omega
     · rw [up_other _ _ _ _ e2] at h2
       exact h.apart j k b hjk h1 h2
end Ri
end Go.Proofs.YtedjkbmfpjmlpaaDoor
namespace Go.Proofs.YtedjkbmfpjmlpaaDoor
open Go.RowKit
namespace Ri
variable {P:Program} {ops:Array Oper} {Q:Exit→Act→World→Prop}
def waitsL (ops:Array Oper) (late:Nat→Bool) (i:Nat):Bool:=(List.range i).all fun k=>late k || needs ops 3 i k
theorem waitsL_all {ops:Array Oper} {late:Nat→Bool} {i:Nat} (hw:waitsL ops late i=true) {L:Nat→Bool} (hc:Cl ops L) (hd:∀ o,ops[i]? = some o→∀ e ∈ o.after,Region.binds .any e=true→L e.on=true):∀ k,k < i→late k=false→L k=true:=fun k hk hl=>by
 have h:=List.all_eq_true.1 hw k (List.mem_range.2 hk)
 rw [hl,Bool.false_or] at h
 exact needs_done hc 3 i k hd h
theorem wp_region_chain3 {id:Nat} {a:Act} {w:World} (hm:P.follows .mixedOrders=true) (hb:backward ops=true) (hap:apart ops=true) (hsz0:(ops.toList.all fun o=>o.dst.all fun d=>decide (d < a.tmps.size))=true)
   (n N:Nat) (hn:ops.size=n) (hN:N < n) (late:Nat→Bool) (hlN:∀ k,N ≤ k→late k=false) (hw:((List.range n).all fun i=>decide (i < N) || waitsL ops late i)=true)
   (K:Nat→World→(Nat→Value)→(Nat→List Nat)→Prop) (dep:Nat→List Nat) (KF:Nat→Value→Prop) (Fin:Nat→(Nat→Value)→(Nat→List Nat)→World→Prop)
   (hdep:((List.range n).all fun k=>(dep k).all fun j=>needs ops 3 k j)=true) (hdep0:∀ k,n ≤ k→dep k=[]) (hK:∀ k w v B w',K k w v B→Below w.heap.size w w'→K k w' v B) (hlk:Looks K dep)
   (hKF:∀ k w v B,late k=true→K k w v B→KF k (v k)) (hFl:∀ j v v' B w,(∀ k,late k=false→v' k=v k)→Fin j v B w→Fin j v' B w)
   (step:∀ i,i < N→∀ (L:Nat→Bool) (v:Nat→Value) (B:Nat→List Nat) (w':World) (a':Act),Ap2 K w L v B w'→L i=false→(∀ k j,L k=true→j ∈ dep k→L j=true)→(∀ o,ops[i]? = some o→∀ e ∈ o.after,Region.binds .any e=true→L e.on=true) →
     (∀ j d:Nat,(ops[j]?).bind (·.dst)=some d→L j=true→a'.tmps.getD d undef=v j)→(∀ d,ops.toList.all (fun o=>o.dst != some d)=true→a'.tmps.getD d undef=a.tmps.getD d undef) →
     wpOp P ops Q i (fun b w''=>∃ (o:Oper) (u:Value) (F:List Nat),ops[i]? = some o∧b=a'.put o.dst u∧Below w'.heap.size w' w''∧K i w'' (up v i u) (up B i F)∧∀ b,b ∈ F→w'.heap.size ≤ b∧b < w''.heap.size) a' w')
   (stepL:∀ i j,i < N→late i=true→∀ (L:Nat→Bool) (v:Nat→Value) (B:Nat→List Nat) (w':World) (a':Act),Fin j v B w'→L i=false→(∀ o,ops[i]? = some o→∀ e ∈ o.after,Region.binds .any e=true→L e.on=true) →
     (∀ j d:Nat,(ops[j]?).bind (·.dst)=some d→L j=true→a'.tmps.getD d undef=v j)→(∀ d,ops.toList.all (fun o=>o.dst != some d)=true→a'.tmps.getD d undef=a.tmps.getD d undef) →
     wpOp P ops Q i (fun b w''=>∃ (o:Oper) (u:Value),ops[i]? = some o∧b=a'.put o.dst u∧w''=w'∧KF i u) a' w')
   (first:∀ (v:Nat→Value) (B:Nat→List Nat) (w':World),Below w.heap.size w w'→(∀ k,k < N→late k=false→K k w' v B)→(∀ k b,b ∈ B k→w.heap.size ≤ b∧b < w'.heap.size)→(∀ j k b,j ≠ k→b ∈ B j→b ∉ B k)→Fin N v B w')
   (put:∀ i,N ≤ i→i < n→∀ (L:Nat→Bool) (v:Nat→Value) (B:Nat→List Nat) (w':World) (a':Act),Fin i v B w'→(∀ k,k < i→late k=false→L k=true)→(∀ k,late k=true→L k=true→KF k (v k))→(∀ o,ops[i]? = some o→∀ e ∈ o.after,Region.binds .any e=true→L e.on=true) →
     (∀ j d:Nat,(ops[j]?).bind (·.dst)=some d→L j=true→a'.tmps.getD d undef=v j)→(∀ d,ops.toList.all (fun o=>o.dst != some d)=true→a'.tmps.getD d undef=a.tmps.getD d undef) →
     wpOp P ops Q i (fun b w''=>∃ (o:Oper) (u:Value),ops[i]? = some o∧b=a'.put o.dst u∧Fin (i+1) (up v i u) B w'') a' w')
   (fin:∀ (v:Nat→Value) (B:Nat→List Nat) (w':World),Fin n v B w'→(∀ k,k < N→late k=true→KF k (v k))→Q .normal (frame ops a (fun _=>true) v) w'):(Code.region id ops true).wp P Q a w:=by
 have hwi:∀ i,N ≤ i→i < n→waitsL ops late i=true:=fun i h1 h2=>by
   have:=List.all_eq_true.1 hw i (List.mem_range.2 h2)
   simpa [show ¬ i < N by omega] using this
 refine wp_region_frame hm hb hap hsz0 (fun L v w'=>Cl ops L∧∃ B,((∀ i,N ≤ i→i < n→L i=false)∧Ap2 K w L v B w') ∨ ∃ j,N < j∧j ≤ n∧(∀ k,k < j→late k=false→L k=true)∧(∀ k,j ≤ k→k < n→L k=false)∧(∀ k,late k=true→L k=true→KF k (v k))∧Fin j v B w')
   ⟨(fun j h=>by cases h),fun _=>[],.inl ⟨fun _ _ _=>rfl,(Below.refl _ _).drew,(fun k h=>by cases h),(fun k b h=>by cases h),(fun j k b _ h=>by cases h)⟩⟩ ?_ ?_
 · intro i hi L v w' a' hI hL hd hv ho
   rw [hn] at hi
   obtain ⟨hc,B,hI⟩:=hI
   have hdp:∀ k j,L k=true→j ∈ dep k→L j=true:=fun k j hk hj=>by
     by_cases hkn:k < n
     · exact needs_done hc 3 k j (fun o ho e he hb'=>hc k hk o ho e he hb') (List.all_eq_true.1 (List.all_eq_true.1 hdep k (List.mem_range.2 hkn)) j hj)
     · rw [hdep0 k (by omega)] at hj;cases hj
   have chain:N ≤ i→Fin i v B w'→(∀ k,late k=true→L k=true→KF k (v k))→(∀ k,i ≤ k→k < n→L k=false)→wpOp P ops Q i (fun b w''=>∃ (o:Oper) (u:Value),ops[i]? = some o∧b=a'.put o.dst u∧Cl ops (up L i true)∧∃ B,((∀ q,N ≤ q→q < n→up L i true q=false)∧Ap2 K w (up L i true) (up v i u) B w'') ∨ ∃ j,N < j∧j ≤ n∧(∀ k,k < j→late k=false→up L i true k=true)∧(∀ k,j ≤ k→k < n→up L i true k=false)∧(∀ k,late k=true→up L i true k=true→KF k (up v i u k))∧Fin j (up v i u) B w'') a' w':=fun hNi hF hKf hrest=>by
     have hall:=waitsL_all (hwi i hNi hi) hc hd
     refine wpOp_mono ?_ (put i hNi hi L v B w' a' hF hall hKf hd hv ho)
     rintro b w'' ⟨o,u,h1,h2,h3⟩
     refine ⟨o,u,h1,h2,hc.step hd,B,.inr ⟨i+1,by omega,by omega,fun k hk hlk=>?_,fun k hk hkn=>?_,fun k hlk hk=>?_,h3⟩⟩
     · by_cases e:k=i
       · subst e;exact up_same _ _ _
       · rw [up_other _ _ _ _ e];exact hall k (by omega) hlk
     · rw [up_other _ _ _ _ (by omega)];exact hrest k (by omega) hkn
     · have e:k ≠ i:=fun e=>by subst e;rw [hlN k hNi] at hlk;cases hlk
       rw [up_other _ _ _ _ e] at hk ⊢
       exact hKf k hlk hk
   rcases hI with ⟨hno,hA⟩ | ⟨j,hNj,hjn,hdone,hrest,hKf,hF⟩
   · by_cases hiN:i < N
     · refine wpOp_mono ?_ (step i hiN L v B w' a' hA hL hdp hd hv ho)
       rintro b w'' ⟨o,u,F,h1,h2,h3,h4,h5⟩
       exact ⟨o,u,h1,h2,hc.step hd,up B i F,.inl ⟨fun q h6 h7=>by rw [up_other _ _ _ _ (by omega)];exact hno q h6 h7,hA.step hK hlk hL hdp h3 h4 h5⟩⟩
     · have hall:=waitsL_all (hwi i (by omega) hi) hc hd
       have hiN2:i=N:=by
         by_cases e:i=N
         · exact e
         · have h1:=hall N (by omega) (hlN N (Nat.le_refl _))
           rw [hno N (Nat.le_refl _) (by omega)] at h1;cases h1
       subst hiN2
       exact chain (Nat.le_refl _) (first v B w' hA.below (fun k hk hlk=>hA.fact k (hall k hk hlk)) hA.within hA.apart) (fun k hlk hk=>hKF k _ _ _ hlk (hA.fact k hk)) (fun k h1 h2=>hno k h1 h2)
   · by_cases hiN:i < N
     · have hli:late i=true:=by
         cases h:late i with
         | true=>rfl
         | false=>have:=hdone i (by omega) h;rw [hL] at this;cases this
       refine wpOp_mono ?_ (stepL i j hiN hli L v B w' a' hF hL hd hv ho)
       rintro b w'' ⟨o,u,h1,h2,rfl,h4⟩
       refine ⟨o,u,h1,h2,hc.step hd,B,.inr ⟨j,hNj,hjn,fun k hk hlk=>?_,fun k hk hkn=>?_,fun k hlk hk=>?_,hFl j v _ B _ (fun k hlk=>?_) hF⟩⟩
       · have e:k ≠ i:=fun e=>by subst e;rw [hli] at hlk;cases hlk
         rw [up_other _ _ _ _ e];exact hdone k hk hlk
       · rw [up_other _ _ _ _ (by omega)];exact hrest k hk hkn
       · by_cases e:k=i
         · subst e;rw [up_same];exact h4
         · rw [up_other _ _ _ _ e] at hk ⊢;exact hKf k hlk hk
       · have e:k ≠ i:=fun e=>by subst e;rw [hli] at hlk;cases hlk
         exact up_other _ _ _ _ e
     · have hij:i=j:=by
         have h1:¬ i < j:=fun h=>by rw [hdone i h (hlN i (by omega))] at hL;cases hL
         by_cases e:i=j
         · exact e
         · have hall:=waitsL_all (hwi i (by omega) hi) hc hd
           have h2:=hall j (by omega) (hlN j (by omega))
           rw [hrest j (Nat.le_refl _) (by omega)] at h2;cases h2
       subst hij
       exact chain (by omega) hF hKf hrest
 · intro v w' hI
   obtain ⟨-,B,hI⟩:=hI
   rw [hn] at hI
   rcases hI with ⟨hno,-⟩ | ⟨j,hNj,hjn,hdone,hrest,hKf,hF⟩
   · have h1:=hno N (Nat.le_refl _) hN
     simp at h1;omega
   · have hjn2:j=n:=by
       by_cases e:j=n
       · exact e
       · have h1:=hrest j (Nat.le_refl _) (by omega)
         simp at h1;omega
     subst hjn2
     exact fin v B w' hF (fun k hk hlk=>hKf k hlk (by simp;omega))
end Ri
end Go.Proofs.YtedjkbmfpjmlpaaDoor
namespace Go.Proofs.YtedjkbmfpjmlpaaDoor
open Go.RowKit
theorem pslS_cells (sv:Value):pslS.cells sv=#[.int .i64 8,.int .u64 0,.int .u64 0,.int .u64 0,.int .u64 0,sv,.int .i64 0,.int .i64 0,.int .i64 (-1),.bool false]:=by
 unfold pslS Tr.rep Tr.cells
 simp only [Tr.kind,Tr.w0,Tr.w1,Tr.w2,Tr.w3,Tr.num,Tr.least,Tr.most,Tr.bare,u0]
theorem pslT_cells (sv:Value):pslT.cells sv=#[.int .i64 5,.int .u64 0,.int .u64 0,.int .u64 0,.int .u64 0,sv,.int .i64 0,.int .i64 0,.int .i64 0,.bool false]:=by
 unfold pslT Tr.several Tr.many Tr.cells
 simp only [Tr.kind,Tr.w0,Tr.w1,Tr.w2,Tr.w3,Tr.num,Tr.least,Tr.most,Tr.bare,u0]
theorem pslT_dp:pslT.dpT ≤ 1000000:=by decide +kernel
theorem psl_code:Re.code pslT pslX.t.size [0,4]=0:=by decide +kernel
theorem psl_ask:Ps.askB pslX pslT 0 4=true:=by decide +kernel
theorem psl_cnt:Ps.cnt pslX pslT 0 4=5:=by
 unfold Ps.cnt
 rw [if_pos psl_ask,show ((0:Int).toNat)=0 from rfl,show ((4:Int).toNat)=4 from rfl,psl_wy];rfl
def PvK (T:Array Value) (q:Pa) (k:Nat) (w:World) (v:Nat→Value) (B:Nat→List Nat):Prop :=
 match k with
 | 0=>v 0=.agg T
 | 1=>∃ g:Nat,v 1=.pointer (some ⟨g,0,none⟩)∧ScAt w g pslX
 | 2=>∃ s,v 2=.tuple #[.agg (q.cells s),.bool true,.nilIface]∧PasAt w (fun b=>b ∈ B 2) s q.subs
 | 3=>v 3=v 2
 | 4=>∃ s,v 2=.tuple #[.agg (q.cells s),.bool true,.nilIface]∧v 4=.agg (q.cells s)
 | 5=>v 5=.bool true
 | 6=>v 6=.nilIface
 | 7=>∃ g,v 7=.pointer (some ⟨g,0,none⟩)∧B 7=[g]∧w.heap[g]? = some (.cells #[.int .i64 0,.int .i64 0,.int .i64 0,.slice none 0 0] 57)
 | _=>True
def pvDep (k:Nat):List Nat:=if k=3 ∨ k=4 then [2] else []
theorem PvK.looks (T:Array Value) (q:Pa):Ri.Looks (PvK T q) pvDep:=by
 intro k w v v' B B' hj h
 match k,h with
 | 0,h=>exact (hj 0 (.inl rfl)).1.trans h
 | 1,⟨g,h1,h2⟩=>exact ⟨g,(hj 1 (.inl rfl)).1.trans h1,h2⟩
 | 2,⟨s,h1,h2⟩=>exact ⟨s,(hj 2 (.inl rfl)).1.trans h1,by rw [(hj 2 (.inl rfl)).2];exact h2⟩
 | 3,h=>exact ((hj 3 (.inl rfl)).1.trans h).trans (hj 2 (.inr (by decide))).1.symm
 | 4,⟨s,h1,h2⟩=>exact ⟨s,(hj 2 (.inr (by decide))).1.trans h1,(hj 4 (.inl rfl)).1.trans h2⟩
 | 5,h=>exact (hj 5 (.inl rfl)).1.trans h
 | 6,h=>exact (hj 6 (.inl rfl)).1.trans h
 | 7,⟨g,h1,h2,h3⟩=>exact ⟨g,(hj 7 (.inl rfl)).1.trans h1,(hj 7 (.inl rfl)).2.trans h2,h3⟩
 | _+8,_=>trivial
theorem PvK.later {T:Array Value} {q:Pa} {k:Nat} {w w':World} {v:Nat→Value} {B:Nat→List Nat} (h:PvK T q k w v B) (hb:Below w.heap.size w w'):PvK T q k w' v B:=by
 match k,h with
 | 0,h=>exact h
 | 1,⟨g,h1,h2⟩=>exact ⟨g,h1,h2.below hb⟩
 | 2,⟨s,h1,h2⟩=>exact ⟨s,h1,h2.later hb⟩
 | 3,h=>exact h
 | 4,h=>exact h
 | 5,h=>exact h
 | 6,h=>exact h
 | 7,⟨g,h1,h2,h3⟩=>exact ⟨g,h1,h2,keep_blk hb h3⟩
 | _+8,_=>trivial
def PvFin (W:World) (q:Pa) (j:Nat) (v:Nat→Value) (_B:Nat→List Nat) (w:World):Prop :=
 ∃ s g,v 3=.tuple #[.agg (q.cells s),.bool true,.nilIface]∧v 4=.agg (q.cells s)∧v 7=.pointer (some ⟨g,0,none⟩)∧PasAt w (fun b=>b ≠ g) s q.subs∧w.heap[g]? = some (.cells (if 8 < j then q.cells s else #[.int .i64 0,.int .i64 0,.int .i64 0,.slice none 0 0]) 57) ∧
   Below W.heap.size W w∧W.heap.size ≤ g∧(9 < j→v 9=.bool true)∧(10 < j→v 10=.nilIface)
def pvLate (k:Nat):Bool:=k == 5 || k == 6
def PvKF (k:Nat) (v:Value):Prop:=(k=5→v=.bool true)∧(k=6→v=.nilIface)
theorem PvFin.looks (W:World) (q:Pa):∀ j v v' B w,(∀ k,pvLate k=false→v' k=v k)→PvFin W q j v B w→PvFin W q j v' B w:=by
 rintro j v v' B w h ⟨s,g,e3,e4,e7,hp,hg,hb,hw,h9,h10⟩
 exact ⟨s,g,(h 3 rfl).trans e3,(h 4 rfl).trans e4,(h 7 rfl).trans e7,hp,hg,hb,hw,fun h1=>(h 9 rfl).trans (h9 h1),fun h1=>(h 10 rfl).trans (h10 h1)⟩
theorem PvK.kf {T:Array Value} {q:Pa} : ∀ k w v B,pvLate k=true→PvK T q k w v B→PvKF k (v k):=by
 intro k w v B hl h
 have:k=5 ∨ k=6:=by unfold pvLate at hl;simpa using hl
 rcases this with rfl | rfl
 · exact ⟨fun _=>h,fun e=>by omega⟩
 · exact ⟨fun e=>by omega,fun _=>h⟩
theorem pslives_any (A:Nat→Addr) (w:World) (hM:ReMemT A w):Calls Tryd.prog 37 #[] w fun e w'=>e=.returned (.bool true)∧Below w.heap.size w w':=by
 have HM:=Lib.hid (fun w9 (hb:Below w.heap.size w w9)=>hM.below hb)
 have HT:=Lib.hid (show ∀ w,Calls Tryd.prog 56 #[.string ⟨#[97]⟩] w (OwnEnd pslA w) from fun w=>treetext_any ⟨#[97]⟩ (by decide) w)
 obtain ⟨q,r1,r2,l,hal,hqs,hr1⟩:=psl_best
 have HQS:=Lib.hid hqs;have HR1:=Lib.hid hr1
 have HCT0:=Lib.hid (fun w9 (hb:Below w.heap.size w w9) (gx:Nat) (hx:ScAt w9 gx pslX) (B9:Nat→Prop) (v9:Value) (hv:NodeV w9 B9 v9 pslT)=>(pscount_any A pslT pslT_dp pslX gx 0 4 w9 (hM.below hb) hx B9 v9 hv).mono (R':=fun e w'=>e=.returned (.tuple #[.int .i64 5,.nilIface])∧Below w9.heap.size w9 w') (by
   rintro e w' ⟨rfl,h⟩
   rw [psl_cnt,psl_code,sent_nil]
   exact ⟨rfl,h⟩))
 have HBS0:=Lib.hid (fun w9 (hb:Below w.heap.size w w9) (gx:Nat) (hx:ScAt w9 gx pslX) (B9:Nat→Prop) (v9:Value) (hv:NodeV w9 B9 v9 pslT)=>(psbest_yes A pslT pslT_dp pslX gx 0 4 w9 (hM.below hb) hx B9 v9 hv psl_ask (by rw [show ((0:Int).toNat)=0 from rfl,show ((4:Int).toNat)=4 from rfl,psl_wy];decide)).mono (R':=fun e w'=>∃ s,e=.returned (.tuple #[.agg (q.cells s),.bool true,.nilIface])∧PasAt w' (fun b=>w9.heap.size ≤ b) s q.subs∧Below w9.heap.size w9 w') (by
   intro e w' h
   unfold BestEnd at h
   rw [show ((0:Int).toNat)=0 from rfl,show ((4:Int).toNat)=4 from rfl,hal] at h
   obtain ⟨⟨s,h1,h2⟩,h3⟩:=h
   exact ⟨s,h1,h2,h3⟩))
 have HSC:=Lib.hid (fun w9=>scnew_any ⟨#[97,97,97,97]⟩ 0 0 w9)
 clear hM hal hqs hr1
 go_enter Tryd.func37,Tryd.ntmps37
 go_wp2_with fail
 refine (HT.out w).mono ?_
 rintro e w1 ⟨s1,F1,rfl,ho,-,hb1⟩
 have HV1:=Lib.hid (show NodeV w1 (fun b=>b ∈ F1) (.agg (pslA.cells s1)) pslA from ⟨s1,rfl,ho.trees⟩)
 have HB1:=Lib.hid hb1
 clear ho hb1 HT
 generalize pslA.cells s1=C1 at *
 go_wp2_with fail
 refine (rep_any pslA 0 (-1) w1 _ _ HV1.out).mono ?_
 rintro e w2 ⟨s2,F2,rfl,ho,-,hb2⟩
 obtain ⟨p2,c2,rfl,-⟩:=ho.slice
 have hcc:(Tr.rep 0 (-1) pslA).cells (.slice p2 (Tr.rep 0 (-1) pslA).subs.length c2)=#[.int .i64 8,.int .u64 0,.int .u64 0,.int .u64 0,.int .u64 0,.slice p2 1 c2,.int .i64 0,.int .i64 0,.int .i64 (-1),.bool false]:=pslS_cells _
 have HO2:=Lib.hid (show TreesAt w2 (fun _=>True) (.slice p2 1 c2) pslS.subs from ho.trees.any)
 have HB2:=Lib.hid (HB1.out.trans (hb2.mono HB1.out.size))
 rw [hcc]
 clear ho hb2 HB1 HV1 hcc
 have hba:Below w2.heap.size w2 (w2.alloc (.cells #[.int .i64 8,.int .u64 0,.int .u64 0,.int .u64 0,.int .u64 0,.slice p2 1 c2,.int .i64 0,.int .i64 0,.int .i64 (-1),.bool false] 37)):=(Below.refl _ _).alloc (Nat.le_refl _) _
 have X3:=Lib.hid (heap_alloc_new w2 (.cells #[.int .i64 8,.int .u64 0,.int .u64 0,.int .u64 0,.int .u64 0,.slice p2 1 c2,.int .i64 0,.int .i64 0,.int .i64 (-1),.bool false] 37))
 have HO3:=Lib.hid (HO2.out.later hba);have HB3:=Lib.hid (HB2.out.trans (hba.mono HB2.out.size))
 clear hba HO2 HB2
 go_upto_region 2 with (fail)
 generalize w2.alloc _=w3 at *
 have hls:=LsAt.two (t:=pslS) (u:=pslS) HO3.out HO3.out
 have hba:Below w3.heap.size w3 (w3.alloc (.cells (cells2 pslS pslS (.slice p2 1 c2) (.slice p2 1 c2)) 37)):=(Below.refl _ _).alloc (Nat.le_refl _) _
 have HLS:=Lib.hid hls
 have HB4:=Lib.hid (HB3.out.trans (hba.mono HB3.out.size))
 have HPC:=Lib.hid (show pslS.cells (.slice p2 1 c2)=#[.int .i64 8,.int .u64 0,.int .u64 0,.int .u64 0,.int .u64 0,.slice p2 1 c2,.int .i64 0,.int .i64 0,.int .i64 (-1),.bool false] from pslS_cells _)
 clear hls hba HO3 HB3
 go_wp2_with (first
   | (refine wpList_load_row rfl 37 (.tmp 1) rfl w2.heap.size rfl 37 _ (0,0) _ X3.out Tryd.underlying37 rfl (by kernel_rfl) ?_)
   | (refine wpList_plain rfl fun _ hK=>wp_node2 (.tmp 10) (.tmp 11) pslS pslS p2 1 c2 p2 1 c2 rfl (congrArg Value.agg HPC.out.symm) (congrArg Value.agg HPC.out.symm) (hK _ _ ?_))
   | fail)
 generalize w3.alloc _=w3b at *
 refine (seq_any [pslS,pslS] w3b _ _ HLS.out).mono ?_
 rintro e w4 ⟨s4,F4,rfl,ho,-,hb4⟩
 obtain ⟨p4,c4,rfl,-⟩:=ho.slice
 have hcc:(Tr.several 5 [pslS,pslS]).cells (.slice p4 (Tr.several 5 [pslS,pslS]).subs.length c4)=#[.int .i64 5,.int .u64 0,.int .u64 0,.int .u64 0,.int .u64 0,.slice p4 2 c4,.int .i64 0,.int .i64 0,.int .i64 0,.bool false]:=pslT_cells _
 have hba:Below w4.heap.size w4 (w4.alloc (.cells #[.int .i64 5,.int .u64 0,.int .u64 0,.int .u64 0,.int .u64 0,.slice p4 2 c4,.int .i64 0,.int .i64 0,.int .i64 0,.bool false] 37)):=(Below.refl _ _).alloc (Nat.le_refl _) _
 have HB5:=Lib.hid ((HB4.out.trans (hb4.mono HB4.out.size)).trans (hba.mono (HB4.out.trans (hb4.mono HB4.out.size)).size))
 have X5:=Lib.hid (heap_alloc_new w4 (.cells #[.int .i64 5,.int .u64 0,.int .u64 0,.int .u64 0,.int .u64 0,.slice p4 2 c4,.int .i64 0,.int .i64 0,.int .i64 0,.bool false] 37))
 have HO5:=Lib.hid ((show TreesAt w4 (fun b=>b ∈ F4) (.slice p4 2 c4) pslT.subs from ho.trees).later hba)
 rw [hcc]
 clear ho hb4 hcc hba HB4 HLS HPC X3
 go_upto_region 3 with (fail)
 generalize w4.alloc _=w5 at *
 have HVT:=Lib.hid (fun w9 (hb:Below w5.heap.size w5 w9)=>(show NodeV w9 (fun b=>b ∈ F4) (.agg #[.int .i64 5,.int .u64 0,.int .u64 0,.int .u64 0,.int .u64 0,.slice p4 2 c4,.int .i64 0,.int .i64 0,.int .i64 0,.bool false]) pslT from ⟨.slice p4 2 c4,congrArg Value.agg (pslT_cells _).symm,HO5.out.later hb⟩))
 have HCT:=Lib.hid (fun w9 (hb:Below w5.heap.size w5 w9) (gx:Nat) (hx:ScAt w9 gx pslX)=>HCT0.out w9 (HB5.out.trans (hb.mono HB5.out.size)) gx hx _ _ (HVT.out w9 hb))
 have HBS:=Lib.hid (fun w9 (hb:Below w5.heap.size w5 w9) (gx:Nat) (hx:ScAt w9 gx pslX)=>HBS0.out w9 (HB5.out.trans (hb.mono HB5.out.size)) gx hx _ _ (HVT.out w9 hb))
 clear HCT0 HBS0 HM
 refine Ri.wp_region_facts (by kernel_rfl) (by kernel_rfl) (by kernel_rfl) (by kernel_rfl) 8 (by kernel_rfl) (fun kk ww vv=>match kk with | 0=>vv=.agg #[.int .i64 5,.int .u64 0,.int .u64 0,.int .u64 0,.int .u64 0,.slice p4 2 c4,.int .i64 0,.int .i64 0,.int .i64 0,.bool false] | 1=>∃ g:Nat,vv=.pointer (some ⟨g,0,none⟩)∧ScAt ww g pslX | 2=>vv=.tuple #[.int .i64 5,.nilIface] | 3=>vv=.tuple #[.int .i64 5,.nilIface] | 4=>vv=.int .i64 5 | 5=>vv=.nilIface | 6=>vv=.int .i64 5 | 7=>vv=.nilIface | _=>True) (fun kk ww vv w8 h hb=>by
       match kk,h with
       | 0,h=>exact h
       | 1,h=>exact h.imp fun g h=>⟨h.1,h.2.below hb⟩
       | 2,h=>exact h
       | 3,h=>exact h
       | 4,h=>exact h
       | 5,h=>exact h
       | 6,h=>exact h
       | 7,h=>exact h
       | _+8,_=>trivial) ?_ ?_
 · intro i hi9 L v w9 xa hF9 hL hd hv ho
   obtain ⟨hb,hk⟩:=hF9
   have hi':i=0 ∨ i=1 ∨ i=2 ∨ i=3 ∨ i=4 ∨ i=5 ∨ i=6 ∨ i=7:=by omega
   rcases hi' with rfl | rfl | rfl | rfl | rfl | rfl | rfl | rfl
   · have e2:xa.tmps.getD 2 undef=.pointer (some ⟨w4.heap.size,0,none⟩):=ho 2 (by kernel_rfl)
     refine Ri.step_plain rfl rfl (fun K' hK'=>?_)
     refine wp_load_row _ _ rfl _ e2 _ _ _ _ (keep_blk hb X5.out) Tryd.underlying37 rfl (by kernel_rfl) ?_
     exact hK' _ _ ⟨_,_,rfl,rfl,Below.refl _ _,rfl⟩
   · refine Ri.step_plain rfl rfl (fun K' hK'=>?_)
     go_simp
     refine (HSC.out w9).mono ?_
     rintro e w8 ⟨rfl,hx,hb8,-⟩
     exact hK' _ _ ⟨_,_,rfl,rfl,hb8,⟨_,rfl,hx⟩⟩
   · obtain ⟨j0,j1⟩:L 0=true∧L 1=true:=by have:=hd _ rfl;simp [Region.binds] at this;simp [this]
     have f0:=(hv 0 15 rfl j0).trans (hk 0 j0)
     have k1:∃ g:Nat,(v 1)=.pointer (some ⟨g,0,none⟩)∧ScAt w9 g pslX:=hk 1 j1
     have f1:=hv 1 16 rfl j1
     refine Ri.step_plain rfl rfl (fun K' hK'=>?_)
     obtain ⟨gx,ex,hx⟩:=k1
     replace f1:=f1.trans ex
     go_simp
     refine (HCT.out w9 hb gx hx).mono ?_
     rintro e w8 ⟨rfl,hb8⟩
     exact hK' _ _ ⟨_,_,rfl,rfl,hb8,rfl⟩
   · have j2:L 2=true:=by have:=hd _ rfl;simp [Region.binds] at this;simp [this]
     have f2:=(hv 2 17 rfl j2).trans (hk 2 j2)
     refine Ri.step_plain rfl rfl (fun K' hK'=>?_)
     go_simp
     exact hK' _ _ ⟨_,_,rfl,rfl,(Below.refl _ _),rfl⟩
   · have j3:L 3=true:=by have:=hd _ rfl;simp [Region.binds] at this;simp [this]
     have f3:=(hv 3 14 rfl j3).trans (hk 3 j3)
     refine Ri.step_plain rfl rfl (fun K' hK'=>?_)
     go_simp
     exact hK' _ _ ⟨_,_,rfl,rfl,(Below.refl _ _),rfl⟩
   · have j3:L 3=true:=by have:=hd _ rfl;simp [Region.binds] at this;simp [this]
     have f3:=(hv 3 14 rfl j3).trans (hk 3 j3)
     refine Ri.step_plain rfl rfl (fun K' hK'=>?_)
     go_simp
     exact hK' _ _ ⟨_,_,rfl,rfl,(Below.refl _ _),rfl⟩
   · have j4:L 4=true:=by have:=hd _ rfl;simp [Region.binds] at this;simp [this]
     have f4:=(hv 4 18 rfl j4).trans (hk 4 j4)
     refine Ri.step_plain rfl rfl (fun K' hK'=>?_)
     go_simp
     exact hK' _ _ ⟨_,_,rfl,rfl,(Below.refl _ _),rfl⟩
   · have j5:L 5=true:=by have:=hd _ rfl;simp [Region.binds] at this;simp [this]
     have f5:=(hv 5 19 rfl j5).trans (hk 5 j5)
     refine Ri.step_plain rfl rfl (fun K' hK'=>?_)
     go_simp
     exact hK' _ _ ⟨_,_,rfl,rfl,(Below.refl _ _),rfl⟩
 · intro v w9 hb hk
   have k0:v 0=.agg #[.int .i64 5,.int .u64 0,.int .u64 0,.int .u64 0,.int .u64 0,.slice p4 2 c4,.int .i64 0,.int .i64 0,.int .i64 0,.bool false]:=hk 0 (by omega)
   have k1:∃ g:Nat,(v 1)=.pointer (some ⟨g,0,none⟩)∧ScAt w9 g pslX:=hk 1 (by omega)
   have k2:v 2=.tuple #[.int .i64 5,.nilIface]:=hk 2 (by omega)
   have k3:v 3=.tuple #[.int .i64 5,.nilIface]:=hk 3 (by omega)
   have k4:v 4=.int .i64 5:=hk 4 (by omega)
   have k5:v 5=.nilIface:=hk 5 (by omega)
   have k6:v 6=.int .i64 5:=hk 6 (by omega)
   have k7:v 7=.nilIface:=hk 7 (by omega)
   simp only [Ri.frame,List.zipIdx,List.foldl_cons,List.foldl_nil,if_true,List.setIfInBounds_toArray,List.set_cons_zero,List.set_cons_succ,Nat.reduceAdd,k6,k7]
   generalize v 0=z0;generalize v 1=z1;generalize v 2=z2;generalize v 3=z3;generalize v 4=z4;generalize v 5=z5
   have HB6:=Lib.hid (HB5.out.trans (hb.mono HB5.out.size));have H56:=Lib.hid hb;have X6:=Lib.hid (keep_blk hb X5.out)
   clear hb HCT HVT HO5
   go_upto_region 4 with (fail)
   have hsc:∀ w9,Calls Tryd.prog 26 #[.string ⟨#[97,97,97,97]⟩,.int .i64 0,.int .i64 0] w9 fun e w'=>∃ g:Nat,e=.returned (.pointer (some ⟨g,0,none⟩))∧ScAt w' g pslX∧Below w9.heap.size w9 w':=fun w9=>(HSC.out w9).mono (by rintro e w' ⟨rfl,h1,h2,-⟩;exact ⟨_,rfl,h1,h2⟩)
   refine Ri.wp_region_chain3 (by kernel_rfl) (by kernel_rfl) (by kernel_rfl) (by kernel_rfl) 11 8 (by kernel_rfl) (by omega) pvLate (fun k hk=>by unfold pvLate;simp;omega) (by kernel_rfl) (PvK #[.int .i64 5,.int .u64 0,.int .u64 0,.int .u64 0,.int .u64 0,.slice p4 2 c4,.int .i64 0,.int .i64 0,.int .i64 0,.bool false] q) pvDep PvKF (PvFin w9 q) (by kernel_rfl) (fun k hk=>by unfold pvDep;rw [if_neg (by omega)]) (fun k w v B w' h hb=>h.later hb) (PvK.looks _ _) PvK.kf (PvFin.looks w9 q) ?_ ?_ ?_ ?_ ?_
   · intro i hi L v B9 w10 xa hA hL hcl hd hv ho
     have hi':i=0 ∨ i=1 ∨ i=2 ∨ i=3 ∨ i=4 ∨ i=5 ∨ i=6 ∨ i=7:=by omega
     rcases hi' with rfl | rfl | rfl | rfl | rfl | rfl | rfl | rfl
     · have e2:xa.tmps.getD 2 undef=.pointer (some ⟨w4.heap.size,0,none⟩):=ho 2 (by kernel_rfl)
       refine Ri.step_plain rfl rfl (fun K' hK'=>?_)
       refine wp_load_row _ _ rfl _ e2 _ _ _ _ (keep_blk hA.below X6.out) Tryd.underlying37 rfl (by kernel_rfl) ?_
       exact hK' _ _ ⟨_,_,[],rfl,rfl,Below.refl _ _,Ri.up_same _ _ _,fun b hb=>by cases hb⟩
     · refine Ri.step_plain rfl rfl (fun K' hK'=>?_)
       go_simp
       refine (hsc w10).mono ?_
       rintro e w8 ⟨gx,rfl,hx,hb8⟩
       exact hK' _ _ ⟨_,_,[],rfl,rfl,hb8,⟨gx,Ri.up_same _ _ _,hx⟩,fun b hb=>by cases hb⟩
     · obtain ⟨j0,j1⟩:L 0=true∧L 1=true:=by have:=hd _ rfl;simp [Region.binds] at this;simp [this]
       have f0:=(hv 0 21 rfl j0).trans (hA.fact 0 j0)
       obtain ⟨gx,ex,hx⟩:=hA.fact 1 j1
       have f1:=(hv 1 22 rfl j1).trans ex
       refine Ri.step_plain rfl rfl (fun K' hK'=>?_)
       go_simp
       refine (HBS.out w10 (H56.out.trans (hA.below.mono H56.out.size)) gx hx).mono ?_
       rintro e w8 ⟨s8,rfl,hp8,hb8⟩
       have hz8:=hb8.size
       refine hK' _ _ ⟨_,_,List.range' w10.heap.size (w8.heap.size - w10.heap.size),rfl,rfl,hb8,⟨s8,Ri.up_same _ _ _, ?_⟩,fun b hb=>?_⟩
       · rw [Ri.up_same]
         exact hp8.mono fun b hlt hb=>by rw [List.mem_range'_1];omega
       · rw [List.mem_range'_1] at hb;omega
     · have j2:L 2=true:=by have:=hd _ rfl;simp [Region.binds] at this;simp [this]
       have f2:=hv 2 23 rfl j2
       refine Ri.step_plain rfl rfl (fun K' hK'=>?_)
       go_simp
       exact hK' _ _ ⟨_,_,[],rfl,rfl,Below.refl _ _,(Ri.up_same _ _ _).trans (Ri.up_other v 3 _ 2 (by decide)).symm,fun b hb=>by cases hb⟩
     · have j3:L 3=true:=by have:=hd _ rfl;simp [Region.binds] at this;simp [this]
       have j2:L 2=true:=hcl 3 2 j3 (by decide)
       obtain ⟨s8,es,-⟩:=hA.fact 2 j2
       have f3:=(hv 3 20 rfl j3).trans ((hA.fact 3 j3).trans es)
       refine Ri.step_plain rfl rfl (fun K' hK'=>?_)
       go_simp
       exact hK' _ _ ⟨_,_,[],rfl,rfl,Below.refl _ _,⟨s8,(Ri.up_other v 4 _ 2 (by decide)).trans es,Ri.up_same _ _ _⟩,fun b hb=>by cases hb⟩
     · have j3:L 3=true:=by have:=hd _ rfl;simp [Region.binds] at this;simp [this]
       have j2:L 2=true:=hcl 3 2 j3 (by decide)
       obtain ⟨s8,es,-⟩:=hA.fact 2 j2
       have f3:=(hv 3 20 rfl j3).trans ((hA.fact 3 j3).trans es)
       refine Ri.step_plain rfl rfl (fun K' hK'=>?_)
       go_simp
       exact hK' _ _ ⟨_,_,[],rfl,rfl,Below.refl _ _,Ri.up_same _ _ _,fun b hb=>by cases hb⟩
     · have j3:L 3=true:=by have:=hd _ rfl;simp [Region.binds] at this;simp [this]
       have j2:L 2=true:=hcl 3 2 j3 (by decide)
       obtain ⟨s8,es,-⟩:=hA.fact 2 j2
       have f3:=(hv 3 20 rfl j3).trans ((hA.fact 3 j3).trans es)
       refine Ri.step_plain rfl rfl (fun K' hK'=>?_)
       go_simp
       exact hK' _ _ ⟨_,_,[],rfl,rfl,Below.refl _ _,Ri.up_same _ _ _,fun b hb=>by cases hb⟩
     · refine Ri.step_plain rfl rfl (fun K' hK'=>?_)
       go_simp
       exact hK' _ _ ⟨_,_,[w10.heap.size],rfl,rfl,(Below.refl _ _).alloc (Nat.le_refl _) _,⟨w10.heap.size,Ri.up_same _ _ _,Ri.up_same _ _ _,heap_alloc_new _ _⟩,fun b hb=>by rw [List.mem_singleton] at hb;subst hb;simp⟩
   · intro i j hi hl L v B9 w10 xa hF hL hd hv ho
     have hi':i=5 ∨ i=6:=by unfold pvLate at hl;simpa using hl
     obtain ⟨s,g,e3,-⟩:=hF
     rcases hi' with rfl | rfl
     · have j3:L 3=true:=by have:=hd _ rfl;simp [Region.binds] at this;simp [this]
       have f3:=(hv 3 20 rfl j3).trans e3
       refine Ri.step_plain rfl rfl (fun K' hK'=>?_)
       go_simp
       exact hK' _ _ ⟨_,_,rfl,rfl,rfl,fun _=>rfl,fun e=>by omega⟩
     · have j3:L 3=true:=by have:=hd _ rfl;simp [Region.binds] at this;simp [this]
       have f3:=(hv 3 20 rfl j3).trans e3
       refine Ri.step_plain rfl rfl (fun K' hK'=>?_)
       go_simp
       exact hK' _ _ ⟨_,_,rfl,rfl,rfl,fun e=>by omega,fun _=>rfl⟩
   · intro v B9 w10 hb hk hwi hap
     obtain ⟨s,e2,hp⟩:=hk 2 (by omega) rfl
     obtain ⟨s',e2',e4⟩:=hk 4 (by omega) rfl
     obtain ⟨g,e7,b7,h7⟩:=hk 7 (by omega) rfl
     have e3:v 3=v 2:=hk 3 (by omega) rfl
     have hss:q.cells s'=q.cells s:=by
       have:=e2'.symm.trans e2
       simpa using this
     rw [hss] at e4
     exact ⟨s,g,e3.trans e2,e4,e7,hp.mono (fun b _ hb9 e=>hap 2 7 b (by omega) hb9 (by rw [b7,e];simp)),h7,hb,(hwi 7 g (by rw [b7];simp)).1,(fun h=>by omega),(fun h=>by omega)⟩
   · intro i hN hn L v B9 w10 xa hF hall hKf hd hv ho
     have hi':i=8 ∨ i=9 ∨ i=10:=by omega
     obtain ⟨s,g,e3,e4,e7,hp,hg,hb,hgw,h9,h10⟩:=hF
     obtain ⟨p9,c9,rfl,-⟩:=hp.slice
     rcases hi' with rfl | rfl | rfl
     · have f4:=(hv 4 24 rfl (hall 4 (by omega) rfl)).trans e4
       have f7:=(hv 7 5 rfl (hall 7 (by omega) rfl)).trans e7
       rw [if_neg (by omega)] at hg
       refine Ri.step_plain rfl rfl (fun K' hK'=>?_)
       refine wp_store_row _ _ _ rfl g (q.cells (.slice p9 q.subs.length c9)) f7 f4 57 _ hg (by kernel_rfl) (by kernel_rfl) (by simp [Pa.cells,Value.oneCell']) ?_
       refine hK' _ _ ⟨_,undef,rfl,rfl,_,g,e3,e4,e7,hp.keep (fun b _ hb9=>heap_setRow_other _ _ _ hb9), ?_,below_setRow hb hgw _,hgw,(fun h=>by omega),(fun h=>by omega)⟩
       rw [if_pos (by omega)];exact heap_setRow hg
     · have j5:L 5=true:=by have:=hd _ rfl;simp [Region.binds] at this;simp [this]
       have f5:=(hv 5 25 rfl j5).trans ((hKf 5 rfl j5).1 rfl)
       rw [if_pos (by omega)] at hg
       refine Ri.step_plain rfl rfl (fun K' hK'=>?_)
       go_simp
       exact hK' _ _ ⟨_,_,rfl,rfl,_,g,e3,e4,e7,hp,by rw [if_pos (by omega)];exact hg,hb,hgw,(fun _=>Ri.up_same _ _ _),(fun h=>by omega)⟩
     · have j6:L 6=true:=by have:=hd _ rfl;simp [Region.binds] at this;simp [this]
       have f6:=(hv 6 26 rfl j6).trans ((hKf 6 rfl j6).2 rfl)
       rw [if_pos (by omega)] at hg
       refine Ri.step_plain rfl rfl (fun K' hK'=>?_)
       go_simp
       exact hK' _ _ ⟨_,_,rfl,rfl,_,g,e3,e4,e7,hp,by rw [if_pos (by omega)];exact hg,hb,hgw,(fun _=>(Ri.up_other v 10 _ 9 (by decide)).trans (h9 (by omega))),(fun _=>Ri.up_same _ _ _)⟩
   rintro v B9 w10 hF -
   obtain ⟨s,g,e3,e4,e7,hp,hg,hb,hgw,h9,h10⟩:=hF
   rw [if_pos (by omega)] at hg
   have e9:=h9 (by omega);have e10:=h10 (by omega)
   have HB10:=Lib.hid (HB6.out.trans (hb.mono HB6.out.size))
   have XG:=Lib.hid hg
   rw [HQS.out] at hp
   obtain ⟨p9,c9,rfl,-⟩:=hp.slice
   obtain ⟨bq,oq,sq,rfl,-,t4,-⟩:=hp.get (i:=0) (t:=r1) rfl
   have d1:=t4.c1
   rw [HR1.out] at d1
   rw [show oq+0 * 4+1=oq+1 by omega] at d1
   have hl2:([r1,r2]:List Pa).length=2:=rfl
   rw [hl2] at XG
   unfold Pa.cells at XG
   clear hp hg hb hgw h9 h10 t4 e3 e4 hl2 HB6 HB5 X5 X6 H56 HBS HSC HQS HR1 hsc
   simp only [Ri.frame,List.zipIdx,List.foldl_cons,List.foldl_nil,if_true,List.setIfInBounds_toArray,List.set_cons_zero,List.set_cons_succ,Nat.reduceAdd,e7,e9,e10]
   generalize v 0=z0;generalize v 1=z1;generalize v 2=z2;generalize v 3=z3;generalize v 4=z4;generalize v 5=z5;generalize v 6=z6
   clear e7 e9 e10
   have c3:w10.cell? ⟨g,3,none⟩=some (.slice (some ⟨bq,oq,none⟩) 2 c9):=by simp [World.cell?,XG.out]
   go_wp2
   go_ret
   exact ⟨rfl,HB10.out⟩
end Go.Proofs.YtedjkbmfpjmlpaaDoor
namespace Go.Proofs.YtedjkbmfpjmlpaaDoor
open Go.RowKit
theorem new_at (w:World) (o:Obj) (g:Nat) (hg:w.heap.size=g):(w.alloc o).heap[g]? = some o:=by subst hg;exact heap_alloc_new w o
end Go.Proofs.YtedjkbmfpjmlpaaDoor
namespace Go.Proofs.YtedjkbmfpjmlpaaDoor
open Go.RowKit
def least (p:Nat→Bool):Int:=if Oc.nx p 0 < 256 then (Oc.nx p 0:Int) else -1
end Go.Proofs.YtedjkbmfpjmlpaaDoor
namespace Go.Proofs.YtedjkbmfpjmlpaaDoor
open Go.RowKit
theorem used_form (t:Tr) (s:Value) (hs:∃ p l c,s=.slice p l c) (hf:t.fieldsOk) (w:World):Calls Tryd.prog 123 #[.agg (t.cells s)] w fun e w'=>e=.returned (.agg (t.cells (.slice none 0 0)))∧Below w.heap.size w w':=by
 obtain ⟨p,l,c,rfl⟩:=hs
 cases t with | node k a b c d ts n lo hi br =>
 unfold Tr.fieldsOk at hf
 simp only [Tr.cells,Tr.kind,Tr.w0,Tr.w1,Tr.w2,Tr.w3,Tr.num,Tr.least,Tr.most,Tr.bare,Tr.subs] at *
 rcases hf with ⟨h | h | h,rfl,rfl,rfl,rfl,-,rfl,rfl,rfl,rfl⟩ | ⟨h,-,rfl,rfl,rfl,rfl⟩ | ⟨h | h,rfl,rfl,rfl,rfl,-,rfl,rfl,rfl,rfl⟩ | ⟨h,rfl,rfl,rfl,rfl,-,-,-,rfl,rfl,rfl⟩ | ⟨h,rfl,rfl,rfl,rfl,-,rfl,-,-,-,-⟩
 all_goals
   subst h
   have u0:Oc.U 0#64=0:=by decide
   try simp only [u0]
   clear u0
   go_enter Tryd.func123,Tryd.ntmps123
   go_wp2
   exact bodyPost_ret (results_cell_row rfl _ _ (w.heap.size+1) 37 _ (0,0) _ rfl (three_new _ _ _ _).2.1 Tryd.underlying37 rfl (by kernel_rfl)) rfl ⟨rfl,by go_grown⟩
theorem ten {w:World} {b:Nat} {x0 x1 x2 x3 x4 x5 x6 x7 x8 x9:Value} {t:TypeId} (h:w.heap[b]? = some (.cells #[x0,x1,x2,x3,x4,x5,x6,x7,x8,x9] t)):w.cell? ⟨b,0,none⟩=some x0∧w.cell? ⟨b,1,none⟩=some x1∧w.cell? ⟨b,2,none⟩=some x2∧w.cell? ⟨b,3,none⟩=some x3∧w.cell? ⟨b,4,none⟩=some x4∧w.cell? ⟨b,5,none⟩=some x5∧w.cell? ⟨b,6,none⟩=some x6∧w.cell? ⟨b,7,none⟩=some x7∧w.cell? ⟨b,8,none⟩=some x8∧w.cell? ⟨b,9,none⟩=some x9:=by
 simp [World.cell?,h]
theorem refform_yes:∀ t:Tr,t.InForm→∀ (w:World) (B:Nat→Prop) (v:Value),NodeV w B v t→Calls Tryd.prog 86 #[v] w fun e w'=>e=.returned (.bool true)∧Below w.heap.size w w':=by
 intro t
 induction t using Tr.rec_subs with
 | h t ih =>
   intro hf w B v hv
   obtain ⟨s,rfl,hs⟩:=hv
   obtain ⟨p,cap,rfl,hlen⟩:=hs.slice
   have he:=eq4
   have hfl:=hf.fields
   have HU:=Lib.hid (used_form t (.slice p t.subs.length cap) ⟨_,_,_,rfl⟩ hfl)
   have IH:=Lib.hid ih;have HF:=Lib.hid hf;have HS:=Lib.hid hs
   clear ih hf hs
   generalize hts:t.subs=ts at *
   have HTS:=Lib.hid hts
   cases t with | node k a b c d us n lo hi br =>
   unfold Tr.fieldsOk at hfl
   simp only [Tr.cells,Tr.kind,Tr.w0,Tr.w1,Tr.w2,Tr.w3,Tr.num,Tr.least,Tr.most,Tr.bare,Tr.subs] at *
   subst hts
   rcases hfl with ⟨h | h | h,rfl,rfl,rfl,rfl,hl,rfl,rfl,rfl,rfl⟩ | ⟨h,hl,rfl,rfl,rfl,rfl⟩ | ⟨h | h,rfl,rfl,rfl,rfl,hl,rfl,rfl,rfl,rfl⟩ | ⟨h,rfl,rfl,rfl,rfl,hl,hn1,hn2,rfl,rfl,rfl⟩ | ⟨h,rfl,rfl,rfl,rfl,hl,rfl,h1,h2,h3,h4⟩
   · subst h
     have g1:((us.length:Int) != 0)=false:=by rw [hl];rfl
     clear hl
     go_enter Tryd.func86,Tryd.ntmps86
     go_wp2_with fail
     refine (HU.out _).mono ?_
     rintro e w1 ⟨rfl,hb1⟩
     have Z1:=Lib.hid (keep_blk hb1 (heap_alloc_new w _))
     have HB1:=Lib.hid (((Below.refl _ _).alloc (Nat.le_refl _) _).trans (hb1.mono (by simp)))
     have hs1:w.heap.size < w1.heap.size:=by have:=hb1.size;simp at this;omega
     clear hb1
     have Z2:=fun o=>Lib.hid (heap_alloc_lt (o:=o) Z1.out)
     have f0:=fun o=>(ten (Z2 o).out).1
     have f1:=fun o=>(ten (Z2 o).out).2.1
     have f2:=fun o=>(ten (Z2 o).out).2.2.1
     have f3:=fun o=>(ten (Z2 o).out).2.2.2.1
     have f4:=fun o=>(ten (Z2 o).out).2.2.2.2.1
     have f5:=fun o=>(ten (Z2 o).out).2.2.2.2.2.1
     have f6:=fun o=>(ten (Z2 o).out).2.2.2.2.2.2.1
     have f7:=fun o=>(ten (Z2 o).out).2.2.2.2.2.2.2.1
     have f8:=fun o=>(ten (Z2 o).out).2.2.2.2.2.2.2.2.1
     have f9:=fun o=>(ten (Z2 o).out).2.2.2.2.2.2.2.2.2
     go_wp2
     go_loopw [5] (fun iv wr=>∃ m:Nat,iv=.int .i64 m∧m ≤ us.length∧Hid (Below w.heap.size w wr)∧w.heap.size < wr.heap.size∧Hid (wr.cell? ⟨w.heap.size,5,none⟩=some (.slice p us.length cap))) (fun iv _=>us.length - (intOf iv).toNat)
     case atStart=>exact ⟨0,rfl,Nat.zero_le _,Lib.hid (HB1.out.alloc HB1.out.size _),by simp;omega,Lib.hid (f5 _)⟩
     case round =>
       obtain ⟨m,rfl,hm,HB,hsz,Z0⟩:=hrel
       clear f0 f1 f2 f3 f4 f5 f6 f7 f8 f9
       have wm:IntKind.i64.wrap ((m:Int)+1)=(m:Int)+1:=IntWalk.i64_in _ (by omega)
       by_cases hlt:m < us.length
       · obtain ⟨x,hx⟩:∃ x,us[m]? = some x:=⟨_,List.getElem?_eq_getElem hlt⟩
         obtain ⟨b1,o1,s1,rfl,-,t1,sub1⟩:=HS.out.get hx
         obtain ⟨d0,d1,d2,d3,d4,d5,d6,d7,d8,d9⟩:=t1.keep (HB.out.block _ t1.lt)
         have hmem:=List.mem_of_getElem? hx
         have HC:=Lib.hid (IH.out x hmem (HF.out.sub hmem) wr B (.agg (x.cells s1)) ⟨_,rfl,sub1.later HB.out⟩)
         have z5:=Z0.out
         clear t1 sub1 hmem hx
         unfold Tr.cells at HC
         go_wp2_with fail
         refine HC.out.mono ?_
         rintro e w2 ⟨rfl,hb2⟩
         have HB2:=Lib.hid (HB.out.trans (hb2.mono HB.out.size));have Y2:=Lib.hid ((hb2.cell (p:=⟨w.heap.size,5,none⟩) hsz).trans z5)
         have hsz2:w.heap.size < w2.heap.size:=Nat.lt_of_lt_of_le hsz hb2.size
         clear d0 d1 d2 d3 d4 d5 d6 d7 d8 d9 z5 hb2 HC
         go_wp2
         exact ⟨⟨m+1,by go_num,by omega,HB2,hsz2,Y2⟩,by simp [intOf];omega⟩
       · obtain rfl:m=us.length:=by omega
         go_wp2
         go_ret
         exact ⟨rfl,HB.out⟩
   · subst h
     have g1:((us.length:Int) != 0)=false:=by rw [hl];rfl
     clear hl
     go_enter Tryd.func86,Tryd.ntmps86
     go_wp2_with fail
     refine (HU.out _).mono ?_
     rintro e w1 ⟨rfl,hb1⟩
     have Z1:=Lib.hid (keep_blk hb1 (heap_alloc_new w _))
     have HB1:=Lib.hid (((Below.refl _ _).alloc (Nat.le_refl _) _).trans (hb1.mono (by simp)))
     have hs1:w.heap.size < w1.heap.size:=by have:=hb1.size;simp at this;omega
     clear hb1
     have Z2:=fun o=>Lib.hid (heap_alloc_lt (o:=o) Z1.out)
     have f0:=fun o=>(ten (Z2 o).out).1
     have f1:=fun o=>(ten (Z2 o).out).2.1
     have f2:=fun o=>(ten (Z2 o).out).2.2.1
     have f3:=fun o=>(ten (Z2 o).out).2.2.2.1
     have f4:=fun o=>(ten (Z2 o).out).2.2.2.2.1
     have f5:=fun o=>(ten (Z2 o).out).2.2.2.2.2.1
     have f6:=fun o=>(ten (Z2 o).out).2.2.2.2.2.2.1
     have f7:=fun o=>(ten (Z2 o).out).2.2.2.2.2.2.2.1
     have f8:=fun o=>(ten (Z2 o).out).2.2.2.2.2.2.2.2.1
     have f9:=fun o=>(ten (Z2 o).out).2.2.2.2.2.2.2.2.2
     go_wp2
     go_loopw [5] (fun iv wr=>∃ m:Nat,iv=.int .i64 m∧m ≤ us.length∧Hid (Below w.heap.size w wr)∧w.heap.size < wr.heap.size∧Hid (wr.cell? ⟨w.heap.size,5,none⟩=some (.slice p us.length cap))) (fun iv _=>us.length - (intOf iv).toNat)
     case atStart=>exact ⟨0,rfl,Nat.zero_le _,Lib.hid (HB1.out.alloc HB1.out.size _),by simp;omega,Lib.hid (f5 _)⟩
     case round =>
       obtain ⟨m,rfl,hm,HB,hsz,Z0⟩:=hrel
       clear f0 f1 f2 f3 f4 f5 f6 f7 f8 f9
       have wm:IntKind.i64.wrap ((m:Int)+1)=(m:Int)+1:=IntWalk.i64_in _ (by omega)
       by_cases hlt:m < us.length
       · obtain ⟨x,hx⟩:∃ x,us[m]? = some x:=⟨_,List.getElem?_eq_getElem hlt⟩
         obtain ⟨b1,o1,s1,rfl,-,t1,sub1⟩:=HS.out.get hx
         obtain ⟨d0,d1,d2,d3,d4,d5,d6,d7,d8,d9⟩:=t1.keep (HB.out.block _ t1.lt)
         have hmem:=List.mem_of_getElem? hx
         have HC:=Lib.hid (IH.out x hmem (HF.out.sub hmem) wr B (.agg (x.cells s1)) ⟨_,rfl,sub1.later HB.out⟩)
         have z5:=Z0.out
         clear t1 sub1 hmem hx
         unfold Tr.cells at HC
         go_wp2_with fail
         refine HC.out.mono ?_
         rintro e w2 ⟨rfl,hb2⟩
         have HB2:=Lib.hid (HB.out.trans (hb2.mono HB.out.size));have Y2:=Lib.hid ((hb2.cell (p:=⟨w.heap.size,5,none⟩) hsz).trans z5)
         have hsz2:w.heap.size < w2.heap.size:=Nat.lt_of_lt_of_le hsz hb2.size
         clear d0 d1 d2 d3 d4 d5 d6 d7 d8 d9 z5 hb2 HC
         go_wp2
         exact ⟨⟨m+1,by go_num,by omega,HB2,hsz2,Y2⟩,by simp [intOf];omega⟩
       · obtain rfl:m=us.length:=by omega
         go_wp2
         go_ret
         exact ⟨rfl,HB.out⟩
   · subst h
     have g1:((us.length:Int) != 0)=false:=by rw [hl];rfl
     clear hl
     go_enter Tryd.func86,Tryd.ntmps86
     go_wp2_with fail
     refine (HU.out _).mono ?_
     rintro e w1 ⟨rfl,hb1⟩
     have Z1:=Lib.hid (keep_blk hb1 (heap_alloc_new w _))
     have HB1:=Lib.hid (((Below.refl _ _).alloc (Nat.le_refl _) _).trans (hb1.mono (by simp)))
     have hs1:w.heap.size < w1.heap.size:=by have:=hb1.size;simp at this;omega
     clear hb1
     have Z2:=fun o=>Lib.hid (heap_alloc_lt (o:=o) Z1.out)
     have f0:=fun o=>(ten (Z2 o).out).1
     have f1:=fun o=>(ten (Z2 o).out).2.1
     have f2:=fun o=>(ten (Z2 o).out).2.2.1
     have f3:=fun o=>(ten (Z2 o).out).2.2.2.1
     have f4:=fun o=>(ten (Z2 o).out).2.2.2.2.1
     have f5:=fun o=>(ten (Z2 o).out).2.2.2.2.2.1
     have f6:=fun o=>(ten (Z2 o).out).2.2.2.2.2.2.1
     have f7:=fun o=>(ten (Z2 o).out).2.2.2.2.2.2.2.1
     have f8:=fun o=>(ten (Z2 o).out).2.2.2.2.2.2.2.2.1
     have f9:=fun o=>(ten (Z2 o).out).2.2.2.2.2.2.2.2.2
     go_wp2
     go_loopw [5] (fun iv wr=>∃ m:Nat,iv=.int .i64 m∧m ≤ us.length∧Hid (Below w.heap.size w wr)∧w.heap.size < wr.heap.size∧Hid (wr.cell? ⟨w.heap.size,5,none⟩=some (.slice p us.length cap))) (fun iv _=>us.length - (intOf iv).toNat)
     case atStart=>exact ⟨0,rfl,Nat.zero_le _,Lib.hid (HB1.out.alloc HB1.out.size _),by simp;omega,Lib.hid (f5 _)⟩
     case round =>
       obtain ⟨m,rfl,hm,HB,hsz,Z0⟩:=hrel
       clear f0 f1 f2 f3 f4 f5 f6 f7 f8 f9
       have wm:IntKind.i64.wrap ((m:Int)+1)=(m:Int)+1:=IntWalk.i64_in _ (by omega)
       by_cases hlt:m < us.length
       · obtain ⟨x,hx⟩:∃ x,us[m]? = some x:=⟨_,List.getElem?_eq_getElem hlt⟩
         obtain ⟨b1,o1,s1,rfl,-,t1,sub1⟩:=HS.out.get hx
         obtain ⟨d0,d1,d2,d3,d4,d5,d6,d7,d8,d9⟩:=t1.keep (HB.out.block _ t1.lt)
         have hmem:=List.mem_of_getElem? hx
         have HC:=Lib.hid (IH.out x hmem (HF.out.sub hmem) wr B (.agg (x.cells s1)) ⟨_,rfl,sub1.later HB.out⟩)
         have z5:=Z0.out
         clear t1 sub1 hmem hx
         unfold Tr.cells at HC
         go_wp2_with fail
         refine HC.out.mono ?_
         rintro e w2 ⟨rfl,hb2⟩
         have HB2:=Lib.hid (HB.out.trans (hb2.mono HB.out.size));have Y2:=Lib.hid ((hb2.cell (p:=⟨w.heap.size,5,none⟩) hsz).trans z5)
         have hsz2:w.heap.size < w2.heap.size:=Nat.lt_of_lt_of_le hsz hb2.size
         clear d0 d1 d2 d3 d4 d5 d6 d7 d8 d9 z5 hb2 HC
         go_wp2
         exact ⟨⟨m+1,by go_num,by omega,HB2,hsz2,Y2⟩,by simp [intOf];omega⟩
       · obtain rfl:m=us.length:=by omega
         go_wp2
         go_ret
         exact ⟨rfl,HB.out⟩
   · subst h
     have g1:((us.length:Int) != 0)=false:=by rw [hl];rfl
     clear hl
     go_enter Tryd.func86,Tryd.ntmps86
     go_wp2_with fail
     refine (HU.out _).mono ?_
     rintro e w1 ⟨rfl,hb1⟩
     have Z1:=Lib.hid (keep_blk hb1 (heap_alloc_new w _))
     have HB1:=Lib.hid (((Below.refl _ _).alloc (Nat.le_refl _) _).trans (hb1.mono (by simp)))
     have hs1:w.heap.size < w1.heap.size:=by have:=hb1.size;simp at this;omega
     clear hb1
     have Z2:=fun o=>Lib.hid (heap_alloc_lt (o:=o) Z1.out)
     have f0:=fun o=>(ten (Z2 o).out).1
     have f1:=fun o=>(ten (Z2 o).out).2.1
     have f2:=fun o=>(ten (Z2 o).out).2.2.1
     have f3:=fun o=>(ten (Z2 o).out).2.2.2.1
     have f4:=fun o=>(ten (Z2 o).out).2.2.2.2.1
     have f5:=fun o=>(ten (Z2 o).out).2.2.2.2.2.1
     have f6:=fun o=>(ten (Z2 o).out).2.2.2.2.2.2.1
     have f7:=fun o=>(ten (Z2 o).out).2.2.2.2.2.2.2.1
     have f8:=fun o=>(ten (Z2 o).out).2.2.2.2.2.2.2.2.1
     have f9:=fun o=>(ten (Z2 o).out).2.2.2.2.2.2.2.2.2
     go_wp2
     go_loopw [5] (fun iv wr=>∃ m:Nat,iv=.int .i64 m∧m ≤ us.length∧Hid (Below w.heap.size w wr)∧w.heap.size < wr.heap.size∧Hid (wr.cell? ⟨w.heap.size,5,none⟩=some (.slice p us.length cap))) (fun iv _=>us.length - (intOf iv).toNat)
     case atStart=>exact ⟨0,rfl,Nat.zero_le _,Lib.hid (HB1.out.alloc HB1.out.size _),by simp;omega,Lib.hid (f5 _)⟩
     case round =>
       obtain ⟨m,rfl,hm,HB,hsz,Z0⟩:=hrel
       clear f0 f1 f2 f3 f4 f5 f6 f7 f8 f9
       have wm:IntKind.i64.wrap ((m:Int)+1)=(m:Int)+1:=IntWalk.i64_in _ (by omega)
       by_cases hlt:m < us.length
       · obtain ⟨x,hx⟩:∃ x,us[m]? = some x:=⟨_,List.getElem?_eq_getElem hlt⟩
         obtain ⟨b1,o1,s1,rfl,-,t1,sub1⟩:=HS.out.get hx
         obtain ⟨d0,d1,d2,d3,d4,d5,d6,d7,d8,d9⟩:=t1.keep (HB.out.block _ t1.lt)
         have hmem:=List.mem_of_getElem? hx
         have HC:=Lib.hid (IH.out x hmem (HF.out.sub hmem) wr B (.agg (x.cells s1)) ⟨_,rfl,sub1.later HB.out⟩)
         have z5:=Z0.out
         clear t1 sub1 hmem hx
         unfold Tr.cells at HC
         go_wp2_with fail
         refine HC.out.mono ?_
         rintro e w2 ⟨rfl,hb2⟩
         have HB2:=Lib.hid (HB.out.trans (hb2.mono HB.out.size));have Y2:=Lib.hid ((hb2.cell (p:=⟨w.heap.size,5,none⟩) hsz).trans z5)
         have hsz2:w.heap.size < w2.heap.size:=Nat.lt_of_lt_of_le hsz hb2.size
         clear d0 d1 d2 d3 d4 d5 d6 d7 d8 d9 z5 hb2 HC
         go_wp2
         exact ⟨⟨m+1,by go_num,by omega,HB2,hsz2,Y2⟩,by simp [intOf];omega⟩
       · obtain rfl:m=us.length:=by omega
         go_wp2
         go_ret
         exact ⟨rfl,HB.out⟩
   · subst h
     have g1:decide ((us.length:Int) < 2)=false:=by simp;omega
     have g2:decide (us.length < 2)=false:=by simp;omega
     clear hl
     go_enter Tryd.func86,Tryd.ntmps86
     go_wp2_with fail
     refine (HU.out _).mono ?_
     rintro e w1 ⟨rfl,hb1⟩
     have Z1:=Lib.hid (keep_blk hb1 (heap_alloc_new w _))
     have HB1:=Lib.hid (((Below.refl _ _).alloc (Nat.le_refl _) _).trans (hb1.mono (by simp)))
     have hs1:w.heap.size < w1.heap.size:=by have:=hb1.size;simp at this;omega
     clear hb1
     have Z2:=fun o=>Lib.hid (heap_alloc_lt (o:=o) Z1.out)
     have f0:=fun o=>(ten (Z2 o).out).1
     have f1:=fun o=>(ten (Z2 o).out).2.1
     have f2:=fun o=>(ten (Z2 o).out).2.2.1
     have f3:=fun o=>(ten (Z2 o).out).2.2.2.1
     have f4:=fun o=>(ten (Z2 o).out).2.2.2.2.1
     have f5:=fun o=>(ten (Z2 o).out).2.2.2.2.2.1
     have f6:=fun o=>(ten (Z2 o).out).2.2.2.2.2.2.1
     have f7:=fun o=>(ten (Z2 o).out).2.2.2.2.2.2.2.1
     have f8:=fun o=>(ten (Z2 o).out).2.2.2.2.2.2.2.2.1
     have f9:=fun o=>(ten (Z2 o).out).2.2.2.2.2.2.2.2.2
     go_wp2
     go_loopw [5] (fun iv wr=>∃ m:Nat,iv=.int .i64 m∧m ≤ us.length∧Hid (Below w.heap.size w wr)∧w.heap.size < wr.heap.size∧Hid (wr.cell? ⟨w.heap.size,5,none⟩=some (.slice p us.length cap))) (fun iv _=>us.length - (intOf iv).toNat)
     case atStart=>exact ⟨0,rfl,Nat.zero_le _,Lib.hid (HB1.out.alloc HB1.out.size _),by simp;omega,Lib.hid (f5 _)⟩
     case round =>
       obtain ⟨m,rfl,hm,HB,hsz,Z0⟩:=hrel
       clear f0 f1 f2 f3 f4 f5 f6 f7 f8 f9
       have wm:IntKind.i64.wrap ((m:Int)+1)=(m:Int)+1:=IntWalk.i64_in _ (by omega)
       by_cases hlt:m < us.length
       · obtain ⟨x,hx⟩:∃ x,us[m]? = some x:=⟨_,List.getElem?_eq_getElem hlt⟩
         obtain ⟨b1,o1,s1,rfl,-,t1,sub1⟩:=HS.out.get hx
         obtain ⟨d0,d1,d2,d3,d4,d5,d6,d7,d8,d9⟩:=t1.keep (HB.out.block _ t1.lt)
         have hmem:=List.mem_of_getElem? hx
         have HC:=Lib.hid (IH.out x hmem (HF.out.sub hmem) wr B (.agg (x.cells s1)) ⟨_,rfl,sub1.later HB.out⟩)
         have z5:=Z0.out
         clear t1 sub1 hmem hx
         unfold Tr.cells at HC
         go_wp2_with fail
         refine HC.out.mono ?_
         rintro e w2 ⟨rfl,hb2⟩
         have HB2:=Lib.hid (HB.out.trans (hb2.mono HB.out.size));have Y2:=Lib.hid ((hb2.cell (p:=⟨w.heap.size,5,none⟩) hsz).trans z5)
         have hsz2:w.heap.size < w2.heap.size:=Nat.lt_of_lt_of_le hsz hb2.size
         clear d0 d1 d2 d3 d4 d5 d6 d7 d8 d9 z5 hb2 HC
         go_wp2
         exact ⟨⟨m+1,by go_num,by omega,HB2,hsz2,Y2⟩,by simp [intOf];omega⟩
       · obtain rfl:m=us.length:=by omega
         go_wp2
         go_ret
         exact ⟨rfl,HB.out⟩
   · subst h
     have g1:decide ((us.length:Int) < 2)=false:=by simp;omega
     have g2:decide (us.length < 2)=false:=by simp;omega
     clear hl
     go_enter Tryd.func86,Tryd.ntmps86
     go_wp2_with fail
     refine (HU.out _).mono ?_
     rintro e w1 ⟨rfl,hb1⟩
     have Z1:=Lib.hid (keep_blk hb1 (heap_alloc_new w _))
     have HB1:=Lib.hid (((Below.refl _ _).alloc (Nat.le_refl _) _).trans (hb1.mono (by simp)))
     have hs1:w.heap.size < w1.heap.size:=by have:=hb1.size;simp at this;omega
     clear hb1
     have Z2:=fun o=>Lib.hid (heap_alloc_lt (o:=o) Z1.out)
     have f0:=fun o=>(ten (Z2 o).out).1
     have f1:=fun o=>(ten (Z2 o).out).2.1
     have f2:=fun o=>(ten (Z2 o).out).2.2.1
     have f3:=fun o=>(ten (Z2 o).out).2.2.2.1
     have f4:=fun o=>(ten (Z2 o).out).2.2.2.2.1
     have f5:=fun o=>(ten (Z2 o).out).2.2.2.2.2.1
     have f6:=fun o=>(ten (Z2 o).out).2.2.2.2.2.2.1
     have f7:=fun o=>(ten (Z2 o).out).2.2.2.2.2.2.2.1
     have f8:=fun o=>(ten (Z2 o).out).2.2.2.2.2.2.2.2.1
     have f9:=fun o=>(ten (Z2 o).out).2.2.2.2.2.2.2.2.2
     go_wp2
     go_loopw [5] (fun iv wr=>∃ m:Nat,iv=.int .i64 m∧m ≤ us.length∧Hid (Below w.heap.size w wr)∧w.heap.size < wr.heap.size∧Hid (wr.cell? ⟨w.heap.size,5,none⟩=some (.slice p us.length cap))) (fun iv _=>us.length - (intOf iv).toNat)
     case atStart=>exact ⟨0,rfl,Nat.zero_le _,Lib.hid (HB1.out.alloc HB1.out.size _),by simp;omega,Lib.hid (f5 _)⟩
     case round =>
       obtain ⟨m,rfl,hm,HB,hsz,Z0⟩:=hrel
       clear f0 f1 f2 f3 f4 f5 f6 f7 f8 f9
       have wm:IntKind.i64.wrap ((m:Int)+1)=(m:Int)+1:=IntWalk.i64_in _ (by omega)
       by_cases hlt:m < us.length
       · obtain ⟨x,hx⟩:∃ x,us[m]? = some x:=⟨_,List.getElem?_eq_getElem hlt⟩
         obtain ⟨b1,o1,s1,rfl,-,t1,sub1⟩:=HS.out.get hx
         obtain ⟨d0,d1,d2,d3,d4,d5,d6,d7,d8,d9⟩:=t1.keep (HB.out.block _ t1.lt)
         have hmem:=List.mem_of_getElem? hx
         have HC:=Lib.hid (IH.out x hmem (HF.out.sub hmem) wr B (.agg (x.cells s1)) ⟨_,rfl,sub1.later HB.out⟩)
         have z5:=Z0.out
         clear t1 sub1 hmem hx
         unfold Tr.cells at HC
         go_wp2_with fail
         refine HC.out.mono ?_
         rintro e w2 ⟨rfl,hb2⟩
         have HB2:=Lib.hid (HB.out.trans (hb2.mono HB.out.size));have Y2:=Lib.hid ((hb2.cell (p:=⟨w.heap.size,5,none⟩) hsz).trans z5)
         have hsz2:w.heap.size < w2.heap.size:=Nat.lt_of_lt_of_le hsz hb2.size
         clear d0 d1 d2 d3 d4 d5 d6 d7 d8 d9 z5 hb2 HC
         go_wp2
         exact ⟨⟨m+1,by go_num,by omega,HB2,hsz2,Y2⟩,by simp [intOf];omega⟩
       · obtain rfl:m=us.length:=by omega
         go_wp2
         go_ret
         exact ⟨rfl,HB.out⟩
   · subst h
     have g1:((us.length:Int) != 1)=false:=by rw [hl];rfl
     have g2:decide (n < 1)=false:=by simp;omega
     have g3:decide (999 < n)=false:=by simp;omega
     clear hl
     go_enter Tryd.func86,Tryd.ntmps86
     go_wp2_with fail
     refine (HU.out _).mono ?_
     rintro e w1 ⟨rfl,hb1⟩
     have Z1:=Lib.hid (keep_blk hb1 (heap_alloc_new w _))
     have HB1:=Lib.hid (((Below.refl _ _).alloc (Nat.le_refl _) _).trans (hb1.mono (by simp)))
     have hs1:w.heap.size < w1.heap.size:=by have:=hb1.size;simp at this;omega
     clear hb1
     have Z2:=fun o=>Lib.hid (heap_alloc_lt (o:=o) Z1.out)
     have f0:=fun o=>(ten (Z2 o).out).1
     have f1:=fun o=>(ten (Z2 o).out).2.1
     have f2:=fun o=>(ten (Z2 o).out).2.2.1
     have f3:=fun o=>(ten (Z2 o).out).2.2.2.1
     have f4:=fun o=>(ten (Z2 o).out).2.2.2.2.1
     have f5:=fun o=>(ten (Z2 o).out).2.2.2.2.2.1
     have f6:=fun o=>(ten (Z2 o).out).2.2.2.2.2.2.1
     have f7:=fun o=>(ten (Z2 o).out).2.2.2.2.2.2.2.1
     have f8:=fun o=>(ten (Z2 o).out).2.2.2.2.2.2.2.2.1
     have f9:=fun o=>(ten (Z2 o).out).2.2.2.2.2.2.2.2.2
     go_wp2
     go_loopw [5] (fun iv wr=>∃ m:Nat,iv=.int .i64 m∧m ≤ us.length∧Hid (Below w.heap.size w wr)∧w.heap.size < wr.heap.size∧Hid (wr.cell? ⟨w.heap.size,5,none⟩=some (.slice p us.length cap))) (fun iv _=>us.length - (intOf iv).toNat)
     case atStart=>exact ⟨0,rfl,Nat.zero_le _,Lib.hid (HB1.out.alloc HB1.out.size _),by simp;omega,Lib.hid (f5 _)⟩
     case round =>
       obtain ⟨m,rfl,hm,HB,hsz,Z0⟩:=hrel
       clear f0 f1 f2 f3 f4 f5 f6 f7 f8 f9
       have wm:IntKind.i64.wrap ((m:Int)+1)=(m:Int)+1:=IntWalk.i64_in _ (by omega)
       by_cases hlt:m < us.length
       · obtain ⟨x,hx⟩:∃ x,us[m]? = some x:=⟨_,List.getElem?_eq_getElem hlt⟩
         obtain ⟨b1,o1,s1,rfl,-,t1,sub1⟩:=HS.out.get hx
         obtain ⟨d0,d1,d2,d3,d4,d5,d6,d7,d8,d9⟩:=t1.keep (HB.out.block _ t1.lt)
         have hmem:=List.mem_of_getElem? hx
         have HC:=Lib.hid (IH.out x hmem (HF.out.sub hmem) wr B (.agg (x.cells s1)) ⟨_,rfl,sub1.later HB.out⟩)
         have z5:=Z0.out
         clear t1 sub1 hmem hx
         unfold Tr.cells at HC
         go_wp2_with fail
         refine HC.out.mono ?_
         rintro e w2 ⟨rfl,hb2⟩
         have HB2:=Lib.hid (HB.out.trans (hb2.mono HB.out.size));have Y2:=Lib.hid ((hb2.cell (p:=⟨w.heap.size,5,none⟩) hsz).trans z5)
         have hsz2:w.heap.size < w2.heap.size:=Nat.lt_of_lt_of_le hsz hb2.size
         clear d0 d1 d2 d3 d4 d5 d6 d7 d8 d9 z5 hb2 HC
         go_wp2
         exact ⟨⟨m+1,by go_num,by omega,HB2,hsz2,Y2⟩,by simp [intOf];omega⟩
       · obtain rfl:m=us.length:=by omega
         go_wp2
         go_ret
         exact ⟨rfl,HB.out⟩
   · have hspl:((-1:Int)=hi ∨ (decide ((0:Int) ≤ hi)=true∧decide (hi < lo)=false)):=by
       rcases h3 with h3 | h3
       · exact .inl h3.symm
       · exact .inr ⟨by simp;omega,by simp;omega⟩
     have hbr:br=false ∨ (br=true∧lo=0):=by cases br with | false=>exact .inl rfl | true=>exact .inr ⟨rfl,h4 rfl⟩
     have hhi:hi ≤ 255:=by rcases h3 with h3 | h3 <;> omega
     clear h3 h4
     rcases hspl with rfl | ⟨k1,k2⟩ <;> rcases hbr with rfl | ⟨rfl,rfl⟩
     · subst h
       have g1:((us.length:Int) != 1)=false:=by rw [hl];rfl
       have g2:decide (lo < 0)=false:=by simp;omega
       have g3:decide (255 < lo)=false:=by simp;omega
       clear hl
       go_enter Tryd.func86,Tryd.ntmps86
       go_wp2_with fail
       refine (HU.out _).mono ?_
       rintro e w1 ⟨rfl,hb1⟩
       have Z1:=Lib.hid (keep_blk hb1 (heap_alloc_new w _))
       have HB1:=Lib.hid (((Below.refl _ _).alloc (Nat.le_refl _) _).trans (hb1.mono (by simp)))
       have hs1:w.heap.size < w1.heap.size:=by have:=hb1.size;simp at this;omega
       clear hb1
       have Z2:=fun o=>Lib.hid (heap_alloc_lt (o:=o) Z1.out)
       have f0:=fun o=>(ten (Z2 o).out).1
       have f1:=fun o=>(ten (Z2 o).out).2.1
       have f2:=fun o=>(ten (Z2 o).out).2.2.1
       have f3:=fun o=>(ten (Z2 o).out).2.2.2.1
       have f4:=fun o=>(ten (Z2 o).out).2.2.2.2.1
       have f5:=fun o=>(ten (Z2 o).out).2.2.2.2.2.1
       have f6:=fun o=>(ten (Z2 o).out).2.2.2.2.2.2.1
       have f7:=fun o=>(ten (Z2 o).out).2.2.2.2.2.2.2.1
       have f8:=fun o=>(ten (Z2 o).out).2.2.2.2.2.2.2.2.1
       have f9:=fun o=>(ten (Z2 o).out).2.2.2.2.2.2.2.2.2
       go_wp2
       go_loopw [5] (fun iv wr=>∃ m:Nat,iv=.int .i64 m∧m ≤ us.length∧Hid (Below w.heap.size w wr)∧w.heap.size < wr.heap.size∧Hid (wr.cell? ⟨w.heap.size,5,none⟩=some (.slice p us.length cap))) (fun iv _=>us.length - (intOf iv).toNat)
       case atStart=>exact ⟨0,rfl,Nat.zero_le _,Lib.hid (HB1.out.alloc HB1.out.size _),by simp;omega,Lib.hid (f5 _)⟩
       case round =>
         obtain ⟨m,rfl,hm,HB,hsz,Z0⟩:=hrel
         clear f0 f1 f2 f3 f4 f5 f6 f7 f8 f9
         have wm:IntKind.i64.wrap ((m:Int)+1)=(m:Int)+1:=IntWalk.i64_in _ (by omega)
         by_cases hlt:m < us.length
         · obtain ⟨x,hx⟩:∃ x,us[m]? = some x:=⟨_,List.getElem?_eq_getElem hlt⟩
           obtain ⟨b1,o1,s1,rfl,-,t1,sub1⟩:=HS.out.get hx
           obtain ⟨d0,d1,d2,d3,d4,d5,d6,d7,d8,d9⟩:=t1.keep (HB.out.block _ t1.lt)
           have hmem:=List.mem_of_getElem? hx
           have HC:=Lib.hid (IH.out x hmem (HF.out.sub hmem) wr B (.agg (x.cells s1)) ⟨_,rfl,sub1.later HB.out⟩)
           have z5:=Z0.out
           clear t1 sub1 hmem hx
           unfold Tr.cells at HC
           go_wp2_with fail
           refine HC.out.mono ?_
           rintro e w2 ⟨rfl,hb2⟩
           have HB2:=Lib.hid (HB.out.trans (hb2.mono HB.out.size));have Y2:=Lib.hid ((hb2.cell (p:=⟨w.heap.size,5,none⟩) hsz).trans z5)
           have hsz2:w.heap.size < w2.heap.size:=Nat.lt_of_lt_of_le hsz hb2.size
           clear d0 d1 d2 d3 d4 d5 d6 d7 d8 d9 z5 hb2 HC
           go_wp2
           exact ⟨⟨m+1,by go_num,by omega,HB2,hsz2,Y2⟩,by simp [intOf];omega⟩
         · obtain rfl:m=us.length:=by omega
           go_wp2
           go_ret
           exact ⟨rfl,HB.out⟩
     · subst h
       have g1:((us.length:Int) != 1)=false:=by rw [hl];rfl
       clear hl
       go_enter Tryd.func86,Tryd.ntmps86
       go_wp2_with fail
       refine (HU.out _).mono ?_
       rintro e w1 ⟨rfl,hb1⟩
       have Z1:=Lib.hid (keep_blk hb1 (heap_alloc_new w _))
       have HB1:=Lib.hid (((Below.refl _ _).alloc (Nat.le_refl _) _).trans (hb1.mono (by simp)))
       have hs1:w.heap.size < w1.heap.size:=by have:=hb1.size;simp at this;omega
       clear hb1
       have Z2:=fun o=>Lib.hid (heap_alloc_lt (o:=o) Z1.out)
       have f0:=fun o=>(ten (Z2 o).out).1
       have f1:=fun o=>(ten (Z2 o).out).2.1
       have f2:=fun o=>(ten (Z2 o).out).2.2.1
       have f3:=fun o=>(ten (Z2 o).out).2.2.2.1
       have f4:=fun o=>(ten (Z2 o).out).2.2.2.2.1
       have f5:=fun o=>(ten (Z2 o).out).2.2.2.2.2.1
       have f6:=fun o=>(ten (Z2 o).out).2.2.2.2.2.2.1
       have f7:=fun o=>(ten (Z2 o).out).2.2.2.2.2.2.2.1
       have f8:=fun o=>(ten (Z2 o).out).2.2.2.2.2.2.2.2.1
       have f9:=fun o=>(ten (Z2 o).out).2.2.2.2.2.2.2.2.2
       go_wp2
       go_loopw [5] (fun iv wr=>∃ m:Nat,iv=.int .i64 m∧m ≤ us.length∧Hid (Below w.heap.size w wr)∧w.heap.size < wr.heap.size∧Hid (wr.cell? ⟨w.heap.size,5,none⟩=some (.slice p us.length cap))) (fun iv _=>us.length - (intOf iv).toNat)
       case atStart=>exact ⟨0,rfl,Nat.zero_le _,Lib.hid (HB1.out.alloc HB1.out.size _),by simp;omega,Lib.hid (f5 _)⟩
       case round =>
         obtain ⟨m,rfl,hm,HB,hsz,Z0⟩:=hrel
         clear f0 f1 f2 f3 f4 f5 f6 f7 f8 f9
         have wm:IntKind.i64.wrap ((m:Int)+1)=(m:Int)+1:=IntWalk.i64_in _ (by omega)
         by_cases hlt:m < us.length
         · obtain ⟨x,hx⟩:∃ x,us[m]? = some x:=⟨_,List.getElem?_eq_getElem hlt⟩
           obtain ⟨b1,o1,s1,rfl,-,t1,sub1⟩:=HS.out.get hx
           obtain ⟨d0,d1,d2,d3,d4,d5,d6,d7,d8,d9⟩:=t1.keep (HB.out.block _ t1.lt)
           have hmem:=List.mem_of_getElem? hx
           have HC:=Lib.hid (IH.out x hmem (HF.out.sub hmem) wr B (.agg (x.cells s1)) ⟨_,rfl,sub1.later HB.out⟩)
           have z5:=Z0.out
           clear t1 sub1 hmem hx
           unfold Tr.cells at HC
           go_wp2_with fail
           refine HC.out.mono ?_
           rintro e w2 ⟨rfl,hb2⟩
           have HB2:=Lib.hid (HB.out.trans (hb2.mono HB.out.size));have Y2:=Lib.hid ((hb2.cell (p:=⟨w.heap.size,5,none⟩) hsz).trans z5)
           have hsz2:w.heap.size < w2.heap.size:=Nat.lt_of_lt_of_le hsz hb2.size
           clear d0 d1 d2 d3 d4 d5 d6 d7 d8 d9 z5 hb2 HC
           go_wp2
           exact ⟨⟨m+1,by go_num,by omega,HB2,hsz2,Y2⟩,by simp [intOf];omega⟩
         · obtain rfl:m=us.length:=by omega
           go_wp2
           go_ret
           exact ⟨rfl,HB.out⟩
     · subst h
       have g1:((us.length:Int) != 1)=false:=by rw [hl];rfl
       have g2:decide (lo < 0)=false:=by simp;omega
       have g3:decide (255 < lo)=false:=by simp;omega
       have g4:decide (hi < -1)=false:=by simp only [decide_eq_true_eq] at k1;simp;omega
       have g5:decide (255 < hi)=false:=by simp;omega
       clear hl
       go_enter Tryd.func86,Tryd.ntmps86
       go_wp2_with fail
       refine (HU.out _).mono ?_
       rintro e w1 ⟨rfl,hb1⟩
       have Z1:=Lib.hid (keep_blk hb1 (heap_alloc_new w _))
       have HB1:=Lib.hid (((Below.refl _ _).alloc (Nat.le_refl _) _).trans (hb1.mono (by simp)))
       have hs1:w.heap.size < w1.heap.size:=by have:=hb1.size;simp at this;omega
       clear hb1
       have Z2:=fun o=>Lib.hid (heap_alloc_lt (o:=o) Z1.out)
       have f0:=fun o=>(ten (Z2 o).out).1
       have f1:=fun o=>(ten (Z2 o).out).2.1
       have f2:=fun o=>(ten (Z2 o).out).2.2.1
       have f3:=fun o=>(ten (Z2 o).out).2.2.2.1
       have f4:=fun o=>(ten (Z2 o).out).2.2.2.2.1
       have f5:=fun o=>(ten (Z2 o).out).2.2.2.2.2.1
       have f6:=fun o=>(ten (Z2 o).out).2.2.2.2.2.2.1
       have f7:=fun o=>(ten (Z2 o).out).2.2.2.2.2.2.2.1
       have f8:=fun o=>(ten (Z2 o).out).2.2.2.2.2.2.2.2.1
       have f9:=fun o=>(ten (Z2 o).out).2.2.2.2.2.2.2.2.2
       go_wp2
       go_loopw [5] (fun iv wr=>∃ m:Nat,iv=.int .i64 m∧m ≤ us.length∧Hid (Below w.heap.size w wr)∧w.heap.size < wr.heap.size∧Hid (wr.cell? ⟨w.heap.size,5,none⟩=some (.slice p us.length cap))) (fun iv _=>us.length - (intOf iv).toNat)
       case atStart=>exact ⟨0,rfl,Nat.zero_le _,Lib.hid (HB1.out.alloc HB1.out.size _),by simp;omega,Lib.hid (f5 _)⟩
       case round =>
         obtain ⟨m,rfl,hm,HB,hsz,Z0⟩:=hrel
         clear f0 f1 f2 f3 f4 f5 f6 f7 f8 f9
         have wm:IntKind.i64.wrap ((m:Int)+1)=(m:Int)+1:=IntWalk.i64_in _ (by omega)
         by_cases hlt:m < us.length
         · obtain ⟨x,hx⟩:∃ x,us[m]? = some x:=⟨_,List.getElem?_eq_getElem hlt⟩
           obtain ⟨b1,o1,s1,rfl,-,t1,sub1⟩:=HS.out.get hx
           obtain ⟨d0,d1,d2,d3,d4,d5,d6,d7,d8,d9⟩:=t1.keep (HB.out.block _ t1.lt)
           have hmem:=List.mem_of_getElem? hx
           have HC:=Lib.hid (IH.out x hmem (HF.out.sub hmem) wr B (.agg (x.cells s1)) ⟨_,rfl,sub1.later HB.out⟩)
           have z5:=Z0.out
           clear t1 sub1 hmem hx
           unfold Tr.cells at HC
           go_wp2_with fail
           refine HC.out.mono ?_
           rintro e w2 ⟨rfl,hb2⟩
           have HB2:=Lib.hid (HB.out.trans (hb2.mono HB.out.size));have Y2:=Lib.hid ((hb2.cell (p:=⟨w.heap.size,5,none⟩) hsz).trans z5)
           have hsz2:w.heap.size < w2.heap.size:=Nat.lt_of_lt_of_le hsz hb2.size
           clear d0 d1 d2 d3 d4 d5 d6 d7 d8 d9 z5 hb2 HC
           go_wp2
           exact ⟨⟨m+1,by go_num,by omega,HB2,hsz2,Y2⟩,by simp [intOf];omega⟩
         · obtain rfl:m=us.length:=by omega
           go_wp2
           go_ret
           exact ⟨rfl,HB.out⟩
     · subst h
       have g1:((us.length:Int) != 1)=false:=by rw [hl];rfl
       have g4:decide (hi < -1)=false:=by simp only [decide_eq_true_eq] at k1;simp;omega
       have g5:decide (255 < hi)=false:=by simp;omega
       clear hl
       go_enter Tryd.func86,Tryd.ntmps86
       go_wp2_with fail
       refine (HU.out _).mono ?_
       rintro e w1 ⟨rfl,hb1⟩
       have Z1:=Lib.hid (keep_blk hb1 (heap_alloc_new w _))
       have HB1:=Lib.hid (((Below.refl _ _).alloc (Nat.le_refl _) _).trans (hb1.mono (by simp)))
       have hs1:w.heap.size < w1.heap.size:=by have:=hb1.size;simp at this;omega
       clear hb1
       have Z2:=fun o=>Lib.hid (heap_alloc_lt (o:=o) Z1.out)
       have f0:=fun o=>(ten (Z2 o).out).1
       have f1:=fun o=>(ten (Z2 o).out).2.1
       have f2:=fun o=>(ten (Z2 o).out).2.2.1
       have f3:=fun o=>(ten (Z2 o).out).2.2.2.1
       have f4:=fun o=>(ten (Z2 o).out).2.2.2.2.1
       have f5:=fun o=>(ten (Z2 o).out).2.2.2.2.2.1
       have f6:=fun o=>(ten (Z2 o).out).2.2.2.2.2.2.1
       have f7:=fun o=>(ten (Z2 o).out).2.2.2.2.2.2.2.1
       have f8:=fun o=>(ten (Z2 o).out).2.2.2.2.2.2.2.2.1
       have f9:=fun o=>(ten (Z2 o).out).2.2.2.2.2.2.2.2.2
       go_wp2
       go_loopw [5] (fun iv wr=>∃ m:Nat,iv=.int .i64 m∧m ≤ us.length∧Hid (Below w.heap.size w wr)∧w.heap.size < wr.heap.size∧Hid (wr.cell? ⟨w.heap.size,5,none⟩=some (.slice p us.length cap))) (fun iv _=>us.length - (intOf iv).toNat)
       case atStart=>exact ⟨0,rfl,Nat.zero_le _,Lib.hid (HB1.out.alloc HB1.out.size _),by simp;omega,Lib.hid (f5 _)⟩
       case round =>
         obtain ⟨m,rfl,hm,HB,hsz,Z0⟩:=hrel
         clear f0 f1 f2 f3 f4 f5 f6 f7 f8 f9
         have wm:IntKind.i64.wrap ((m:Int)+1)=(m:Int)+1:=IntWalk.i64_in _ (by omega)
         by_cases hlt:m < us.length
         · obtain ⟨x,hx⟩:∃ x,us[m]? = some x:=⟨_,List.getElem?_eq_getElem hlt⟩
           obtain ⟨b1,o1,s1,rfl,-,t1,sub1⟩:=HS.out.get hx
           obtain ⟨d0,d1,d2,d3,d4,d5,d6,d7,d8,d9⟩:=t1.keep (HB.out.block _ t1.lt)
           have hmem:=List.mem_of_getElem? hx
           have HC:=Lib.hid (IH.out x hmem (HF.out.sub hmem) wr B (.agg (x.cells s1)) ⟨_,rfl,sub1.later HB.out⟩)
           have z5:=Z0.out
           clear t1 sub1 hmem hx
           unfold Tr.cells at HC
           go_wp2_with fail
           refine HC.out.mono ?_
           rintro e w2 ⟨rfl,hb2⟩
           have HB2:=Lib.hid (HB.out.trans (hb2.mono HB.out.size));have Y2:=Lib.hid ((hb2.cell (p:=⟨w.heap.size,5,none⟩) hsz).trans z5)
           have hsz2:w.heap.size < w2.heap.size:=Nat.lt_of_lt_of_le hsz hb2.size
           clear d0 d1 d2 d3 d4 d5 d6 d7 d8 d9 z5 hb2 HC
           go_wp2
           exact ⟨⟨m+1,by go_num,by omega,HB2,hsz2,Y2⟩,by simp [intOf];omega⟩
         · obtain rfl:m=us.length:=by omega
           go_wp2
           go_ret
           exact ⟨rfl,HB.out⟩
theorem refSize_any (t:Tr) (hf:t.InForm) (w:World) (B:Nat→Prop) (v:Value) (hv:NodeV w B v t):Calls Tryd.prog 48 #[v] w (SizeEnd t.szT w):=by
 obtain ⟨s,rfl,hs⟩:=hv
 have h1:=fun w' hb=>refform_yes t hf w' B (.agg (t.cells s)) ⟨s,rfl,TreesAt.later (w':=w') hs hb⟩
 have h2:=fun w' hb=>refsize_any t hf w' B (.agg (t.cells s)) ⟨s,rfl,TreesAt.later (w':=w') hs hb⟩
 have H1:=Lib.hid h1;have H2:=Lib.hid h2
 clear h1 h2 hs hf
 unfold Tr.cells at *
 go_enter Tryd.func48,Tryd.ntmps48
 go_wp2_with fail
 refine (H1.out _ ((Below.refl _ _).alloc (Nat.le_refl _) _)).mono ?_
 rintro e w1 ⟨rfl,hb1⟩
 have Z1:=Lib.hid (keep_blk hb1 (heap_alloc_new w _))
 have HB1:=Lib.hid (((Below.refl _ _).alloc (Nat.le_refl _) _).trans (hb1.mono (by simp)))
 clear hb1
 go_wp2_with (first
   | (refine wpList_load_row rfl 37 (.tmp 1) rfl w.heap.size rfl 37 _ (0,0) _ Z1.out Tryd.underlying37 rfl (by kernel_rfl) ?_)
   | fail)
 refine (H2.out _ HB1.out).mono ?_
 rintro e w2 ⟨rfl,hb2⟩
 have HB2:=Lib.hid (HB1.out.trans (hb2.mono HB1.out.size))
 clear hb2
 go_wp2
 go_ret
 exact ⟨rfl,HB2.out⟩
end Go.Proofs.YtedjkbmfpjmlpaaDoor
namespace Go.Proofs.YtedjkbmfpjmlpaaDoor
open Go.RowKit
namespace Tr
def usedT (t:Tr):Tr:=.node t.kind (if t.kind=2 then t.w0 else 0#64) (if t.kind=2 then t.w1 else 0#64) (if t.kind=2 then t.w2 else 0#64) (if t.kind=2 then t.w3 else 0#64) [] (if t.kind=7 then t.num else 0) (if t.kind=8 then t.least else 0) (if t.kind=8 then t.most else 0) (if t.kind=8 then t.bare else false)
end Tr
theorem refused_plain (k:Int) (a b c d:BitVec 64) (n lo hi:Int) (br:Bool) (p:Option Addr) (l cp:Nat) (w:World):Calls Tryd.prog 123 #[.agg #[.int .i64 k,.int .u64 (Oc.U a),.int .u64 (Oc.U b),.int .u64 (Oc.U c),.int .u64 (Oc.U d),.slice p l cp,.int .i64 n,.int .i64 lo,.int .i64 hi,.bool br]] w fun e w' =>
   e=.returned (.agg #[.int .i64 k,.int .u64 (Oc.U (if k=2 then a else 0#64)),.int .u64 (Oc.U (if k=2 then b else 0#64)),.int .u64 (Oc.U (if k=2 then c else 0#64)),.int .u64 (Oc.U (if k=2 then d else 0#64)),.slice none 0 0,.int .i64 (if k=7 then n else 0),.int .i64 (if k=8 then lo else 0),.int .i64 (if k=8 then hi else 0),.bool (if k=8 then br else false)])∧Below w.heap.size w w':=by
 have u0:Oc.U 0#64=0:=by decide
 by_cases h2:k=2
 · subst h2
   simp only [if_true,reduceIte,Int.reduceEq]
   clear u0
   go_enter Tryd.func123,Tryd.ntmps123
   go_wp2
   exact bodyPost_ret (results_cell_row rfl _ _ (w.heap.size+1) 37 _ (0,0) _ rfl (three_new _ _ _ _).2.1 Tryd.underlying37 rfl (by kernel_rfl)) rfl ⟨rfl,by go_grown⟩
 have e2:(k == 2)=false:=by simpa using h2
 simp only [if_neg h2,u0]
 clear u0 h2
 by_cases h7:k=7
 · subst h7
   simp only [if_true,reduceIte,Int.reduceEq]
   go_enter Tryd.func123,Tryd.ntmps123
   go_wp2
   exact bodyPost_ret (results_cell_row rfl _ _ (w.heap.size+1) 37 _ (0,0) _ rfl (three_new _ _ _ _).2.1 Tryd.underlying37 rfl (by kernel_rfl)) rfl ⟨rfl,by go_grown⟩
 have e7:(k == 7)=false:=by simpa using h7
 simp only [if_neg h7]
 clear h7
 by_cases h8:k=8
 · subst h8
   simp only [if_true]
   go_enter Tryd.func123,Tryd.ntmps123
   go_wp2
   exact bodyPost_ret (results_cell_row rfl _ _ (w.heap.size+1) 37 _ (0,0) _ rfl (three_new _ _ _ _).2.1 Tryd.underlying37 rfl (by kernel_rfl)) rfl ⟨rfl,by go_grown⟩
 have e8:(k == 8)=false:=by simpa using h8
 simp only [if_neg h8]
 clear h8
 go_enter Tryd.func123,Tryd.ntmps123
 go_wp2
 exact bodyPost_ret (results_cell_row rfl _ _ (w.heap.size+1) 37 _ (0,0) _ rfl (three_new _ _ _ _).2.1 Tryd.underlying37 rfl (by kernel_rfl)) rfl ⟨rfl,by go_grown⟩
theorem refused_any (t:Tr) (s:Value) (hs:∃ p l c,s=.slice p l c) (w:World):Calls Tryd.prog 123 #[.agg (t.cells s)] w fun e w'=>e=.returned (.agg (t.usedT.cells (.slice none 0 0)))∧Below w.heap.size w w':=by
 obtain ⟨p,l,c,rfl⟩:=hs
 exact refused_plain t.kind t.w0 t.w1 t.w2 t.w3 t.num t.least t.most t.bare p l c w
end Go.Proofs.YtedjkbmfpjmlpaaDoor
namespace Go.Proofs.YtedjkbmfpjmlpaaDoor
open Go.RowKit
namespace Tr
def misV (k:Int) (S:Bool) (n un lo ulo hi uhi:Int) (br ubr:Bool):Bool:=decide (k < 1) || decide (8 < k) || !S || (n != un) || (lo != ulo) || (hi != uhi) || (br != ubr)
def badV (k:Int) (len:Nat) (n lo hi:Int) (br:Bool):Bool :=
 if k=5 ∨ k=6 then decide (len < 2)
 else if k=7 then len != 1 || decide (n < 1) || decide (999 < n)
 else if k=8 then len != 1 || decide (lo < 0) || decide (255 < lo) || decide (hi < -1) || decide (255 < hi) || (decide (0 ≤ hi) && decide (hi < lo)) || (br && lo != 0)
 else len != 0
def sameW (a b c d a' b' c' d':BitVec 64):Bool:=Oc.U a == Oc.U a' && (Oc.U b == Oc.U b' && (Oc.U c == Oc.U c' && Oc.U d == Oc.U d'))
theorem sameW_iff {a b c d a' b' c' d':BitVec 64} : sameW a b c d a' b' c' d'=true ↔ a=a'∧b=b'∧c=c'∧d=d':=by
 unfold sameW
 rw [Bool.and_eq_true,Bool.and_eq_true,Bool.and_eq_true,beq_iff_eq,beq_iff_eq,beq_iff_eq,beq_iff_eq]
 exact ⟨fun h=>⟨Oc.U_inj h.1,Oc.U_inj h.2.1,Oc.U_inj h.2.2.1,Oc.U_inj h.2.2.2⟩,fun h=>by rw [h.1,h.2.1,h.2.2.1,h.2.2.2];exact ⟨rfl,rfl,rfl,rfl⟩⟩
def mism (t:Tr):Bool:=misV t.kind (sameW t.w0 t.w1 t.w2 t.w3 t.usedT.w0 t.usedT.w1 t.usedT.w2 t.usedT.w3) t.num t.usedT.num t.least t.usedT.least t.most t.usedT.most t.bare t.usedT.bare
def bad (t:Tr):Bool:=badV t.kind t.subs.length t.num t.least t.most t.bare
theorem mism_iff (t:Tr):t.mism=false ↔ (1 ≤ t.kind∧t.kind ≤ 8)∧(t.kind=2 ∨ (t.w0=0#64∧t.w1=0#64∧t.w2=0#64∧t.w3=0#64))∧(t.kind=7 ∨ t.num=0)∧(t.kind=8 ∨ (t.least=0∧t.most=0∧t.bare=false)):=by
 unfold mism misV usedT
 simp only [Bool.or_eq_false_iff,decide_eq_false_iff_not,Bool.not_eq_false',sameW_iff,bne_eq_false_iff_eq,Tr.w0,Tr.w1,Tr.w2,Tr.w3,Tr.num,Tr.least,Tr.most,Tr.bare]
 by_cases h2:t.kind=2
 · simp only [h2];simp [and_assoc]
 · by_cases h7:t.kind=7
   · simp only [h7];simp [and_assoc]
   · by_cases h8:t.kind=8
     · simp only [h8];simp [and_assoc]
     · simp only [h2,h7,h8];simp [and_assoc]
theorem fieldsB_ref (t:Tr):t.fieldsB=(!t.mism && !t.bad):=by
 rw [Bool.eq_iff_iff,fieldsB_iff,Bool.and_eq_true,Bool.not_eq_true',Bool.not_eq_true',mism_iff]
 unfold bad badV fieldsOk
 have hl:∀ m:Nat,(t.subs.length != m)=false ↔ t.subs.length=m:=fun m=>by simp
 constructor
 · rintro (⟨h | h | h,a,b,c,d,i,e,f,g,j⟩ | ⟨h,i,e,f,g,j⟩ | ⟨h | h,a,b,c,d,i,e,f,g,j⟩ | ⟨h,a,b,c,d,i,e1,e2,f,g,j⟩ | ⟨h,a,b,c,d,i,e,f1,f2,f3,f4⟩) <;> simp only [h] at * <;> simp_all <;> omega
 · rintro ⟨⟨⟨h1,h2⟩,h3,h4,h5⟩,h6⟩
   have hk:t.kind=1 ∨ t.kind=2 ∨ t.kind=3 ∨ t.kind=4 ∨ t.kind=5 ∨ t.kind=6 ∨ t.kind=7 ∨ t.kind=8:=by omega
   rcases hk with h | h | h | h | h | h | h | h <;> simp only [h] at * <;> simp_all <;> omega
end Tr
end Go.Proofs.YtedjkbmfpjmlpaaDoor
namespace Go.Proofs.YtedjkbmfpjmlpaaDoor
open Go.RowKit
theorem refform_step (k:Int) (a b c d:BitVec 64) (us:List Tr) (n lo hi:Int) (br:Bool) (p:Option Addr) (cap:Nat) (ua ub uc ud:BitVec 64) (un ulo uhi:Int) (ubr:Bool) (w:World) (B:Nat→Prop)
   (HU:Hid (∀ w,Calls Tryd.prog 123 #[.agg #[.int .i64 k,.int .u64 (Oc.U a),.int .u64 (Oc.U b),.int .u64 (Oc.U c),.int .u64 (Oc.U d),.slice p us.length cap,.int .i64 n,.int .i64 lo,.int .i64 hi,.bool br]] w fun e w'=>e=.returned (.agg #[.int .i64 k,.int .u64 (Oc.U ua),.int .u64 (Oc.U ub),.int .u64 (Oc.U uc),.int .u64 (Oc.U ud),.slice none 0 0,.int .i64 un,.int .i64 ulo,.int .i64 uhi,.bool ubr])∧Below w.heap.size w w'))
   (HS:Hid (TreesAt w B (.slice p us.length cap) us)) (hlen:us.length * 96 ≤ 140737488351232)
   (IH:Hid (∀ x,x ∈ us→∀ w B v,NodeV w B v x→Calls Tryd.prog 86 #[v] w fun e w'=>e=.returned (.bool x.formB)∧Below w.heap.size w w')) :
   Calls Tryd.prog 86 #[.agg #[.int .i64 k,.int .u64 (Oc.U a),.int .u64 (Oc.U b),.int .u64 (Oc.U c),.int .u64 (Oc.U d),.slice p us.length cap,.int .i64 n,.int .i64 lo,.int .i64 hi,.bool br]] w fun e w'=>e=.returned (.bool ((!Tr.misV k (Tr.sameW a b c d ua ub uc ud) n un lo ulo hi uhi br ubr && !Tr.badV k us.length n lo hi br) && Tr.formS us))∧Below w.heap.size w w':=by
 have he:=eq4
 obtain ⟨S,hS⟩:∃ S,Tr.sameW a b c d ua ub uc ud=S:=⟨_,rfl⟩
 obtain ⟨M,hM⟩:∃ M,Tr.misV k S n un lo ulo hi uhi br ubr=M:=⟨_,rfl⟩
 obtain ⟨Bd,hB⟩:∃ Bd,Tr.badV k us.length n lo hi br=Bd:=⟨_,rfl⟩
 obtain ⟨R,hR⟩:∃ R,((!M && !Bd) && Tr.formS us)=R:=⟨_,rfl⟩
 rw [hS,hM,hB,hR]
 have HR:=Lib.hid hR
 unfold Tr.sameW at hS
 unfold Tr.misV at hM
 unfold Tr.badV at hB
 have HM:=Lib.hid hM;have HBd:=Lib.hid hB;have HSm:=Lib.hid hS;have HLen:=Lib.hid hlen
 clear hM hB hR hS hlen
 go_enter Tryd.func86,Tryd.ntmps86
 go_wp2_with fail
 refine (HU.out _).mono ?_
 rintro e W0 ⟨rfl,hb1⟩
 have Z1:=Lib.hid (keep_blk hb1 (heap_alloc_new w _))
 have HB1:=Lib.hid (((Below.refl _ _).alloc (Nat.le_refl _) _).trans (hb1.mono (by simp)))
 have hs1:w.heap.size < W0.heap.size:=by have:=hb1.size;simp at this;omega
 clear hb1 HU
 go_upto_region 2 with (fail)
 have Z2:=Lib.hid (heap_alloc_lt (o:=.cells #[.int .i64 k,.int .u64 (Oc.U ua),.int .u64 (Oc.U ub),.int .u64 (Oc.U uc),.int .u64 (Oc.U ud),.slice none 0 0,.int .i64 un,.int .i64 ulo,.int .i64 uhi,.bool ubr] 37) Z1.out)
 have Y2:=Lib.hid (heap_alloc_new W0 (.cells #[.int .i64 k,.int .u64 (Oc.U ua),.int .u64 (Oc.U ub),.int .u64 (Oc.U uc),.int .u64 (Oc.U ud),.slice none 0 0,.int .i64 un,.int .i64 ulo,.int .i64 uhi,.bool ubr] 37))
 have HB2:=Lib.hid (HB1.out.alloc HB1.out.size (.cells #[.int .i64 k,.int .u64 (Oc.U ua),.int .u64 (Oc.U ub),.int .u64 (Oc.U uc),.int .u64 (Oc.U ud),.slice none 0 0,.int .i64 un,.int .i64 ulo,.int .i64 uhi,.bool ubr] 37))
 have hs2:w.heap.size < (W0.alloc (.cells #[.int .i64 k,.int .u64 (Oc.U ua),.int .u64 (Oc.U ub),.int .u64 (Oc.U uc),.int .u64 (Oc.U ud),.slice none 0 0,.int .i64 un,.int .i64 ulo,.int .i64 uhi,.bool ubr] 37)).heap.size:=by simp;omega
 clear Z1 HB1
 generalize W0.alloc (.cells #[.int .i64 k,.int .u64 (Oc.U ua),.int .u64 (Oc.U ub),.int .u64 (Oc.U uc),.int .u64 (Oc.U ud),.slice none 0 0,.int .i64 un,.int .i64 ulo,.int .i64 uhi,.bool ubr] 37)=W2 at *
 go_cut [51] (fun u wx=>u=.bool M∧W2=wx)
 case first =>
   have hM:=HM.out;have hS:=HSm.out
   obtain ⟨d0,d1,d2,d3,d4,d5,d6,d7,d8,d9⟩:=allTen Z2.out
   obtain ⟨u0,u1,u2,u3,u4,u5,u6,u7,u8,u9⟩:=allTen Y2.out
   clear HM HBd HSm HR HS IH HB2 hs2
   rcases bool_or (decide (k < 1)) with q0 | q0
   · rw [q0] at hM
     subst hM
     go_wp2
     go_meet
     exact ⟨rfl,rfl⟩
   rcases bool_or (decide (8 < k)) with q1 | q1
   · rw [q0,q1] at hM
     subst hM
     go_wp2
     go_meet
     exact ⟨rfl,rfl⟩
   cases S with
   | false =>
     rw [q0,q1] at hM
     subst hM
     go_wp2
     go_meet
     exact ⟨rfl,rfl⟩
   | true =>
     rcases bool_or (n != un) with q3 | q3
     · rw [q0,q1,q3] at hM
       subst hM
       go_wp2
       go_meet
       exact ⟨rfl,rfl⟩
     rcases bool_or (lo != ulo) with q4 | q4
     · rw [q0,q1,q3,q4] at hM
       subst hM
       go_wp2
       go_meet
       exact ⟨rfl,rfl⟩
     rcases bool_or (hi != uhi) with q5 | q5
     · rw [q0,q1,q3,q4,q5] at hM
       subst hM
       go_wp2
       go_meet
       exact ⟨rfl,rfl⟩
     cases br <;> cases ubr <;> (
       rw [q0,q1,q3,q4,q5] at hM
       subst hM
       go_wp2
       go_meet
       exact ⟨rfl,rfl⟩)
 case rest =>
   obtain ⟨rfl,rfl⟩:=hcut
   clear HM HSm Y2
   cases M with
   | true =>
     have hr:=HR.out
     rw [Bool.not_true,Bool.false_and,Bool.false_and] at hr
     subst hr
     clear HR HBd HS IH
     go_wp2
     go_ret
     exact ⟨rfl,HB2.out⟩
   | false =>
     have hr:=HR.out
     rw [Bool.not_false,Bool.true_and] at hr
     have HR:=Lib.hid hr
     clear hr
     have hB:=HBd.out
     clear HBd
     have z5:=(allTen Z2.out).2.2.2.2.2.1
     obtain ⟨d0,d1,d2,d3,d4,d5,d6,d7,d8,d9⟩:=allTen Z2.out
     by_cases kk5:k=5
     · subst kk5
       rw [if_pos (by decide)] at hB
       have hl2:decide ((us.length:Int) < 2)=decide (us.length < 2):=by
         by_cases h:us.length < 2
         · rw [decide_eq_true h,decide_eq_true (by omega)]
         · rw [decide_eq_false h,decide_eq_false (by omega)]
       cases Bd with
       | true =>
         have hr:=HR.out
         rw [Bool.not_true,Bool.false_and] at hr
         subst hr
         rw [hB] at hl2
         go_wp2
         go_ret
         exact ⟨rfl,HB2.out⟩
       | false =>
         have hr:=HR.out
         rw [Bool.not_false,Bool.true_and] at hr
         have HR:=Lib.hid hr
         clear hr
         rw [hB] at hl2
         go_wp2
         clear d0 d1 d2 d3 d4 d5 d6 d7 d8 d9
         go_loopw [5] (fun iv wr=>∃ m:Nat,iv=.int .i64 m∧m ≤ us.length∧Hid (Tr.formS (us.take m)=true)∧Hid (Below w.heap.size w wr)∧w.heap.size < wr.heap.size∧Hid (wr.cell? ⟨w.heap.size,5,none⟩=some (.slice p us.length cap))) (fun iv _=>us.length - (intOf iv).toNat)
         case atStart=>exact ⟨0,rfl,Nat.zero_le _,Lib.hid rfl,HB2,hs2,Lib.hid z5⟩
         case round =>
           obtain ⟨m,rfl,hm,HT,HB,hsz,Z0⟩:=hrel
           clear z5
           have wm:IntKind.i64.wrap ((m:Int)+1)=(m:Int)+1:=IntWalk.i64_in _ (by have:=HLen.out;omega)
           by_cases hlt:m < us.length
           · obtain ⟨x,hx⟩:∃ x,us[m]? = some x:=⟨_,List.getElem?_eq_getElem hlt⟩
             obtain ⟨b1,o1,s1,rfl,-,t1,sub1⟩:=HS.out.get hx
             obtain ⟨d0,d1,d2,d3,d4,d5,d6,d7,d8,d9⟩:=t1.keep (HB.out.block _ t1.lt)
             have hmem:=List.mem_of_getElem? hx
             have HC:=Lib.hid (IH.out x hmem wr B (.agg (x.cells s1)) ⟨_,rfl,sub1.later HB.out⟩)
             have hst:=Tr.formS_take us m x hx
             rw [HT.out,Bool.true_and] at hst
             have HST:=Lib.hid hst
             have z5:=Z0.out
             clear t1 sub1 hmem hx hst
             unfold Tr.cells at HC
             go_wp2_with fail
             refine HC.out.mono ?_
             rintro e w2 ⟨rfl,hb2⟩
             have HB2:=Lib.hid (HB.out.trans (hb2.mono HB.out.size));have Y2:=Lib.hid ((hb2.cell (p:=⟨w.heap.size,5,none⟩) hsz).trans z5)
             have hsz2:w.heap.size < w2.heap.size:=Nat.lt_of_lt_of_le hsz hb2.size
             clear d0 d1 d2 d3 d4 d5 d6 d7 d8 d9 z5 hb2 HC
             cases hxf:x.formB with
             | false =>
               rw [hxf] at HST
               have hr:=HR.out
               rw [Tr.formS_no HST.out] at hr
               subst hr
               clear hxf
               go_wp2
               go_ret
               exact ⟨rfl,HB2.out⟩
             | true =>
               rw [hxf] at HST
               clear hxf
               go_wp2
               exact ⟨⟨m+1,by go_num,by omega,HST,HB2,hsz2,Y2⟩,by simp [intOf];omega⟩
           · obtain rfl:m=us.length:=by omega
             rw [List.take_length] at *
             have hr:=HR.out
             rw [HT.out] at hr
             subst hr
             go_wp2
             go_ret
             exact ⟨rfl,HB.out⟩
     have n5:(k == 5)=false:=by simpa using kk5
     by_cases kk6:k=6
     · subst kk6
       rw [if_pos (by decide)] at hB
       have hl2:decide ((us.length:Int) < 2)=decide (us.length < 2):=by
         by_cases h:us.length < 2
         · rw [decide_eq_true h,decide_eq_true (by omega)]
         · rw [decide_eq_false h,decide_eq_false (by omega)]
       cases Bd with
       | true =>
         have hr:=HR.out
         rw [Bool.not_true,Bool.false_and] at hr
         subst hr
         rw [hB] at hl2
         go_wp2
         go_ret
         exact ⟨rfl,HB2.out⟩
       | false =>
         have hr:=HR.out
         rw [Bool.not_false,Bool.true_and] at hr
         have HR:=Lib.hid hr
         clear hr
         rw [hB] at hl2
         go_wp2
         clear d0 d1 d2 d3 d4 d5 d6 d7 d8 d9
         go_loopw [5] (fun iv wr=>∃ m:Nat,iv=.int .i64 m∧m ≤ us.length∧Hid (Tr.formS (us.take m)=true)∧Hid (Below w.heap.size w wr)∧w.heap.size < wr.heap.size∧Hid (wr.cell? ⟨w.heap.size,5,none⟩=some (.slice p us.length cap))) (fun iv _=>us.length - (intOf iv).toNat)
         case atStart=>exact ⟨0,rfl,Nat.zero_le _,Lib.hid rfl,HB2,hs2,Lib.hid z5⟩
         case round =>
           obtain ⟨m,rfl,hm,HT,HB,hsz,Z0⟩:=hrel
           clear z5
           have wm:IntKind.i64.wrap ((m:Int)+1)=(m:Int)+1:=IntWalk.i64_in _ (by have:=HLen.out;omega)
           by_cases hlt:m < us.length
           · obtain ⟨x,hx⟩:∃ x,us[m]? = some x:=⟨_,List.getElem?_eq_getElem hlt⟩
             obtain ⟨b1,o1,s1,rfl,-,t1,sub1⟩:=HS.out.get hx
             obtain ⟨d0,d1,d2,d3,d4,d5,d6,d7,d8,d9⟩:=t1.keep (HB.out.block _ t1.lt)
             have hmem:=List.mem_of_getElem? hx
             have HC:=Lib.hid (IH.out x hmem wr B (.agg (x.cells s1)) ⟨_,rfl,sub1.later HB.out⟩)
             have hst:=Tr.formS_take us m x hx
             rw [HT.out,Bool.true_and] at hst
             have HST:=Lib.hid hst
             have z5:=Z0.out
             clear t1 sub1 hmem hx hst
             unfold Tr.cells at HC
             go_wp2_with fail
             refine HC.out.mono ?_
             rintro e w2 ⟨rfl,hb2⟩
             have HB2:=Lib.hid (HB.out.trans (hb2.mono HB.out.size));have Y2:=Lib.hid ((hb2.cell (p:=⟨w.heap.size,5,none⟩) hsz).trans z5)
             have hsz2:w.heap.size < w2.heap.size:=Nat.lt_of_lt_of_le hsz hb2.size
             clear d0 d1 d2 d3 d4 d5 d6 d7 d8 d9 z5 hb2 HC
             cases hxf:x.formB with
             | false =>
               rw [hxf] at HST
               have hr:=HR.out
               rw [Tr.formS_no HST.out] at hr
               subst hr
               clear hxf
               go_wp2
               go_ret
               exact ⟨rfl,HB2.out⟩
             | true =>
               rw [hxf] at HST
               clear hxf
               go_wp2
               exact ⟨⟨m+1,by go_num,by omega,HST,HB2,hsz2,Y2⟩,by simp [intOf];omega⟩
           · obtain rfl:m=us.length:=by omega
             rw [List.take_length] at *
             have hr:=HR.out
             rw [HT.out] at hr
             subst hr
             go_wp2
             go_ret
             exact ⟨rfl,HB.out⟩
     have n6:(k == 6)=false:=by simpa using kk6
     by_cases kk7:k=7
     · subst kk7
       rw [if_neg (by decide),if_pos rfl] at hB
       have hl1:((us.length:Int) != 1)=(us.length != 1):=by
         by_cases h:us.length=1
         · rw [h];rfl
         · have e1:(us.length != 1)=true:=by simpa using h
           have e2:((us.length:Int) != 1)=true:=by rw [bne_iff_ne];omega
           rw [e1,e2]
       rcases bool_or (us.length != 1) with q0 | q0
       · rw [q0] at hB hl1
         simp only [Bool.true_or] at hB
         subst hB
         have hr:=HR.out
         rw [Bool.not_true,Bool.false_and] at hr
         subst hr
         go_wp2
         go_ret
         exact ⟨rfl,HB2.out⟩
       rw [q0] at hl1
       rcases bool_or (decide (n < 1)) with q1 | q1
       · rw [q0,q1] at hB
         simp only [Bool.true_or,Bool.or_true] at hB
         subst hB
         have hr:=HR.out
         rw [Bool.not_true,Bool.false_and] at hr
         subst hr
         go_wp2
         go_ret
         exact ⟨rfl,HB2.out⟩
       rcases bool_or (decide (999 < n)) with q2 | q2
       · rw [q0,q1,q2] at hB
         simp only [Bool.or_false,Bool.or_true] at hB
         subst hB
         have hr:=HR.out
         rw [Bool.not_true,Bool.false_and] at hr
         subst hr
         go_wp2
         go_ret
         exact ⟨rfl,HB2.out⟩
       rw [q0,q1,q2] at hB
       simp only [Bool.or_false] at hB
       subst hB
       have hr:=HR.out
       rw [Bool.not_false,Bool.true_and] at hr
       have HR:=Lib.hid hr
       clear hr
       go_wp2
       clear d0 d1 d2 d3 d4 d5 d6 d7 d8 d9
       go_loopw [5] (fun iv wr=>∃ m:Nat,iv=.int .i64 m∧m ≤ us.length∧Hid (Tr.formS (us.take m)=true)∧Hid (Below w.heap.size w wr)∧w.heap.size < wr.heap.size∧Hid (wr.cell? ⟨w.heap.size,5,none⟩=some (.slice p us.length cap))) (fun iv _=>us.length - (intOf iv).toNat)
       case atStart=>exact ⟨0,rfl,Nat.zero_le _,Lib.hid rfl,HB2,hs2,Lib.hid z5⟩
       case round =>
         obtain ⟨m,rfl,hm,HT,HB,hsz,Z0⟩:=hrel
         clear z5
         have wm:IntKind.i64.wrap ((m:Int)+1)=(m:Int)+1:=IntWalk.i64_in _ (by have:=HLen.out;omega)
         by_cases hlt:m < us.length
         · obtain ⟨x,hx⟩:∃ x,us[m]? = some x:=⟨_,List.getElem?_eq_getElem hlt⟩
           obtain ⟨b1,o1,s1,rfl,-,t1,sub1⟩:=HS.out.get hx
           obtain ⟨d0,d1,d2,d3,d4,d5,d6,d7,d8,d9⟩:=t1.keep (HB.out.block _ t1.lt)
           have hmem:=List.mem_of_getElem? hx
           have HC:=Lib.hid (IH.out x hmem wr B (.agg (x.cells s1)) ⟨_,rfl,sub1.later HB.out⟩)
           have hst:=Tr.formS_take us m x hx
           rw [HT.out,Bool.true_and] at hst
           have HST:=Lib.hid hst
           have z5:=Z0.out
           clear t1 sub1 hmem hx hst
           unfold Tr.cells at HC
           go_wp2_with fail
           refine HC.out.mono ?_
           rintro e w2 ⟨rfl,hb2⟩
           have HB2:=Lib.hid (HB.out.trans (hb2.mono HB.out.size));have Y2:=Lib.hid ((hb2.cell (p:=⟨w.heap.size,5,none⟩) hsz).trans z5)
           have hsz2:w.heap.size < w2.heap.size:=Nat.lt_of_lt_of_le hsz hb2.size
           clear d0 d1 d2 d3 d4 d5 d6 d7 d8 d9 z5 hb2 HC
           cases hxf:x.formB with
           | false =>
             rw [hxf] at HST
             have hr:=HR.out
             rw [Tr.formS_no HST.out] at hr
             subst hr
             clear hxf
             go_wp2
             go_ret
             exact ⟨rfl,HB2.out⟩
           | true =>
             rw [hxf] at HST
             clear hxf
             go_wp2
             exact ⟨⟨m+1,by go_num,by omega,HST,HB2,hsz2,Y2⟩,by simp [intOf];omega⟩
         · obtain rfl:m=us.length:=by omega
           rw [List.take_length] at *
           have hr:=HR.out
           rw [HT.out] at hr
           subst hr
           go_wp2
           go_ret
           exact ⟨rfl,HB.out⟩
     have n7:(k == 7)=false:=by simpa using kk7
     by_cases kk8:k=8
     · subst kk8
       rw [if_neg (by decide),if_neg (by decide),if_pos rfl] at hB
       have hl1:((us.length:Int) != 1)=(us.length != 1):=by
         by_cases h:us.length=1
         · rw [h];rfl
         · have e1:(us.length != 1)=true:=by simpa using h
           have e2:((us.length:Int) != 1)=true:=by rw [bne_iff_ne];omega
           rw [e1,e2]
       have HB:=Lib.hid hB
       clear hB
       go_upto_region 16 with (fail)
       go_cut [122] (fun u wx=>u=.bool Bd∧W2=wx)
       case first =>
         have hB:=HB.out
         clear HB HR HS IH HB2 hs2
         rcases bool_or (us.length != 1) with q0 | q0
         · rw [q0] at hB hl1
           subst hB
           go_wp2
           go_meet
           exact ⟨rfl,rfl⟩
         rw [q0] at hl1
         rcases bool_or (decide (lo < 0)) with q1 | q1
         · rw [q0,q1] at hB
           subst hB
           go_wp2
           go_meet
           exact ⟨rfl,rfl⟩
         rcases bool_or (decide (255 < lo)) with q2 | q2
         · rw [q0,q1,q2] at hB
           subst hB
           go_wp2
           go_meet
           exact ⟨rfl,rfl⟩
         rcases bool_or (decide (hi < -1)) with q3 | q3
         · rw [q0,q1,q2,q3] at hB
           subst hB
           go_wp2
           go_meet
           exact ⟨rfl,rfl⟩
         rcases bool_or (decide (255 < hi)) with q4 | q4
         · rw [q0,q1,q2,q3,q4] at hB
           subst hB
           go_wp2
           go_meet
           exact ⟨rfl,rfl⟩
         rcases bool_or (decide (0 ≤ hi)) with q5 | q5 <;> rcases bool_or (decide (hi < lo)) with q6 | q6 <;> rcases bool_or (lo != 0) with q7 | q7 <;> cases br <;> (
           rw [q0,q1,q2,q3,q4,q5,q6,q7] at hB
           subst hB
           go_wp2
           go_meet
           exact ⟨rfl,rfl⟩)
       case rest =>
         obtain ⟨rfl,rfl⟩:=hcut
         clear HB hl1
         cases Bd with
         | true =>
           have hr:=HR.out
           rw [Bool.not_true,Bool.false_and] at hr
           subst hr
           go_wp2
           go_ret
           exact ⟨rfl,HB2.out⟩
         | false =>
           have hr:=HR.out
           rw [Bool.not_false,Bool.true_and] at hr
           have HR:=Lib.hid hr
           clear hr
           go_wp2
           clear d0 d1 d2 d3 d4 d5 d6 d7 d8 d9
           go_loopw [5] (fun iv wr=>∃ m:Nat,iv=.int .i64 m∧m ≤ us.length∧Hid (Tr.formS (us.take m)=true)∧Hid (Below w.heap.size w wr)∧w.heap.size < wr.heap.size∧Hid (wr.cell? ⟨w.heap.size,5,none⟩=some (.slice p us.length cap))) (fun iv _=>us.length - (intOf iv).toNat)
           case atStart=>exact ⟨0,rfl,Nat.zero_le _,Lib.hid rfl,HB2,hs2,Lib.hid z5⟩
           case round =>
             obtain ⟨m,rfl,hm,HT,HB,hsz,Z0⟩:=hrel
             clear z5
             have wm:IntKind.i64.wrap ((m:Int)+1)=(m:Int)+1:=IntWalk.i64_in _ (by have:=HLen.out;omega)
             by_cases hlt:m < us.length
             · obtain ⟨x,hx⟩:∃ x,us[m]? = some x:=⟨_,List.getElem?_eq_getElem hlt⟩
               obtain ⟨b1,o1,s1,rfl,-,t1,sub1⟩:=HS.out.get hx
               obtain ⟨d0,d1,d2,d3,d4,d5,d6,d7,d8,d9⟩:=t1.keep (HB.out.block _ t1.lt)
               have hmem:=List.mem_of_getElem? hx
               have HC:=Lib.hid (IH.out x hmem wr B (.agg (x.cells s1)) ⟨_,rfl,sub1.later HB.out⟩)
               have hst:=Tr.formS_take us m x hx
               rw [HT.out,Bool.true_and] at hst
               have HST:=Lib.hid hst
               have z5:=Z0.out
               clear t1 sub1 hmem hx hst
               unfold Tr.cells at HC
               go_wp2_with fail
               refine HC.out.mono ?_
               rintro e w2 ⟨rfl,hb2⟩
               have HB2:=Lib.hid (HB.out.trans (hb2.mono HB.out.size));have Y2:=Lib.hid ((hb2.cell (p:=⟨w.heap.size,5,none⟩) hsz).trans z5)
               have hsz2:w.heap.size < w2.heap.size:=Nat.lt_of_lt_of_le hsz hb2.size
               clear d0 d1 d2 d3 d4 d5 d6 d7 d8 d9 z5 hb2 HC
               cases hxf:x.formB with
               | false =>
                 rw [hxf] at HST
                 have hr:=HR.out
                 rw [Tr.formS_no HST.out] at hr
                 subst hr
                 clear hxf
                 go_wp2
                 go_ret
                 exact ⟨rfl,HB2.out⟩
               | true =>
                 rw [hxf] at HST
                 clear hxf
                 go_wp2
                 exact ⟨⟨m+1,by go_num,by omega,HST,HB2,hsz2,Y2⟩,by simp [intOf];omega⟩
             · obtain rfl:m=us.length:=by omega
               rw [List.take_length] at *
               have hr:=HR.out
               rw [HT.out] at hr
               subst hr
               go_wp2
               go_ret
               exact ⟨rfl,HB.out⟩
     have n8:(k == 8)=false:=by simpa using kk8
     rw [if_neg (by omega),if_neg kk7,if_neg kk8] at hB
     have hl0:((us.length:Int) != 0)=(us.length != 0):=by
       by_cases h:us.length=0
       · rw [h];rfl
       · have e1:(us.length != 0)=true:=by simpa using h
         have e2:((us.length:Int) != 0)=true:=by rw [bne_iff_ne];omega
         rw [e1,e2]
     cases Bd with
     | true =>
       have hr:=HR.out
       rw [Bool.not_true,Bool.false_and] at hr
       subst hr
       rw [hB] at hl0
       clear kk5 kk6 kk7 kk8
       go_wp2
       go_ret
       exact ⟨rfl,HB2.out⟩
     | false =>
       have hr:=HR.out
       rw [Bool.not_false,Bool.true_and] at hr
       have HR:=Lib.hid hr
       clear hr
       rw [hB] at hl0
       clear kk5 kk6 kk7 kk8
       go_wp2
       clear d0 d1 d2 d3 d4 d5 d6 d7 d8 d9
       go_loopw [5] (fun iv wr=>∃ m:Nat,iv=.int .i64 m∧m ≤ us.length∧Hid (Tr.formS (us.take m)=true)∧Hid (Below w.heap.size w wr)∧w.heap.size < wr.heap.size∧Hid (wr.cell? ⟨w.heap.size,5,none⟩=some (.slice p us.length cap))) (fun iv _=>us.length - (intOf iv).toNat)
       case atStart=>exact ⟨0,rfl,Nat.zero_le _,Lib.hid rfl,HB2,hs2,Lib.hid z5⟩
       case round =>
         obtain ⟨m,rfl,hm,HT,HB,hsz,Z0⟩:=hrel
         clear z5
         have wm:IntKind.i64.wrap ((m:Int)+1)=(m:Int)+1:=IntWalk.i64_in _ (by have:=HLen.out;omega)
         by_cases hlt:m < us.length
         · obtain ⟨x,hx⟩:∃ x,us[m]? = some x:=⟨_,List.getElem?_eq_getElem hlt⟩
           obtain ⟨b1,o1,s1,rfl,-,t1,sub1⟩:=HS.out.get hx
           obtain ⟨d0,d1,d2,d3,d4,d5,d6,d7,d8,d9⟩:=t1.keep (HB.out.block _ t1.lt)
           have hmem:=List.mem_of_getElem? hx
           have HC:=Lib.hid (IH.out x hmem wr B (.agg (x.cells s1)) ⟨_,rfl,sub1.later HB.out⟩)
           have hst:=Tr.formS_take us m x hx
           rw [HT.out,Bool.true_and] at hst
           have HST:=Lib.hid hst
           have z5:=Z0.out
           clear t1 sub1 hmem hx hst
           unfold Tr.cells at HC
           go_wp2_with fail
           refine HC.out.mono ?_
           rintro e w2 ⟨rfl,hb2⟩
           have HB2:=Lib.hid (HB.out.trans (hb2.mono HB.out.size));have Y2:=Lib.hid ((hb2.cell (p:=⟨w.heap.size,5,none⟩) hsz).trans z5)
           have hsz2:w.heap.size < w2.heap.size:=Nat.lt_of_lt_of_le hsz hb2.size
           clear d0 d1 d2 d3 d4 d5 d6 d7 d8 d9 z5 hb2 HC
           cases hxf:x.formB with
           | false =>
             rw [hxf] at HST
             have hr:=HR.out
             rw [Tr.formS_no HST.out] at hr
             subst hr
             clear hxf
             go_wp2
             go_ret
             exact ⟨rfl,HB2.out⟩
           | true =>
             rw [hxf] at HST
             clear hxf
             go_wp2
             exact ⟨⟨m+1,by go_num,by omega,HST,HB2,hsz2,Y2⟩,by simp [intOf];omega⟩
         · obtain rfl:m=us.length:=by omega
           rw [List.take_length] at *
           have hr:=HR.out
           rw [HT.out] at hr
           subst hr
           go_wp2
           go_ret
           exact ⟨rfl,HB.out⟩
theorem refform_any:∀ t:Tr,∀ (w:World) (B:Nat→Prop) (v:Value),NodeV w B v t→Calls Tryd.prog 86 #[v] w fun e w'=>e=.returned (.bool t.formB)∧Below w.heap.size w w':=by
 intro t
 induction t using Tr.rec_subs with
 | h t ih =>
   intro w B v hv
   obtain ⟨s,rfl,hs⟩:=hv
   obtain ⟨p,cap,rfl,hlen⟩:=hs.slice
   have h:=refform_step t.kind t.w0 t.w1 t.w2 t.w3 t.subs t.num t.least t.most t.bare p cap t.usedT.w0 t.usedT.w1 t.usedT.w2 t.usedT.w3 t.usedT.num t.usedT.least t.usedT.most t.usedT.bare w B (Lib.hid (fun w=>refused_any t _ ⟨p,t.subs.length,cap,rfl⟩ w)) (Lib.hid hs) hlen (Lib.hid (fun x hx w B v hv=>ih x hx w B v hv))
   rw [Tr.formB_eq,Tr.fieldsB_ref]
   exact h
end Go.Proofs.YtedjkbmfpjmlpaaDoor
namespace Go.Proofs.YtedjkbmfpjmlpaaDoor
open Go.RowKit
theorem Tr.dpT_ref (t:Tr):t.dpT=Tr.dpS t.subs+(if (((t.kind == 8) && decide (0 < t.subs.length)) && !((t.least == 0) && ((t.most == 1) || (t.most == -1))))=true then 2 else 1):=by
 rw [Tr.dpT_eq]
 by_cases h0:t.subs.length=0
 · have e:t.subs=[]:=List.length_eq_zero_iff.1 h0
   rw [if_pos h0,e]
   simp [Tr.dpS]
 · rw [if_neg h0]
   have e:decide (0 < t.subs.length)=true:=by rw [decide_eq_true_eq];omega
   rw [e]
   congr 1
   have:(t.kind=8∧¬ (t.least=0∧(t.most=1 ∨ t.most = -1))) ↔ ((((t.kind == 8) && true) && !((t.least == 0) && ((t.most == 1) || (t.most == -1))))=true):=by by_cases a:t.least=0 <;> simp [a]
   by_cases h:t.kind=8∧¬ (t.least=0∧(t.most=1 ∨ t.most = -1))
   · rw [if_pos h,if_pos (this.1 h)]
   · rw [if_neg h,if_neg (fun h2=>h (this.2 h2))]
theorem refdepth_any:∀ t:Tr,t.dpT ≤ 1000000→∀ (w:World) (B:Nat→Prop) (v:Value),NodeV w B v t→Calls Tryd.prog 78 #[v] w (SizeEnd t.dpT w):=by
 intro t
 induction t using Tr.rec_subs with
 | h t ih =>
   intro hd w B v hv
   obtain ⟨s,rfl,hs⟩:=hv
   obtain ⟨p,cap,rfl,hlen⟩:=hs.slice
   have heq:=Tr.dpT_ref t
   rw [heq] at hd ⊢
   clear heq
   generalize hts:t.subs=ts at *
   have IH:=Lib.hid ih;have HS:=Lib.hid hs
   clear ih hs hts
   unfold Tr.cells at *
   have hle:Tr.dpS ts ≤ 1000000:=by omega
   generalize hD:Tr.dpS ts+(if (((t.kind == 8) && decide (0 < ts.length)) && !((t.least == 0) && ((t.most == 1) || (t.most == -1))))=true then 2 else 1)=D at *
   have HDE:=Lib.hid hD
   have Z0:=Lib.hid (heap_alloc_new w (.cells #[.int .i64 t.kind,.int .u64 (Oc.U t.w0),.int .u64 (Oc.U t.w1),.int .u64 (Oc.U t.w2),.int .u64 (Oc.U t.w3),.slice p ts.length cap,.int .i64 t.num,.int .i64 t.least,.int .i64 t.most,.bool t.bare] 37))
   have HW:=Lib.hid (show Below w.heap.size w (w.alloc (.cells #[.int .i64 t.kind,.int .u64 (Oc.U t.w0),.int .u64 (Oc.U t.w1),.int .u64 (Oc.U t.w2),.int .u64 (Oc.U t.w3),.slice p ts.length cap,.int .i64 t.num,.int .i64 t.least,.int .i64 t.most,.bool t.bare] 37)) from (Below.refl _ _).alloc (Nat.le_refl _) _)
   have hz:w.heap.size < (w.alloc (.cells #[.int .i64 t.kind,.int .u64 (Oc.U t.w0),.int .u64 (Oc.U t.w1),.int .u64 (Oc.U t.w2),.int .u64 (Oc.U t.w3),.slice p ts.length cap,.int .i64 t.num,.int .i64 t.least,.int .i64 t.most,.bool t.bare] 37)).heap.size:=by simp
   have HD:=Lib.hid hd
   clear hd hD
   go_enter Tryd.func78,Tryd.ntmps78
   go_wp2
   generalize w.alloc (.cells #[.int .i64 t.kind,.int .u64 (Oc.U t.w0),.int .u64 (Oc.U t.w1),.int .u64 (Oc.U t.w2),.int .u64 (Oc.U t.w3),.slice p ts.length cap,.int .i64 t.num,.int .i64 t.least,.int .i64 t.most,.bool t.bare] 37)=W0 at *
   go_loopw [3,4] (fun gv iv wr=>∃ m:Nat,iv=.int .i64 m∧m ≤ ts.length∧gv=.int .i64 (Tr.dpS (ts.take m):Nat)∧Hid (Below W0.heap.size W0 wr)) (fun _ iv _=>ts.length - (intOf iv).toNat)
   case atStart=>exact ⟨0,rfl,Nat.zero_le _,rfl,Lib.hid (Below.refl _ _)⟩
   case round =>
     obtain ⟨m,rfl,hm,rfl,HB⟩:=hrel
     have wm:IntKind.i64.wrap ((m:Int)+1)=(m:Int)+1:=IntWalk.i64_in _ (by omega)
     have HBW:=Lib.hid (HW.out.trans (HB.out.mono HW.out.size))
     have Z1:=Lib.hid (keep_blk (HB.out.mono (Nat.le_refl _)) Z0.out)
     have z5:=(allTen Z1.out).2.2.2.2.2.1
     by_cases hlt:m < ts.length
     · obtain ⟨x,hx⟩:∃ x,ts[m]? = some x:=⟨_,List.getElem?_eq_getElem hlt⟩
       obtain ⟨b1,o1,s1,rfl,-,t1,sub1⟩:=HS.out.get hx
       obtain ⟨d0,d1,d2,d3,d4,d5,d6,d7,d8,d9⟩:=t1.keep (HBW.out.block _ t1.lt)
       have hmem:=List.mem_of_getElem? hx
       obtain ⟨p1,c1,rfl,hl1⟩:=sub1.slice
       have hdx:x.dpT ≤ 1000000:=by have:=Tr.dpT_le_dpS hmem;omega
       have HC:=Lib.hid (fun w9 hb=>IH.out x hmem hdx w9 B (.agg (x.cells (.slice p1 x.subs.length c1))) ⟨_,rfl,sub1.later hb⟩)
       have HSTP:=Lib.hid (Tr.dpS_take ts m x hx)
       clear t1 sub1 hmem hx hdx
       generalize hn:Tr.dpS (ts.take m)=n at *
       clear hn
       unfold Tr.cells at HC
       go_wp2_with fail
       refine (HC.out wr HBW.out).mono ?_
       rintro e w2 ⟨rfl,hb2⟩
       have HB2:=Lib.hid (HB.out.trans (hb2.mono HB.out.size))
       clear d0 d1 d2 d3 d4 d5 d6 d7 d8 d9 z5 hb2 HC
       generalize x.dpT=N at *
       go_wp2
       all_goals
         exact ⟨⟨m+1,by go_num,by omega,by rw [HSTP.out];simp;try omega,HB2⟩,by simp [intOf];omega⟩
     · obtain rfl:m=ts.length:=by omega
       rw [List.take_length] at *
       have w2':IntKind.i64.wrap ((Tr.dpS ts:Int)+2)=(Tr.dpS ts:Int)+2:=IntWalk.i64_in _ (by omega)
       have w1':IntKind.i64.wrap ((Tr.dpS ts:Int)+1)=(Tr.dpS ts:Int)+1:=IntWalk.i64_in _ (by omega)
       have hde:=HDE.out
       clear z5
       obtain ⟨d0,d1,d2,d3,d4,d5,d6,d7,d8,d9⟩:=allTen Z1.out
       have hl:decide ((0:Int) < ts.length)=decide (0 < ts.length):=by
         by_cases h:0 < ts.length
         · rw [decide_eq_true h,decide_eq_true (by omega)]
         · rw [decide_eq_false h,decide_eq_false (by omega)]
       rcases bool_or (t.kind == 8) with q1 | q1 <;> rcases bool_or (decide (0 < ts.length)) with q2 | q2 <;> rcases bool_or (t.least == 0) with q3 | q3 <;> rcases bool_or (t.most == 1) with q4 | q4 <;> rcases bool_or (t.most == -1) with q5 | q5 <;> (
         rw [q1,q2,q3,q4,q5] at hde
         rw [q2] at hl
         simp only [Bool.and_true,Bool.and_false,Bool.or_true,Bool.or_false,Bool.not_true,Bool.not_false,if_true,if_false,Bool.false_eq_true] at hde
         have HDF:=Lib.hid hde
         clear hde
         go_wp2
         go_ret
         exact ⟨ret_int (by have:=HDF.out;omega),HBW.out⟩)
end Go.Proofs.YtedjkbmfpjmlpaaDoor
namespace Go.Proofs.YtedjkbmfpjmlpaaDoor
open Go.RowKit
theorem refSizeAll (t:Tr) (w:World) (B:Nat→Prop) (v:Value) (hv:NodeV w B v t):Calls Tryd.prog 48 #[v] w (SizeEnd (if t.formB=true then t.szT else 0) w):=by
 by_cases hf:t.formB=true
 · rw [if_pos hf]
   exact refSize_any t (t.formB_iff.1 hf) w B v hv
 · rw [if_neg hf]
   have hff:t.formB=false:=by simpa using hf
   obtain ⟨s,rfl,hs⟩:=hv
   have H1:=Lib.hid (fun w' (hb:Below w.heap.size w w')=>refform_any t w' B (.agg (t.cells s)) ⟨s,rfl,TreesAt.later (w':=w') hs hb⟩)
   rw [hff] at H1
   obtain ⟨p,cap,rfl,hlen⟩:=hs.slice
   have Z0:=Lib.hid (heap_alloc_new w (.cells (t.cells (.slice p t.subs.length cap)) 37))
   clear hs hf hff
   unfold Tr.cells at *
   go_enter Tryd.func48,Tryd.ntmps48
   go_wp2_with (first
     | (refine wpList_load_row rfl 37 (.tmp 1) rfl w.heap.size rfl 37 _ (0,0) _ Z0.out Tryd.underlying37 rfl (by kernel_rfl) ?_)
     | fail)
   refine (H1.out _ ((Below.refl _ _).alloc (Nat.le_refl _) _)).mono ?_
   rintro e w1 ⟨rfl,hb1⟩
   have HB1:=Lib.hid (((Below.refl _ _).alloc (Nat.le_refl _) _).trans (hb1.mono (by simp)))
   clear hb1 Z0
   go_wp2
   go_ret
   exact ⟨rfl,HB1.out⟩
end Go.Proofs.YtedjkbmfpjmlpaaDoor
namespace Go.Proofs.YtedjkbmfpjmlpaaDoor
namespace Tr
theorem dpS_nd:∀ {l:List Tr},(∀ t,t ∈ l→t.dpT ≤ 2 * t.ndT)→dpS l ≤ 2 * ndS l
 | [],_=>by simp [dpS]
 | t :: l,h=>by
   have h1:=h t List.mem_cons_self
   have h2:=dpS_nd (l:=l) fun u hu=>h u (List.mem_cons_of_mem _ hu)
   rw [dpS,ndS];omega
theorem dp_nd (t:Tr):t.dpT ≤ 2 * t.ndT:=by
 induction t using Tr.rec_subs with
 | h t ih =>
   have h:=dpS_nd ih
   rw [dpT_eq,ndT_eq]
   split
   · omega
   · split <;> omega
end Tr
end Go.Proofs.YtedjkbmfpjmlpaaDoor
namespace Go.Proofs.YtedjkbmfpjmlpaaDoor
open Go.RowKit
def LongEnd (t:Tr) (w:World) (e:Ending) (w':World):Prop:=∃ q,e=.returned (.bool q)∧(q=false→t.ndT ≤ 2500)∧Below w.heap.size w w'
theorem pslong_any (s:ByteArray) (c e0:Int) (t:Tr) (w:World) (B:Nat→Prop) (v:Value) (hv:NodeV w B v t) :
   Calls Tryd.prog 38 #[v,.agg #[.string s,.int .i64 c,.int .i64 e0]] w (LongEnd t w):=by
 obtain ⟨sv,rfl,hsv⟩:=hv
 obtain ⟨p,cap,rfl,hlen⟩:=hsv.slice
 have HFW:=Lib.hid (fun w9 (hb:Below w.heap.size w w9)=>few_any t 2500 (by omega) w9 B (.agg (t.cells (.slice p t.subs.length cap))) ⟨_,rfl,hsv.later hb⟩)
 have HSZ:=Lib.hid (fun w9 (hb:Below w.heap.size w w9)=>refSizeAll t w9 B (.agg (t.cells (.slice p t.subs.length cap))) ⟨_,rfl,hsv.later hb⟩)
 have HDP:=Lib.hid (fun (hd:t.dpT ≤ 1000000) w9 (hb:Below w.heap.size w w9)=>refdepth_any t hd w9 B (.agg (t.cells (.slice p t.subs.length cap))) ⟨_,rfl,hsv.later hb⟩)
 clear hsv
 generalize (if t.formB=true then t.szT else 0)=Z at *
 have hdp:=Tr.dp_nd t
 generalize t.dpT=D at *
 unfold Tr.cells at *
 go_enter Tryd.func38,Tryd.ntmps38
 have hb1:Below w.heap.size w ((w.alloc (.cells #[.int .i64 t.kind,.int .u64 (Oc.U t.w0),.int .u64 (Oc.U t.w1),.int .u64 (Oc.U t.w2),.int .u64 (Oc.U t.w3),.slice p t.subs.length cap,.int .i64 t.num,.int .i64 t.least,.int .i64 t.most,.bool t.bare] 37)).alloc (.cells #[.string s,.int .i64 c,.int .i64 e0] 39)):=by go_grown
 have Y0:=Lib.hid (show ((w.alloc (.cells #[.int .i64 t.kind,.int .u64 (Oc.U t.w0),.int .u64 (Oc.U t.w1),.int .u64 (Oc.U t.w2),.int .u64 (Oc.U t.w3),.slice p t.subs.length cap,.int .i64 t.num,.int .i64 t.least,.int .i64 t.most,.bool t.bare] 37)).alloc (.cells #[.string s,.int .i64 c,.int .i64 e0] 39)).heap[w.heap.size]? = some (.cells #[.int .i64 t.kind,.int .u64 (Oc.U t.w0),.int .u64 (Oc.U t.w1),.int .u64 (Oc.U t.w2),.int .u64 (Oc.U t.w3),.slice p t.subs.length cap,.int .i64 t.num,.int .i64 t.least,.int .i64 t.most,.bool t.bare] 37) from heap_alloc_lt (heap_alloc_new _ _))
 have Y1:=Lib.hid (show ((w.alloc (.cells #[.int .i64 t.kind,.int .u64 (Oc.U t.w0),.int .u64 (Oc.U t.w1),.int .u64 (Oc.U t.w2),.int .u64 (Oc.U t.w3),.slice p t.subs.length cap,.int .i64 t.num,.int .i64 t.least,.int .i64 t.most,.bool t.bare] 37)).alloc (.cells #[.string s,.int .i64 c,.int .i64 e0] 39)).heap[w.heap.size+1]? = some (.cells #[.string s,.int .i64 c,.int .i64 e0] 39) from new_at _ _ _ (by simp))
 have HB1:=Lib.hid hb1
 clear hb1
 go_upto_region 1 with (fail)
 generalize ((w.alloc (.cells #[.int .i64 t.kind,.int .u64 (Oc.U t.w0),.int .u64 (Oc.U t.w1),.int .u64 (Oc.U t.w2),.int .u64 (Oc.U t.w3),.slice p t.subs.length cap,.int .i64 t.num,.int .i64 t.least,.int .i64 t.most,.bool t.bare] 37)).alloc (.cells #[.string s,.int .i64 c,.int .i64 e0] 39))=W1 at *
 go_wp2_with (first
   | (refine wpList_load_row rfl 37 (.tmp 2) rfl w.heap.size rfl 37 _ (0,0) _ Y0.out Tryd.underlying37 rfl (by kernel_rfl) ?_)
   | fail)
 refine (HFW.out W1 HB1.out).mono ?_
 rintro e w2 ⟨rfl,hb2⟩
 have HB:=Lib.hid (HB1.out.trans (hb2.mono HB1.out.size));have Z0:=Lib.hid (keep_blk hb2 Y0.out);have Z1:=Lib.hid (keep_blk hb2 Y1.out)
 clear hb2 HB1 Y0 Y1 HFW
 by_cases hn:t.ndT ≤ 2500
 · have HN:=Lib.hid hn
   have HDQ:=Lib.hid (HDP.out (by omega))
   rw [decide_eq_true hn]
   clear hn hdp HDP
   go_wp2_with (first
     | (refine wpList_load_row rfl 37 (.tmp 2) rfl w.heap.size rfl 37 _ (0,0) _ Z0.out Tryd.underlying37 rfl (by kernel_rfl) ?_)
     | fail)
   refine (HSZ.out w2 HB.out).mono ?_
   rintro e w3 ⟨rfl,hb3⟩
   have HB3:=Lib.hid (HB.out.trans (hb3.mono HB.out.size));have Y0:=Lib.hid (keep_blk hb3 Z0.out);have Y1:=Lib.hid (keep_blk hb3 Z1.out)
   clear hb3 HB Z0 Z1 HSZ
   have c0:w3.cell? ⟨w.heap.size+1,0,none⟩=some (.string s):=by unfold World.cell?;rw [Y1.out];rfl
   obtain ⟨n0,n1,n2,n3,n4,n5,n6,n7,n8,n9⟩:=allTen Y0.out
   go_wp2_with fail
   all_goals first
     | (go_ret;exact ⟨_,rfl,fun _=>HN.out,HB3.out⟩)
     | (refine (HDQ.out w3 HB3.out).mono ?_
        rintro e w4 ⟨rfl,hb4⟩
        have HB4:=Lib.hid (HB3.out.trans (hb4.mono HB3.out.size))
        clear hb4 HB3 HDQ c0 n0 n1 n2 n3 n4 n5 n6 n7 n8 n9 Y0 Y1
        go_wp2
        all_goals
          go_ret
          exact ⟨_,rfl,fun _=>HN.out,HB4.out⟩)
 · rw [decide_eq_false hn]
   clear hn
   go_wp2
   go_ret
   exact ⟨true,rfl,fun h=>absurd h (by decide),HB.out⟩
end Go.Proofs.YtedjkbmfpjmlpaaDoor
namespace Go.Proofs.YtedjkbmfpjmlpaaDoor
open Go.RowKit
namespace Ps
theorem join_one (f:T) {i j:Nat} (h:i ≤ j):join f one i j=f i j:=by
 unfold join
 obtain ⟨d,rfl⟩:∃ d,j=i+d:=⟨j - i,by omega⟩
 rw [show i+d+1 - i=d+1 by omega,tot,tot_zero fun c hc=>by rw [one,if_neg (by omega),Nat.mul_zero],Nat.zero_add,one,if_pos rfl,Nat.mul_one]
theorem cut_next (F G:Nat→Nat) (m:Nat):min (sat (tot m fun c=>F c * G c)+sat (F m) * sat (G m)) 1000000=sat (tot (m+1) fun c=>F c * G c):=by
 rw [sat_mul,tot]
end Ps
namespace Tr
theorem wy_row (x:Sc) (a b:Tr) {i j:Nat} : wy x (several 5 [a,b]) i j=Ps.tot (j+1 - i) fun c=>wy x a i (i+c) * wy x b (i+c) j:=by
 rw [wy_eq,show (several 5 [a,b]).kind=5 from rfl]
 simp only [Int.reduceEq,if_false,if_true]
 show wySeq x [a,b] i j=_
 rw [wySeq,wySeq,wySeq]
 show Ps.tot _ _=_
 refine Ps.tot_congr fun c hc=>?_
 rw [Ps.join_one _ (by omega)]
theorem wy_or (x:Sc) (a b:Tr) (i j:Nat):wy x (several 6 [a,b]) i j=wy x a i j+wy x b i j:=by
 rw [wy_eq,show (several 6 [a,b]).kind=6 from rfl]
 simp only [Int.reduceEq,if_false,if_true]
 show wyAlt x [a,b] i j=_
 rw [wyAlt,wyAlt,wyAlt,Ps.alt_none];rfl
theorem wy_in (x:Sc) (n:Int) (a:Tr) (i j:Nat):wy x (grp n a) i j=wy x a i j:=by
 rw [wy_eq,show (grp n a).kind=7 from rfl]
 simp only [Int.reduceEq,if_false,if_true]
 show wyAlt x [a] i j=_
 rw [wyAlt,wyAlt,Ps.alt_none]
end Tr
end Go.Proofs.YtedjkbmfpjmlpaaDoor
namespace Go.Proofs.YtedjkbmfpjmlpaaDoor
open Go.RowKit
namespace Ps
theorem tot_pos {n:Nat} {f:Nat→Nat} (h:0 < tot n f):∃ i,i < n∧0 < f i:=by
 induction n with
 | zero=>cases h
 | succ n ih =>
   rw [tot] at h
   by_cases hn:0 < f n
   · exact ⟨n,by omega,hn⟩
   · obtain ⟨i,h1,h2⟩:=ih (by omega);exact ⟨i,by omega,h2⟩
theorem mul_pos_of {a b:Nat} (h:0 < a * b):0 < a∧0 < b:=by
 constructor
 · exact Nat.pos_of_ne_zero fun e=>by rw [e,Nat.zero_mul] at h;cases h
 · exact Nat.pos_of_ne_zero fun e=>by rw [e,Nat.mul_zero] at h;cases h
theorem join_pos {f g:T} {i j:Nat} (h:0 < join f g i j):∃ k,i ≤ k∧k ≤ j∧0 < f i k∧0 < g k j:=by
 obtain ⟨c,hc,hp⟩:=tot_pos h
 obtain ⟨h1,h2⟩:=mul_pos_of hp
 exact ⟨i+c,by omega,by omega,h1,h2⟩
theorem more_pos {f g:T} {i j:Nat} (h:0 < more f g i j):i=j ∨ ∃ k,i < k∧k ≤ j∧0 < f i k∧0 < g k j:=by
 unfold more at h
 by_cases e:i=j
 · exact .inl e
 · have:one i j=0:=if_neg e
   rw [this,Nat.zero_add] at h
   obtain ⟨c,hc,hp⟩:=tot_pos h
   obtain ⟨h1,h2⟩:=mul_pos_of hp
   exact .inr ⟨i+1+c,by omega,by omega,h1,h2⟩
def Pos (n:Nat) (f:T) (R:Nat→Nat→Prop):Prop:=∀ i j,i ≤ j→j ≤ n→0 < f i j→R i j
theorem pos_any {n:Nat} {f:T} {R:Nat→Nat→Prop} (hf:Pos n f R):∀ d i j,j - i ≤ d→i ≤ j→j ≤ n→0 < any f i j→∃ k,Tk.pow R k i j
 | d,i,j,hd,hij,hjn,h=>by
   rw [any_eq] at h
   rcases more_pos h with e | ⟨k,h1,h2,h3,h4⟩
   · exact ⟨0,e⟩
   · match d,hd with
     | 0,hd=>omega
     | d+1,hd =>
       obtain ⟨q,hq⟩:=pos_any hf d k j (by omega) h2 hjn h4
       exact ⟨q+1,k,hf i k (by omega) (by omega) h3,hq⟩
theorem pos_restN {n:Nat} {f b:T} {R:Nat→Nat→Prop} (hf:Pos n f R) (least:Nat) (hb:∀ i j,i ≤ j→j ≤ n→0 < b i j→∃ k,Tk.pow R k i j) (one? : Bool) (hb1:one? = true→b=one) :
   ∀ m d,least ≤ d+m→∀ i j,i ≤ j→j ≤ n→0 < restN f least b m d i j→∃ k,least ≤ d+k∧(one? = true→k ≤ m)∧Tk.pow R k i j
 | 0,d,hd,i,j,hij,hjn,h=>by
   rw [restN] at h
   cases ho:one? with
   | true =>
     rw [hb1 ho] at h
     have e:i=j:=by
       by_cases e:i=j
       · exact e
       · rw [one,if_neg e] at h;cases h
     exact ⟨0,by omega,fun _=>Nat.le_refl _,e⟩
   | false =>
     obtain ⟨k,hk⟩:=hb i j hij hjn h
     exact ⟨k,by omega,fun h=>(by cases h),hk⟩
 | m+1,d,hd,i,j,hij,hjn,h=>by
   rw [restN] at h
   split at h
   · obtain ⟨c,h1,h2,h3,h4⟩:=join_pos h
     obtain ⟨k,k1,k2,k3⟩:=pos_restN hf least hb one? hb1 m (d+1) (by omega) c j h2 hjn h4
     exact ⟨k+1,by omega,fun ho=>by have:=k2 ho;omega,c,hf i c h1 (by omega) h3,k3⟩
   · rename_i hdl
     rcases more_pos h with e | ⟨c,h1,h2,h3,h4⟩
     · exact ⟨0,by omega,fun _=>Nat.zero_le _,e⟩
     · obtain ⟨k,k1,k2,k3⟩:=pos_restN hf least hb one? hb1 m (d+1) (by omega) c j h2 hjn h4
       exact ⟨k+1,by omega,fun ho=>by have:=k2 ho;omega,c,hf i c (by omega) (by omega) h3,k3⟩
theorem pos_rep {n:Nat} {f:T} {R:Nat→Nat→Prop} (hf:Pos n f R) {lo hi:Int} (h0:0 ≤ lo) (h1:hi = -1 ∨ lo ≤ hi):Pos n (rep f lo hi 0) (Tk.rounds R lo hi):=by
 intro i j hij hjn h
 unfold rep lastN at h
 by_cases he:hi = -1
 · rw [if_pos he,if_pos he] at h
   obtain ⟨k,k1,-,k3⟩:=pos_restN hf lo.toNat (fun i j a b c=>pos_any hf _ i j (Nat.le_refl _) a b c) false (fun h=>by cases h) _ 0 (by omega) i j hij hjn h
   exact ⟨k,by omega,.inl he,k3⟩
 · rw [if_neg he,if_neg he] at h
   obtain ⟨k,k1,k2,k3⟩:=pos_restN hf lo.toNat (fun i j _ _ c=>⟨0,by
     by_cases e:i=j
     · exact e
     · rw [one,if_neg e] at c;cases c⟩) true (fun _=>rfl) _ 0 (by omega) i j hij hjn h
   exact ⟨k,by omega,.inr (by have:=k2 rfl;omega),k3⟩
theorem pos_emptyOf {f:T} {i j:Nat} (h:0 < emptyOf f i j):i=j:=by
 unfold emptyOf at h
 by_cases e:i=j
 · exact e
 · rw [if_neg e] at h;cases h
end Ps
theorem Tr.pos_wySeq (x:Sc):∀ l:List Tr,(∀ u,u ∈ l→Ps.Pos x.t.size (Tr.wy x u) (Tr.tk x u))→Ps.Pos x.t.size (Tr.wySeq x l) (Tr.tkSeq x l)
 | [],_,i,j,_,_,h=>by
   rw [Tr.wySeq] at h
   rw [Tr.tkSeq]
   by_cases e:i=j
   · exact e
   · rw [Ps.one,if_neg e] at h;cases h
 | t :: l,hl,i,j,hij,hjn,h=>by
   rw [Tr.wySeq] at h
   obtain ⟨k,h1,h2,h3,h4⟩:=Ps.join_pos h
   rw [Tr.tkSeq]
   exact ⟨k,hl t List.mem_cons_self i k h1 (by omega) h3,Tr.pos_wySeq x l (fun u hu=>hl u (List.mem_cons_of_mem _ hu)) k j h2 hjn h4⟩
theorem Tr.pos_wyAlt (x:Sc):∀ l:List Tr,(∀ u,u ∈ l→Ps.Pos x.t.size (Tr.wy x u) (Tr.tk x u))→Ps.Pos x.t.size (Tr.wyAlt x l) (Tr.tkAlt x l)
 | [],_,i,j,_,_,h=>by rw [Tr.wyAlt] at h;cases h
 | t :: l,hl,i,j,hij,hjn,h=>by
   rw [Tr.wyAlt] at h
   rw [Tr.tkAlt]
   unfold Ps.alt at h
   by_cases h1:0 < Tr.wy x t i j
   · exact .inl (hl t List.mem_cons_self i j hij hjn h1)
   · exact .inr (Tr.pos_wyAlt x l (fun u hu=>hl u (List.mem_cons_of_mem _ hu)) i j hij hjn (by omega))
theorem Tr.wy_pos (x:Sc):∀ t:Tr,t.InForm→Ps.Pos x.t.size (t.wy x) (t.tk x):=by
 intro t
 induction t using Tr.rec_subs with
 | h t ih =>
   intro hf i j hij hjn h
   have hih:∀ u,u ∈ t.subs→Ps.Pos x.t.size (Tr.wy x u) (Tr.tk x u):=fun u hu=>ih u hu (hf.sub hu)
   have one_eq:∀ {a b:Nat},0 < Ps.one a b→a=b:=fun {a b} h=>by
     by_cases e:a=b
     · exact e
     · rw [Ps.one,if_neg e] at h;cases h
   have at_eq:∀ {P:Nat→Bool} {a b:Nat},0 < Ps.oneAt P a b→a=b∧P a=true:=fun {P a b} h=>by
     unfold Ps.oneAt at h
     split at h
     · assumption
     · cases h
   rw [Tr.wy_eq] at h
   rcases hf.fields with ⟨hk,-⟩ | ⟨hk,-⟩ | ⟨hk,-⟩ | ⟨hk,-,-,-,-,hl,-⟩ | ⟨hk,-,-,-,-,hl,-,h0,-,hm,-⟩
   · rcases hk with hk | hk | hk
     · rw [hk] at h
       simp only [Int.reduceEq,if_false] at h
       exact (Tr.tk_empty hk i j).2 (one_eq h)
     · rw [hk] at h
       simp only [Int.reduceEq,if_false,if_true] at h
       obtain ⟨e,hb⟩:=at_eq h
       exact (Tr.tk_beg hk i j).2 ⟨hb,e⟩
     · rw [hk] at h
       simp only [Int.reduceEq,if_false,if_true] at h
       obtain ⟨e,hb⟩:=at_eq h
       exact (Tr.tk_fin hk i j).2 ⟨hb,e⟩
   · rw [if_pos hk] at h
     unfold Ps.byteT at h
     split at h
     · rename_i hh
       exact (Tr.tk_bytes hk i j).2 ⟨⟨by omega,hh.2⟩,hh.1⟩
     · cases h
   · rcases hk with hk | hk
     · rw [hk] at h
       simp only [Int.reduceEq,if_false,if_true] at h
       exact (Tr.tk_seq hk i j).2 (Tr.pos_wySeq x t.subs hih i j hij hjn h)
     · rw [hk] at h
       simp only [Int.reduceEq,if_false,if_true] at h
       exact (Tr.tk_alt hk i j).2 (Tr.pos_wyAlt x t.subs hih i j hij hjn h)
   · rw [hk] at h
     simp only [Int.reduceEq,if_false,if_true] at h
     obtain ⟨u,hu⟩:=List.length_eq_one_iff.1 hl
     rw [hu] at h
     have h2:=Tr.pos_wyAlt x [u] (fun v hv=>hih v (by rw [hu];exact hv)) i j hij hjn h
     rw [Tr.tk_grp hk hu]
     simpa [Tr.tkAlt] using h2
   · rw [hk] at h
     simp only [Int.reduceEq,if_false,if_true] at h
     obtain ⟨u,hu⟩:=List.length_eq_one_iff.1 hl
     rw [hu,Tr.wyHead] at h
     have hpu:=hih u (by rw [hu];exact List.mem_singleton.2 rfl)
     rw [Tr.tk_rep hk hu]
     by_cases hz:t.most=0
     · rw [if_pos hz] at h
       exact ⟨0,by omega,.inr (by omega),one_eq h⟩
     rw [if_neg hz] at h
     have hlh:t.most = -1 ∨ t.least ≤ t.most:=by omega
     by_cases hb:t.least=0∧t.bare=false
     · rw [if_pos hb] at h
       unfold Ps.alt at h
       by_cases h1:0 < Ps.rep (Tr.wy x u) t.least t.most 0 i j
       · exact Ps.pos_rep hpu h0 hlh i j hij hjn h1
       · exact ⟨0,by omega,by omega,Ps.pos_emptyOf (f:=Tr.wy x u) (by omega)⟩
     · rw [if_neg hb] at h
       exact Ps.pos_rep hpu h0 hlh i j hij hjn h
end Go.Proofs.YtedjkbmfpjmlpaaDoor
namespace Go.Proofs.YtedjkbmfpjmlpaaDoor
open Go.RowKit
namespace Tr
end Tr
namespace Tk
end Tk
namespace Tr
theorem check_row_or (a b:Tr):(several 6 [a,b]).checkC=(several 5 [a,b]).checkC:=by
 have h1:(several 6 [a,b]).formB=(several 5 [a,b]).formB:=by
   rw [formB_eq,formB_eq];rfl
 have h2:(several 6 [a,b]).dpT=(several 5 [a,b]).dpT:=by rw [dpT_eq,dpT_eq];rfl
 have h3:(several 6 [a,b]).szT=(several 5 [a,b]).szT:=by
   show szT (many 6 [a,b])=szT (many 5 [a,b])
   unfold many;rw [szT,szT,if_neg (by decide),if_neg (by decide)]
 unfold checkC;rw [h1,h2,h3]
theorem dp_several (k:Int) (hk:k ≠ 8) (a b:Tr):(several k [a,b]).dpT ≤ a.dpT+b.dpT+1:=by
 rw [dpT_eq]
 show (if (2:Nat)=0 then 1 else dpS [a,b]+_) ≤ _
 rw [if_neg (by decide),if_neg (by rintro ⟨h,-⟩;exact hk h)]
 simp only [dpS];omega
theorem dp_grp (n:Int) (a:Tr):(grp n a).dpT ≤ a.dpT+1:=by
 rw [dpT_eq]
 show (if (1:Nat)=0 then 1 else dpS [a]+_) ≤ _
 rw [if_neg (by decide),if_neg (by rintro ⟨h,-⟩;exact absurd (show (7:Int)=8 from h) (by decide))]
 simp only [dpS];omega
end Tr
end Go.Proofs.YtedjkbmfpjmlpaaDoor
namespace Go.Proofs.YtedjkbmfpjmlpaaDoor
open Go.RowKit
theorem Ps.cnt_is {x:Sc} {t:Tr} {i j:Nat} (hc:Re.code t x.t.size [(i:Int),(j:Int)]=0) (hij:i ≤ j):Ps.cnt x t i j=Ps.sat (t.wy x i j):=by
 obtain ⟨h1,h2,h3⟩:=Re.code_zero.1 hc
 have hj:=h3 j (by simp)
 unfold Ps.cnt
 rw [Int.toNat_natCast,Int.toNat_natCast]
 by_cases ha:Ps.askB x t i j=true
 · rw [if_pos ha]
 · rw [if_neg ha]
   have hif:=(Tr.checkC_zero.1 h1).1
   have hb:(Tr.tabT x t i).getLsbD j=false:=by
     unfold Ps.askB at ha
     rw [hc,Int.toNat_natCast,Int.toNat_natCast] at ha
     simpa using ha
   have hw:t.wy x i j=0:=by
     by_cases h0:t.wy x i j=0
     · exact h0
     · have:=(Tr.tabT_means x h2 t hif i (by omega) j).2 ⟨by omega,Tr.wy_pos x t hif i j hij (by omega) (by omega)⟩
       rw [hb] at this;cases this
   rw [hw];rfl
theorem pscnt_ok (A:Nat→Addr) (t:Tr) (x:Sc) (bx i j:Nat) (hij:i ≤ j) (hj:j ≤ x.t.size) (hn:x.t.size ≤ 63) (hc:t.checkC=0) (w:World) (hM:ReMemT A w) (hx:ScAt w bx x) (B:Nat→Prop) (v:Value) (hv:NodeV w B v t) :
   Calls Tryd.prog 40 #[v,.pointer (some ⟨bx,0,none⟩),.int .i64 (i:Int),.int .i64 (j:Int)] w fun e w'=>e=.returned (.tuple #[.int .i64 (Ps.sat (t.wy x i j):Nat),.nilIface])∧Below w.heap.size w w':=by
 have hcode:Re.code t x.t.size [(i:Int),(j:Int)]=0:=Re.code_zero.2 ⟨hc,hn,fun p hp=>by
   simp only [List.mem_cons,List.not_mem_nil,or_false] at hp
   rcases hp with rfl | rfl <;> omega⟩
 refine (pscount_any A t (by have:=(Tr.checkC_zero.1 hc).2.1;omega) x bx i j w hM hx B v hv).mono ?_
 rintro e w' ⟨rfl,hb⟩
 rw [hcode,sent_nil,Ps.cnt_is hcode hij]
 exact ⟨rfl,hb⟩
theorem pcSeq_cells (a b:Tr) (sv:Value):(Tr.several 5 [a,b]).cells sv=#[.int .i64 5,.int .u64 0,.int .u64 0,.int .u64 0,.int .u64 0,sv,.int .i64 0,.int .i64 0,.int .i64 0,.bool false]:=by
 unfold Tr.several Tr.many Tr.cells
 simp only [Tr.kind,Tr.w0,Tr.w1,Tr.w2,Tr.w3,Tr.num,Tr.least,Tr.most,Tr.bare,u0]
theorem pcAlt_cells (a b:Tr) (sv:Value):(Tr.several 6 [a,b]).cells sv=#[.int .i64 6,.int .u64 0,.int .u64 0,.int .u64 0,.int .u64 0,sv,.int .i64 0,.int .i64 0,.int .i64 0,.bool false]:=by
 unfold Tr.several Tr.many Tr.cells
 simp only [Tr.kind,Tr.w0,Tr.w1,Tr.w2,Tr.w3,Tr.num,Tr.least,Tr.most,Tr.bare,u0]
theorem pcGrp_cells (a:Tr) (sv:Value):(Tr.grp 3 a).cells sv=#[.int .i64 7,.int .u64 0,.int .u64 0,.int .u64 0,.int .u64 0,sv,.int .i64 3,.int .i64 0,.int .i64 0,.bool false]:=by
 unfold Tr.grp Tr.cells
 simp only [Tr.kind,Tr.w0,Tr.w1,Tr.w2,Tr.w3,Tr.num,Tr.least,Tr.most,Tr.bare,u0]
def PcK (a b:Tr) (va vb:Value) (k:Nat) (w:World) (v:Value) (F:List Nat):Prop :=
 match k with
 | 0=>v=va
 | 1=>v=vb
 | 2=>∃ g:Nat,v=.slice (some ⟨g,0,none⟩) 2 2∧LsAt w v [a,b]
 | 3=>∃ p c,v=.agg #[.int .i64 5,.int .u64 0,.int .u64 0,.int .u64 0,.int .u64 0,.slice p 2 c,.int .i64 0,.int .i64 0,.int .i64 0,.bool false]∧Owned w (.slice p 2 c) [a,b] F
 | 4=>v=va
 | 5=>v=vb
 | 6=>∃ g:Nat,v=.slice (some ⟨g,0,none⟩) 2 2∧LsAt w v [a,b]
 | 7=>∃ p c,v=.agg #[.int .i64 6,.int .u64 0,.int .u64 0,.int .u64 0,.int .u64 0,.slice p 2 c,.int .i64 0,.int .i64 0,.int .i64 0,.bool false]∧Owned w (.slice p 2 c) [a,b] F
 | 8=>v=va
 | 9=>∃ p c,v=.agg #[.int .i64 7,.int .u64 0,.int .u64 0,.int .u64 0,.int .u64 0,.slice p 1 c,.int .i64 3,.int .i64 0,.int .i64 0,.bool false]∧Owned w (.slice p 1 c) [a] F
 | 10=>∃ g,v=.pointer (some ⟨g,0,none⟩)∧F=[g]∧w.heap[g]? = some (.cells noNode 37)
 | 11=>∃ g,v=.pointer (some ⟨g,0,none⟩)∧F=[g]∧w.heap[g]? = some (.cells noNode 37)
 | 12=>∃ g,v=.pointer (some ⟨g,0,none⟩)∧F=[g]∧w.heap[g]? = some (.cells noNode 37)
 | _=>True
theorem PcK.later {a b:Tr} {va vb:Value} {k:Nat} {w w':World} {v:Value} {F:List Nat} (h:PcK a b va vb k w v F) (hb:Below w.heap.size w w'):PcK a b va vb k w' v F:=by
 match k,h with
 | 0,h=>exact h
 | 1,h=>exact h
 | 2,⟨g,h1,h2⟩=>exact ⟨g,h1,h2.below hb⟩
 | 3,⟨p,c,h1,h2⟩=>exact ⟨p,c,h1,h2.later hb⟩
 | 4,h=>exact h
 | 5,h=>exact h
 | 6,⟨g,h1,h2⟩=>exact ⟨g,h1,h2.below hb⟩
 | 7,⟨p,c,h1,h2⟩=>exact ⟨p,c,h1,h2.later hb⟩
 | 8,h=>exact h
 | 9,⟨p,c,h1,h2⟩=>exact ⟨p,c,h1,h2.later hb⟩
 | 10,⟨g,h1,h2,h3⟩=>exact ⟨g,h1,h2,keep_blk hb h3⟩
 | 11,⟨g,h1,h2,h3⟩=>exact ⟨g,h1,h2,keep_blk hb h3⟩
 | 12,⟨g,h1,h2,h3⟩=>exact ⟨g,h1,h2,keep_blk hb h3⟩
 | _+13,_=>trivial
def PcFin (W:World) (a b:Tr) (j:Nat) (v:Nat→Value) (_B:Nat→List Nat) (w:World):Prop :=
 ∃ ps cs pa ca pg cg g1 g2 g3 Fs Fa Fg,v 3=.agg #[.int .i64 5,.int .u64 0,.int .u64 0,.int .u64 0,.int .u64 0,.slice ps 2 cs,.int .i64 0,.int .i64 0,.int .i64 0,.bool false]∧v 7=.agg #[.int .i64 6,.int .u64 0,.int .u64 0,.int .u64 0,.int .u64 0,.slice pa 2 ca,.int .i64 0,.int .i64 0,.int .i64 0,.bool false]∧v 9=.agg #[.int .i64 7,.int .u64 0,.int .u64 0,.int .u64 0,.int .u64 0,.slice pg 1 cg,.int .i64 3,.int .i64 0,.int .i64 0,.bool false]∧v 10=.pointer (some ⟨g1,0,none⟩)∧v 11=.pointer (some ⟨g2,0,none⟩)∧v 12=.pointer (some ⟨g3,0,none⟩) ∧
   Owned w (.slice ps 2 cs) [a,b] Fs∧Owned w (.slice pa 2 ca) [a,b] Fa∧Owned w (.slice pg 1 cg) [a] Fg ∧
   w.heap[g1]? = some (.cells (if 13 < j then #[.int .i64 5,.int .u64 0,.int .u64 0,.int .u64 0,.int .u64 0,.slice ps 2 cs,.int .i64 0,.int .i64 0,.int .i64 0,.bool false] else noNode) 37)∧w.heap[g2]? = some (.cells (if 14 < j then #[.int .i64 6,.int .u64 0,.int .u64 0,.int .u64 0,.int .u64 0,.slice pa 2 ca,.int .i64 0,.int .i64 0,.int .i64 0,.bool false] else noNode) 37)∧w.heap[g3]? = some (.cells (if 15 < j then #[.int .i64 7,.int .u64 0,.int .u64 0,.int .u64 0,.int .u64 0,.slice pg 1 cg,.int .i64 3,.int .i64 0,.int .i64 0,.bool false] else noNode) 37) ∧
   Below W.heap.size W w∧(∀ x,(x ∈ Fs ∨ x ∈ Fa ∨ x ∈ Fg)→x ≠ g1∧x ≠ g2∧x ≠ g3)∧g1 ≠ g2∧g1 ≠ g3∧g2 ≠ g3∧W.heap.size ≤ g1∧W.heap.size ≤ g2∧W.heap.size ≤ g3
theorem parsescounts_any (A:Nat→Addr) (s:ByteArray) (fc fe:Int) (a b:Tr) (f g:Int) (w:World) (hM:ReMemT A w) (Ba Bb:Nat→Prop) (va vb:Value) (hva:NodeV w Ba va a) (hvb:NodeV w Bb vb b) :
   Calls Tryd.prog 6 #[va,vb,.agg #[.string s,.int .i64 fc,.int .i64 fe],.int .i64 f,.int .i64 g] w fun e w'=>e=.returned (.bool true)∧Below w.heap.size w w':=by
 obtain ⟨sa,rfl,hsa⟩:=hva
 obtain ⟨p0,c0,rfl,-⟩:=hsa.slice
 obtain ⟨sb,rfl,hsb⟩:=hvb
 obtain ⟨p1,c1,rfl,-⟩:=hsb.slice
 have HM:=Lib.hid (fun w9 (hb:Below w.heap.size w w9)=>hM.below hb)
 have VA:=Lib.hid (fun w9 (hb:Below w.heap.size w w9)=>(show NodeV w9 Ba (.agg (a.cells (.slice p0 a.subs.length c0))) a from ⟨_,rfl,hsa.later hb⟩))
 have VB:=Lib.hid (fun w9 (hb:Below w.heap.size w w9)=>(show NodeV w9 Bb (.agg (b.cells (.slice p1 b.subs.length c1))) b from ⟨_,rfl,hsb.later hb⟩))
 have HLA:=Lib.hid (fun w9 (hb:Below w.heap.size w w9)=>pslong_any s fc fe a w9 Ba _ (VA.out w9 hb))
 have HLB:=Lib.hid (fun w9 (hb:Below w.heap.size w w9)=>pslong_any s fc fe b w9 Bb _ (VB.out w9 hb))
 have HKA:=Lib.hid (fun (hd:a.dpT ≤ 1000000) w9 (hb:Below w.heap.size w w9)=>treecheckT_any A a hd w9 (hM.below hb).errs _ _ (VA.out w9 hb))
 have HKB:=Lib.hid (fun (hd:b.dpT ≤ 1000000) w9 (hb:Below w.heap.size w w9)=>treecheckT_any A b hd w9 (hM.below hb).errs _ _ (VB.out w9 hb))
 have HTA:=Lib.hid (fun w9 (hb:Below w.heap.size w w9)=>hsa.any.later hb)
 have HTB:=Lib.hid (fun w9 (hb:Below w.heap.size w w9)=>hsb.any.later hb)
 have hca:a.cells (.slice p0 a.subs.length c0)=#[.int .i64 a.kind,.int .u64 (Oc.U a.w0),.int .u64 (Oc.U a.w1),.int .u64 (Oc.U a.w2),.int .u64 (Oc.U a.w3),.slice p0 a.subs.length c0,.int .i64 a.num,.int .i64 a.least,.int .i64 a.most,.bool a.bare]:=rfl
 have hcb:b.cells (.slice p1 b.subs.length c1)=#[.int .i64 b.kind,.int .u64 (Oc.U b.w0),.int .u64 (Oc.U b.w1),.int .u64 (Oc.U b.w2),.int .u64 (Oc.U b.w3),.slice p1 b.subs.length c1,.int .i64 b.num,.int .i64 b.least,.int .i64 b.most,.bool b.bare]:=rfl
 rw [hca,hcb]
 simp only [hca,hcb] at VA VB HLA HLB HKA HKB
 clear hsa hsb hM
 go_enter Tryd.func6,Tryd.ntmps6
 obtain ⟨z0,z1,z2⟩:=three_new w (.cells #[.int .i64 a.kind,.int .u64 (Oc.U a.w0),.int .u64 (Oc.U a.w1),.int .u64 (Oc.U a.w2),.int .u64 (Oc.U a.w3),.slice p0 a.subs.length c0,.int .i64 a.num,.int .i64 a.least,.int .i64 a.most,.bool a.bare] 37) (.cells #[.int .i64 b.kind,.int .u64 (Oc.U b.w0),.int .u64 (Oc.U b.w1),.int .u64 (Oc.U b.w2),.int .u64 (Oc.U b.w3),.slice p1 b.subs.length c1,.int .i64 b.num,.int .i64 b.least,.int .i64 b.most,.bool b.bare] 37) (.cells #[.string s,.int .i64 fc,.int .i64 fe] 39)
 have hb0:Below w.heap.size w (((w.alloc (.cells #[.int .i64 a.kind,.int .u64 (Oc.U a.w0),.int .u64 (Oc.U a.w1),.int .u64 (Oc.U a.w2),.int .u64 (Oc.U a.w3),.slice p0 a.subs.length c0,.int .i64 a.num,.int .i64 a.least,.int .i64 a.most,.bool a.bare] 37)).alloc (.cells #[.int .i64 b.kind,.int .u64 (Oc.U b.w0),.int .u64 (Oc.U b.w1),.int .u64 (Oc.U b.w2),.int .u64 (Oc.U b.w3),.slice p1 b.subs.length c1,.int .i64 b.num,.int .i64 b.least,.int .i64 b.most,.bool b.bare] 37)).alloc (.cells #[.string s,.int .i64 fc,.int .i64 fe] 39)):=by go_grown
 have XA:=Lib.hid z0;have XB:=Lib.hid z1;have XV:=Lib.hid z2;have HB:=Lib.hid hb0
 clear z0 z1 z2 hb0
 go_upto_region 1 with (fail)
 generalize ((w.alloc _).alloc _).alloc _=w0 at *
 go_wp2_with fail
 refine (pslives_any A w0 (HM.out w0 HB.out)).mono ?_
 rintro e w1 ⟨rfl,hb1⟩
 have HBn:=Lib.hid (HB.out.trans (hb1.mono HB.out.size));have XAn:=Lib.hid (keep_blk hb1 XA.out);have XBn:=Lib.hid (keep_blk hb1 XB.out);have XVn:=Lib.hid (keep_blk hb1 XV.out)
 clear hb1 HB XA XB XV
 have HB:=HBn;have XA:=XAn;have XB:=XBn;have XV:=XVn
 clear HBn XAn XBn XVn
 go_wp2_with (first
   | (refine wpList_load_row rfl 37 (.tmp 5) rfl w.heap.size rfl 37 #[.int .i64 a.kind,.int .u64 (Oc.U a.w0),.int .u64 (Oc.U a.w1),.int .u64 (Oc.U a.w2),.int .u64 (Oc.U a.w3),.slice p0 a.subs.length c0,.int .i64 a.num,.int .i64 a.least,.int .i64 a.most,.bool a.bare] (0,0) _ XA.out Tryd.underlying37 rfl (by kernel_rfl) ?_)
   | (refine wpList_load_row rfl 39 (.tmp 7) rfl (w.heap.size+1+1) rfl 39 #[.string s,.int .i64 fc,.int .i64 fe] (0,0) _ XV.out Tryd.underlying39 rfl (by kernel_rfl) ?_)
   | fail)
 refine (HLA.out w1 HB.out).mono ?_
 rintro e w2 ⟨q,rfl,hq,hb1⟩
 have HBn:=Lib.hid (HB.out.trans (hb1.mono HB.out.size));have XAn:=Lib.hid (keep_blk hb1 XA.out);have XBn:=Lib.hid (keep_blk hb1 XB.out);have XVn:=Lib.hid (keep_blk hb1 XV.out)
 clear hb1 HB XA XB XV
 have HB:=HBn;have XA:=XAn;have XB:=XBn;have XV:=XVn
 clear HBn XAn XBn XVn
 have HQA:=Lib.hid hq
 clear hq
 cases q
 case true =>
   go_wp2
   go_ret
   exact ⟨rfl,HB.out⟩
 obtain ⟨n0,n1,n2,n3,n4,n5,n6,n7,n8,n9⟩:=allTen XB.out
 obtain ⟨v0,v1,v2⟩:w2.cell? ⟨w.heap.size+1+1,0,none⟩=some (.string s)∧w2.cell? ⟨w.heap.size+1+1,1,none⟩=some (.int .i64 fc)∧w2.cell? ⟨w.heap.size+1+1,2,none⟩=some (.int .i64 fe):=by
   simp [World.cell?,XV.out]
 go_wp2_with fail
 clear n0 n1 n2 n3 n4 n5 n6 n7 n8 n9 v0 v1 v2
 refine (HLB.out w2 HB.out).mono ?_
 rintro e w3 ⟨q,rfl,hq,hb1⟩
 have HBn:=Lib.hid (HB.out.trans (hb1.mono HB.out.size));have XAn:=Lib.hid (keep_blk hb1 XA.out);have XBn:=Lib.hid (keep_blk hb1 XB.out);have XVn:=Lib.hid (keep_blk hb1 XV.out)
 clear hb1 HB XA XB XV
 have HB:=HBn;have XA:=XAn;have XB:=XBn;have XV:=XVn
 clear HBn XAn XBn XVn
 have HQB:=Lib.hid hq
 clear hq
 cases q
 case true =>
   go_wp2
   go_ret
   exact ⟨rfl,HB.out⟩
 have hda:a.dpT ≤ 1000000:=by have:=HQA.out (by trivial);have:=Tr.dp_nd a;omega
 have hdb:b.dpT ≤ 1000000:=by have:=HQB.out (by trivial);have:=Tr.dp_nd b;omega
 have HKA1:=Lib.hid (HKA.out hda);have HKB1:=Lib.hid (HKB.out hdb)
 clear hda hdb HKA HKB HQA HQB HLA HLB
 obtain ⟨n0,n1,n2,n3,n4,n5,n6,n7,n8,n9⟩:=allTen XA.out
 go_wp2_with fail
 clear n0 n1 n2 n3 n4 n5 n6 n7 n8 n9
 refine (HKA1.out w3 HB.out).mono ?_
 rintro e w4 ⟨rfl,hb1⟩
 have HBn:=Lib.hid (HB.out.trans (hb1.mono HB.out.size));have XAn:=Lib.hid (keep_blk hb1 XA.out);have XBn:=Lib.hid (keep_blk hb1 XB.out);have XVn:=Lib.hid (keep_blk hb1 XV.out)
 clear hb1 HB XA XB XV
 have HB:=HBn;have XA:=XAn;have XB:=XBn;have XV:=XVn
 clear HBn XAn XBn XVn
 by_cases hka:a.checkC=0
 case neg =>
   rw [sent_ne hka]
   clear hka
   go_wp2
   go_ret
   exact ⟨rfl,HB.out⟩
 rw [hka,sent_nil]
 have HCA:=Lib.hid hka
 clear hka HKA1
 obtain ⟨n0,n1,n2,n3,n4,n5,n6,n7,n8,n9⟩:=allTen XB.out
 go_wp2_with fail
 clear n0 n1 n2 n3 n4 n5 n6 n7 n8 n9
 refine (HKB1.out w4 HB.out).mono ?_
 rintro e w5 ⟨rfl,hb1⟩
 have HBn:=Lib.hid (HB.out.trans (hb1.mono HB.out.size));have XAn:=Lib.hid (keep_blk hb1 XA.out);have XBn:=Lib.hid (keep_blk hb1 XB.out);have XVn:=Lib.hid (keep_blk hb1 XV.out)
 clear hb1 HB XA XB XV
 have HB:=HBn;have XA:=XAn;have XB:=XBn;have XV:=XVn
 clear HBn XAn XBn XVn
 by_cases hkb:b.checkC=0
 case neg =>
   rw [sent_ne hkb]
   clear hkb
   go_wp2
   go_ret
   exact ⟨rfl,HB.out⟩
 rw [hkb,sent_nil]
 have HCB:=Lib.hid hkb
 clear hkb HKB1
 by_cases hf:f < 0
 case pos =>
   have d1:decide (f < 0)=true:=decide_eq_true hf
   clear hf
   go_wp2
   go_ret
   exact ⟨rfl,HB.out⟩
 have d1:decide (f < 0)=false:=decide_eq_false hf
 by_cases hfg:g < f
 case pos =>
   have d2:decide (g < f)=true:=decide_eq_true hfg
   clear hf hfg
   go_wp2
   go_ret
   exact ⟨rfl,HB.out⟩
 have d2:decide (g < f)=false:=decide_eq_false hfg
 obtain ⟨v0,v1,v2⟩:w5.cell? ⟨w.heap.size+1+1,0,none⟩=some (.string s)∧w5.cell? ⟨w.heap.size+1+1,1,none⟩=some (.int .i64 fc)∧w5.cell? ⟨w.heap.size+1+1,2,none⟩=some (.int .i64 fe):=by
   simp [World.cell?,XV.out]
 by_cases hgs:g > (s.size:Int)
 case pos =>
   have d3:decide (g > (s.size:Int))=true:=decide_eq_true hgs
   have d3':decide ((s.size:Int) < g)=true:=decide_eq_true hgs
   clear hf hfg hgs v1 v2
   go_wp2
   go_ret
   exact ⟨rfl,HB.out⟩
 have d3:decide (g > (s.size:Int))=false:=decide_eq_false hgs
 have d3':decide ((s.size:Int) < g)=false:=decide_eq_false hgs
 by_cases hs12:s.size ≤ 12
 case neg =>
   have d4:decide ((s.size:Int) > 12)=true:=decide_eq_true (by omega)
   have d4':decide ((12:Int) < (s.size:Int))=true:=decide_eq_true (by omega)
   have d4'':decide (12 < s.size)=true:=decide_eq_true (by omega)
   clear hf hfg hgs hs12 v1 v2
   go_wp2
   go_ret
   exact ⟨rfl,HB.out⟩
 have d4:decide ((s.size:Int) > 12)=false:=decide_eq_false (by omega)
 have d4':decide ((12:Int) < (s.size:Int))=false:=decide_eq_false (by omega)
 have d4'':decide (12 < s.size)=false:=decide_eq_false (by omega)
 obtain ⟨i,hi⟩:∃ i:Nat,f=i:=⟨f.toNat,by omega⟩
 obtain ⟨j,hj⟩:∃ j:Nat,g=j:=⟨g.toNat,by omega⟩
 have HIJ:=Lib.hid (show i ≤ j∧j ≤ s.size∧s.size ≤ 12 from ⟨by omega,by omega,hs12⟩)
 clear hf hfg hgs hs12
 subst hi hj
 have d2n:decide (j < i)=false:=decide_eq_false (by have:=HIJ.out;omega)
 have d3n:decide (s.size < j)=false:=decide_eq_false (by have:=HIJ.out;omega)
 go_upto_region 5 with (fail)
 clear v0 v1 v2 d1 d2 d3 d3' d4 d4' d4'' d2n d3n
 refine Ri.wp_region_chain (by kernel_rfl) (by kernel_rfl) (by kernel_rfl) (by kernel_rfl) 16 13 (by kernel_rfl) (by omega) (by kernel_rfl) (PcK a b (.agg #[.int .i64 a.kind,.int .u64 (Oc.U a.w0),.int .u64 (Oc.U a.w1),.int .u64 (Oc.U a.w2),.int .u64 (Oc.U a.w3),.slice p0 a.subs.length c0,.int .i64 a.num,.int .i64 a.least,.int .i64 a.most,.bool a.bare]) (.agg #[.int .i64 b.kind,.int .u64 (Oc.U b.w0),.int .u64 (Oc.U b.w1),.int .u64 (Oc.U b.w2),.int .u64 (Oc.U b.w3),.slice p1 b.subs.length c1,.int .i64 b.num,.int .i64 b.least,.int .i64 b.most,.bool b.bare])) (PcFin w5 a b) (fun k w v F w' h hb=>h.later hb) ?_ ?_ ?_ ?_
 · intro i9 hi9 L v B9 w9 xa hA hL hd hv ho
   have hi':i9=0 ∨ i9=1 ∨ i9=2 ∨ i9=3 ∨ i9=4 ∨ i9=5 ∨ i9=6 ∨ i9=7 ∨ i9=8 ∨ i9=9 ∨ i9=10 ∨ i9=11 ∨ i9=12:=by omega
   have hb9:=HB.out.trans (hA.below.mono HB.out.size)
   rcases hi' with rfl | rfl | rfl | rfl | rfl | rfl | rfl | rfl | rfl | rfl | rfl | rfl | rfl
   · have e9:xa.tmps.getD 5 undef=.pointer (some ⟨w.heap.size,0,none⟩):=ho 5 (by kernel_rfl)
     refine Ri.step_plain rfl rfl (fun K' hK'=>?_)
     refine wp_load_row _ _ rfl _ e9 _ _ _ _ (keep_blk hA.below XA.out) Tryd.underlying37 rfl (by kernel_rfl) ?_
     exact hK' _ _ ⟨_,_,[],rfl,rfl,Below.refl _ _,rfl,fun b hb=>by cases hb⟩
   · have e9:xa.tmps.getD 6 undef=.pointer (some ⟨w.heap.size+1,0,none⟩):=ho 6 (by kernel_rfl)
     refine Ri.step_plain rfl rfl (fun K' hK'=>?_)
     refine wp_load_row _ _ rfl _ e9 _ _ _ _ (keep_blk hA.below XB.out) Tryd.underlying37 rfl (by kernel_rfl) ?_
     exact hK' _ _ ⟨_,_,[],rfl,rfl,Below.refl _ _,rfl,fun b hb=>by cases hb⟩
   · obtain ⟨j0,j1⟩:L 0=true∧L 1=true:=by have:=hd _ rfl;simp [Region.binds] at this;simp [this]
     have f0:=(hv 0 73 rfl j0).trans (hA.fact 0 j0)
     have f1:=(hv 1 74 rfl j1).trans (hA.fact 1 j1)
     refine Ri.step_plain rfl rfl (fun K' hK'=>?_)
     refine wp_node2 (.tmp 73) (.tmp 74) a b p0 a.subs.length c0 p1 b.subs.length c1 rfl f0 f1 ?_
     exact hK' _ _ ⟨_,_,[],rfl,rfl,(Below.refl _ _).alloc (Nat.le_refl _) _,⟨_,rfl,LsAt.two (HTA.out w9 hb9) (HTB.out w9 hb9)⟩,fun b hb=>by cases hb⟩
   · have j0:L 2=true:=by have:=hd _ rfl;simp [Region.binds] at this;simp [this]
     obtain ⟨g9,e9,h9⟩:=hA.fact 2 j0
     have f0:=(hv 2 75 rfl j0).trans e9
     rw [e9] at h9
     refine Ri.step_plain rfl rfl (fun K' hK'=>?_)
     go_simp
     refine (seq_any [a,b] w9 _ _ h9).mono ?_
     rintro e w8 ⟨s8,F8,rfl,ho8,hF8,hb8⟩
     obtain ⟨p8,c8,rfl,-⟩:=ho8.slice
     exact hK' _ _ ⟨_,_,F8,rfl,rfl,hb8,⟨p8,c8,congrArg Value.agg (pcSeq_cells a b _),ho8⟩,fun b hb=>⟨hF8 b hb,ho8.lt b hb⟩⟩
   · have e9:xa.tmps.getD 5 undef=.pointer (some ⟨w.heap.size,0,none⟩):=ho 5 (by kernel_rfl)
     refine Ri.step_plain rfl rfl (fun K' hK'=>?_)
     refine wp_load_row _ _ rfl _ e9 _ _ _ _ (keep_blk hA.below XA.out) Tryd.underlying37 rfl (by kernel_rfl) ?_
     exact hK' _ _ ⟨_,_,[],rfl,rfl,Below.refl _ _,rfl,fun b hb=>by cases hb⟩
   · have e9:xa.tmps.getD 6 undef=.pointer (some ⟨w.heap.size+1,0,none⟩):=ho 6 (by kernel_rfl)
     refine Ri.step_plain rfl rfl (fun K' hK'=>?_)
     refine wp_load_row _ _ rfl _ e9 _ _ _ _ (keep_blk hA.below XB.out) Tryd.underlying37 rfl (by kernel_rfl) ?_
     exact hK' _ _ ⟨_,_,[],rfl,rfl,Below.refl _ _,rfl,fun b hb=>by cases hb⟩
   · obtain ⟨j0,j1⟩:L 4=true∧L 5=true:=by have:=hd _ rfl;simp [Region.binds] at this;simp [this]
     have f0:=(hv 4 77 rfl j0).trans (hA.fact 4 j0)
     have f1:=(hv 5 78 rfl j1).trans (hA.fact 5 j1)
     refine Ri.step_plain rfl rfl (fun K' hK'=>?_)
     refine wp_node2 (.tmp 77) (.tmp 78) a b p0 a.subs.length c0 p1 b.subs.length c1 rfl f0 f1 ?_
     exact hK' _ _ ⟨_,_,[],rfl,rfl,(Below.refl _ _).alloc (Nat.le_refl _) _,⟨_,rfl,LsAt.two (HTA.out w9 hb9) (HTB.out w9 hb9)⟩,fun b hb=>by cases hb⟩
   · have j0:L 6=true:=by have:=hd _ rfl;simp [Region.binds] at this;simp [this]
     obtain ⟨g9,e9,h9⟩:=hA.fact 6 j0
     have f0:=(hv 6 79 rfl j0).trans e9
     rw [e9] at h9
     refine Ri.step_plain rfl rfl (fun K' hK'=>?_)
     go_simp
     refine (alt_any [a,b] (by simp) w9 _ _ h9).mono ?_
     rintro e w8 ⟨s8,F8,rfl,ho8,hF8,hb8⟩
     obtain ⟨p8,c8,rfl,-⟩:=ho8.slice
     exact hK' _ _ ⟨_,_,F8,rfl,rfl,hb8,⟨p8,c8,congrArg Value.agg (pcAlt_cells a b _),ho8⟩,fun b hb=>⟨hF8 b hb,ho8.lt b hb⟩⟩
   · have e9:xa.tmps.getD 5 undef=.pointer (some ⟨w.heap.size,0,none⟩):=ho 5 (by kernel_rfl)
     refine Ri.step_plain rfl rfl (fun K' hK'=>?_)
     refine wp_load_row _ _ rfl _ e9 _ _ _ _ (keep_blk hA.below XA.out) Tryd.underlying37 rfl (by kernel_rfl) ?_
     exact hK' _ _ ⟨_,_,[],rfl,rfl,Below.refl _ _,rfl,fun b hb=>by cases hb⟩
   · have j0:L 8=true:=by have:=hd _ rfl;simp [Region.binds] at this;simp [this]
     have f0:=(hv 8 81 rfl j0).trans (hA.fact 8 j0)
     refine Ri.step_plain rfl rfl (fun K' hK'=>?_)
     go_simp
     refine (group_any a 3 w9 _ _ (VA.out w9 hb9)).mono ?_
     rintro e w8 ⟨s8,F8,rfl,ho8,hF8,hb8⟩
     obtain ⟨p8,c8,rfl,-⟩:=ho8.slice
     exact hK' _ _ ⟨_,_,F8,rfl,rfl,hb8,⟨p8,c8,congrArg Value.agg (pcGrp_cells a _),ho8⟩,fun b hb=>⟨hF8 b hb,ho8.lt b hb⟩⟩
   · refine Ri.step_plain rfl rfl (fun K' hK'=>?_)
     go_simp
     exact hK' _ _ ⟨_,_,[w9.heap.size],rfl,rfl,(Below.refl _ _).alloc (Nat.le_refl _) _,⟨w9.heap.size,rfl,rfl,heap_alloc_new _ _⟩,fun b hb=>by rw [List.mem_singleton] at hb;subst hb;simp⟩
   · refine Ri.step_plain rfl rfl (fun K' hK'=>?_)
     go_simp
     exact hK' _ _ ⟨_,_,[w9.heap.size],rfl,rfl,(Below.refl _ _).alloc (Nat.le_refl _) _,⟨w9.heap.size,rfl,rfl,heap_alloc_new _ _⟩,fun b hb=>by rw [List.mem_singleton] at hb;subst hb;simp⟩
   · refine Ri.step_plain rfl rfl (fun K' hK'=>?_)
     go_simp
     exact hK' _ _ ⟨_,_,[w9.heap.size],rfl,rfl,(Below.refl _ _).alloc (Nat.le_refl _) _,⟨w9.heap.size,rfl,rfl,heap_alloc_new _ _⟩,fun b hb=>by rw [List.mem_singleton] at hb;subst hb;simp⟩
 · intro v B9 w9 hb hk hwi hap
   obtain ⟨ps,cs,v3,o3⟩:=hk 3 (by omega)
   obtain ⟨pa,ca,v7,o7⟩:=hk 7 (by omega)
   obtain ⟨pg,cg,v9,o9⟩:=hk 9 (by omega)
   obtain ⟨g1,v10,b10,h10⟩:=hk 10 (by omega)
   obtain ⟨g2,v11,b11,h11⟩:=hk 11 (by omega)
   obtain ⟨g3,v12,b12,h12⟩:=hk 12 (by omega)
   have m10:g1 ∈ B9 10:=by rw [b10];simp
   have m11:g2 ∈ B9 11:=by rw [b11];simp
   have m12:g3 ∈ B9 12:=by rw [b12];simp
   refine ⟨ps,cs,pa,ca,pg,cg,g1,g2,g3,B9 3,B9 7,B9 9,v3,v7,v9,v10,v11,v12,o3,o7,o9,h10,h11,h12,hb,fun x hx=>?_,fun e=>hap 10 11 g1 (by omega) m10 (e ▸ m11),fun e=>hap 10 12 g1 (by omega) m10 (e ▸ m12),fun e=>hap 11 12 g2 (by omega) m11 (e ▸ m12),(hwi 10 _ m10).1,(hwi 11 _ m11).1,(hwi 12 _ m12).1⟩
   rcases hx with hx | hx | hx
   · exact ⟨fun e=>hap 3 10 x (by omega) hx (e ▸ m10),fun e=>hap 3 11 x (by omega) hx (e ▸ m11),fun e=>hap 3 12 x (by omega) hx (e ▸ m12)⟩
   · exact ⟨fun e=>hap 7 10 x (by omega) hx (e ▸ m10),fun e=>hap 7 11 x (by omega) hx (e ▸ m11),fun e=>hap 7 12 x (by omega) hx (e ▸ m12)⟩
   · exact ⟨fun e=>hap 9 10 x (by omega) hx (e ▸ m10),fun e=>hap 9 11 x (by omega) hx (e ▸ m11),fun e=>hap 9 12 x (by omega) hx (e ▸ m12)⟩
 · intro i9 hN hn L v B9 w9 xa hF hall hv ho
   have hi':i9=13 ∨ i9=14 ∨ i9=15:=by omega
   obtain ⟨ps,cs,pa,ca,pg,cg,g1,g2,g3,Fs,Fa,Fg,v3,v7,v9,v10,v11,v12,o3,o7,o9,h10,h11,h12,hb,hap,n12,n13,n23,hg1,hg2,hg3⟩:=hF
   rcases hi' with rfl | rfl | rfl
   · have f1:=(hv 3 76 rfl (hall 3 (by omega))).trans v3
     have f2:=(hv 10 11 rfl (hall 10 (by omega))).trans v10
     rw [if_neg (by omega)] at h10
     rw [if_neg (by omega)] at h11
     rw [if_neg (by omega)] at h12
     refine Ri.step_plain rfl rfl (fun K' hK'=>?_)
     refine wp_store_row _ _ _ rfl g1 #[.int .i64 5,.int .u64 0,.int .u64 0,.int .u64 0,.int .u64 0,.slice ps 2 cs,.int .i64 0,.int .i64 0,.int .i64 0,.bool false] f2 f1 37 _ h10 (by kernel_rfl) (by kernel_rfl) (by simp [Value.oneCell']) ?_
     refine hK' _ _ ⟨_,undef,rfl,rfl,ps,cs,pa,ca,pg,cg,g1,g2,g3,Fs,Fa,Fg,v3,v7,v9,v10,v11,v12,o3.keep (fun b hb=>heap_setRow_other _ _ _ (hap b (.inl hb)).1),o7.keep (fun b hb=>heap_setRow_other _ _ _ (hap b (.inr (.inl hb))).1),o9.keep (fun b hb=>heap_setRow_other _ _ _ (hap b (.inr (.inr hb))).1), ?_, ?_, ?_,below_setRow hb hg1 _,hap,n12,n13,n23,hg1,hg2,hg3⟩
     · rw [if_pos (by omega)];exact heap_setRow h10
     · rw [if_neg (by omega),heap_setRow_other _ _ _ (n12.symm)];exact h11
     · rw [if_neg (by omega),heap_setRow_other _ _ _ (n13.symm)];exact h12
   · have f1:=(hv 7 80 rfl (hall 7 (by omega))).trans v7
     have f2:=(hv 11 12 rfl (hall 11 (by omega))).trans v11
     rw [if_pos (by omega)] at h10
     rw [if_neg (by omega)] at h11
     rw [if_neg (by omega)] at h12
     refine Ri.step_plain rfl rfl (fun K' hK'=>?_)
     refine wp_store_row _ _ _ rfl g2 #[.int .i64 6,.int .u64 0,.int .u64 0,.int .u64 0,.int .u64 0,.slice pa 2 ca,.int .i64 0,.int .i64 0,.int .i64 0,.bool false] f2 f1 37 _ h11 (by kernel_rfl) (by kernel_rfl) (by simp [Value.oneCell']) ?_
     refine hK' _ _ ⟨_,undef,rfl,rfl,ps,cs,pa,ca,pg,cg,g1,g2,g3,Fs,Fa,Fg,v3,v7,v9,v10,v11,v12,o3.keep (fun b hb=>heap_setRow_other _ _ _ (hap b (.inl hb)).2.1),o7.keep (fun b hb=>heap_setRow_other _ _ _ (hap b (.inr (.inl hb))).2.1),o9.keep (fun b hb=>heap_setRow_other _ _ _ (hap b (.inr (.inr hb))).2.1), ?_, ?_, ?_,below_setRow hb hg2 _,hap,n12,n13,n23,hg1,hg2,hg3⟩
     · rw [if_pos (by omega),heap_setRow_other _ _ _ (n12)];exact h10
     · rw [if_pos (by omega)];exact heap_setRow h11
     · rw [if_neg (by omega),heap_setRow_other _ _ _ (n23.symm)];exact h12
   · have f1:=(hv 9 82 rfl (hall 9 (by omega))).trans v9
     have f2:=(hv 12 13 rfl (hall 12 (by omega))).trans v12
     rw [if_pos (by omega)] at h10
     rw [if_pos (by omega)] at h11
     rw [if_neg (by omega)] at h12
     refine Ri.step_plain rfl rfl (fun K' hK'=>?_)
     refine wp_store_row _ _ _ rfl g3 #[.int .i64 7,.int .u64 0,.int .u64 0,.int .u64 0,.int .u64 0,.slice pg 1 cg,.int .i64 3,.int .i64 0,.int .i64 0,.bool false] f2 f1 37 _ h12 (by kernel_rfl) (by kernel_rfl) (by simp [Value.oneCell']) ?_
     refine hK' _ _ ⟨_,undef,rfl,rfl,ps,cs,pa,ca,pg,cg,g1,g2,g3,Fs,Fa,Fg,v3,v7,v9,v10,v11,v12,o3.keep (fun b hb=>heap_setRow_other _ _ _ (hap b (.inl hb)).2.2),o7.keep (fun b hb=>heap_setRow_other _ _ _ (hap b (.inr (.inl hb))).2.2),o9.keep (fun b hb=>heap_setRow_other _ _ _ (hap b (.inr (.inr hb))).2.2), ?_, ?_, ?_,below_setRow hb hg3 _,hap,n12,n13,n23,hg1,hg2,hg3⟩
     · rw [if_pos (by omega),heap_setRow_other _ _ _ (n13)];exact h10
     · rw [if_pos (by omega),heap_setRow_other _ _ _ (n23)];exact h11
     · rw [if_pos (by omega)];exact heap_setRow h12
 intro v B9 w6 hF
 obtain ⟨ps,cs,pa,ca,pg,cg,g1,g2,g3,Fs,Fa,Fg,v3,v7,v9,v10,v11,v12,o3,o7,o9,h10,h11,h12,hb1,-,-,-,-,-,-,-⟩:=hF
 rw [if_pos (by omega)] at h10 h11 h12
 have X1:=Lib.hid h10;have X2:=Lib.hid h11;have X3:=Lib.hid h12
 have T1:=Lib.hid o3.trees.any;have T2:=Lib.hid o7.trees.any;have T3:=Lib.hid o9.trees.any
 clear o3 o7 o9 h10 h11 h12
 have HBn:=Lib.hid (HB.out.trans (hb1.mono HB.out.size));have XAn:=Lib.hid (keep_blk hb1 XA.out);have XBn:=Lib.hid (keep_blk hb1 XB.out);have XVn:=Lib.hid (keep_blk hb1 XV.out)
 clear hb1 HB XA XB XV
 have HB:=HBn;have XA:=XAn;have XB:=XBn;have XV:=XVn
 clear HBn XAn XBn XVn
 simp only [Ri.frame,List.zipIdx,List.foldl_cons,List.foldl_nil,if_true,List.setIfInBounds_toArray,List.set_cons_zero,List.set_cons_succ,Nat.reduceAdd,v10,v11,v12]
 generalize v 0=y0;generalize v 1=y1;generalize v 2=y2;generalize v 3=y3;generalize v 4=y4;generalize v 5=y5;generalize v 6=y6;generalize v 7=y7;generalize v 8=y8;generalize v 9=y9
 clear v3 v7 v9 v10 v11 v12 B9 HTA HTB
 have hds:(Tr.several 5 [a,b]).dpT ≤ 1000000:=by have:=Tr.dp_several 5 (by decide) a b;have:=(Tr.checkC_zero.1 HCA.out).2.1;have:=(Tr.checkC_zero.1 HCB.out).2.1;omega
 have hdg:(Tr.grp 3 a).dpT ≤ 1000000:=by have:=Tr.dp_grp 3 a;have:=(Tr.checkC_zero.1 HCA.out).2.1;omega
 have V1:=Lib.hid (fun w9 (hb:Below w6.heap.size w6 w9)=>(show NodeV w9 (fun _=>True) (.agg #[.int .i64 5,.int .u64 0,.int .u64 0,.int .u64 0,.int .u64 0,.slice ps 2 cs,.int .i64 0,.int .i64 0,.int .i64 0,.bool false]) (Tr.several 5 [a,b]) from ⟨.slice ps 2 cs,congrArg Value.agg (pcSeq_cells a b _).symm,T1.out.later hb⟩))
 have V2:=Lib.hid (fun w9 (hb:Below w6.heap.size w6 w9)=>(show NodeV w9 (fun _=>True) (.agg #[.int .i64 6,.int .u64 0,.int .u64 0,.int .u64 0,.int .u64 0,.slice pa 2 ca,.int .i64 0,.int .i64 0,.int .i64 0,.bool false]) (Tr.several 6 [a,b]) from ⟨.slice pa 2 ca,congrArg Value.agg (pcAlt_cells a b _).symm,T2.out.later hb⟩))
 have V3:=Lib.hid (fun w9 (hb:Below w6.heap.size w6 w9)=>(show NodeV w9 (fun _=>True) (.agg #[.int .i64 7,.int .u64 0,.int .u64 0,.int .u64 0,.int .u64 0,.slice pg 1 cg,.int .i64 3,.int .i64 0,.int .i64 0,.bool false]) (Tr.grp 3 a) from ⟨.slice pg 1 cg,congrArg Value.agg (pcGrp_cells a _).symm,T3.out.later hb⟩))
 have HW6:=Lib.hid (Below.refl w6.heap.size w6)
 have HKS:=Lib.hid (fun w9 (hw:Below w.heap.size w w9) (hb:Below w6.heap.size w6 w9)=>treecheckT_any A _ hds w9 (HM.out w9 hw).errs _ _ (V1.out w9 hb))
 have HKG:=Lib.hid (fun w9 (hw:Below w.heap.size w w9) (hb:Below w6.heap.size w6 w9)=>treecheckT_any A _ hdg w9 (HM.out w9 hw).errs _ _ (V3.out w9 hb))
 clear hds hdg T1 T2 T3
 go_wp2_with (first
   | (refine wpList_load_row rfl 37 (.tmp 11) rfl g1 rfl 37 _ (0,0) _ X1.out Tryd.underlying37 rfl (by kernel_rfl) ?_)
   | fail)
 refine (HKS.out w6 HB.out HW6.out).mono ?_
 rintro e w7 ⟨rfl,hb1⟩
 have HBn:=Lib.hid (HB.out.trans (hb1.mono HB.out.size));have XAn:=Lib.hid (keep_blk hb1 XA.out);have XBn:=Lib.hid (keep_blk hb1 XB.out);have XVn:=Lib.hid (keep_blk hb1 XV.out)
 have HW6n:=Lib.hid (HW6.out.trans (hb1.mono HW6.out.size))
 have X1n:=Lib.hid (keep_blk hb1 X1.out)
 have X2n:=Lib.hid (keep_blk hb1 X2.out)
 have X3n:=Lib.hid (keep_blk hb1 X3.out)
 clear hb1 HB XA XB XV HW6 X1 X2 X3
 have HB:=HBn;have XA:=XAn;have XB:=XBn;have XV:=XVn;have HW6:=HW6n;have X1:=X1n;have X2:=X2n;have X3:=X3n
 clear HBn XAn XBn XVn HW6n X1n X2n X3n
 by_cases hks:(Tr.several 5 [a,b]).checkC=0
 case neg =>
   rw [sent_ne hks]
   clear hks
   go_wp2
   go_ret
   exact ⟨rfl,HB.out⟩
 rw [hks,sent_nil]
 have HCS:=Lib.hid hks
 clear hks HKS
 obtain ⟨n0,n1,n2,n3,n4,n5,n6,n7,n8,n9⟩:=allTen X3.out
 go_wp2_with fail
 clear n0 n1 n2 n3 n4 n5 n6 n7 n8 n9
 refine (HKG.out w7 HB.out HW6.out).mono ?_
 rintro e w8 ⟨rfl,hb1⟩
 have HBn:=Lib.hid (HB.out.trans (hb1.mono HB.out.size));have XAn:=Lib.hid (keep_blk hb1 XA.out);have XBn:=Lib.hid (keep_blk hb1 XB.out);have XVn:=Lib.hid (keep_blk hb1 XV.out)
 have HW6n:=Lib.hid (HW6.out.trans (hb1.mono HW6.out.size))
 have X1n:=Lib.hid (keep_blk hb1 X1.out)
 have X2n:=Lib.hid (keep_blk hb1 X2.out)
 have X3n:=Lib.hid (keep_blk hb1 X3.out)
 clear hb1 HB XA XB XV HW6 X1 X2 X3
 have HB:=HBn;have XA:=XAn;have XB:=XBn;have XV:=XVn;have HW6:=HW6n;have X1:=X1n;have X2:=X2n;have X3:=X3n
 clear HBn XAn XBn XVn HW6n X1n X2n X3n
 by_cases hkg:(Tr.grp 3 a).checkC=0
 case neg =>
   rw [sent_ne hkg]
   clear hkg
   go_wp2
   go_ret
   exact ⟨rfl,HB.out⟩
 rw [hkg,sent_nil]
 have HCG:=Lib.hid hkg
 clear hkg HKG
 obtain ⟨v0,v1,v2⟩:w8.cell? ⟨w.heap.size+1+1,0,none⟩=some (.string s)∧w8.cell? ⟨w.heap.size+1+1,1,none⟩=some (.int .i64 fc)∧w8.cell? ⟨w.heap.size+1+1,2,none⟩=some (.int .i64 fe):=by
   simp [World.cell?,XV.out]
 go_wp2_with fail
 clear v0 v1 v2
 refine (scnew_any s fc fe w8).mono ?_
 rintro e w9 ⟨rfl,hx,hb1,-⟩
 have HX:=Lib.hid hx
 clear hx
 have HBn:=Lib.hid (HB.out.trans (hb1.mono HB.out.size));have XAn:=Lib.hid (keep_blk hb1 XA.out);have XBn:=Lib.hid (keep_blk hb1 XB.out);have XVn:=Lib.hid (keep_blk hb1 XV.out)
 have HW6n:=Lib.hid (HW6.out.trans (hb1.mono HW6.out.size))
 have X1n:=Lib.hid (keep_blk hb1 X1.out)
 have X2n:=Lib.hid (keep_blk hb1 X2.out)
 have X3n:=Lib.hid (keep_blk hb1 X3.out)
 clear hb1 HB XA XB XV HW6 X1 X2 X3
 have HB:=HBn;have XA:=XAn;have XB:=XBn;have XV:=XVn;have HW6:=HW6n;have X1:=X1n;have X2:=X2n;have X3:=X3n
 clear HBn XAn XBn XVn HW6n X1n X2n X3n
 generalize w8.heap.size=gx at *
 obtain ⟨x,hxx⟩:∃ x,x=Sc.new s fc fe:=⟨_,rfl⟩
 have hxs:x.t.size=s.size:=by rw [hxx];rfl
 rw [← hxx] at HX
 clear hxx
 have HP:=Lib.hid (show i ≤ j∧j ≤ x.t.size∧x.t.size ≤ 63 from ⟨HIJ.out.1,by have:=HIJ.out;omega,by have:=HIJ.out;omega⟩)
 have HSM:=Lib.hid (show j ≤ 12 from by have:=HIJ.out;omega)
 have HCO:=Lib.hid (show (Tr.several 6 [a,b]).checkC=0 by rw [Tr.check_row_or];exact HCS.out)
 clear hxs HIJ
 have NA:=Lib.hid (fun (k l:Nat) (h1:k ≤ l) (h2:l ≤ j) w9 (hw:Below w.heap.size w w9) (hx:ScAt w9 gx x)=>pscnt_ok A a x gx k l h1 (by have:=HP.out;omega) HP.out.2.2 HCA.out w9 (HM.out w9 hw) hx _ _ (VA.out w9 hw))
 have NB:=Lib.hid (fun (k l:Nat) (h1:k ≤ l) (h2:l ≤ j) w9 (hw:Below w.heap.size w w9) (hx:ScAt w9 gx x)=>pscnt_ok A b x gx k l h1 (by have:=HP.out;omega) HP.out.2.2 HCB.out w9 (HM.out w9 hw) hx _ _ (VB.out w9 hw))
 have NS:=Lib.hid (fun w9 (hw:Below w.heap.size w w9) (hb:Below w6.heap.size w6 w9) (hx:ScAt w9 gx x)=>pscnt_ok A _ x gx i j HP.out.1 HP.out.2.1 HP.out.2.2 HCS.out w9 (HM.out w9 hw) hx _ _ (V1.out w9 hb))
 have NO:=Lib.hid (fun w9 (hw:Below w.heap.size w w9) (hb:Below w6.heap.size w6 w9) (hx:ScAt w9 gx x)=>pscnt_ok A _ x gx i j HP.out.1 HP.out.2.1 HP.out.2.2 HCO.out w9 (HM.out w9 hw) hx _ _ (V2.out w9 hb))
 have NG:=Lib.hid (fun w9 (hw:Below w.heap.size w w9) (hb:Below w6.heap.size w6 w9) (hx:ScAt w9 gx x)=>pscnt_ok A _ x gx i j HP.out.1 HP.out.2.1 HP.out.2.2 HCG.out w9 (HM.out w9 hw) hx _ _ (V3.out w9 hb))
 rw [Tr.wy_row] at NS
 simp only [Tr.wy_or] at NO
 simp only [Tr.wy_in] at NG
 clear HCA HCB HCS HCO HCG HM VA VB V1 V2 V3
 go_wp2_with (first
   | (refine wpList_load_row rfl 37 (.tmp 11) rfl g1 rfl 37 _ (0,0) _ X1.out Tryd.underlying37 rfl (by kernel_rfl) ?_)
   | fail)
 refine (NS.out w9 HB.out HW6.out HX.out).mono ?_
 rintro e w10 ⟨rfl,hb1⟩
 have HBn:=Lib.hid (HB.out.trans (hb1.mono HB.out.size));have XAn:=Lib.hid (keep_blk hb1 XA.out);have XBn:=Lib.hid (keep_blk hb1 XB.out);have XVn:=Lib.hid (keep_blk hb1 XV.out)
 have HW6n:=Lib.hid (HW6.out.trans (hb1.mono HW6.out.size))
 have X1n:=Lib.hid (keep_blk hb1 X1.out)
 have X2n:=Lib.hid (keep_blk hb1 X2.out)
 have X3n:=Lib.hid (keep_blk hb1 X3.out)
 have HXn:=Lib.hid (HX.out.below hb1)
 clear hb1 HB XA XB XV HW6 X1 X2 X3 HX
 have HB:=HBn;have XA:=XAn;have XB:=XBn;have XV:=XVn;have HW6:=HW6n;have X1:=X1n;have X2:=X2n;have X3:=X3n;have HX:=HXn
 clear HBn XAn XBn XVn HW6n X1n X2n X3n HXn
 clear NS
 generalize hWA:a.wy x=WA at *
 generalize hWB:b.wy x=WB at *
 clear hWA hWB
 have HIJ:=Lib.hid HP.out.1
 clear HP
 go_wp2
 go_loopw [17,18] (fun sv kv wr=>∃ m:Nat,kv=.int .i64 ((i+m:Nat):Int)∧m ≤ j+1 - i∧sv=.int .i64 ((Ps.sat (Ps.tot m fun c=>WA i (i+c) * WB (i+c) j):Nat):Int)∧Hid (Below w.heap.size w wr)∧Hid (Below w6.heap.size w6 wr)∧Hid (ScAt wr gx x)∧Hid (wr.heap[w.heap.size]? = some (.cells #[.int .i64 a.kind,.int .u64 (Oc.U a.w0),.int .u64 (Oc.U a.w1),.int .u64 (Oc.U a.w2),.int .u64 (Oc.U a.w3),.slice p0 a.subs.length c0,.int .i64 a.num,.int .i64 a.least,.int .i64 a.most,.bool a.bare] 37))∧Hid (wr.heap[w.heap.size+1]? = some (.cells #[.int .i64 b.kind,.int .u64 (Oc.U b.w0),.int .u64 (Oc.U b.w1),.int .u64 (Oc.U b.w2),.int .u64 (Oc.U b.w3),.slice p1 b.subs.length c1,.int .i64 b.num,.int .i64 b.least,.int .i64 b.most,.bool b.bare] 37))∧Hid (wr.heap[g2]? = some (.cells #[.int .i64 6,.int .u64 0,.int .u64 0,.int .u64 0,.int .u64 0,.slice pa 2 ca,.int .i64 0,.int .i64 0,.int .i64 0,.bool false] 37))∧Hid (wr.heap[g3]? = some (.cells #[.int .i64 7,.int .u64 0,.int .u64 0,.int .u64 0,.int .u64 0,.slice pg 1 cg,.int .i64 3,.int .i64 0,.int .i64 0,.bool false] 37))) (fun _ kv _=>j+1 - (intOf kv).toNat)
 case atStart=>exact ⟨0,rfl,Nat.zero_le _,rfl,HB,HW6,HX,XA,XB,X2,X3⟩
 case round =>
   clear HB HW6 HX XA XB XV X1 X2 X3
   obtain ⟨m,rfl,hm,rfl,HB,HW6,HX,XA,XB,X2,X3⟩:=hrel
   have hij:=HIJ.out;have hj12:=HSM.out
   by_cases hlt:i+m ≤ j
   · have hd1:decide (((i+m:Nat):Int) ≤ (j:Int))=true:=decide_eq_true (by omega)
     have wm:IntKind.i64.wrap (((i+m:Nat):Int)+1)=((i+(m+1):Nat):Int):=by rw [IntWalk.i64_in _ (by omega)];omega
     clear hij hj12
     have hnext:=Ps.cut_next (fun c=>WA i (i+c)) (fun c=>WB (i+c) j) m
     have HNX:=Lib.hid hnext
     have HPA:=Lib.hid (Ps.sat_le (WA i (i+m)));have HPB:=Lib.hid (Ps.sat_le (WB (i+m) j))
     have HPS:=Lib.hid (Ps.sat_le (Ps.tot m fun c=>WA i (i+c) * WB (i+c) j))
     have NA1:=Lib.hid (NA.out i (i+m) (by omega) hlt)
     have NB1:=Lib.hid (NB.out (i+m) j hlt (Nat.le_refl _))
     clear hnext
     generalize hsn:Ps.sat (Ps.tot (m+1) fun c=>WA i (i+c) * WB (i+c) j)=sn at *
     have HSN:=Lib.hid hsn
     clear hsn
     generalize Ps.sat (Ps.tot m fun c=>WA i (i+c) * WB (i+c) j)=so at *
     generalize hkk:i+m=kk at *
     generalize Ps.sat (WA i kk)=pp at *
     generalize Ps.sat (WB kk j)=qq at *
     go_wp2_with (first
       | (refine wpList_load_row rfl 37 (.tmp 5) rfl w.heap.size rfl 37 #[.int .i64 a.kind,.int .u64 (Oc.U a.w0),.int .u64 (Oc.U a.w1),.int .u64 (Oc.U a.w2),.int .u64 (Oc.U a.w3),.slice p0 a.subs.length c0,.int .i64 a.num,.int .i64 a.least,.int .i64 a.most,.bool a.bare] (0,0) _ XA.out Tryd.underlying37 rfl (by kernel_rfl) ?_)
       | fail)
     refine (NA1.out wr HB.out HX.out).mono ?_
     rintro e v1 ⟨rfl,hb1⟩
     have HBn:=Lib.hid (HB.out.trans (hb1.mono HB.out.size))
     have HW6n:=Lib.hid (HW6.out.trans (hb1.mono HW6.out.size))
     have HXn:=Lib.hid (HX.out.below hb1)
     have XAn:=Lib.hid (keep_blk hb1 XA.out)
     have XBn:=Lib.hid (keep_blk hb1 XB.out)
     have X2n:=Lib.hid (keep_blk hb1 X2.out)
     have X3n:=Lib.hid (keep_blk hb1 X3.out)
     clear hb1 HB HW6 HX XA XB X2 X3
     have HB:=HBn;have HW6:=HW6n;have HX:=HXn;have XA:=XAn;have XB:=XBn;have X2:=X2n;have X3:=X3n
     clear HBn HW6n HXn XAn XBn X2n X3n
     clear NA1
     go_wp2_with (first
       | (refine wpList_load_row rfl 37 (.tmp 6) rfl (w.heap.size+1) rfl 37 #[.int .i64 b.kind,.int .u64 (Oc.U b.w0),.int .u64 (Oc.U b.w1),.int .u64 (Oc.U b.w2),.int .u64 (Oc.U b.w3),.slice p1 b.subs.length c1,.int .i64 b.num,.int .i64 b.least,.int .i64 b.most,.bool b.bare] (0,0) _ XB.out Tryd.underlying37 rfl (by kernel_rfl) ?_)
       | fail)
     refine (NB1.out v1 HB.out HX.out).mono ?_
     rintro e v2 ⟨rfl,hb1⟩
     have HBn:=Lib.hid (HB.out.trans (hb1.mono HB.out.size))
     have HW6n:=Lib.hid (HW6.out.trans (hb1.mono HW6.out.size))
     have HXn:=Lib.hid (HX.out.below hb1)
     have XAn:=Lib.hid (keep_blk hb1 XA.out)
     have XBn:=Lib.hid (keep_blk hb1 XB.out)
     have X2n:=Lib.hid (keep_blk hb1 X2.out)
     have X3n:=Lib.hid (keep_blk hb1 X3.out)
     clear hb1 HB HW6 HX XA XB X2 X3
     have HB:=HBn;have HW6:=HW6n;have HX:=HXn;have XA:=XAn;have XB:=XBn;have X2:=X2n;have X3:=X3n
     clear HBn HW6n HXn XAn XBn X2n X3n
     clear NB1
     have e1:decide ((pp:Int) < 0)=false:=decide_eq_false (by omega)
     have e2:decide ((qq:Int) < 0)=false:=decide_eq_false (by omega)
     have e3:decide ((pp:Int) > 1000000)=false:=decide_eq_false (by have:=HPA.out;omega)
     have e4:decide ((qq:Int) > 1000000)=false:=decide_eq_false (by have:=HPB.out;omega)
     have e3':decide ((1000000:Int) < (pp:Int))=false:=decide_eq_false (by have:=HPA.out;omega)
     have e4':decide ((1000000:Int) < (qq:Int))=false:=decide_eq_false (by have:=HPB.out;omega)
     have hmul:pp * qq ≤ 1000000000000:=Nat.le_trans (Nat.mul_le_mul HPA.out HPB.out) (by omega)
     have hm1:IntKind.i64.wrap ((pp:Int) * (qq:Int))=((pp * qq:Nat):Int):=by rw [IntWalk.i64_in _ (by rw [← Int.natCast_mul];omega),Int.natCast_mul]
     have hm2:IntKind.i64.wrap ((so:Int)+((pp * qq:Nat):Int))=((so+pp * qq:Nat):Int):=by rw [IntWalk.i64_in _ (by have:=HPS.out;omega)];omega
     have hmin1:min (1000000:Int) ((so+pp * qq:Nat):Int)=(sn:Int):=by have:=HNX.out;omega
     have hmin2:(if ((so+pp * qq:Nat):Int) < 1000000 then ((so+pp * qq:Nat):Int) else 1000000)=(sn:Int):=by have:=HNX.out;split <;> omega
     generalize hZ:so+pp * qq=Z at *
     generalize pp * qq=PQ at *
     go_wp2
     exact ⟨⟨m+1,congrArg (Value.int .i64) (by omega),by omega,by rw [HSN.out],HB,HW6,HX,XA,XB,X2,X3⟩,by simp [intOf];omega⟩
   · have hd1:decide (((i+m:Nat):Int) ≤ (j:Int))=false:=decide_eq_false (by omega)
     obtain rfl:m=j+1 - i:=by omega
     have NA1:=Lib.hid (NA.out i j hij (Nat.le_refl _));have NB1:=Lib.hid (NB.out i j hij (Nat.le_refl _))
     clear hij hj12 hlt
     generalize (Ps.tot (j+1 - i) fun c=>WA i (i+c) * WB (i+c) j)=TT at *
     generalize hp9:WA i j=P9 at *
     generalize hq9:WB i j=Q9 at *
     have HPA:=Lib.hid (Ps.sat_le P9);have HPB:=Lib.hid (Ps.sat_le Q9)
     have hor:Ps.sat (P9+Q9)=min 1000000 (Ps.sat P9+Ps.sat Q9):=by unfold Ps.sat;omega
     have HOR:=Lib.hid hor
     clear hor hp9 hq9
     generalize Ps.sat TT=st at *
     generalize Ps.sat (P9+Q9)=so at *
     generalize Ps.sat P9=pp at *
     generalize Ps.sat Q9=qq at *
     go_wp2_with (first
       | (refine wpList_load_row rfl 37 (.tmp 5) rfl w.heap.size rfl 37 #[.int .i64 a.kind,.int .u64 (Oc.U a.w0),.int .u64 (Oc.U a.w1),.int .u64 (Oc.U a.w2),.int .u64 (Oc.U a.w3),.slice p0 a.subs.length c0,.int .i64 a.num,.int .i64 a.least,.int .i64 a.most,.bool a.bare] (0,0) _ XA.out Tryd.underlying37 rfl (by kernel_rfl) ?_)
       | fail)
     refine (NA1.out wr HB.out HX.out).mono ?_
     rintro e v1 ⟨rfl,hb1⟩
     have HBn:=Lib.hid (HB.out.trans (hb1.mono HB.out.size))
     have HW6n:=Lib.hid (HW6.out.trans (hb1.mono HW6.out.size))
     have HXn:=Lib.hid (HX.out.below hb1)
     have XAn:=Lib.hid (keep_blk hb1 XA.out)
     have XBn:=Lib.hid (keep_blk hb1 XB.out)
     have X2n:=Lib.hid (keep_blk hb1 X2.out)
     have X3n:=Lib.hid (keep_blk hb1 X3.out)
     clear hb1 HB HW6 HX XA XB X2 X3
     have HB:=HBn;have HW6:=HW6n;have HX:=HXn;have XA:=XAn;have XB:=XBn;have X2:=X2n;have X3:=X3n
     clear HBn HW6n HXn XAn XBn X2n X3n
     clear NA1
     go_wp2_with (first
       | (refine wpList_load_row rfl 37 (.tmp 6) rfl (w.heap.size+1) rfl 37 #[.int .i64 b.kind,.int .u64 (Oc.U b.w0),.int .u64 (Oc.U b.w1),.int .u64 (Oc.U b.w2),.int .u64 (Oc.U b.w3),.slice p1 b.subs.length c1,.int .i64 b.num,.int .i64 b.least,.int .i64 b.most,.bool b.bare] (0,0) _ XB.out Tryd.underlying37 rfl (by kernel_rfl) ?_)
       | fail)
     refine (NB1.out v1 HB.out HX.out).mono ?_
     rintro e v2 ⟨rfl,hb1⟩
     have HBn:=Lib.hid (HB.out.trans (hb1.mono HB.out.size))
     have HW6n:=Lib.hid (HW6.out.trans (hb1.mono HW6.out.size))
     have HXn:=Lib.hid (HX.out.below hb1)
     have XAn:=Lib.hid (keep_blk hb1 XA.out)
     have XBn:=Lib.hid (keep_blk hb1 XB.out)
     have X2n:=Lib.hid (keep_blk hb1 X2.out)
     have X3n:=Lib.hid (keep_blk hb1 X3.out)
     clear hb1 HB HW6 HX XA XB X2 X3
     have HB:=HBn;have HW6:=HW6n;have HX:=HXn;have XA:=XAn;have XB:=XBn;have X2:=X2n;have X3:=X3n
     clear HBn HW6n HXn XAn XBn X2n X3n
     clear NB1
     go_wp2_with (first
       | (refine wpList_load_row rfl 37 (.tmp 12) rfl g2 rfl 37 _ (0,0) _ X2.out Tryd.underlying37 rfl (by kernel_rfl) ?_)
       | fail)
     refine (NO.out v2 HB.out HW6.out HX.out).mono ?_
     rintro e v3 ⟨rfl,hb1⟩
     have HBn:=Lib.hid (HB.out.trans (hb1.mono HB.out.size))
     have HW6n:=Lib.hid (HW6.out.trans (hb1.mono HW6.out.size))
     have HXn:=Lib.hid (HX.out.below hb1)
     have XAn:=Lib.hid (keep_blk hb1 XA.out)
     have XBn:=Lib.hid (keep_blk hb1 XB.out)
     have X2n:=Lib.hid (keep_blk hb1 X2.out)
     have X3n:=Lib.hid (keep_blk hb1 X3.out)
     clear hb1 HB HW6 HX XA XB X2 X3
     have HB:=HBn;have HW6:=HW6n;have HX:=HXn;have XA:=XAn;have XB:=XBn;have X2:=X2n;have X3:=X3n
     clear HBn HW6n HXn XAn XBn X2n X3n
     clear NO
     go_wp2_with (first
       | (refine wpList_load_row rfl 37 (.tmp 13) rfl g3 rfl 37 _ (0,0) _ X3.out Tryd.underlying37 rfl (by kernel_rfl) ?_)
       | fail)
     refine (NG.out v3 HB.out HW6.out HX.out).mono ?_
     rintro e v4 ⟨rfl,hb1⟩
     have HBn:=Lib.hid (HB.out.trans (hb1.mono HB.out.size))
     have HW6n:=Lib.hid (HW6.out.trans (hb1.mono HW6.out.size))
     have HXn:=Lib.hid (HX.out.below hb1)
     have XAn:=Lib.hid (keep_blk hb1 XA.out)
     have XBn:=Lib.hid (keep_blk hb1 XB.out)
     have X2n:=Lib.hid (keep_blk hb1 X2.out)
     have X3n:=Lib.hid (keep_blk hb1 X3.out)
     clear hb1 HB HW6 HX XA XB X2 X3
     have HB:=HBn;have HW6:=HW6n;have HX:=HXn;have XA:=XAn;have XB:=XBn;have X2:=X2n;have X3:=X3n
     clear HBn HW6n HXn XAn XBn X2n X3n
     clear NG
     have ws:IntKind.i64.wrap ((pp:Int)+(qq:Int))=((pp+qq:Nat):Int):=by rw [IntWalk.i64_in _ (by have:=HPA.out;have:=HPB.out;omega)];omega
     have hmin1:min (1000000:Int) ((pp+qq:Nat):Int)=(so:Int):=by have:=HOR.out;omega
     have hmin2:(if ((pp+qq:Nat):Int) < 1000000 then ((pp+qq:Nat):Int) else 1000000)=(so:Int):=by have:=HOR.out;split <;> omega
     generalize hY:pp+qq=Y at *
     go_wp2
     go_ret
     exact ⟨rfl,HB.out⟩
end Go.Proofs.YtedjkbmfpjmlpaaDoor
namespace Go.Proofs.YtedjkbmfpjmlpaaDoor
open Go.ChangeShapes Go.WideShapes Go.ChangeAt Go.RowKit
theorem Tryd.cellsSet:Tryd.prog.cellsOf 24=4:=by kernel_rfl
theorem Tryd.cellsU64:Tryd.prog.cellsOf 22=1:=by kernel_rfl
theorem word_of {n:Int} (h:(Lit.int .u64 n).wf=true):∃ x:BitVec 64,n=Oc.U x:=by
 simp only [Lit.wf,IntKind.min,IntKind.max,IntKind.signed,IntKind.bits,Bool.and_eq_true] at h
 refine ⟨BitVec.ofInt 64 n, ?_⟩
 unfold Oc.U;rw [BitVec.toNat_ofInt]
 have h1:=h.1;have h2:=h.2
 simp at h1 h2
 omega
theorem open_words {H:Type} {enc:TypeId × Value→H} {w:World} {base:Nat} {spare:Nat→Bool} {held:Bool} {fuel:Nat} {c0 c1 c2 c3:Value} {x:DataW H × List MemPlace}
   (h:DataW.trod enc Tryd.prog w base spare held fuel 24 [c0,c1,c2,c3]=some x):∃ a b c d:BitVec 64,c0=.int .u64 (Oc.U a)∧c1=.int .u64 (Oc.U b)∧c2=.int .u64 (Oc.U c)∧c3=.int .u64 (Oc.U d):=by
 obtain ⟨y0,y1,y2,y3,n,_,h0,h1,h2,h3⟩:=trod_array4 Tryd.underlying24 Tryd.cellsU64 h
 obtain ⟨n0,e0,-,w0⟩:=DataW.trod_int Tryd.underlying22 h0
 obtain ⟨n1,e1,-,w1⟩:=DataW.trod_int Tryd.underlying22 h1
 obtain ⟨n2,e2,-,w2⟩:=DataW.trod_int Tryd.underlying22 h2
 obtain ⟨n3,e3,-,w3⟩:=DataW.trod_int Tryd.underlying22 h3
 obtain ⟨a,rfl⟩:=word_of w0
 obtain ⟨b,rfl⟩:=word_of w1
 obtain ⟨c,rfl⟩:=word_of w2
 obtain ⟨d,rfl⟩:=word_of w3
 simp only [List.cons.injEq,and_true] at e0 e1 e2 e3
 exact ⟨a,b,c,d,e0,e1,e2,e3⟩
theorem Tryd.own:ownKnob Tryd.prog.godebug=none:=by kernel_rfl
theorem Tryd.laidOut:laidOutB Tryd.prog=true:=by kernel_rfl
end Go.Proofs.YtedjkbmfpjmlpaaDoor
namespace Go.Proofs.YtedjkbmfpjmlpaaDoor
open Go.ChangeShapes Go.WideShapes Go.ChangeAt Go.RowKit
theorem Tryd.cellsNodeO:Tryd.prog.cellsOf 37=10:=by kernel_rfl
theorem Tryd.cellsIntO:Tryd.prog.cellsOf 3=1:=by kernel_rfl
theorem Tryd.cellsBoolO:Tryd.prog.cellsOf 4=1:=by kernel_rfl
theorem Tryd.cellsNodesO:Tryd.prog.cellsOf 35=1:=by kernel_rfl
theorem Tryd.bytesNodeO:Tryd.prog.bytesOf 37=96:=by kernel_rfl
theorem list10 {α:Type} {l:List α} (h:l.length=10):∃ a0 a1 a2 a3 a4 a5 a6 a7 a8 a9,l=[a0,a1,a2,a3,a4,a5,a6,a7,a8,a9]:=by
 match l,h with
 | [a0,a1,a2,a3,a4,a5,a6,a7,a8,a9],_=>exact ⟨a0,a1,a2,a3,a4,a5,a6,a7,a8,a9,rfl⟩
theorem list7 {α:Type} {l:List α} (h:l.length=7):∃ a0 a1 a2 a3 a4 a5 a6,l=[a0,a1,a2,a3,a4,a5,a6]:=by
 match l,h with
 | [a0,a1,a2,a3,a4,a5,a6],_=>exact ⟨a0,a1,a2,a3,a4,a5,a6,rfl⟩
theorem weightsAll_mem {H:Type} {P:Program} {e:TypeId} {k:Nat} {d:DataW H} : ∀ {l:List (DataW H)},d ∈ l→k ∈ d.weights P e→k ∈ DataW.weightsAll P e l
 | [],h,_=>by cases h
 | x :: l,h,hk=>by
   rw [DataW.weightsAll]
   rcases List.mem_cons.1 h with rfl | h
   · exact List.mem_append_left _ hk
   · exact List.mem_append_right _ (weightsAll_mem h hk)
theorem add_at {a:Addr} (h:a.spot=none) (m:Nat):a.add m=⟨a.block,a.off+m,none⟩:=by
 unfold Addr.add
 split
 · rename_i h0;subst h0;cases a;simp_all
 · rfl
theorem open_node {H:Type} {enc:TypeId × Value→H} {W:World} {base:Nat} {spare:Nat→Bool} {held:Bool} : ∀ (fuel:Nat) (cs:List Value) (x:DataW H × List MemPlace),
   DataW.trod enc Tryd.prog W base spare held fuel 37 cs=some x→(∀ k,k ∈ x.1.weights Tryd.prog 37→k ≤ 140737488351232) →
   ∃ (t:Tr) (s:Value),cs=(t.cells s).toList∧TreesAt W (fun _=>True) s t.subs:=by
 intro fuel
 induction fuel using Nat.strongRecOn with
 | _ fuel ih =>
   intro cs x h hw
   obtain ⟨xs,n,rfl,rfl,hlen,hxs,hf⟩:=DataW.trod_struct Tryd.underlying37 h
   rw [Tryd.cellsNodeO] at hlen
   obtain ⟨c0,c1,c2,c3,c4,c5,c6,c7,c8,c9,rfl⟩:=list10 hlen
   obtain ⟨y0,y1,y2,y3,y4,y5,y6,rfl⟩:=list7 (by simpa using hxs)
   have f0:=hf 0 _ rfl;have f1:=hf 1 _ rfl;have f2:=hf 2 _ rfl;have f3:=hf 3 _ rfl;have f4:=hf 4 _ rfl;have f5:=hf 5 _ rfl;have f6:=hf 6 _ rfl
   simp only [List.getElem_toArray,List.getElem_cons_zero,List.getElem_cons_succ,Tryd.cellsIntO,Tryd.cellsBoolO,Tryd.cellsNodesO,Tryd.cellsSet,List.drop_zero,List.drop_succ_cons,List.take_succ_cons,List.take_zero,List.getElem?_cons_zero,List.getElem?_cons_succ] at f0 f1 f2 f3 f4 f5 f6
   obtain ⟨k,e0,-,-⟩:=DataW.trod_int Tryd.underlying3 f0
   obtain ⟨a,b,c,d,rfl,rfl,rfl,rfl⟩:=open_words f1
   obtain ⟨nn,e3,-,-⟩:=DataW.trod_int Tryd.underlying3 f3
   obtain ⟨lo,e4,-,-⟩:=DataW.trod_int Tryd.underlying3 f4
   obtain ⟨hi,e5,-,-⟩:=DataW.trod_int Tryd.underlying3 f5
   obtain ⟨br,e6,-⟩:=DataW.trod_bool Tryd.underlying4 f6
   simp only [List.cons.injEq,and_true] at e0 e3 e4 e5 e6
   subst e0 e3 e4 e5 e6
   have fin:∀ (ts:List Tr),TreesAt W (fun _=>True) c5 ts→∃ (t:Tr) (s:Value),[.int .i64 k,.int .u64 (Oc.U a),.int .u64 (Oc.U b),.int .u64 (Oc.U c),.int .u64 (Oc.U d),c5,.int .i64 nn,.int .i64 lo,.int .i64 hi,.bool br]=(t.cells s).toList∧TreesAt W (fun _=>True) s t.subs :=
     fun ts hts=>⟨.node k a b c d ts nn lo hi br,c5,rfl,hts⟩
   rcases DataW.trod_slice Tryd.underlying35 f2 with ⟨hc5,-⟩ | ⟨ad,len,cap,elems,rest,n',rfl,hc5,hx,-,-,-,hel,hall,-,-⟩
   · simp only [List.cons.injEq,and_true] at hc5
     subst hc5
     exact fin [] TreesAt.nil
   · simp only [List.cons.injEq,and_true] at hc5
     subst hc5
     rw [Tryd.cellsNodeO] at hall
     have hwn:∀ k,k ∈ y2.1.weights Tryd.prog 35→k ≤ 140737488351232:=fun k hk=>hw k (by
       rw [DataW.weights,Tryd.underlying37]
       exact DataW.weights_mem_each (j:=2) rfl rfl k hk)
     have hlen96:len * 96 ≤ 140737488351232:=by
       have:=hwn ((elems.length+rest.length) * 96) (by
         rw [hx]
         simp only [DataW.weights,Tryd.underlying35,Tryd.bytesNodeO,List.length_map]
         exact List.mem_cons_self)
       rw [hel] at this
       have h2:len * 96 ≤ (len+rest.length) * 96:=Nat.mul_le_mul_right _ (by omega)
       omega
     have key:∀ i,∃ (t:Tr) (s:Value),i < len→(∃ b o,some ad=some ⟨b,o,none⟩∧TenAt W b (o+i * 10) t s)∧TreesAt W (fun _=>True) s t.subs:=by
       intro i
       by_cases hi:i < len
       · have h1:=hall i hi
         rw [List.getElem?_eq_getElem (by omega)] at h1
         obtain ⟨csi,hcs,htr⟩:=Option.bind_eq_some_iff.1 h1
         obtain ⟨t,s,hts,hsub⟩:=ih n' (by omega) csi _ htr (fun k hk=>hwn k (by
           rw [hx]
           simp only [DataW.weights,Tryd.underlying35]
           refine List.mem_cons_of_mem _ (List.mem_append_left _ (weightsAll_mem (d:=elems[i].1) ?_ hk))
           exact List.mem_map.2 ⟨elems[i],List.getElem_mem _,rfl⟩))
         obtain ⟨-,-,hcell⟩:=World.cells?_some hcs
         have hspot:ad.spot=none:=by
           have h0:=hall 0 (by omega)
           rw [List.getElem?_eq_getElem (by omega)] at h0
           obtain ⟨cs0,hcs0,htr0⟩:=Option.bind_eq_some_iff.1 h0
           obtain ⟨t0,s0,hts0,-⟩:=ih n' (by omega) cs0 _ htr0 (fun k hk=>hwn k (by
             rw [hx]
             simp only [DataW.weights,Tryd.underlying35]
             refine List.mem_cons_of_mem _ (List.mem_append_left _ (weightsAll_mem (d:=elems[0].1) ?_ hk))
             exact List.mem_map.2 ⟨elems[0],List.getElem_mem _,rfl⟩))
           have h2:=(World.cells?_some hcs0).2.2 0 (by omega)
           rw [hts0] at h2
           have e:(ad.add (0 * 10)).add 0=ad:=by simp [Addr.add]
           rw [e] at h2
           cases hsp:ad.spot with
           | none=>rfl
           | some z =>
             unfold World.cell? at h2
             rw [hsp] at h2
             split at h2 <;> simp [Tr.cells] at h2
         have hadd:∀ j,(ad.add (i * 10)).add j=⟨ad.block,ad.off+i * 10+j,none⟩:=fun j=>by
           rw [add_at hspot,add_at (a:=⟨ad.block,ad.off+i * 10,none⟩) rfl]
         refine ⟨t,s,fun _=>⟨⟨ad.block,ad.off,by cases ad;simp_all, ?_⟩,hsub⟩⟩
         rw [hts] at hcell
         have get:∀ j u,j < 10→(t.cells s).toList[j]? = some u→W.cell? ⟨ad.block,ad.off+i * 10+j,none⟩=some u:=fun j u hj hu=>by
           rw [← hadd j,hcell j hj,hu]
         exact ⟨get 0 _ (by omega) rfl,get 1 _ (by omega) rfl,get 2 _ (by omega) rfl,get 3 _ (by omega) rfl,get 4 _ (by omega) rfl,get 5 _ (by omega) rfl,get 6 _ (by omega) rfl,get 7 _ (by omega) rfl,get 8 _ (by omega) rfl,get 9 _ (by omega) rfl⟩
       · exact ⟨.node 0 0#64 0#64 0#64 0#64 [] 0 0 0 false,.nilIface,fun h=>absurd h hi⟩
     obtain ⟨T,hT⟩:=Classical.axiomOfChoice key
     obtain ⟨S,hS⟩:=Classical.axiomOfChoice hT
     have hl:((List.range len).map T).length=len:=by simp
     have hg:∀ i t,((List.range len).map T)[i]? = some t→i < len∧t=T i:=fun i t h=>by
       rw [List.getElem?_map] at h
       by_cases hi:i < len
       · rw [List.getElem?_range hi] at h
         exact ⟨hi,(Option.some.inj h).symm⟩
       · rw [List.getElem?_eq_none (by simp;omega)] at h;cases h
     have:=TreesAt.mk (w:=W) (B:=fun _=>True) (some ad) cap ((List.range len).map T) S (by rw [hl];exact hlen96) (fun i t h=>by
       obtain ⟨hi,rfl⟩:=hg i t h
       obtain ⟨⟨b,o,e,ht⟩,-⟩:=hS i hi
       exact ⟨b,o,e,trivial,ht⟩) (fun i t h=>by
       obtain ⟨hi,rfl⟩:=hg i t h
       exact (hS i hi).2)
     rw [hl] at this
     exact fin _ this
theorem open_tree {H:Type} {enc:TypeId × Value→H} {w:World} {base b0:Nat} {spare:Nat→Bool} {held:Bool} {v:Value} {y:DataW H} {ps:List MemPlace} {r:Reach}
   (hv:Value.okWide Tryd.prog w r b0 37 v) (h:DataW.Trod enc Tryd.prog w base spare held 37 v y ps) (hw:∀ k,k ∈ y.weights Tryd.prog 37→k ≤ 140737488351232):∃ t,NodeV w (fun _=>True) v t:=by
 unfold Value.okWide at hv
 rw [Tryd.underlying37] at hv
 obtain ⟨cs,rfl,hsz,-⟩:=hv
 obtain ⟨fuel,hf⟩:=h
 obtain ⟨t,s,e,hs⟩:=open_node fuel _ _ hf hw
 refine ⟨t,s, ?_,hs⟩
 simp only [Value.cells] at e
 exact congrArg Value.agg (Array.toList_inj.1 e)
end Go.Proofs.YtedjkbmfpjmlpaaDoor
namespace Go.Proofs.YtedjkbmfpjmlpaaDoor
open Go.ChangeShapes Go.WideShapes Go.ChangeAt Go.RowKit
theorem im_laid_split {P:Program} {l:List (String × DataW Unit)} {W:World} (h:laidMetH P l W):laidMet P (l.filter fun x=>x.2.handleName?.isNone) W:=by
 unfold laidMetH at h
 generalize hfl:(l.filter fun x=>x.2.handleName?.isSome)=fl at h
 cases fl with
 | nil =>
   have e:(l.filter fun x=>x.2.handleName?.isNone)=l:=by
     rw [List.filter_eq_self]
     intro x hx
     have:=List.filter_eq_nil_iff.1 hfl x hx
     cases hh:x.2.handleName? with
     | none=>rfl
     | some y=>rw [hh] at this;simp at this
   rw [e]
   exact h
 | cons x r=>exact h.1
end Go.Proofs.YtedjkbmfpjmlpaaDoor
