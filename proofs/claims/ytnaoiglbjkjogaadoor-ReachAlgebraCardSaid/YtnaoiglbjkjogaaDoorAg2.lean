/- Part 2 of what these proofs need. -/
import Derived.Laws.EntriesVeiled
import Derived.Lib.Tables
import Derived.Test.YtnaoiglbjkjogaaDoorAg1
set_option maxRecDepth 100000
set_option maxHeartbeats 16000000
namespace Go.Proofs.YtnaoiglbjkjogaaDoor
open Go.RowKit
theorem emptyP_in {n:Nat} {q:Nat→Bool} {k:Nat} (h:k ≤ n):Re.emptyP n q k=if q k=true then 1#64 <<< k else 0#64:=by
 unfold Re.emptyP
 cases q k <;> simp [h]
theorem firstP_here (P:Nat→BitVec 64) (k:Nat):firstP P k k=0#64:=by unfold firstP;rw [if_neg (by omega)]
theorem firstP_skip {P:Nat→BitVec 64} {k:Nat} (h:P k=0#64):firstP P (k+1)=firstP P k:=by
 funext j
 by_cases e:j=k
 · subst e;rw [firstP_at,firstP_here,h]
 · exact firstP_next _ _ _ e
theorem firstP_done {P:Nat→BitVec 64} {n:Nat} (h:∀ i,n ≤ i→P i=0#64):firstP P n=P:=by
 funext i
 unfold firstP
 by_cases e:i < n
 · rw [if_pos e]
 · rw [if_neg e,h i (by omega)]
theorem reeverywhere_any (i:Int) (w:World):Calls Tryd.prog 91 #[.int .i64 i] w fun e w'=>e=.returned (.bool true)∧w'=w:=by
 go_enter Tryd.func91,Tryd.ntmps91
 go_wp2
 go_ret
 exact ⟨rfl,rfl⟩
theorem reemptybeg_any (x:Sc) (b:Nat) (hn:x.t.size ≤ 63) (w:World) (hx:ScAt w b x):Calls Tryd.prog 85 #[.pointer (some ⟨b,0,none⟩),.func (.func 86) #[.pointer (some ⟨b,0,none⟩)] #[]] w fun e w'=>e=.returned (.agg (words (Re.emptyP x.t.size fun k=>x.beg (k:Int))))∧Below w.heap.size w w':=by
 have hz:=words_zero
 have HL:=Lib.hid (fun w9 (hb:Below w.heap.size w w9)=>sclen_any x b w9 (hx.below hb))
 have HQ:=Lib.hid (fun (k:Nat) (_hk:k ≤ x.t.size) w9 (hb:Below w.heap.size w w9)=>scbeg_any x b (k:Int) w9 (hx.below hb) (by omega) (by omega))
 have HP:=Lib.hid (fun (k:Nat) (hk:k ≤ x.t.size)=>emptyP_in (q:=fun k=>x.beg (k:Int)) hk)
 have HF:=Lib.hid (firstP_done (P:=Re.emptyP x.t.size fun k=>x.beg (k:Int)) (n:=x.t.size+1) (fun i hi=>by unfold Re.emptyP;rw [if_neg (by omega)]))
 clear hx
 generalize hPP:(Re.emptyP x.t.size fun k=>x.beg (k:Int))=PP at *
 clear hPP
 go_enter Tryd.func85,Tryd.ntmps85
 go_wp2_with fail
 have y0:((w.alloc (.cells (words fun _=>0#64) 94)).alloc (.cells (words fun _=>0#64) 94)).heap[w.heap.size]? = some (.cells (words fun _=>0#64) 94):=heap_alloc_lt (row_new _ _ _ rfl)
 have y1:((w.alloc (.cells (words fun _=>0#64) 94)).alloc (.cells (words fun _=>0#64) 94)).heap[w.heap.size+1]? = some (.cells (words (firstP PP 0)) 94):=by rw [← firstP_zero];exact row_new _ _ _ (by simp)
 have hB:Below w.heap.size w ((w.alloc (.cells (words fun _=>0#64) 94)).alloc (.cells (words fun _=>0#64) 94)):=by go_grown
 have Z0:=Lib.hid y0;have Z1:=Lib.hid y1;have HB:=Lib.hid hB
 clear y0 y1 hB hz
 generalize ((w.alloc (.cells (words fun _=>0#64) 94)).alloc (.cells (words fun _=>0#64) 94))=W at *
 refine (HL.out W HB.out).mono ?_
 rintro e w' ⟨rfl,rfl⟩
 clear HL
 have wn:IntKind.i64.wrap ((x.t.size:Int)+1)=(x.t.size:Int)+1:=IntWalk.i64_in _ (by omega)
 generalize x.t.size=n at *
 go_wp2
 go_loopw [10] (fun iv wr=>∃ k:Nat,iv=.int .i64 (k:Int)∧k ≤ n+1∧Hid (Below w.heap.size w wr)∧Hid (wr.heap[w.heap.size]? = some (.cells (words fun _=>0#64) 94))∧Hid (wr.heap[w.heap.size+1]? = some (.cells (words (firstP PP k)) 94))) (fun iv _=>n+1 - (intOf iv).toNat)
 case atStart=>exact ⟨0,rfl,Nat.zero_le _,HB,Z0,Z1⟩
 case round =>
   clear HB Z0 Z1
   obtain ⟨k,rfl,hk,HB,Z0,Z1⟩:=hrel
   by_cases hle:k ≤ n
   · have hk64:k < 64:=by omega
     have wi:IntKind.i64.wrap ((k:Int)+1)=(k:Int)+1:=IntWalk.i64_in _ (by omega)
     have hd1:decide ((k:Int) < (n:Int)+1)=true:=decide_eq_true (by omega)
     have hki:(k:Int) < 64:=by omega
     have hkn:(k:Int) < (n:Int)+1:=by omega
     have HC:=Lib.hid (HQ.out k hle wr HB.out)
     have hp:=HP.out k hle
     have HO:=Lib.hid (fun w=>reonly_any k hk64 w)
     obtain ⟨l0,f0⟩:=word_cell hk64 Z1.out
     have K1:=Lib.hid (fun (x9:BitVec 64) (h:PP k=x9)=>word_set (Q:=firstP PP (k+1)) hk64 Z1.out ((firstP_at PP k).trans h) (fun j hj=>firstP_next PP k j hj))
     clear HQ HP
     cases hq:x.beg (k:Int) with
     | true =>
       rw [if_pos hq] at hp
       have K2:=Lib.hid (K1.out _ hp)
       clear hp K1
       rw [hq] at HC
       clear hq
       go_wp2_with fail
       refine HC.out.mono ?_
       rintro e w' ⟨rfl,rfl⟩
       go_wp2_with fail
       refine (HO.out _).mono ?_
       rintro e w' ⟨rfl,rfl⟩
       go_wp2
       refine ⟨⟨k+1,by go_num,by omega,Lib.hid (HB.out.setCell (by show w.heap.size ≤ w.heap.size+1;omega) _),Lib.hid ?_,K2⟩,by simp [intOf];omega⟩
       exact (Below.heap_setCell _ _ _ _ (by show w.heap.size ≠ w.heap.size+1;omega)).trans Z0.out
     | false =>
       rw [if_neg (by rw [hq];decide)] at hp
       have hs:=firstP_skip hp
       have Z2:=Lib.hid (show wr.heap[w.heap.size+1]? = some (.cells (words (firstP PP (k+1))) 94) by rw [hs];exact Z1.out)
       clear hp K1 hs
       rw [hq] at HC
       clear hq
       go_wp2_with fail
       refine HC.out.mono ?_
       rintro e w' ⟨rfl,rfl⟩
       go_wp2
       exact ⟨⟨k+1,by go_num,by omega,HB,Z0,Z2⟩,by simp [intOf];omega⟩
   · obtain rfl:k=n+1:=by omega
     have hd1:decide (((n+1:Nat):Int) < (n:Int)+1)=false:=decide_eq_false (by omega)
     have z1:=Z1.out
     rw [HF.out] at z1
     have Y1:=Lib.hid z1
     clear z1 Z1 HF HP HQ
     go_wp2_with (first
       | (refine wpList_load_row rfl 94 (.tmp 5) rfl (w.heap.size+1) rfl 94 (words PP) (0,0) _ Y1.out Tryd.underlying94 rfl (by rw [words_size];kernel_rfl) ?_)
       | (refine wpList_store_row rfl 94 (.tmp 4) (.tmp 21) rfl w.heap.size (words PP) rfl rfl 94 _ Z0.out (by rw [words_size];kernel_rfl) (by rw [words_size,words_size]) (words_one _) ?_)
       | fail)
     exact bodyPost_ret (results_cell_row rfl _ _ w.heap.size 94 (words PP) (0,0) _ rfl (heap_setRow Z0.out) Tryd.underlying94 rfl (by rw [words_size];kernel_rfl)) rfl ⟨rfl,below_setRow HB.out (Nat.le_refl _) _⟩
theorem reemptyend_any (x:Sc) (b:Nat) (hn:x.t.size ≤ 63) (w:World) (hx:ScAt w b x):Calls Tryd.prog 85 #[.pointer (some ⟨b,0,none⟩),.func (.func 87) #[.pointer (some ⟨b,0,none⟩)] #[]] w fun e w'=>e=.returned (.agg (words (Re.emptyP x.t.size fun k=>x.fin (k:Int))))∧Below w.heap.size w w':=by
 have hz:=words_zero
 have HL:=Lib.hid (fun w9 (hb:Below w.heap.size w w9)=>sclen_any x b w9 (hx.below hb))
 have HQ:=Lib.hid (fun (k:Nat) (_hk:k ≤ x.t.size) w9 (hb:Below w.heap.size w w9)=>scfin_any x b (k:Int) w9 (hx.below hb))
 have HP:=Lib.hid (fun (k:Nat) (hk:k ≤ x.t.size)=>emptyP_in (q:=fun k=>x.fin (k:Int)) hk)
 have HF:=Lib.hid (firstP_done (P:=Re.emptyP x.t.size fun k=>x.fin (k:Int)) (n:=x.t.size+1) (fun i hi=>by unfold Re.emptyP;rw [if_neg (by omega)]))
 clear hx
 generalize hPP:(Re.emptyP x.t.size fun k=>x.fin (k:Int))=PP at *
 clear hPP
 go_enter Tryd.func85,Tryd.ntmps85
 go_wp2_with fail
 have y0:((w.alloc (.cells (words fun _=>0#64) 94)).alloc (.cells (words fun _=>0#64) 94)).heap[w.heap.size]? = some (.cells (words fun _=>0#64) 94):=heap_alloc_lt (row_new _ _ _ rfl)
 have y1:((w.alloc (.cells (words fun _=>0#64) 94)).alloc (.cells (words fun _=>0#64) 94)).heap[w.heap.size+1]? = some (.cells (words (firstP PP 0)) 94):=by rw [← firstP_zero];exact row_new _ _ _ (by simp)
 have hB:Below w.heap.size w ((w.alloc (.cells (words fun _=>0#64) 94)).alloc (.cells (words fun _=>0#64) 94)):=by go_grown
 have Z0:=Lib.hid y0;have Z1:=Lib.hid y1;have HB:=Lib.hid hB
 clear y0 y1 hB hz
 generalize ((w.alloc (.cells (words fun _=>0#64) 94)).alloc (.cells (words fun _=>0#64) 94))=W at *
 refine (HL.out W HB.out).mono ?_
 rintro e w' ⟨rfl,rfl⟩
 clear HL
 have wn:IntKind.i64.wrap ((x.t.size:Int)+1)=(x.t.size:Int)+1:=IntWalk.i64_in _ (by omega)
 generalize x.t.size=n at *
 go_wp2
 go_loopw [10] (fun iv wr=>∃ k:Nat,iv=.int .i64 (k:Int)∧k ≤ n+1∧Hid (Below w.heap.size w wr)∧Hid (wr.heap[w.heap.size]? = some (.cells (words fun _=>0#64) 94))∧Hid (wr.heap[w.heap.size+1]? = some (.cells (words (firstP PP k)) 94))) (fun iv _=>n+1 - (intOf iv).toNat)
 case atStart=>exact ⟨0,rfl,Nat.zero_le _,HB,Z0,Z1⟩
 case round =>
   clear HB Z0 Z1
   obtain ⟨k,rfl,hk,HB,Z0,Z1⟩:=hrel
   by_cases hle:k ≤ n
   · have hk64:k < 64:=by omega
     have wi:IntKind.i64.wrap ((k:Int)+1)=(k:Int)+1:=IntWalk.i64_in _ (by omega)
     have hd1:decide ((k:Int) < (n:Int)+1)=true:=decide_eq_true (by omega)
     have hki:(k:Int) < 64:=by omega
     have hkn:(k:Int) < (n:Int)+1:=by omega
     have HC:=Lib.hid (HQ.out k hle wr HB.out)
     have hp:=HP.out k hle
     have HO:=Lib.hid (fun w=>reonly_any k hk64 w)
     obtain ⟨l0,f0⟩:=word_cell hk64 Z1.out
     have K1:=Lib.hid (fun (x9:BitVec 64) (h:PP k=x9)=>word_set (Q:=firstP PP (k+1)) hk64 Z1.out ((firstP_at PP k).trans h) (fun j hj=>firstP_next PP k j hj))
     clear HQ HP
     cases hq:x.fin (k:Int) with
     | true =>
       rw [if_pos hq] at hp
       have K2:=Lib.hid (K1.out _ hp)
       clear hp K1
       rw [hq] at HC
       clear hq
       go_wp2_with fail
       refine HC.out.mono ?_
       rintro e w' ⟨rfl,rfl⟩
       go_wp2_with fail
       refine (HO.out _).mono ?_
       rintro e w' ⟨rfl,rfl⟩
       go_wp2
       refine ⟨⟨k+1,by go_num,by omega,Lib.hid (HB.out.setCell (by show w.heap.size ≤ w.heap.size+1;omega) _),Lib.hid ?_,K2⟩,by simp [intOf];omega⟩
       exact (Below.heap_setCell _ _ _ _ (by show w.heap.size ≠ w.heap.size+1;omega)).trans Z0.out
     | false =>
       rw [if_neg (by rw [hq];decide)] at hp
       have hs:=firstP_skip hp
       have Z2:=Lib.hid (show wr.heap[w.heap.size+1]? = some (.cells (words (firstP PP (k+1))) 94) by rw [hs];exact Z1.out)
       clear hp K1 hs
       rw [hq] at HC
       clear hq
       go_wp2_with fail
       refine HC.out.mono ?_
       rintro e w' ⟨rfl,rfl⟩
       go_wp2
       exact ⟨⟨k+1,by go_num,by omega,HB,Z0,Z2⟩,by simp [intOf];omega⟩
   · obtain rfl:k=n+1:=by omega
     have hd1:decide (((n+1:Nat):Int) < (n:Int)+1)=false:=decide_eq_false (by omega)
     have z1:=Z1.out
     rw [HF.out] at z1
     have Y1:=Lib.hid z1
     clear z1 Z1 HF HP HQ
     go_wp2_with (first
       | (refine wpList_load_row rfl 94 (.tmp 5) rfl (w.heap.size+1) rfl 94 (words PP) (0,0) _ Y1.out Tryd.underlying94 rfl (by rw [words_size];kernel_rfl) ?_)
       | (refine wpList_store_row rfl 94 (.tmp 4) (.tmp 21) rfl w.heap.size (words PP) rfl rfl 94 _ Z0.out (by rw [words_size];kernel_rfl) (by rw [words_size,words_size]) (words_one _) ?_)
       | fail)
     exact bodyPost_ret (results_cell_row rfl _ _ w.heap.size 94 (words PP) (0,0) _ rfl (heap_setRow Z0.out) Tryd.underlying94 rfl (by rw [words_size];kernel_rfl)) rfl ⟨rfl,below_setRow HB.out (Nat.le_refl _) _⟩
theorem reemptyall_any (x:Sc) (b:Nat) (hn:x.t.size ≤ 63) (w:World) (hx:ScAt w b x):Calls Tryd.prog 85 #[.pointer (some ⟨b,0,none⟩),.func (.func 91) #[] #[]] w fun e w'=>e=.returned (.agg (words (Re.emptyP x.t.size fun _=>true)))∧Below w.heap.size w w':=by
 have hz:=words_zero
 have HL:=Lib.hid (fun w9 (hb:Below w.heap.size w w9)=>sclen_any x b w9 (hx.below hb))
 have HQ:=Lib.hid (fun (k:Nat) w9=>reeverywhere_any (k:Int) w9)
 have HP:=Lib.hid (fun (k:Nat) (hk:k ≤ x.t.size)=>emptyP_in (q:=fun _=>true) hk)
 have HF:=Lib.hid (firstP_done (P:=Re.emptyP x.t.size fun _=>true) (n:=x.t.size+1) (fun i hi=>by unfold Re.emptyP;rw [if_neg (by omega)]))
 clear hx
 generalize hPP:(Re.emptyP x.t.size fun _=>true)=PP at *
 clear hPP
 go_enter Tryd.func85,Tryd.ntmps85
 go_wp2_with fail
 have y0:((w.alloc (.cells (words fun _=>0#64) 94)).alloc (.cells (words fun _=>0#64) 94)).heap[w.heap.size]? = some (.cells (words fun _=>0#64) 94):=heap_alloc_lt (row_new _ _ _ rfl)
 have y1:((w.alloc (.cells (words fun _=>0#64) 94)).alloc (.cells (words fun _=>0#64) 94)).heap[w.heap.size+1]? = some (.cells (words (firstP PP 0)) 94):=by rw [← firstP_zero];exact row_new _ _ _ (by simp)
 have hB:Below w.heap.size w ((w.alloc (.cells (words fun _=>0#64) 94)).alloc (.cells (words fun _=>0#64) 94)):=by go_grown
 have Z0:=Lib.hid y0;have Z1:=Lib.hid y1;have HB:=Lib.hid hB
 clear y0 y1 hB hz
 generalize ((w.alloc (.cells (words fun _=>0#64) 94)).alloc (.cells (words fun _=>0#64) 94))=W at *
 refine (HL.out W HB.out).mono ?_
 rintro e w' ⟨rfl,rfl⟩
 clear HL
 have wn:IntKind.i64.wrap ((x.t.size:Int)+1)=(x.t.size:Int)+1:=IntWalk.i64_in _ (by omega)
 generalize x.t.size=n at *
 go_wp2
 go_loopw [10] (fun iv wr=>∃ k:Nat,iv=.int .i64 (k:Int)∧k ≤ n+1∧Hid (Below w.heap.size w wr)∧Hid (wr.heap[w.heap.size]? = some (.cells (words fun _=>0#64) 94))∧Hid (wr.heap[w.heap.size+1]? = some (.cells (words (firstP PP k)) 94))) (fun iv _=>n+1 - (intOf iv).toNat)
 case atStart=>exact ⟨0,rfl,Nat.zero_le _,HB,Z0,Z1⟩
 case round =>
   clear HB Z0 Z1
   obtain ⟨k,rfl,hk,HB,Z0,Z1⟩:=hrel
   by_cases hle:k ≤ n
   · have hk64:k < 64:=by omega
     have wi:IntKind.i64.wrap ((k:Int)+1)=(k:Int)+1:=IntWalk.i64_in _ (by omega)
     have hd1:decide ((k:Int) < (n:Int)+1)=true:=decide_eq_true (by omega)
     have hki:(k:Int) < 64:=by omega
     have hkn:(k:Int) < (n:Int)+1:=by omega
     have HC:=Lib.hid (HQ.out k wr)
     have hp:=HP.out k hle
     have HO:=Lib.hid (fun w=>reonly_any k hk64 w)
     obtain ⟨l0,f0⟩:=word_cell hk64 Z1.out
     have K1:=Lib.hid (fun (x9:BitVec 64) (h:PP k=x9)=>word_set (Q:=firstP PP (k+1)) hk64 Z1.out ((firstP_at PP k).trans h) (fun j hj=>firstP_next PP k j hj))
     clear HQ HP
     · simp only [if_true] at hp
       have K2:=Lib.hid (K1.out _ hp)
       clear hp K1
       go_wp2_with fail
       refine HC.out.mono ?_
       rintro e w' ⟨rfl,rfl⟩
       go_wp2_with fail
       refine (HO.out _).mono ?_
       rintro e w' ⟨rfl,rfl⟩
       go_wp2
       refine ⟨⟨k+1,by go_num,by omega,Lib.hid (HB.out.setCell (by show w.heap.size ≤ w.heap.size+1;omega) _),Lib.hid ?_,K2⟩,by simp [intOf];omega⟩
       exact (Below.heap_setCell _ _ _ _ (by show w.heap.size ≠ w.heap.size+1;omega)).trans Z0.out
   · obtain rfl:k=n+1:=by omega
     have hd1:decide (((n+1:Nat):Int) < (n:Int)+1)=false:=decide_eq_false (by omega)
     have z1:=Z1.out
     rw [HF.out] at z1
     have Y1:=Lib.hid z1
     clear z1 Z1 HF HP HQ
     go_wp2_with (first
       | (refine wpList_load_row rfl 94 (.tmp 5) rfl (w.heap.size+1) rfl 94 (words PP) (0,0) _ Y1.out Tryd.underlying94 rfl (by rw [words_size];kernel_rfl) ?_)
       | (refine wpList_store_row rfl 94 (.tmp 4) (.tmp 21) rfl w.heap.size (words PP) rfl rfl 94 _ Z0.out (by rw [words_size];kernel_rfl) (by rw [words_size,words_size]) (words_one _) ?_)
       | fail)
     exact bodyPost_ret (results_cell_row rfl _ _ w.heap.size 94 (words PP) (0,0) _ rfl (heap_setRow Z0.out) Tryd.underlying94 rfl (by rw [words_size];kernel_rfl)) rfl ⟨rfl,below_setRow HB.out (Nat.le_refl _) _⟩
theorem singleP_in {n:Nat} {q:Nat→Bool} {k:Nat} (h:k < n):Re.singleP n q k=if q k=true then 1#64 <<< (k+1) else 0#64:=by
 unfold Re.singleP
 cases q k <;> simp [h]
theorem resingle_any (s0 s1 s2 s3:BitVec 64) (x:Sc) (b:Nat) (hn:x.t.size ≤ 63) (w:World) (hx:ScAt w b x):Calls Tryd.prog 84 #[(.agg #[.int .u64 (Oc.U s0),.int .u64 (Oc.U s1),.int .u64 (Oc.U s2),.int .u64 (Oc.U s3)]),.pointer (some ⟨b,0,none⟩)] w fun e w'=>e=.returned (.agg (words (Re.singleP x.t.size fun k=>Oc.mem s0 s1 s2 s3 (cb x.t k))))∧Below w.heap.size w w':=by
 have hz:=words_zero
 have HL:=Lib.hid (fun w9 (hb:Below w.heap.size w w9)=>sclen_any x b w9 (hx.below hb))
 have HQ:=Lib.hid (show ∀ (k:Nat),k < x.t.size→∀ w9,Below w.heap.size w w9→Calls Tryd.prog 109 #[.pointer (some ⟨b,0,none⟩),.int .i64 (k:Int)] w9 fun e w'=>e=.returned (.tuple #[.int .u8 (cb x.t k:Int),.bool true])∧w'=w9 from fun k hk w9 hb=>by
   have h:=scbyte_any x b (k:Int) w9 (hx.below hb)
   have e1:x.inn (k:Int)=true:=by rw [Sc.inn_nat];exact decide_eq_true hk
   have e2:x.byt (k:Int)=(cb x.t k:Int):=by unfold Sc.byt;rw [e1];rfl
   rw [e1,e2] at h
   exact h)
 have HH:=Lib.hid (fun (k:Nat) (hk:k < x.t.size) w9=>has_any s0 s1 s2 s3 (cb x.t k) (cb_lt hk) w9)
 have HP:=Lib.hid (fun (k:Nat) (hk:k < x.t.size)=>singleP_in (q:=fun k=>Oc.mem s0 s1 s2 s3 (cb x.t k)) hk)
 have HF:=Lib.hid (firstP_done (P:=Re.singleP x.t.size fun k=>Oc.mem s0 s1 s2 s3 (cb x.t k)) (n:=x.t.size) (fun i hi=>by unfold Re.singleP;rw [if_neg (by omega)]))
 clear hx
 generalize hPP:(Re.singleP x.t.size fun k=>Oc.mem s0 s1 s2 s3 (cb x.t k))=PP at *
 clear hPP
 go_enter Tryd.func84,Tryd.ntmps84
 go_wp2_with fail
 have yS:(((w.alloc (.cells #[.int .u64 (Oc.U s0),.int .u64 (Oc.U s1),.int .u64 (Oc.U s2),.int .u64 (Oc.U s3)] 24)).alloc (.cells (words fun _=>0#64) 94)).alloc (.cells (words fun _=>0#64) 94)).heap[w.heap.size]? = some (.cells #[.int .u64 (Oc.U s0),.int .u64 (Oc.U s1),.int .u64 (Oc.U s2),.int .u64 (Oc.U s3)] 24):=heap_alloc_lt (heap_alloc_lt (row_new _ _ _ rfl))
 have y0:(((w.alloc (.cells #[.int .u64 (Oc.U s0),.int .u64 (Oc.U s1),.int .u64 (Oc.U s2),.int .u64 (Oc.U s3)] 24)).alloc (.cells (words fun _=>0#64) 94)).alloc (.cells (words fun _=>0#64) 94)).heap[w.heap.size+1]? = some (.cells (words fun _=>0#64) 94):=heap_alloc_lt (row_new _ _ _ (by simp))
 have y1:(((w.alloc (.cells #[.int .u64 (Oc.U s0),.int .u64 (Oc.U s1),.int .u64 (Oc.U s2),.int .u64 (Oc.U s3)] 24)).alloc (.cells (words fun _=>0#64) 94)).alloc (.cells (words fun _=>0#64) 94)).heap[w.heap.size+1+1]? = some (.cells (words (firstP PP 0)) 94):=by rw [← firstP_zero];exact row_new _ _ _ (by simp)
 have hB:Below w.heap.size w (((w.alloc (.cells #[.int .u64 (Oc.U s0),.int .u64 (Oc.U s1),.int .u64 (Oc.U s2),.int .u64 (Oc.U s3)] 24)).alloc (.cells (words fun _=>0#64) 94)).alloc (.cells (words fun _=>0#64) 94)):=by go_grown
 have ZS:=Lib.hid yS;have Z0:=Lib.hid y0;have Z1:=Lib.hid y1;have HB:=Lib.hid hB
 clear yS y0 y1 hB hz
 generalize (((w.alloc (.cells #[.int .u64 (Oc.U s0),.int .u64 (Oc.U s1),.int .u64 (Oc.U s2),.int .u64 (Oc.U s3)] 24)).alloc (.cells (words fun _=>0#64) 94)).alloc (.cells (words fun _=>0#64) 94))=W at *
 refine (HL.out W HB.out).mono ?_
 rintro e w' ⟨rfl,rfl⟩
 clear HL
 generalize x.t=tx at *
 go_wp2
 go_loopw [11] (fun iv wr=>∃ k:Nat,iv=.int .i64 (k:Int)∧k ≤ tx.size∧Hid (Below w.heap.size w wr)∧Hid (wr.heap[w.heap.size]? = some (.cells #[.int .u64 (Oc.U s0),.int .u64 (Oc.U s1),.int .u64 (Oc.U s2),.int .u64 (Oc.U s3)] 24))∧Hid (wr.heap[w.heap.size+1]? = some (.cells (words fun _=>0#64) 94))∧Hid (wr.heap[w.heap.size+1+1]? = some (.cells (words (firstP PP k)) 94))) (fun iv _=>tx.size - (intOf iv).toNat)
 case atStart=>exact ⟨0,rfl,Nat.zero_le _,HB,ZS,Z0,Z1⟩
 case round =>
   clear HB Z0 Z1 ZS
   obtain ⟨k,rfl,hk,HB,ZS,Z0,Z1⟩:=hrel
   by_cases hlt:k < tx.size
   · have hk64:k < 64:=by omega
     have wi:IntKind.i64.wrap ((k:Int)+1)=(k:Int)+1:=IntWalk.i64_in _ (by omega)
     have hki:(k:Int) < 64:=by omega
     have HC:=Lib.hid (HQ.out k hlt wr HB.out)
     have HHk:=Lib.hid (HH.out k hlt)
     have hp:=HP.out k hlt
     have HO:=Lib.hid (show ∀ w,Calls Tryd.prog 110 #[.int .i64 ((k:Int)+1)] w fun e w'=>e=.returned (.int .u64 (Oc.U (1#64 <<< (k+1))))∧w'=w from fun w=>reonly_any (k+1) (by omega) w)
     have K1:=Lib.hid (fun (wz:World) (hw:wz.heap[w.heap.size+1+1]? = some (.cells (words (firstP PP k)) 94)) (x9:BitVec 64) (h:PP k=x9)=>word_set (Q:=firstP PP (k+1)) hk64 hw ((firstP_at PP k).trans h) (fun j hj=>firstP_next PP k j hj))
     clear HQ HP HH
     generalize Oc.mem s0 s1 s2 s3 (cb tx k)=q at *
     go_wp2_with fail
     refine HC.out.mono ?_
     rintro e w' ⟨rfl,rfl⟩
     go_wp2_with (first
       | (refine wpList_load_row rfl 24 (.tmp 2) rfl w.heap.size rfl 24 _ (0,0) _ ZS.out Tryd.underlying24 rfl (by kernel_rfl) ?_)
       | fail)
     refine (HHk.out _).mono ?_
     rintro e w2 ⟨rfl,hb2⟩
     have HB2:=Lib.hid (HB.out.trans (hb2.mono HB.out.size))
     have YS:=Lib.hid (keep_blk hb2 ZS.out);have Y0:=Lib.hid (keep_blk hb2 Z0.out);have Y1:=Lib.hid (keep_blk hb2 Z1.out)
     clear hb2 HB ZS Z0 Z1 HC HHk
     obtain ⟨l0,f0⟩:=word_cell hk64 Y1.out
     cases q with
     | true =>
       simp only [if_true] at hp
       have K2:=Lib.hid (K1.out _ Y1.out _ hp)
       clear hp K1
       go_wp2_with fail
       refine (HO.out _).mono ?_
       rintro e w' ⟨rfl,rfl⟩
       go_wp2
       refine ⟨⟨k+1,by go_num,by omega,Lib.hid (HB2.out.setCell (by show w.heap.size ≤ w.heap.size+1+1;omega) _),Lib.hid ?_,Lib.hid ?_,K2⟩,by simp [intOf];omega⟩
       · exact (Below.heap_setCell _ _ _ _ (by show w.heap.size ≠ w.heap.size+1+1;omega)).trans YS.out
       · exact (Below.heap_setCell _ _ _ _ (by show w.heap.size+1 ≠ w.heap.size+1+1;omega)).trans Y0.out
     | false =>
       simp only [Bool.false_eq_true,if_false] at hp
       have hs:=firstP_skip hp
       have Y2:=Lib.hid (show w2.heap[w.heap.size+1+1]? = some (.cells (words (firstP PP (k+1))) 94) by rw [hs];exact Y1.out)
       clear hp K1 hs
       go_wp2
       exact ⟨⟨k+1,by go_num,by omega,HB2,YS,Y0,Y2⟩,by simp [intOf];omega⟩
   · obtain rfl:k=tx.size:=by omega
     have z1:=Z1.out
     rw [HF.out] at z1
     have Y1:=Lib.hid z1
     clear z1 Z1 HF HP HQ HH
     go_wp2_with (first
       | (refine wpList_load_row rfl 94 (.tmp 5) rfl (w.heap.size+1+1) rfl 94 (words PP) (0,0) _ Y1.out Tryd.underlying94 rfl (by rw [words_size];kernel_rfl) ?_)
       | (refine wpList_store_row rfl 94 (.tmp 4) (.tmp 29) rfl (w.heap.size+1) (words PP) rfl rfl 94 _ Z0.out (by rw [words_size];kernel_rfl) (by rw [words_size,words_size]) (words_one _) ?_)
       | fail)
     exact bodyPost_ret (results_cell_row rfl _ _ (w.heap.size+1) 94 (words PP) (0,0) _ rfl (heap_setRow Z0.out) Tryd.underlying94 rfl (by rw [words_size];kernel_rfl)) rfl ⟨rfl,below_setRow HB.out (by omega) _⟩
end Go.Proofs.YtnaoiglbjkjogaaDoor
namespace Go.Proofs.YtnaoiglbjkjogaaDoor
open Go.RowKit
def TabEnd (P:Nat→BitVec 64) (w:World) (e:Ending) (w':World):Prop:=e=.returned (.agg (words P))∧Below w.heap.size w w'
theorem blk_lt {w:World} {b:Nat} {x:Obj} (h:w.heap[b]? = some x):b < w.heap.size:=(Array.getElem?_eq_some_iff.1 h).1
theorem TabEnd.of {P:Nat→BitVec 64} {w:World} {e:Ending} {w':World} (h:TabEnd P w e w'):e=.returned (.agg (words P))∧Below w.heap.size w w':=h
def Taken (x:Sc) (b:Nat) (u:Tr):Prop:=∀ (w:World) (B:Nat→Prop) (v:Value),ScAt w b x→ReEnv w→NodeV w B v u→Calls Tryd.prog 54 #[v,.pointer (some ⟨b,0,none⟩)] w (TabEnd (Tr.tabT x u) w)
theorem reseq_of (x:Sc) (b:Nat) (hn:x.t.size ≤ 63) (ts:List Tr) (IH:∀ u,u ∈ ts→Taken x b u) (w:World) (B:Nat→Prop) (v:Value) (hx:ScAt w b x) (hE:ReEnv w) (hs:TreesAt w B v ts) :
   Calls Tryd.prog 88 #[v,.pointer (some ⟨b,0,none⟩)] w (TabEnd (Tr.tabSeq x ts (Re.emptyP x.t.size fun _=>true)) w):=by
 obtain ⟨p,cap,rfl,hlen⟩:=hs.slice
 have hz:=words_zero
 have HS:=Lib.hid hs;have HI:=Lib.hid IH;have HX:=Lib.hid hx;have HEN:=Lib.hid hE
 clear hs IH hx hE
 go_enter Tryd.func88,Tryd.ntmps88
 go_wp2_with fail
 have y0:(w.alloc (.cells (words fun _=>0#64) 94)).heap[w.heap.size]? = some (.cells (words fun _=>0#64) 94):=row_new _ _ _ rfl
 have hb1:Below w.heap.size w (w.alloc (.cells (words fun _=>0#64) 94)):=(Below.refl _ _).alloc (Nat.le_refl _) _
 have Y0:=Lib.hid y0;have HB1:=Lib.hid hb1
 clear y0 hb1
 generalize (w.alloc (.cells (words fun _=>0#64) 94))=W1 at *
 refine (reemptyall_any x b hn W1 (HX.out.below HB1.out)).mono ?_
 rintro e w2 ⟨rfl,hb2⟩
 have HB2:=Lib.hid (HB1.out.trans (hb2.mono HB1.out.size));have Z2:=Lib.hid (keep_blk hb2 Y0.out)
 clear hb2 Y0 HB1
 go_wp2_with (first
   | (refine wpList_store_row rfl 94 (.tmp 5) (.tmp 9) rfl w2.heap.size (words (Re.emptyP x.t.size fun _=>true)) rfl rfl 94 _ (row_new _ _ _ rfl) (by rw [words_size];kernel_rfl) (by rw [words_size,words_size]) (words_one _) ?_)
   | fail)
 have z0:(World.setRow (w2.alloc (.cells (words fun _=>0#64) 94)) w2.heap.size (words (Re.emptyP x.t.size fun _=>true))).heap[w.heap.size]? = some (.cells (words fun _=>0#64) 94):=(heap_setRow_other _ _ _ (Nat.ne_of_lt (blk_lt Z2.out))).trans (heap_alloc_lt Z2.out)
 have z3:(World.setRow (w2.alloc (.cells (words fun _=>0#64) 94)) w2.heap.size (words (Re.emptyP x.t.size fun _=>true))).heap[w2.heap.size]? = some (.cells (words (Tr.tabSeq x (ts.take 0) (Re.emptyP x.t.size fun _=>true))) 94):=heap_setRow (row_new _ _ _ rfl)
 have hB:Below w.heap.size w (World.setRow (w2.alloc (.cells (words fun _=>0#64) 94)) w2.heap.size (words (Re.emptyP x.t.size fun _=>true))):=below_setRow (HB2.out.alloc HB2.out.size _) HB2.out.size _
 have hle:w.heap.size < w2.heap.size:=blk_lt Z2.out
 have Z0:=Lib.hid z0;have Z3:=Lib.hid z3;have HB:=Lib.hid hB;have HLE:=Lib.hid hle
 clear z0 z3 hB hz hle Z2 HB2
 generalize (World.setRow (w2.alloc (.cells (words fun _=>0#64) 94)) w2.heap.size (words (Re.emptyP x.t.size fun _=>true)))=W3 at *
 generalize w2.heap.size=G3 at *
 go_wp2
 go_loopw [12] (fun iv wr=>∃ m:Nat,iv=.int .i64 (m:Int)∧m ≤ ts.length∧Hid (Below w.heap.size w wr)∧Hid (wr.heap[w.heap.size]? = some (.cells (words fun _=>0#64) 94))∧Hid (wr.heap[G3]? = some (.cells (words (Tr.tabSeq x (ts.take m) (Re.emptyP x.t.size fun _=>true))) 94))) (fun iv _=>ts.length - (intOf iv).toNat)
 case atStart=>exact ⟨0,rfl,Nat.zero_le _,HB,Z0,Z3⟩
 case round =>
   clear HB Z0 Z3
   obtain ⟨m,rfl,hm,HB,Z0,Z3⟩:=hrel
   by_cases hlt:m < ts.length
   · have wi:IntKind.i64.wrap ((m:Int)+1)=(m:Int)+1:=IntWalk.i64_in _ (by omega)
     obtain ⟨u,hu⟩:∃ u,ts[m]? = some u:=⟨_,List.getElem?_eq_getElem hlt⟩
     obtain ⟨b1,o1,s1,rfl,-,t1,sub1⟩:=HS.out.get hu
     obtain ⟨d0,d1,d2,d3,d4,d5,d6,d7,d8,d9⟩:=t1.keep (HB.out.block _ t1.lt)
     obtain ⟨p1,c1,rfl,hl1⟩:=sub1.slice
     have HC:=Lib.hid (show ∀ w9,Below w.heap.size w w9→Calls Tryd.prog 54 #[.agg #[.int .i64 u.kind,.int .u64 (Oc.U u.w0),.int .u64 (Oc.U u.w1),.int .u64 (Oc.U u.w2),.int .u64 (Oc.U u.w3),.slice p1 u.subs.length c1,.int .i64 u.num,.int .i64 u.least,.int .i64 u.most,.bool u.bare],.pointer (some ⟨b,0,none⟩)] w9 fun e w'=>e=.returned (.agg (words (Tr.tabT x u)))∧Below w9.heap.size w9 w' from fun w9 hb=>HI.out u (List.mem_of_getElem? hu) w9 B (.agg (u.cells (.slice p1 u.subs.length c1))) (HX.out.below hb) (HEN.out.below hb) ⟨_,rfl,sub1.later hb⟩)
     have HJ:=Lib.hid (fun (a:Nat→BitVec 64) (c:Nat→BitVec 64) w9 (_hb:Below w.heap.size w w9)=>rejoined_any a c w9 (HEN.out.below _hb))
     have HNX:=Lib.hid (Tr.tabSeq_take x ts m u hu (Re.emptyP x.t.size fun _=>true))
     clear t1 sub1 hu HI HX HEN
     generalize hAC:Tr.tabSeq x (ts.take m) (Re.emptyP x.t.size fun _=>true)=AC at *
     clear hAC
     generalize hAN:Tr.tabSeq x (ts.take (m+1)) (Re.emptyP x.t.size fun _=>true)=AN at *
     have HAN:=Lib.hid hAN
     clear hAN
     generalize Tr.tabT x u=TU at *
     go_upto_region 5 with (first
       | (refine wpList_store_row rfl 37 (.tmp 7) (.tmp 15) rfl wr.heap.size #[.int .i64 u.kind,.int .u64 (Oc.U u.w0),.int .u64 (Oc.U u.w1),.int .u64 (Oc.U u.w2),.int .u64 (Oc.U u.w3),.slice p1 u.subs.length c1,.int .i64 u.num,.int .i64 u.least,.int .i64 u.most,.bool u.bare] rfl rfl 37 _ (row_new _ _ _ rfl) (by kernel_rfl) rfl (by simp [Value.oneCell']) ?_)
       | fail)
     have y5:(World.setRow (wr.alloc (.cells noNode 37)) wr.heap.size #[.int .i64 u.kind,.int .u64 (Oc.U u.w0),.int .u64 (Oc.U u.w1),.int .u64 (Oc.U u.w2),.int .u64 (Oc.U u.w3),.slice p1 u.subs.length c1,.int .i64 u.num,.int .i64 u.least,.int .i64 u.most,.bool u.bare]).heap[wr.heap.size]? = some (.cells #[.int .i64 u.kind,.int .u64 (Oc.U u.w0),.int .u64 (Oc.U u.w1),.int .u64 (Oc.U u.w2),.int .u64 (Oc.U u.w3),.slice p1 u.subs.length c1,.int .i64 u.num,.int .i64 u.least,.int .i64 u.most,.bool u.bare] 37):=heap_setRow (row_new _ _ _ rfl)
     have hle5:w.heap.size ≤ wr.heap.size:=HB.out.size
     have hb5:Below w.heap.size w (World.setRow (wr.alloc (.cells noNode 37)) wr.heap.size #[.int .i64 u.kind,.int .u64 (Oc.U u.w0),.int .u64 (Oc.U u.w1),.int .u64 (Oc.U u.w2),.int .u64 (Oc.U u.w3),.slice p1 u.subs.length c1,.int .i64 u.num,.int .i64 u.least,.int .i64 u.most,.bool u.bare]):=below_setRow (HB.out.alloc HB.out.size _) HB.out.size _
     have hn0:w.heap.size ≠ wr.heap.size:=Nat.ne_of_lt (blk_lt Z0.out)
     have hn3:G3 ≠ wr.heap.size:=Nat.ne_of_lt (blk_lt Z3.out)
     have y0:(World.setRow (wr.alloc (.cells noNode 37)) wr.heap.size #[.int .i64 u.kind,.int .u64 (Oc.U u.w0),.int .u64 (Oc.U u.w1),.int .u64 (Oc.U u.w2),.int .u64 (Oc.U u.w3),.slice p1 u.subs.length c1,.int .i64 u.num,.int .i64 u.least,.int .i64 u.most,.bool u.bare]).heap[w.heap.size]? = some (.cells (words fun _=>0#64) 94):=(heap_setRow_other _ _ _ hn0).trans (heap_alloc_lt Z0.out)
     have y3:(World.setRow (wr.alloc (.cells noNode 37)) wr.heap.size #[.int .i64 u.kind,.int .u64 (Oc.U u.w0),.int .u64 (Oc.U u.w1),.int .u64 (Oc.U u.w2),.int .u64 (Oc.U u.w3),.slice p1 u.subs.length c1,.int .i64 u.num,.int .i64 u.least,.int .i64 u.most,.bool u.bare]).heap[G3]? = some (.cells (words AC) 94):=(heap_setRow_other _ _ _ hn3).trans (heap_alloc_lt Z3.out)
     have Y0:=Lib.hid y0;have Y3:=Lib.hid y3;have Y5:=Lib.hid y5;have HB5:=Lib.hid hb5;have HN3:=Lib.hid hn3
     clear y0 y3 y5 hb5 hn0 hn3 hle5 HB Z0 Z3 d0 d1 d2 d3 d4 d5 d6 d7 d8 d9
     generalize (World.setRow (wr.alloc (.cells noNode 37)) wr.heap.size #[.int .i64 u.kind,.int .u64 (Oc.U u.w0),.int .u64 (Oc.U u.w1),.int .u64 (Oc.U u.w2),.int .u64 (Oc.U u.w3),.slice p1 u.subs.length c1,.int .i64 u.num,.int .i64 u.least,.int .i64 u.most,.bool u.bare])=W5 at *
     generalize wr.heap.size=G5 at *
     simp only [Act.put]
     refine Ri.wp_region_frame (by kernel_rfl) (by kernel_rfl) (by kernel_rfl) (by kernel_rfl)
       (fun L v w'=>Below w.heap.size w w'∧W5.heap.size ≤ w'.heap.size∧(L 5=true→w'.heap[G3]? = some (.cells (words (Re.joinedP AC TU)) 94))∧(L 5=false→w'.heap[G3]? = some (.cells (words AC) 94))∧(L 5=true→L 0=true)∧w'.heap[w.heap.size]? = some (.cells (words fun _=>0#64) 94)∧w'.heap[G5]? = some (.cells #[.int .i64 u.kind,.int .u64 (Oc.U u.w0),.int .u64 (Oc.U u.w1),.int .u64 (Oc.U u.w2),.int .u64 (Oc.U u.w3),.slice p1 u.subs.length c1,.int .i64 u.num,.int .i64 u.least,.int .i64 u.most,.bool u.bare] 37)∧(L 0=true→v 0=.agg (words AC))∧(L 1=true→v 1=.agg #[.int .i64 u.kind,.int .u64 (Oc.U u.w0),.int .u64 (Oc.U u.w1),.int .u64 (Oc.U u.w2),.int .u64 (Oc.U u.w3),.slice p1 u.subs.length c1,.int .i64 u.num,.int .i64 u.least,.int .i64 u.most,.bool u.bare])∧(L 2=true→v 2=.pointer (some ⟨b,0,none⟩))∧(L 3=true→v 3=.agg (words TU))∧(L 4=true→v 4=.agg (words (Re.joinedP AC TU))))
       ?_ ?_ ?_
     · exact ⟨HB5.out.drew,Nat.le_refl _,(by simp),(fun _=>Y3.out),by simp,Y0.out,Y5.out,by simp,by simp,by simp,by simp,by simp⟩
     · intro i hi9 L v w9 xa hI hL hd hv ho
       have hi':i=0 ∨ i=1 ∨ i=2 ∨ i=3 ∨ i=4 ∨ i=5:=by simp at hi9;omega
       obtain ⟨hb,hz,qn,qo,qm0,k0,k1,q0,q1,q2,q3,q4⟩:=hI
       rcases hi' with rfl | rfl | rfl | rfl | rfl | rfl
       · have e5:xa.tmps.getD 5 undef=.pointer (some ⟨G3,0,none⟩):=ho 5 (by kernel_rfl)
         refine Ri.step_plain rfl rfl (fun K' hK=>?_)
         have hl9:L 5=false:=by cases h:L 5 with | false=>rfl | true=>rw [qm0 h] at hL;cases hL
         refine wp_load_row _ _ rfl _ e5 _ _ _ _ (qo hl9) Tryd.underlying94 rfl (by rw [words_size];kernel_rfl) ?_
         exact hK _ _ ⟨_,_,rfl,rfl,hb,hz,qn,qo,(fun _=>rfl),k0,k1,fun _=>rfl,q1,q2,q3,q4⟩
       · have e7:xa.tmps.getD 7 undef=.pointer (some ⟨G5,0,none⟩):=ho 7 (by kernel_rfl)
         refine Ri.step_plain rfl rfl (fun K' hK=>?_)
         refine wp_load_row _ _ rfl _ e7 _ _ _ _ k1 Tryd.underlying37 rfl (by kernel_rfl) ?_
         exact hK _ _ ⟨_,_,rfl,rfl,hb,hz,qn,qo,qm0,k0,k1,q0,fun _=>rfl,q2,q3,q4⟩
       · have e1:xa.tmps.getD 1 undef=.pointer (some ⟨b,0,none⟩):=ho 1 (by kernel_rfl)
         refine Ri.step_plain rfl rfl (fun K' hK=>?_)
         go_simp
         exact hK _ _ ⟨_,_,rfl,rfl,hb,hz,qn,qo,qm0,k0,k1,q0,q1,fun _=>rfl,q3,q4⟩
       · have l0:L 1=true∧L 2=true:=by have:=hd _ rfl;simp [Region.binds] at this;simp [this]
         have f1:=(hv 1 17 rfl l0.1).trans (q1 l0.1)
         have f2:=(hv 2 18 rfl l0.2).trans (q2 l0.2)
         refine Ri.step_plain rfl rfl (fun K' hK=>?_)
         go_simp
         refine (HC.out _ hb).mono ?_
         rintro e w8 ⟨rfl,hb8⟩
         exact hK _ _ ⟨_,_,rfl,rfl,hb.trans (hb8.mono hb.size),Nat.le_trans hz hb8.size,(fun l=>keep_blk hb8 (qn l)),(fun l=>keep_blk hb8 (qo l)),qm0,(keep_blk hb8 k0),(keep_blk hb8 k1),q0,q1,q2,fun _=>rfl,q4⟩
       · have l0:L 0=true∧L 3=true:=by have:=hd _ rfl;simp [Region.binds] at this;simp [this]
         have f0:=(hv 0 16 rfl l0.1).trans (q0 l0.1)
         have f3:=(hv 3 19 rfl l0.2).trans (q3 l0.2)
         refine Ri.step_plain rfl rfl (fun K' hK=>?_)
         go_simp
         refine (HJ.out _ _ _ hb).mono ?_
         rintro e w8 ⟨rfl,hb8⟩
         exact hK _ _ ⟨_,_,rfl,rfl,hb.trans (hb8.mono hb.size),Nat.le_trans hz hb8.size,(fun l=>keep_blk hb8 (qn l)),(fun l=>keep_blk hb8 (qo l)),qm0,(keep_blk hb8 k0),(keep_blk hb8 k1),q0,q1,q2,q3,fun _=>rfl⟩
       · have l0:L 4=true:=by have:=hd _ rfl;simp [Region.binds] at this;simp [this]
         have f4:=(hv 4 20 rfl l0).trans (q4 l0)
         have e5:xa.tmps.getD 5 undef=.pointer (some ⟨G3,0,none⟩):=ho 5 (by kernel_rfl)
         refine Ri.step_plain rfl rfl (fun K' hK=>?_)
         have h0:L 0=true:=by have:=hd _ rfl;simp [Region.binds] at this;simp [this]
         refine wp_store_row _ _ _ rfl G3 (words (Re.joinedP AC TU)) e5 f4 94 _ (qo hL) (by rw [words_size];kernel_rfl) (by rw [words_size,words_size]) (words_one _) ?_
         exact hK _ _ ⟨_,undef,rfl,rfl,below_setRow hb (Nat.le_of_lt HLE.out) _,by simpa using hz,(fun _=>heap_setRow (qo hL)),(fun h=>by cases h),(fun _=>h0),(heap_setRow_other _ _ _ (Nat.ne_of_lt HLE.out)).trans k0,(heap_setRow_other _ _ _ (Ne.symm HN3.out)).trans k1,q0,q1,q2,q3,q4⟩
     · rintro v w9 ⟨hb,hz,qn,-,-,k0,k1,-,-,-,-,-⟩
       have zN:=qn rfl;clear qn
       simp only [Ri.frame,List.zipIdx,List.foldl_cons,List.foldl_nil,if_true,List.setIfInBounds_toArray,List.set_cons_zero,List.set_cons_succ,Nat.reduceAdd]
       generalize v 0=y0;generalize v 1=y1;generalize v 2=y2;generalize v 3=y3;generalize v 4=y4
       go_wp2
       refine ⟨⟨m+1,by go_num,by omega,Lib.hid hb,Lib.hid k0,Lib.hid ?_⟩,by simp [intOf];omega⟩
       rw [HAN.out,HNX.out];exact zN
   · obtain rfl:m=ts.length:=by omega
     have z3:=Z3.out
     rw [List.take_length] at z3
     have Y3:=Lib.hid z3
     clear z3 Z3 HI HX HEN HS
     go_wp2_with (first
       | (refine wpList_load_row rfl 94 (.tmp 5) rfl G3 rfl 94 (words (Tr.tabSeq x ts (Re.emptyP x.t.size fun _=>true))) (0,0) _ Y3.out Tryd.underlying94 rfl (by rw [words_size];kernel_rfl) ?_)
       | (refine wpList_store_row rfl 94 (.tmp 4) (.tmp 22) rfl w.heap.size (words (Tr.tabSeq x ts (Re.emptyP x.t.size fun _=>true))) rfl rfl 94 _ Z0.out (by rw [words_size];kernel_rfl) (by rw [words_size,words_size]) (words_one _) ?_)
       | fail)
     exact bodyPost_ret (results_cell_row rfl _ _ w.heap.size 94 (words (Tr.tabSeq x ts (Re.emptyP x.t.size fun _=>true))) (0,0) _ rfl (heap_setRow Z0.out) Tryd.underlying94 rfl (by rw [words_size];kernel_rfl)) rfl ⟨rfl,below_setRow HB.out (Nat.le_refl _) _⟩
theorem realt_of (x:Sc) (b:Nat) ( ts:List Tr) (IH:∀ u,u ∈ ts→Taken x b u) (w:World) (B:Nat→Prop) (v:Value) (hx:ScAt w b x) (hE:ReEnv w) (hs:TreesAt w B v ts) :
   Calls Tryd.prog 89 #[v,.pointer (some ⟨b,0,none⟩)] w (TabEnd (Tr.tabAlt x ts (fun _=>0#64)) w):=by
 obtain ⟨p,cap,rfl,hlen⟩:=hs.slice
 have hz:=words_zero
 have HS:=Lib.hid hs;have HI:=Lib.hid IH;have HX:=Lib.hid hx;have HEN:=Lib.hid hE
 clear hs IH hx hE
 go_enter Tryd.func89,Tryd.ntmps89
 go_upto_region 2 with (fail)
 have z0:((w.alloc (.cells (words fun _=>0#64) 94)).alloc (.cells (words fun _=>0#64) 94)).heap[w.heap.size]? = some (.cells (words fun _=>0#64) 94):=heap_alloc_lt (row_new _ _ _ rfl)
 have z3:((w.alloc (.cells (words fun _=>0#64) 94)).alloc (.cells (words fun _=>0#64) 94)).heap[w.heap.size+1]? = some (.cells (words (Tr.tabAlt x (ts.take 0) (fun _=>0#64))) 94):=row_new _ _ _ (by simp)
 have hB:Below w.heap.size w ((w.alloc (.cells (words fun _=>0#64) 94)).alloc (.cells (words fun _=>0#64) 94)):=by go_grown
 have hle:w.heap.size < w.heap.size+1:=by omega
 have Z0:=Lib.hid z0;have Z3:=Lib.hid z3;have HB:=Lib.hid hB;have HLE:=Lib.hid hle
 clear z0 z3 hB hz hle
 generalize ((w.alloc (.cells (words fun _=>0#64) 94)).alloc (.cells (words fun _=>0#64) 94))=W1 at *
 generalize (w.heap.size+1)=G3 at *
 go_wp2
 go_loopw [10] (fun iv wr=>∃ m:Nat,iv=.int .i64 (m:Int)∧m ≤ ts.length∧Hid (Below w.heap.size w wr)∧Hid (wr.heap[w.heap.size]? = some (.cells (words fun _=>0#64) 94))∧Hid (wr.heap[G3]? = some (.cells (words (Tr.tabAlt x (ts.take m) (fun _=>0#64))) 94))) (fun iv _=>ts.length - (intOf iv).toNat)
 case atStart=>exact ⟨0,rfl,Nat.zero_le _,HB,Z0,Z3⟩
 case round =>
   clear HB Z0 Z3
   obtain ⟨m,rfl,hm,HB,Z0,Z3⟩:=hrel
   by_cases hlt:m < ts.length
   · have wi:IntKind.i64.wrap ((m:Int)+1)=(m:Int)+1:=IntWalk.i64_in _ (by omega)
     obtain ⟨u,hu⟩:∃ u,ts[m]? = some u:=⟨_,List.getElem?_eq_getElem hlt⟩
     obtain ⟨b1,o1,s1,rfl,-,t1,sub1⟩:=HS.out.get hu
     obtain ⟨d0,d1,d2,d3,d4,d5,d6,d7,d8,d9⟩:=t1.keep (HB.out.block _ t1.lt)
     obtain ⟨p1,c1,rfl,hl1⟩:=sub1.slice
     have HC:=Lib.hid (show ∀ w9,Below w.heap.size w w9→Calls Tryd.prog 54 #[.agg #[.int .i64 u.kind,.int .u64 (Oc.U u.w0),.int .u64 (Oc.U u.w1),.int .u64 (Oc.U u.w2),.int .u64 (Oc.U u.w3),.slice p1 u.subs.length c1,.int .i64 u.num,.int .i64 u.least,.int .i64 u.most,.bool u.bare],.pointer (some ⟨b,0,none⟩)] w9 fun e w'=>e=.returned (.agg (words (Tr.tabT x u)))∧Below w9.heap.size w9 w' from fun w9 hb=>HI.out u (List.mem_of_getElem? hu) w9 B (.agg (u.cells (.slice p1 u.subs.length c1))) (HX.out.below hb) (HEN.out.below hb) ⟨_,rfl,sub1.later hb⟩)
     have HJ:=Lib.hid (fun (a:Nat→BitVec 64) (c:Nat→BitVec 64) w9 (_hb:Below w.heap.size w w9)=>reeither_any a c w9)
     have HNX:=Lib.hid (Tr.tabAlt_take x ts m u hu (fun _=>0#64))
     clear t1 sub1 hu HI HX HEN
     generalize hAC:Tr.tabAlt x (ts.take m) (fun _=>0#64)=AC at *
     clear hAC
     generalize hAN:Tr.tabAlt x (ts.take (m+1)) (fun _=>0#64)=AN at *
     have HAN:=Lib.hid hAN
     clear hAN
     generalize Tr.tabT x u=TU at *
     go_upto_region 5 with (first
       | (refine wpList_store_row rfl 37 (.tmp 7) (.tmp 13) rfl wr.heap.size #[.int .i64 u.kind,.int .u64 (Oc.U u.w0),.int .u64 (Oc.U u.w1),.int .u64 (Oc.U u.w2),.int .u64 (Oc.U u.w3),.slice p1 u.subs.length c1,.int .i64 u.num,.int .i64 u.least,.int .i64 u.most,.bool u.bare] rfl rfl 37 _ (row_new _ _ _ rfl) (by kernel_rfl) rfl (by simp [Value.oneCell']) ?_)
       | fail)
     have y5:(World.setRow (wr.alloc (.cells noNode 37)) wr.heap.size #[.int .i64 u.kind,.int .u64 (Oc.U u.w0),.int .u64 (Oc.U u.w1),.int .u64 (Oc.U u.w2),.int .u64 (Oc.U u.w3),.slice p1 u.subs.length c1,.int .i64 u.num,.int .i64 u.least,.int .i64 u.most,.bool u.bare]).heap[wr.heap.size]? = some (.cells #[.int .i64 u.kind,.int .u64 (Oc.U u.w0),.int .u64 (Oc.U u.w1),.int .u64 (Oc.U u.w2),.int .u64 (Oc.U u.w3),.slice p1 u.subs.length c1,.int .i64 u.num,.int .i64 u.least,.int .i64 u.most,.bool u.bare] 37):=heap_setRow (row_new _ _ _ rfl)
     have hle5:w.heap.size ≤ wr.heap.size:=HB.out.size
     have hb5:Below w.heap.size w (World.setRow (wr.alloc (.cells noNode 37)) wr.heap.size #[.int .i64 u.kind,.int .u64 (Oc.U u.w0),.int .u64 (Oc.U u.w1),.int .u64 (Oc.U u.w2),.int .u64 (Oc.U u.w3),.slice p1 u.subs.length c1,.int .i64 u.num,.int .i64 u.least,.int .i64 u.most,.bool u.bare]):=below_setRow (HB.out.alloc HB.out.size _) HB.out.size _
     have hn0:w.heap.size ≠ wr.heap.size:=Nat.ne_of_lt (blk_lt Z0.out)
     have hn3:G3 ≠ wr.heap.size:=Nat.ne_of_lt (blk_lt Z3.out)
     have y0:(World.setRow (wr.alloc (.cells noNode 37)) wr.heap.size #[.int .i64 u.kind,.int .u64 (Oc.U u.w0),.int .u64 (Oc.U u.w1),.int .u64 (Oc.U u.w2),.int .u64 (Oc.U u.w3),.slice p1 u.subs.length c1,.int .i64 u.num,.int .i64 u.least,.int .i64 u.most,.bool u.bare]).heap[w.heap.size]? = some (.cells (words fun _=>0#64) 94):=(heap_setRow_other _ _ _ hn0).trans (heap_alloc_lt Z0.out)
     have y3:(World.setRow (wr.alloc (.cells noNode 37)) wr.heap.size #[.int .i64 u.kind,.int .u64 (Oc.U u.w0),.int .u64 (Oc.U u.w1),.int .u64 (Oc.U u.w2),.int .u64 (Oc.U u.w3),.slice p1 u.subs.length c1,.int .i64 u.num,.int .i64 u.least,.int .i64 u.most,.bool u.bare]).heap[G3]? = some (.cells (words AC) 94):=(heap_setRow_other _ _ _ hn3).trans (heap_alloc_lt Z3.out)
     have Y0:=Lib.hid y0;have Y3:=Lib.hid y3;have Y5:=Lib.hid y5;have HB5:=Lib.hid hb5;have HN3:=Lib.hid hn3
     clear y0 y3 y5 hb5 hn0 hn3 hle5 HB Z0 Z3 d0 d1 d2 d3 d4 d5 d6 d7 d8 d9
     generalize (World.setRow (wr.alloc (.cells noNode 37)) wr.heap.size #[.int .i64 u.kind,.int .u64 (Oc.U u.w0),.int .u64 (Oc.U u.w1),.int .u64 (Oc.U u.w2),.int .u64 (Oc.U u.w3),.slice p1 u.subs.length c1,.int .i64 u.num,.int .i64 u.least,.int .i64 u.most,.bool u.bare])=W5 at *
     generalize wr.heap.size=G5 at *
     simp only [Act.put]
     refine Ri.wp_region_frame (by kernel_rfl) (by kernel_rfl) (by kernel_rfl) (by kernel_rfl)
       (fun L v w'=>Below w.heap.size w w'∧W5.heap.size ≤ w'.heap.size∧(L 5=true→w'.heap[G3]? = some (.cells (words (Re.eitherP AC TU)) 94))∧(L 5=false→w'.heap[G3]? = some (.cells (words AC) 94))∧(L 5=true→L 0=true)∧w'.heap[w.heap.size]? = some (.cells (words fun _=>0#64) 94)∧w'.heap[G5]? = some (.cells #[.int .i64 u.kind,.int .u64 (Oc.U u.w0),.int .u64 (Oc.U u.w1),.int .u64 (Oc.U u.w2),.int .u64 (Oc.U u.w3),.slice p1 u.subs.length c1,.int .i64 u.num,.int .i64 u.least,.int .i64 u.most,.bool u.bare] 37)∧(L 0=true→v 0=.agg (words AC))∧(L 1=true→v 1=.agg #[.int .i64 u.kind,.int .u64 (Oc.U u.w0),.int .u64 (Oc.U u.w1),.int .u64 (Oc.U u.w2),.int .u64 (Oc.U u.w3),.slice p1 u.subs.length c1,.int .i64 u.num,.int .i64 u.least,.int .i64 u.most,.bool u.bare])∧(L 2=true→v 2=.pointer (some ⟨b,0,none⟩))∧(L 3=true→v 3=.agg (words TU))∧(L 4=true→v 4=.agg (words (Re.eitherP AC TU))))
       ?_ ?_ ?_
     · exact ⟨HB5.out.drew,Nat.le_refl _,(by simp),(fun _=>Y3.out),by simp,Y0.out,Y5.out,by simp,by simp,by simp,by simp,by simp⟩
     · intro i hi9 L v w9 xa hI hL hd hv ho
       have hi':i=0 ∨ i=1 ∨ i=2 ∨ i=3 ∨ i=4 ∨ i=5:=by simp at hi9;omega
       obtain ⟨hb,hz,qn,qo,qm0,k0,k1,q0,q1,q2,q3,q4⟩:=hI
       rcases hi' with rfl | rfl | rfl | rfl | rfl | rfl
       · have e5:xa.tmps.getD 5 undef=.pointer (some ⟨G3,0,none⟩):=ho 5 (by kernel_rfl)
         refine Ri.step_plain rfl rfl (fun K' hK=>?_)
         have hl9:L 5=false:=by cases h:L 5 with | false=>rfl | true=>rw [qm0 h] at hL;cases hL
         refine wp_load_row _ _ rfl _ e5 _ _ _ _ (qo hl9) Tryd.underlying94 rfl (by rw [words_size];kernel_rfl) ?_
         exact hK _ _ ⟨_,_,rfl,rfl,hb,hz,qn,qo,(fun _=>rfl),k0,k1,fun _=>rfl,q1,q2,q3,q4⟩
       · have e7:xa.tmps.getD 7 undef=.pointer (some ⟨G5,0,none⟩):=ho 7 (by kernel_rfl)
         refine Ri.step_plain rfl rfl (fun K' hK=>?_)
         refine wp_load_row _ _ rfl _ e7 _ _ _ _ k1 Tryd.underlying37 rfl (by kernel_rfl) ?_
         exact hK _ _ ⟨_,_,rfl,rfl,hb,hz,qn,qo,qm0,k0,k1,q0,fun _=>rfl,q2,q3,q4⟩
       · have e1:xa.tmps.getD 1 undef=.pointer (some ⟨b,0,none⟩):=ho 1 (by kernel_rfl)
         refine Ri.step_plain rfl rfl (fun K' hK=>?_)
         go_simp
         exact hK _ _ ⟨_,_,rfl,rfl,hb,hz,qn,qo,qm0,k0,k1,q0,q1,fun _=>rfl,q3,q4⟩
       · have l0:L 1=true∧L 2=true:=by have:=hd _ rfl;simp [Region.binds] at this;simp [this]
         have f1:=(hv 1 15 rfl l0.1).trans (q1 l0.1)
         have f2:=(hv 2 16 rfl l0.2).trans (q2 l0.2)
         refine Ri.step_plain rfl rfl (fun K' hK=>?_)
         go_simp
         refine (HC.out _ hb).mono ?_
         rintro e w8 ⟨rfl,hb8⟩
         exact hK _ _ ⟨_,_,rfl,rfl,hb.trans (hb8.mono hb.size),Nat.le_trans hz hb8.size,(fun l=>keep_blk hb8 (qn l)),(fun l=>keep_blk hb8 (qo l)),qm0,(keep_blk hb8 k0),(keep_blk hb8 k1),q0,q1,q2,fun _=>rfl,q4⟩
       · have l0:L 0=true∧L 3=true:=by have:=hd _ rfl;simp [Region.binds] at this;simp [this]
         have f0:=(hv 0 14 rfl l0.1).trans (q0 l0.1)
         have f3:=(hv 3 17 rfl l0.2).trans (q3 l0.2)
         refine Ri.step_plain rfl rfl (fun K' hK=>?_)
         go_simp
         refine (HJ.out _ _ _ hb).mono ?_
         rintro e w8 ⟨rfl,hb8⟩
         exact hK _ _ ⟨_,_,rfl,rfl,hb.trans (hb8.mono hb.size),Nat.le_trans hz hb8.size,(fun l=>keep_blk hb8 (qn l)),(fun l=>keep_blk hb8 (qo l)),qm0,(keep_blk hb8 k0),(keep_blk hb8 k1),q0,q1,q2,q3,fun _=>rfl⟩
       · have l0:L 4=true:=by have:=hd _ rfl;simp [Region.binds] at this;simp [this]
         have f4:=(hv 4 18 rfl l0).trans (q4 l0)
         have e5:xa.tmps.getD 5 undef=.pointer (some ⟨G3,0,none⟩):=ho 5 (by kernel_rfl)
         refine Ri.step_plain rfl rfl (fun K' hK=>?_)
         have h0:L 0=true:=by have:=hd _ rfl;simp [Region.binds] at this;simp [this]
         refine wp_store_row _ _ _ rfl G3 (words (Re.eitherP AC TU)) e5 f4 94 _ (qo hL) (by rw [words_size];kernel_rfl) (by rw [words_size,words_size]) (words_one _) ?_
         exact hK _ _ ⟨_,undef,rfl,rfl,below_setRow hb (Nat.le_of_lt HLE.out) _,by simpa using hz,(fun _=>heap_setRow (qo hL)),(fun h=>by cases h),(fun _=>h0),(heap_setRow_other _ _ _ (Nat.ne_of_lt HLE.out)).trans k0,(heap_setRow_other _ _ _ (Ne.symm HN3.out)).trans k1,q0,q1,q2,q3,q4⟩
     · rintro v w9 ⟨hb,hz,qn,-,-,k0,k1,-,-,-,-,-⟩
       have zN:=qn rfl;clear qn
       simp only [Ri.frame,List.zipIdx,List.foldl_cons,List.foldl_nil,if_true,List.setIfInBounds_toArray,List.set_cons_zero,List.set_cons_succ,Nat.reduceAdd]
       generalize v 0=y0;generalize v 1=y1;generalize v 2=y2;generalize v 3=y3;generalize v 4=y4
       go_wp2
       refine ⟨⟨m+1,by go_num,by omega,Lib.hid hb,Lib.hid k0,Lib.hid ?_⟩,by simp [intOf];omega⟩
       rw [HAN.out,HNX.out];exact zN
   · obtain rfl:m=ts.length:=by omega
     have z3:=Z3.out
     rw [List.take_length] at z3
     have Y3:=Lib.hid z3
     clear z3 Z3 HI HX HEN HS
     go_wp2_with (first
       | (refine wpList_load_row rfl 94 (.tmp 5) rfl G3 rfl 94 (words (Tr.tabAlt x ts (fun _=>0#64))) (0,0) _ Y3.out Tryd.underlying94 rfl (by rw [words_size];kernel_rfl) ?_)
       | (refine wpList_store_row rfl 94 (.tmp 4) (.tmp 20) rfl w.heap.size (words (Tr.tabAlt x ts (fun _=>0#64))) rfl rfl 94 _ Z0.out (by rw [words_size];kernel_rfl) (by rw [words_size,words_size]) (words_one _) ?_)
       | fail)
     exact bodyPost_ret (results_cell_row rfl _ _ w.heap.size 94 (words (Tr.tabAlt x ts (fun _=>0#64))) (0,0) _ rfl (heap_setRow Z0.out) Tryd.underlying94 rfl (by rw [words_size];kernel_rfl)) rfl ⟨rfl,below_setRow HB.out (Nat.le_refl _) _⟩
end Go.Proofs.YtnaoiglbjkjogaaDoor
namespace Go.Proofs.YtnaoiglbjkjogaaDoor
open Go.RowKit
theorem rerounds_none (x:Sc) (b:Nat) (hn:x.t.size ≤ 63) (t u:Tr) (w:World) (B:Nat→Prop) (v:Value) (hx:ScAt w b x) (hE:ReEnv w) (hs:TreesAt w B v [u]) (lo hi:Int) (hlo:t.least=lo) (hhi:t.most=hi) (h0:hi=0) :
   Calls Tryd.prog 90 #[.agg (t.cells v),.pointer (some ⟨b,0,none⟩)] w (TabEnd (Re.emptyP x.t.size fun _=>true) w):=by
 obtain ⟨p,cap,rfl,hlen⟩:=hs.slice
 simp only [List.length_singleton] at *
 have hz:=words_zero
 have HS:=Lib.hid hs;have HX:=Lib.hid hx;have HEN:=Lib.hid hE
 clear hs hx hE
 unfold Tr.cells
 rw [hlo,hhi]
 clear hlo hhi
 subst h0
 go_enter Tryd.func90,Tryd.ntmps90
 go_wp2_with fail
 have yn:((w.alloc (.cells #[.int .i64 t.kind,.int .u64 (Oc.U t.w0),.int .u64 (Oc.U t.w1),.int .u64 (Oc.U t.w2),.int .u64 (Oc.U t.w3),.slice p 1 cap,.int .i64 t.num,.int .i64 lo,.int .i64 0,.bool t.bare] 37)).alloc (.cells (words fun _=>0#64) 94)).heap[w.heap.size]? = some (.cells #[.int .i64 t.kind,.int .u64 (Oc.U t.w0),.int .u64 (Oc.U t.w1),.int .u64 (Oc.U t.w2),.int .u64 (Oc.U t.w3),.slice p 1 cap,.int .i64 t.num,.int .i64 lo,.int .i64 0,.bool t.bare] 37):=heap_alloc_lt (row_new _ _ _ rfl)
 have y4:((w.alloc (.cells #[.int .i64 t.kind,.int .u64 (Oc.U t.w0),.int .u64 (Oc.U t.w1),.int .u64 (Oc.U t.w2),.int .u64 (Oc.U t.w3),.slice p 1 cap,.int .i64 t.num,.int .i64 lo,.int .i64 0,.bool t.bare] 37)).alloc (.cells (words fun _=>0#64) 94)).heap[w.heap.size+1]? = some (.cells (words fun _=>0#64) 94):=row_new _ _ _ (by simp)
 have hb1:Below w.heap.size w ((w.alloc (.cells #[.int .i64 t.kind,.int .u64 (Oc.U t.w0),.int .u64 (Oc.U t.w1),.int .u64 (Oc.U t.w2),.int .u64 (Oc.U t.w3),.slice p 1 cap,.int .i64 t.num,.int .i64 lo,.int .i64 0,.bool t.bare] 37)).alloc (.cells (words fun _=>0#64) 94)):=by go_grown
 have YN:=Lib.hid yn;have Y4:=Lib.hid y4;have HB1:=Lib.hid hb1
 clear yn y4 hb1
 generalize ((w.alloc (.cells #[.int .i64 t.kind,.int .u64 (Oc.U t.w0),.int .u64 (Oc.U t.w1),.int .u64 (Oc.U t.w2),.int .u64 (Oc.U t.w3),.slice p 1 cap,.int .i64 t.num,.int .i64 lo,.int .i64 0,.bool t.bare] 37)).alloc (.cells (words fun _=>0#64) 94))=W1 at *
 refine (reemptyall_any x b hn W1 (HX.out.below HB1.out)).mono ?_
 rintro e w2 ⟨rfl,hb2⟩
 have HB2:=Lib.hid (HB1.out.trans (hb2.mono HB1.out.size));have N2:=Lib.hid (keep_blk hb2 YN.out);have Z2:=Lib.hid (keep_blk hb2 Y4.out)
 clear hb2 YN Y4 HB1
 go_upto_region 2 with (first
   | (refine wpList_store_row rfl 94 (.tmp 5) (.tmp 9) rfl w2.heap.size (words (Re.emptyP x.t.size fun _=>true)) rfl rfl 94 _ (row_new _ _ _ rfl) (by rw [words_size];kernel_rfl) (by rw [words_size,words_size]) (words_one _) ?_)
   | fail)
 have hlt4:w.heap.size+1 < w2.heap.size:=blk_lt Z2.out
 have zn:(World.setRow (w2.alloc (.cells (words fun _=>0#64) 94)) w2.heap.size (words (Re.emptyP x.t.size fun _=>true))).heap[w.heap.size]? = some (.cells #[.int .i64 t.kind,.int .u64 (Oc.U t.w0),.int .u64 (Oc.U t.w1),.int .u64 (Oc.U t.w2),.int .u64 (Oc.U t.w3),.slice p 1 cap,.int .i64 t.num,.int .i64 lo,.int .i64 0,.bool t.bare] 37):=(heap_setRow_other _ _ _ (by omega)).trans (heap_alloc_lt N2.out)
 have z4:(World.setRow (w2.alloc (.cells (words fun _=>0#64) 94)) w2.heap.size (words (Re.emptyP x.t.size fun _=>true))).heap[w.heap.size+1]? = some (.cells (words fun _=>0#64) 94):=(heap_setRow_other _ _ _ (by omega)).trans (heap_alloc_lt Z2.out)
 have z5:(World.setRow (w2.alloc (.cells (words fun _=>0#64) 94)) w2.heap.size (words (Re.emptyP x.t.size fun _=>true))).heap[w2.heap.size]? = some (.cells (words (Re.emptyP x.t.size fun _=>true)) 94):=heap_setRow (row_new _ _ _ rfl)
 have hB:Below w.heap.size w (World.setRow (w2.alloc (.cells (words fun _=>0#64) 94)) w2.heap.size (words (Re.emptyP x.t.size fun _=>true))):=below_setRow (HB2.out.alloc HB2.out.size _) HB2.out.size _
 have ZN:=Lib.hid zn;have Z4:=Lib.hid z4;have Z5:=Lib.hid z5;have HB:=Lib.hid hB;have L4:=Lib.hid hlt4
 clear zn z4 z5 hB hlt4 N2 Z2 HB2
 generalize (World.setRow (w2.alloc (.cells (words fun _=>0#64) 94)) w2.heap.size (words (Re.emptyP x.t.size fun _=>true)))=W3 at *
 generalize w2.heap.size=G5 at *
 simp only [Act.put]
 obtain ⟨n0,n1,n2,n3,n4,n5,n6,n7,n8,n9⟩:=allTen ZN.out
 go_wp2_with (first
   | (refine wpList_load_row rfl 94 (.tmp 5) rfl G5 rfl 94 (words (Re.emptyP x.t.size fun _=>true)) (0,0) _ Z5.out Tryd.underlying94 rfl (by rw [words_size];kernel_rfl) ?_)
   | (refine wpList_store_row rfl 94 (.tmp 4) (.tmp 13) rfl (w.heap.size+1) (words (Re.emptyP x.t.size fun _=>true)) rfl rfl 94 _ Z4.out (by rw [words_size];kernel_rfl) (by rw [words_size,words_size]) (words_one _) ?_)
   | fail)
 exact bodyPost_ret (results_cell_row rfl _ _ (w.heap.size+1) 94 (words (Re.emptyP x.t.size fun _=>true)) (0,0) _ rfl (heap_setRow Z4.out) Tryd.underlying94 rfl (by rw [words_size];kernel_rfl)) rfl ⟨rfl,below_setRow HB.out (Nat.le_succ _) _⟩
theorem rerounds_any (x:Sc) (b:Nat) (hn:x.t.size ≤ 63) (t u:Tr) (IH:Taken x b u) (w:World) (B:Nat→Prop) (v:Value) (hx:ScAt w b x) (hE:ReEnv w) (hs:TreesAt w B v [u]) (hi:Int) (l:Nat) (hl:l ≤ 255) (hlo:t.least=(l:Int)) (hhi:t.most=hi) (h0:hi ≠ 0) (he:hi = -1) :
   Calls Tryd.prog 90 #[.agg (t.cells v),.pointer (some ⟨b,0,none⟩)] w (TabEnd (Re.minP (Tr.tabT x u) (Re.anyP (Re.longerP (Tr.tabT x u)) (Re.emptyP x.t.size fun _=>true) 64) l) w):=by
 obtain ⟨p,cap,rfl,hlen⟩:=hs.slice
 simp only [List.length_singleton] at *
 have hz:=words_zero
 have HS:=Lib.hid hs;have HI:=Lib.hid IH;have HX:=Lib.hid hx;have HEN:=Lib.hid hE
 clear hs IH hx hE
 have HE1:=Lib.hid he;have H00:=Lib.hid h0
 clear he h0
 unfold Tr.cells
 rw [hlo,hhi]
 clear hlo hhi
 go_enter Tryd.func90,Tryd.ntmps90
 go_wp2_with fail
 have yn:((w.alloc (.cells #[.int .i64 t.kind,.int .u64 (Oc.U t.w0),.int .u64 (Oc.U t.w1),.int .u64 (Oc.U t.w2),.int .u64 (Oc.U t.w3),.slice p 1 cap,.int .i64 t.num,.int .i64 (l:Int),.int .i64 hi,.bool t.bare] 37)).alloc (.cells (words fun _=>0#64) 94)).heap[w.heap.size]? = some (.cells #[.int .i64 t.kind,.int .u64 (Oc.U t.w0),.int .u64 (Oc.U t.w1),.int .u64 (Oc.U t.w2),.int .u64 (Oc.U t.w3),.slice p 1 cap,.int .i64 t.num,.int .i64 (l:Int),.int .i64 hi,.bool t.bare] 37):=heap_alloc_lt (row_new _ _ _ rfl)
 have y4:((w.alloc (.cells #[.int .i64 t.kind,.int .u64 (Oc.U t.w0),.int .u64 (Oc.U t.w1),.int .u64 (Oc.U t.w2),.int .u64 (Oc.U t.w3),.slice p 1 cap,.int .i64 t.num,.int .i64 (l:Int),.int .i64 hi,.bool t.bare] 37)).alloc (.cells (words fun _=>0#64) 94)).heap[w.heap.size+1]? = some (.cells (words fun _=>0#64) 94):=row_new _ _ _ (by simp)
 have hb1:Below w.heap.size w ((w.alloc (.cells #[.int .i64 t.kind,.int .u64 (Oc.U t.w0),.int .u64 (Oc.U t.w1),.int .u64 (Oc.U t.w2),.int .u64 (Oc.U t.w3),.slice p 1 cap,.int .i64 t.num,.int .i64 (l:Int),.int .i64 hi,.bool t.bare] 37)).alloc (.cells (words fun _=>0#64) 94)):=by go_grown
 have YN:=Lib.hid yn;have Y4:=Lib.hid y4;have HB1:=Lib.hid hb1
 clear yn y4 hb1
 generalize ((w.alloc (.cells #[.int .i64 t.kind,.int .u64 (Oc.U t.w0),.int .u64 (Oc.U t.w1),.int .u64 (Oc.U t.w2),.int .u64 (Oc.U t.w3),.slice p 1 cap,.int .i64 t.num,.int .i64 (l:Int),.int .i64 hi,.bool t.bare] 37)).alloc (.cells (words fun _=>0#64) 94))=W1 at *
 refine (reemptyall_any x b hn W1 (HX.out.below HB1.out)).mono ?_
 rintro e w2 ⟨rfl,hb2⟩
 have HB2:=Lib.hid (HB1.out.trans (hb2.mono HB1.out.size));have N2:=Lib.hid (keep_blk hb2 YN.out);have Z2:=Lib.hid (keep_blk hb2 Y4.out)
 clear hb2 YN Y4 HB1
 go_upto_region 2 with (first
   | (refine wpList_store_row rfl 94 (.tmp 5) (.tmp 9) rfl w2.heap.size (words (Re.emptyP x.t.size fun _=>true)) rfl rfl 94 _ (row_new _ _ _ rfl) (by rw [words_size];kernel_rfl) (by rw [words_size,words_size]) (words_one _) ?_)
   | fail)
 have hlt4:w.heap.size+1 < w2.heap.size:=blk_lt Z2.out
 have zn:(World.setRow (w2.alloc (.cells (words fun _=>0#64) 94)) w2.heap.size (words (Re.emptyP x.t.size fun _=>true))).heap[w.heap.size]? = some (.cells #[.int .i64 t.kind,.int .u64 (Oc.U t.w0),.int .u64 (Oc.U t.w1),.int .u64 (Oc.U t.w2),.int .u64 (Oc.U t.w3),.slice p 1 cap,.int .i64 t.num,.int .i64 (l:Int),.int .i64 hi,.bool t.bare] 37):=(heap_setRow_other _ _ _ (by omega)).trans (heap_alloc_lt N2.out)
 have z4:(World.setRow (w2.alloc (.cells (words fun _=>0#64) 94)) w2.heap.size (words (Re.emptyP x.t.size fun _=>true))).heap[w.heap.size+1]? = some (.cells (words fun _=>0#64) 94):=(heap_setRow_other _ _ _ (by omega)).trans (heap_alloc_lt Z2.out)
 have z5:(World.setRow (w2.alloc (.cells (words fun _=>0#64) 94)) w2.heap.size (words (Re.emptyP x.t.size fun _=>true))).heap[w2.heap.size]? = some (.cells (words (Re.emptyP x.t.size fun _=>true)) 94):=heap_setRow (row_new _ _ _ rfl)
 have hB:Below w.heap.size w (World.setRow (w2.alloc (.cells (words fun _=>0#64) 94)) w2.heap.size (words (Re.emptyP x.t.size fun _=>true))):=below_setRow (HB2.out.alloc HB2.out.size _) HB2.out.size _
 have ZN:=Lib.hid zn;have Z4:=Lib.hid z4;have Z5:=Lib.hid z5;have HB:=Lib.hid hB;have L4:=Lib.hid hlt4
 clear zn z4 z5 hB hlt4 N2 Z2 HB2
 generalize (World.setRow (w2.alloc (.cells (words fun _=>0#64) 94)) w2.heap.size (words (Re.emptyP x.t.size fun _=>true)))=W3 at *
 generalize w2.heap.size=G5 at *
 simp only [Act.put]
 obtain ⟨n0,n1,n2,n3,n4,n5,n6,n7,n8,n9⟩:=allTen ZN.out
 have hne0:(hi == 0)=false:=by rw [beq_eq_false_iff_ne];exact H00.out
 obtain ⟨b1,o1,s1,rfl,-,t1,sub1⟩:=HS.out.get (i:=0) (t:=u) rfl
 rw [Nat.zero_mul,Nat.add_zero] at t1
 obtain ⟨d0,d1,d2,d3,d4,d5,d6,d7,d8,d9⟩:=t1.keep (HB.out.block _ t1.lt)
 obtain ⟨p1,c1,rfl,hl1⟩:=sub1.slice
 have HC:=Lib.hid (show ∀ w9,Below w.heap.size w w9→Calls Tryd.prog 54 #[.agg #[.int .i64 u.kind,.int .u64 (Oc.U u.w0),.int .u64 (Oc.U u.w1),.int .u64 (Oc.U u.w2),.int .u64 (Oc.U u.w3),.slice p1 u.subs.length c1,.int .i64 u.num,.int .i64 u.least,.int .i64 u.most,.bool u.bare],.pointer (some ⟨b,0,none⟩)] w9 fun e w'=>e=.returned (.agg (words (Tr.tabT x u)))∧Below w9.heap.size w9 w' from fun w9 hb=>HI.out w9 B (.agg (u.cells (.slice p1 u.subs.length c1))) (HX.out.below hb) (HEN.out.below hb) ⟨_,rfl,sub1.later hb⟩)
 clear t1 sub1 HI HX HS
 generalize hTU:Tr.tabT x u=TU at *
 have HTU:=Lib.hid hTU
 clear hTU
 go_wp2_with fail
 refine (HC.out _ HB.out).mono ?_
 rintro e w4 ⟨rfl,hb4⟩
 have HB4:=Lib.hid (HB.out.trans (hb4.mono HB.out.size));have N4:=Lib.hid (keep_blk hb4 ZN.out);have Y4:=Lib.hid (keep_blk hb4 Z4.out);have Y5:=Lib.hid (keep_blk hb4 Z5.out)
 have L5:=Lib.hid (show G5 < w4.heap.size from Nat.lt_of_lt_of_le (blk_lt Z5.out) hb4.size)
 clear hb4 HB ZN Z4 Z5 HC n0 n1 n2 n3 n4 n5 n6 n7 n8 n9 d0 d1 d2 d3 d4 d5 d6 d7 d8 d9
 go_upto_region 5 with (first
   | (refine wpList_store_row rfl 94 (.tmp 6) (.tmp 19) rfl w4.heap.size (words TU) rfl rfl 94 _ (row_new _ _ _ rfl) (by rw [words_size];kernel_rfl) (by rw [words_size,words_size]) (words_one _) ?_)
   | fail)
 have zn:(World.setRow (w4.alloc (.cells (words fun _=>0#64) 94)) w4.heap.size (words TU)).heap[w.heap.size]? = some (.cells #[.int .i64 t.kind,.int .u64 (Oc.U t.w0),.int .u64 (Oc.U t.w1),.int .u64 (Oc.U t.w2),.int .u64 (Oc.U t.w3),.slice (some ⟨b1,o1,none⟩) 1 cap,.int .i64 t.num,.int .i64 (l:Int),.int .i64 hi,.bool t.bare] 37):=(heap_setRow_other _ _ _ (by have:=L4.out;have:=L5.out;omega)).trans (heap_alloc_lt N4.out)
 have z4:(World.setRow (w4.alloc (.cells (words fun _=>0#64) 94)) w4.heap.size (words TU)).heap[w.heap.size+1]? = some (.cells (words fun _=>0#64) 94):=(heap_setRow_other _ _ _ (by have:=L4.out;have:=L5.out;omega)).trans (heap_alloc_lt Y4.out)
 have z5:(World.setRow (w4.alloc (.cells (words fun _=>0#64) 94)) w4.heap.size (words TU)).heap[G5]? = some (.cells (words (Re.emptyP x.t.size fun _=>true)) 94):=(heap_setRow_other _ _ _ (by have:=L5.out;omega)).trans (heap_alloc_lt Y5.out)
 have z6:(World.setRow (w4.alloc (.cells (words fun _=>0#64) 94)) w4.heap.size (words TU)).heap[w4.heap.size]? = some (.cells (words TU) 94):=heap_setRow (row_new _ _ _ rfl)
 have hB:Below w.heap.size w (World.setRow (w4.alloc (.cells (words fun _=>0#64) 94)) w4.heap.size (words TU)):=below_setRow (HB4.out.alloc HB4.out.size _) HB4.out.size _
 have ZN:=Lib.hid zn;have Z4:=Lib.hid z4;have Z5:=Lib.hid z5;have Z6:=Lib.hid z6;have HB:=Lib.hid hB
 clear zn z4 z5 z6 hB N4 Y4 Y5 HB4
 generalize (World.setRow (w4.alloc (.cells (words fun _=>0#64) 94)) w4.heap.size (words TU))=W5 at *
 generalize w4.heap.size=G6 at *
 simp only [Act.put]
 go_upto_region 6 with (first
   | (refine wpList_load_row rfl 94 (.tmp 5) rfl G5 rfl 94 (words (Re.emptyP x.t.size fun _=>true)) (0,0) _ Z5.out Tryd.underlying94 rfl (by rw [words_size];kernel_rfl) ?_)
   | (refine wpList_store_row rfl 94 (.tmp 7) (.tmp 20) rfl W5.heap.size (words (Re.emptyP x.t.size fun _=>true)) rfl rfl 94 _ (row_new _ _ _ rfl) (by rw [words_size];kernel_rfl) (by rw [words_size,words_size]) (words_one _) ?_)
   | fail)
 have L6:=Lib.hid (blk_lt Z6.out)
 have yn:(World.setRow (W5.alloc (.cells (words fun _=>0#64) 94)) W5.heap.size (words (Re.emptyP x.t.size fun _=>true))).heap[w.heap.size]? = some (.cells #[.int .i64 t.kind,.int .u64 (Oc.U t.w0),.int .u64 (Oc.U t.w1),.int .u64 (Oc.U t.w2),.int .u64 (Oc.U t.w3),.slice (some ⟨b1,o1,none⟩) 1 cap,.int .i64 t.num,.int .i64 (l:Int),.int .i64 hi,.bool t.bare] 37):=(heap_setRow_other _ _ _ (by have:=L4.out;have:=L5.out;have:=L6.out;omega)).trans (heap_alloc_lt ZN.out)
 have y4:(World.setRow (W5.alloc (.cells (words fun _=>0#64) 94)) W5.heap.size (words (Re.emptyP x.t.size fun _=>true))).heap[w.heap.size+1]? = some (.cells (words fun _=>0#64) 94):=(heap_setRow_other _ _ _ (by have:=L4.out;have:=L5.out;have:=L6.out;omega)).trans (heap_alloc_lt Z4.out)
 have y5:(World.setRow (W5.alloc (.cells (words fun _=>0#64) 94)) W5.heap.size (words (Re.emptyP x.t.size fun _=>true))).heap[G5]? = some (.cells (words (Re.emptyP x.t.size fun _=>true)) 94):=(heap_setRow_other _ _ _ (by have:=L5.out;have:=L6.out;omega)).trans (heap_alloc_lt Z5.out)
 have y6:(World.setRow (W5.alloc (.cells (words fun _=>0#64) 94)) W5.heap.size (words (Re.emptyP x.t.size fun _=>true))).heap[G6]? = some (.cells (words TU) 94):=(heap_setRow_other _ _ _ (by have:=L6.out;omega)).trans (heap_alloc_lt Z6.out)
 have y7:(World.setRow (W5.alloc (.cells (words fun _=>0#64) 94)) W5.heap.size (words (Re.emptyP x.t.size fun _=>true))).heap[W5.heap.size]? = some (.cells (words (Re.emptyP x.t.size fun _=>true)) 94):=heap_setRow (row_new _ _ _ rfl)
 have hB6:Below w.heap.size w (World.setRow (W5.alloc (.cells (words fun _=>0#64) 94)) W5.heap.size (words (Re.emptyP x.t.size fun _=>true))):=below_setRow (HB.out.alloc HB.out.size _) HB.out.size _
 have YN:=Lib.hid yn;have Y4:=Lib.hid y4;have Y5:=Lib.hid y5;have Y6:=Lib.hid y6;have Y7:=Lib.hid y7;have HB6:=Lib.hid hB6
 clear yn y4 y5 y6 y7 hB6 ZN Z4 Z5 Z6 HB
 generalize (World.setRow (W5.alloc (.cells (words fun _=>0#64) 94)) W5.heap.size (words (Re.emptyP x.t.size fun _=>true)))=W6 at *
 generalize W5.heap.size=G7 at *
 simp only [Act.put]
 obtain ⟨n0,n1,n2,n3,n4,n5,n6,n7,n8,n9⟩:=allTen YN.out
 have HEW:=Lib.hid (fun w9 (hb:Below w.heap.size w w9)=>HEN.out.below hb)
 clear HEN
 have hne1:(hi == -1)=true:=by rw [HE1.out];rfl
 have HA:=Lib.hid (fun w9 (hb:Below w.heap.size w w9)=>reany_any (Re.longerP TU) (Re.emptyP x.t.size fun _=>true) w9 (HEW.out w9 hb))
 clear HE1
 go_wp2_with fail
 refine Ri.wp_region_frame (by kernel_rfl) (by kernel_rfl) (by kernel_rfl) (by kernel_rfl)
   (fun L v w'=>Below w.heap.size w w'∧W6.heap.size ≤ w'.heap.size∧(L 4=true→w'.heap[G7]? = some (.cells (words (Re.anyP (Re.longerP TU) (Re.emptyP x.t.size fun _=>true) 64)) 94))∧(L 4=false→w'.heap[G7]? = some (.cells (words (Re.emptyP x.t.size fun _=>true)) 94))∧w'.heap[w.heap.size]? = some (.cells #[.int .i64 t.kind,.int .u64 (Oc.U t.w0),.int .u64 (Oc.U t.w1),.int .u64 (Oc.U t.w2),.int .u64 (Oc.U t.w3),.slice (some ⟨b1,o1,none⟩) 1 cap,.int .i64 t.num,.int .i64 (l:Int),.int .i64 hi,.bool t.bare] 37)∧w'.heap[(w.heap.size+1)]? = some (.cells (words fun _=>0#64) 94)∧w'.heap[G5]? = some (.cells (words (Re.emptyP x.t.size fun _=>true)) 94)∧w'.heap[G6]? = some (.cells (words TU) 94)∧(L 0=true→v 0=.agg (words TU))∧(L 1=true→v 1=.agg (words (Re.longerP TU)))∧(L 2=true→v 2=.agg (words (Re.emptyP x.t.size fun _=>true)))∧(L 3=true→v 3=.agg (words (Re.anyP (Re.longerP TU) (Re.emptyP x.t.size fun _=>true) 64))))
   ?_ ?_ ?_
 · exact ⟨HB6.out.drew,Nat.le_refl _,(by simp),(fun _=>Y7.out),YN.out,Y4.out,Y5.out,Y6.out,by simp,by simp,by simp,by simp⟩
 · intro i hi9 L v w9 xa hI hL hd hv ho
   have hi':i=0 ∨ i=1 ∨ i=2 ∨ i=3 ∨ i=4:=by simp at hi9;omega
   obtain ⟨hb,hz,qn,qo,k0,k1,k2,k3,q0,q1,q2,q3⟩:=hI
   rcases hi' with rfl | rfl | rfl | rfl | rfl
   · have e6:xa.tmps.getD 6 undef=.pointer (some ⟨G6,0,none⟩):=ho 6 (by kernel_rfl)
     refine Ri.step_plain rfl rfl (fun K' hK=>?_)
     refine wp_load_row _ _ rfl _ e6 _ _ _ _ k3 Tryd.underlying94 rfl (by rw [words_size];kernel_rfl) ?_
     exact hK _ _ ⟨_,_,rfl,rfl,hb,hz,qn,qo,k0,k1,k2,k3,fun _=>rfl,q1,q2,q3⟩
   · have l0:L 0=true:=by have:=hd _ rfl;simp [Region.binds] at this;simp [this]
     have f0:=(hv 0 24 rfl l0).trans (q0 l0)
     refine Ri.step_plain rfl rfl (fun K' hK=>?_)
     go_simp
     refine (relonger_any _ _).mono ?_
     rintro e w8 ⟨rfl,hb8⟩
     exact hK _ _ ⟨_,_,rfl,rfl,hb.trans (hb8.mono hb.size),Nat.le_trans hz hb8.size,(fun l=>keep_blk hb8 (qn l)),(fun l=>keep_blk hb8 (qo l)),(keep_blk hb8 k0),(keep_blk hb8 k1),(keep_blk hb8 k2),(keep_blk hb8 k3),q0,fun _=>rfl,q2,q3⟩
   · have e5:xa.tmps.getD 5 undef=.pointer (some ⟨G5,0,none⟩):=ho 5 (by kernel_rfl)
     refine Ri.step_plain rfl rfl (fun K' hK=>?_)
     refine wp_load_row _ _ rfl _ e5 _ _ _ _ k2 Tryd.underlying94 rfl (by rw [words_size];kernel_rfl) ?_
     exact hK _ _ ⟨_,_,rfl,rfl,hb,hz,qn,qo,k0,k1,k2,k3,q0,q1,fun _=>rfl,q3⟩
   · have l0:L 1=true∧L 2=true:=by have:=hd _ rfl;simp [Region.binds] at this;simp [this]
     have f1:=(hv 1 25 rfl l0.1).trans (q1 l0.1)
     have f2:=(hv 2 26 rfl l0.2).trans (q2 l0.2)
     refine Ri.step_plain rfl rfl (fun K' hK=>?_)
     go_simp
     refine (HA.out _ hb).mono ?_
     rintro e w8 ⟨rfl,hb8⟩
     exact hK _ _ ⟨_,_,rfl,rfl,hb.trans (hb8.mono hb.size),Nat.le_trans hz hb8.size,(fun l=>keep_blk hb8 (qn l)),(fun l=>keep_blk hb8 (qo l)),(keep_blk hb8 k0),(keep_blk hb8 k1),(keep_blk hb8 k2),(keep_blk hb8 k3),q0,q1,q2,fun _=>rfl⟩
   · have l0:L 3=true:=by have:=hd _ rfl;simp [Region.binds] at this;simp [this]
     have f3:=(hv 3 27 rfl l0).trans (q3 l0)
     have e7:xa.tmps.getD 7 undef=.pointer (some ⟨G7,0,none⟩):=ho 7 (by kernel_rfl)
     refine Ri.step_plain rfl rfl (fun K' hK=>?_)
     refine wp_store_row _ _ _ rfl G7 (words (Re.anyP (Re.longerP TU) (Re.emptyP x.t.size fun _=>true) 64)) e7 f3 94 _ (qo hL) (by rw [words_size];kernel_rfl) (by rw [words_size,words_size]) (words_one _) ?_
     exact hK _ _ ⟨_,undef,rfl,rfl,below_setRow hb (by have:=L4.out;have:=L5.out;have:=L6.out;omega) _,by simpa using hz,(fun _=>heap_setRow (qo hL)),(fun h=>by cases h),(heap_setRow_other _ _ _ (by have:=L4.out;have:=L5.out;have:=L6.out;omega)).trans k0,(heap_setRow_other _ _ _ (by have:=L4.out;have:=L5.out;have:=L6.out;omega)).trans k1,(heap_setRow_other _ _ _ (by have:=L5.out;have:=L6.out;omega)).trans k2,(heap_setRow_other _ _ _ (by have:=L6.out;omega)).trans k3,q0,q1,q2,q3⟩
 · rintro v w9 ⟨hb,hz,qn,-,k0,k1,k2,k3,-,-,-,-⟩
   have zN:=qn rfl;clear qn
   simp only [Ri.frame,List.zipIdx,List.foldl_cons,List.foldl_nil,if_true,List.setIfInBounds_toArray,List.set_cons_zero,List.set_cons_succ,Nat.reduceAdd]
   generalize v 0=y0;generalize v 1=y1;generalize v 2=y2;generalize v 3=y3
   have HB7:=Lib.hid hb;have M7:=Lib.hid zN;have MN:=Lib.hid k0;have M4:=Lib.hid k1;have M6:=Lib.hid k3
   clear hb zN k0 k1 k2 k3 hz n0 n1 n2 n3 n4 n5 n6 n7 n8 n9 HB6 YN Y4 Y5 Y6 Y7
   obtain ⟨n0,n1,n2,n3,n4,n5,n6,n7,n8,n9⟩:=allTen MN.out
   go_wp2
   go_loopw [39] (fun iv wr=>∃ m:Nat,iv=.int .i64 (m:Int)∧m ≤ l∧Hid (Below w.heap.size w wr)∧Hid (wr.heap[w.heap.size+1]? = some (.cells (words fun _=>0#64) 94))∧Hid (wr.heap[G6]? = some (.cells (words TU) 94))∧Hid (wr.heap[G7]? = some (.cells (words (Re.minP TU (Re.anyP (Re.longerP TU) (Re.emptyP x.t.size fun _=>true) 64) m)) 94))) (fun iv _=>l - (intOf iv).toNat)
   case atStart=>exact ⟨0,rfl,Nat.zero_le _,HB7,M4,M6,M7⟩
   case round =>
     clear HB7 M7 MN M4 M6
     obtain ⟨m,rfl,hm,HB,Z4,Z6,Z7⟩:=hrel
     by_cases hlt:m < l
     · have wi:IntKind.i64.wrap ((m:Int)+1)=(m:Int)+1:=IntWalk.i64_in _ (by omega)
       have HJ:=Lib.hid (rejoined_any TU (Re.minP TU (Re.anyP (Re.longerP TU) (Re.emptyP x.t.size fun _=>true) 64) m) wr (HEW.out _ HB.out))
       clear HEW
       go_wp2_with (first
         | (refine wpList_load_row rfl 94 (.tmp 6) rfl G6 rfl 94 (words TU) (0,0) _ Z6.out Tryd.underlying94 rfl (by rw [words_size];kernel_rfl) ?_)
         | (refine wpList_load_row rfl 94 (.tmp 7) rfl G7 rfl 94 (words (Re.minP TU (Re.anyP (Re.longerP TU) (Re.emptyP x.t.size fun _=>true) 64) m)) (0,0) _ Z7.out Tryd.underlying94 rfl (by rw [words_size];kernel_rfl) ?_)
         | fail)
       refine HJ.out.mono ?_
       rintro e w8 ⟨rfl,hb8⟩
       have HB8:=Lib.hid (HB.out.trans (hb8.mono HB.out.size));have V4:=Lib.hid (keep_blk hb8 Z4.out);have V6:=Lib.hid (keep_blk hb8 Z6.out);have V7:=Lib.hid (keep_blk hb8 Z7.out)
       clear hb8 HB Z4 Z6 Z7 HJ
       go_wp2_with (first
         | (refine wpList_store_row rfl 94 (.tmp 7) (.tmp 43) rfl G7 (words (Re.minP TU (Re.anyP (Re.longerP TU) (Re.emptyP x.t.size fun _=>true) 64) (m+1))) rfl rfl 94 _ V7.out (by rw [words_size];kernel_rfl) (by rw [words_size,words_size]) (words_one _) ?_)
         | fail)
       refine ⟨⟨m+1,by go_num,by omega,Lib.hid (below_setRow HB8.out (by have:=L4.out;have:=L5.out;have:=L6.out;omega) _),Lib.hid ?_,Lib.hid ?_,Lib.hid (heap_setRow V7.out)⟩,by simp [intOf];omega⟩
       · exact (heap_setRow_other _ _ _ (by have:=L4.out;have:=L5.out;have:=L6.out;omega)).trans V4.out
       · exact (heap_setRow_other _ _ _ (by have:=L6.out;omega)).trans V6.out
     · obtain rfl:m=l:=by omega
       go_wp2_with (first
         | (refine wpList_load_row rfl 94 (.tmp 7) rfl G7 rfl 94 (words (Re.minP TU (Re.anyP (Re.longerP TU) (Re.emptyP x.t.size fun _=>true) 64) m)) (0,0) _ Z7.out Tryd.underlying94 rfl (by rw [words_size];kernel_rfl) ?_)
         | (refine wpList_store_row rfl 94 (.tmp 4) (.tmp 45) rfl (w.heap.size+1) (words (Re.minP TU (Re.anyP (Re.longerP TU) (Re.emptyP x.t.size fun _=>true) 64) m)) rfl rfl 94 _ Z4.out (by rw [words_size];kernel_rfl) (by rw [words_size,words_size]) (words_one _) ?_)
         | fail)
       refine bodyPost_ret (results_cell_row rfl _ _ (w.heap.size+1) 94 (words (Re.minP TU (Re.anyP (Re.longerP TU) (Re.emptyP x.t.size fun _=>true) 64) m)) (0,0) _ rfl (heap_setRow Z4.out) Tryd.underlying94 rfl (by rw [words_size];kernel_rfl)) rfl ⟨by rw [HTU.out],below_setRow HB.out (Nat.le_succ _) _⟩
theorem rerounds_most (x:Sc) (b:Nat) (hn:x.t.size ≤ 63) (t u:Tr) (IH:Taken x b u) (w:World) (B:Nat→Prop) (v:Value) (hx:ScAt w b x) (hE:ReEnv w) (hs:TreesAt w B v [u]) (hi:Int) (l:Nat) (hl:l ≤ 255) (hlo:t.least=(l:Int)) (hhi:t.most=hi) (h0:hi ≠ 0) (d:Nat) (hd:hi=(l:Int)+d) (hd255:hi ≤ 255) :
   Calls Tryd.prog 90 #[.agg (t.cells v),.pointer (some ⟨b,0,none⟩)] w (TabEnd (Re.minP (Tr.tabT x u) (Re.mostP (Re.longerP (Tr.tabT x u)) (Re.emptyP x.t.size fun _=>true) d) l) w):=by
 obtain ⟨p,cap,rfl,hlen⟩:=hs.slice
 simp only [List.length_singleton] at *
 have hz:=words_zero
 have HS:=Lib.hid hs;have HI:=Lib.hid IH;have HX:=Lib.hid hx;have HEN:=Lib.hid hE
 clear hs IH hx hE
 have HD:=Lib.hid hd;have HD5:=Lib.hid hd255;have H00:=Lib.hid h0
 clear hd hd255 h0
 unfold Tr.cells
 rw [hlo,hhi]
 clear hlo hhi
 go_enter Tryd.func90,Tryd.ntmps90
 go_wp2_with fail
 have yn:((w.alloc (.cells #[.int .i64 t.kind,.int .u64 (Oc.U t.w0),.int .u64 (Oc.U t.w1),.int .u64 (Oc.U t.w2),.int .u64 (Oc.U t.w3),.slice p 1 cap,.int .i64 t.num,.int .i64 (l:Int),.int .i64 hi,.bool t.bare] 37)).alloc (.cells (words fun _=>0#64) 94)).heap[w.heap.size]? = some (.cells #[.int .i64 t.kind,.int .u64 (Oc.U t.w0),.int .u64 (Oc.U t.w1),.int .u64 (Oc.U t.w2),.int .u64 (Oc.U t.w3),.slice p 1 cap,.int .i64 t.num,.int .i64 (l:Int),.int .i64 hi,.bool t.bare] 37):=heap_alloc_lt (row_new _ _ _ rfl)
 have y4:((w.alloc (.cells #[.int .i64 t.kind,.int .u64 (Oc.U t.w0),.int .u64 (Oc.U t.w1),.int .u64 (Oc.U t.w2),.int .u64 (Oc.U t.w3),.slice p 1 cap,.int .i64 t.num,.int .i64 (l:Int),.int .i64 hi,.bool t.bare] 37)).alloc (.cells (words fun _=>0#64) 94)).heap[w.heap.size+1]? = some (.cells (words fun _=>0#64) 94):=row_new _ _ _ (by simp)
 have hb1:Below w.heap.size w ((w.alloc (.cells #[.int .i64 t.kind,.int .u64 (Oc.U t.w0),.int .u64 (Oc.U t.w1),.int .u64 (Oc.U t.w2),.int .u64 (Oc.U t.w3),.slice p 1 cap,.int .i64 t.num,.int .i64 (l:Int),.int .i64 hi,.bool t.bare] 37)).alloc (.cells (words fun _=>0#64) 94)):=by go_grown
 have YN:=Lib.hid yn;have Y4:=Lib.hid y4;have HB1:=Lib.hid hb1
 clear yn y4 hb1
 generalize ((w.alloc (.cells #[.int .i64 t.kind,.int .u64 (Oc.U t.w0),.int .u64 (Oc.U t.w1),.int .u64 (Oc.U t.w2),.int .u64 (Oc.U t.w3),.slice p 1 cap,.int .i64 t.num,.int .i64 (l:Int),.int .i64 hi,.bool t.bare] 37)).alloc (.cells (words fun _=>0#64) 94))=W1 at *
 refine (reemptyall_any x b hn W1 (HX.out.below HB1.out)).mono ?_
 rintro e w2 ⟨rfl,hb2⟩
 have HB2:=Lib.hid (HB1.out.trans (hb2.mono HB1.out.size));have N2:=Lib.hid (keep_blk hb2 YN.out);have Z2:=Lib.hid (keep_blk hb2 Y4.out)
 clear hb2 YN Y4 HB1
 go_upto_region 2 with (first
   | (refine wpList_store_row rfl 94 (.tmp 5) (.tmp 9) rfl w2.heap.size (words (Re.emptyP x.t.size fun _=>true)) rfl rfl 94 _ (row_new _ _ _ rfl) (by rw [words_size];kernel_rfl) (by rw [words_size,words_size]) (words_one _) ?_)
   | fail)
 have hlt4:w.heap.size+1 < w2.heap.size:=blk_lt Z2.out
 have zn:(World.setRow (w2.alloc (.cells (words fun _=>0#64) 94)) w2.heap.size (words (Re.emptyP x.t.size fun _=>true))).heap[w.heap.size]? = some (.cells #[.int .i64 t.kind,.int .u64 (Oc.U t.w0),.int .u64 (Oc.U t.w1),.int .u64 (Oc.U t.w2),.int .u64 (Oc.U t.w3),.slice p 1 cap,.int .i64 t.num,.int .i64 (l:Int),.int .i64 hi,.bool t.bare] 37):=(heap_setRow_other _ _ _ (by omega)).trans (heap_alloc_lt N2.out)
 have z4:(World.setRow (w2.alloc (.cells (words fun _=>0#64) 94)) w2.heap.size (words (Re.emptyP x.t.size fun _=>true))).heap[w.heap.size+1]? = some (.cells (words fun _=>0#64) 94):=(heap_setRow_other _ _ _ (by omega)).trans (heap_alloc_lt Z2.out)
 have z5:(World.setRow (w2.alloc (.cells (words fun _=>0#64) 94)) w2.heap.size (words (Re.emptyP x.t.size fun _=>true))).heap[w2.heap.size]? = some (.cells (words (Re.emptyP x.t.size fun _=>true)) 94):=heap_setRow (row_new _ _ _ rfl)
 have hB:Below w.heap.size w (World.setRow (w2.alloc (.cells (words fun _=>0#64) 94)) w2.heap.size (words (Re.emptyP x.t.size fun _=>true))):=below_setRow (HB2.out.alloc HB2.out.size _) HB2.out.size _
 have ZN:=Lib.hid zn;have Z4:=Lib.hid z4;have Z5:=Lib.hid z5;have HB:=Lib.hid hB;have L4:=Lib.hid hlt4
 clear zn z4 z5 hB hlt4 N2 Z2 HB2
 generalize (World.setRow (w2.alloc (.cells (words fun _=>0#64) 94)) w2.heap.size (words (Re.emptyP x.t.size fun _=>true)))=W3 at *
 generalize w2.heap.size=G5 at *
 simp only [Act.put]
 obtain ⟨n0,n1,n2,n3,n4,n5,n6,n7,n8,n9⟩:=allTen ZN.out
 have hne0:(hi == 0)=false:=by rw [beq_eq_false_iff_ne];exact H00.out
 obtain ⟨b1,o1,s1,rfl,-,t1,sub1⟩:=HS.out.get (i:=0) (t:=u) rfl
 rw [Nat.zero_mul,Nat.add_zero] at t1
 obtain ⟨d0,d1,d2,d3,d4,d5,d6,d7,d8,d9⟩:=t1.keep (HB.out.block _ t1.lt)
 obtain ⟨p1,c1,rfl,hl1⟩:=sub1.slice
 have HC:=Lib.hid (show ∀ w9,Below w.heap.size w w9→Calls Tryd.prog 54 #[.agg #[.int .i64 u.kind,.int .u64 (Oc.U u.w0),.int .u64 (Oc.U u.w1),.int .u64 (Oc.U u.w2),.int .u64 (Oc.U u.w3),.slice p1 u.subs.length c1,.int .i64 u.num,.int .i64 u.least,.int .i64 u.most,.bool u.bare],.pointer (some ⟨b,0,none⟩)] w9 fun e w'=>e=.returned (.agg (words (Tr.tabT x u)))∧Below w9.heap.size w9 w' from fun w9 hb=>HI.out w9 B (.agg (u.cells (.slice p1 u.subs.length c1))) (HX.out.below hb) (HEN.out.below hb) ⟨_,rfl,sub1.later hb⟩)
 clear t1 sub1 HI HX HS
 generalize hTU:Tr.tabT x u=TU at *
 have HTU:=Lib.hid hTU
 clear hTU
 go_wp2_with fail
 refine (HC.out _ HB.out).mono ?_
 rintro e w4 ⟨rfl,hb4⟩
 have HB4:=Lib.hid (HB.out.trans (hb4.mono HB.out.size));have N4:=Lib.hid (keep_blk hb4 ZN.out);have Y4:=Lib.hid (keep_blk hb4 Z4.out);have Y5:=Lib.hid (keep_blk hb4 Z5.out)
 have L5:=Lib.hid (show G5 < w4.heap.size from Nat.lt_of_lt_of_le (blk_lt Z5.out) hb4.size)
 clear hb4 HB ZN Z4 Z5 HC n0 n1 n2 n3 n4 n5 n6 n7 n8 n9 d0 d1 d2 d3 d4 d5 d6 d7 d8 d9
 go_upto_region 5 with (first
   | (refine wpList_store_row rfl 94 (.tmp 6) (.tmp 19) rfl w4.heap.size (words TU) rfl rfl 94 _ (row_new _ _ _ rfl) (by rw [words_size];kernel_rfl) (by rw [words_size,words_size]) (words_one _) ?_)
   | fail)
 have zn:(World.setRow (w4.alloc (.cells (words fun _=>0#64) 94)) w4.heap.size (words TU)).heap[w.heap.size]? = some (.cells #[.int .i64 t.kind,.int .u64 (Oc.U t.w0),.int .u64 (Oc.U t.w1),.int .u64 (Oc.U t.w2),.int .u64 (Oc.U t.w3),.slice (some ⟨b1,o1,none⟩) 1 cap,.int .i64 t.num,.int .i64 (l:Int),.int .i64 hi,.bool t.bare] 37):=(heap_setRow_other _ _ _ (by have:=L4.out;have:=L5.out;omega)).trans (heap_alloc_lt N4.out)
 have z4:(World.setRow (w4.alloc (.cells (words fun _=>0#64) 94)) w4.heap.size (words TU)).heap[w.heap.size+1]? = some (.cells (words fun _=>0#64) 94):=(heap_setRow_other _ _ _ (by have:=L4.out;have:=L5.out;omega)).trans (heap_alloc_lt Y4.out)
 have z5:(World.setRow (w4.alloc (.cells (words fun _=>0#64) 94)) w4.heap.size (words TU)).heap[G5]? = some (.cells (words (Re.emptyP x.t.size fun _=>true)) 94):=(heap_setRow_other _ _ _ (by have:=L5.out;omega)).trans (heap_alloc_lt Y5.out)
 have z6:(World.setRow (w4.alloc (.cells (words fun _=>0#64) 94)) w4.heap.size (words TU)).heap[w4.heap.size]? = some (.cells (words TU) 94):=heap_setRow (row_new _ _ _ rfl)
 have hB:Below w.heap.size w (World.setRow (w4.alloc (.cells (words fun _=>0#64) 94)) w4.heap.size (words TU)):=below_setRow (HB4.out.alloc HB4.out.size _) HB4.out.size _
 have ZN:=Lib.hid zn;have Z4:=Lib.hid z4;have Z5:=Lib.hid z5;have Z6:=Lib.hid z6;have HB:=Lib.hid hB
 clear zn z4 z5 z6 hB N4 Y4 Y5 HB4
 generalize (World.setRow (w4.alloc (.cells (words fun _=>0#64) 94)) w4.heap.size (words TU))=W5 at *
 generalize w4.heap.size=G6 at *
 simp only [Act.put]
 go_upto_region 6 with (first
   | (refine wpList_load_row rfl 94 (.tmp 5) rfl G5 rfl 94 (words (Re.emptyP x.t.size fun _=>true)) (0,0) _ Z5.out Tryd.underlying94 rfl (by rw [words_size];kernel_rfl) ?_)
   | (refine wpList_store_row rfl 94 (.tmp 7) (.tmp 20) rfl W5.heap.size (words (Re.emptyP x.t.size fun _=>true)) rfl rfl 94 _ (row_new _ _ _ rfl) (by rw [words_size];kernel_rfl) (by rw [words_size,words_size]) (words_one _) ?_)
   | fail)
 have L6:=Lib.hid (blk_lt Z6.out)
 have yn:(World.setRow (W5.alloc (.cells (words fun _=>0#64) 94)) W5.heap.size (words (Re.emptyP x.t.size fun _=>true))).heap[w.heap.size]? = some (.cells #[.int .i64 t.kind,.int .u64 (Oc.U t.w0),.int .u64 (Oc.U t.w1),.int .u64 (Oc.U t.w2),.int .u64 (Oc.U t.w3),.slice (some ⟨b1,o1,none⟩) 1 cap,.int .i64 t.num,.int .i64 (l:Int),.int .i64 hi,.bool t.bare] 37):=(heap_setRow_other _ _ _ (by have:=L4.out;have:=L5.out;have:=L6.out;omega)).trans (heap_alloc_lt ZN.out)
 have y4:(World.setRow (W5.alloc (.cells (words fun _=>0#64) 94)) W5.heap.size (words (Re.emptyP x.t.size fun _=>true))).heap[w.heap.size+1]? = some (.cells (words fun _=>0#64) 94):=(heap_setRow_other _ _ _ (by have:=L4.out;have:=L5.out;have:=L6.out;omega)).trans (heap_alloc_lt Z4.out)
 have y5:(World.setRow (W5.alloc (.cells (words fun _=>0#64) 94)) W5.heap.size (words (Re.emptyP x.t.size fun _=>true))).heap[G5]? = some (.cells (words (Re.emptyP x.t.size fun _=>true)) 94):=(heap_setRow_other _ _ _ (by have:=L5.out;have:=L6.out;omega)).trans (heap_alloc_lt Z5.out)
 have y6:(World.setRow (W5.alloc (.cells (words fun _=>0#64) 94)) W5.heap.size (words (Re.emptyP x.t.size fun _=>true))).heap[G6]? = some (.cells (words TU) 94):=(heap_setRow_other _ _ _ (by have:=L6.out;omega)).trans (heap_alloc_lt Z6.out)
 have y7:(World.setRow (W5.alloc (.cells (words fun _=>0#64) 94)) W5.heap.size (words (Re.emptyP x.t.size fun _=>true))).heap[W5.heap.size]? = some (.cells (words (Re.emptyP x.t.size fun _=>true)) 94):=heap_setRow (row_new _ _ _ rfl)
 have hB6:Below w.heap.size w (World.setRow (W5.alloc (.cells (words fun _=>0#64) 94)) W5.heap.size (words (Re.emptyP x.t.size fun _=>true))):=below_setRow (HB.out.alloc HB.out.size _) HB.out.size _
 have YN:=Lib.hid yn;have Y4:=Lib.hid y4;have Y5:=Lib.hid y5;have Y6:=Lib.hid y6;have Y7:=Lib.hid y7;have HB6:=Lib.hid hB6
 clear yn y4 y5 y6 y7 hB6 ZN Z4 Z5 Z6 HB
 generalize (World.setRow (W5.alloc (.cells (words fun _=>0#64) 94)) W5.heap.size (words (Re.emptyP x.t.size fun _=>true)))=W6 at *
 generalize W5.heap.size=G7 at *
 simp only [Act.put]
 obtain ⟨n0,n1,n2,n3,n4,n5,n6,n7,n8,n9⟩:=allTen YN.out
 have HEW:=Lib.hid (fun w9 (hb:Below w.heap.size w w9)=>HEN.out.below hb)
 clear HEN
 have hne1:(hi == -1)=false:=by rw [beq_eq_false_iff_ne];have:=HD.out;omega
 have ws:IntKind.i64.wrap (hi - (l:Int))=(d:Int):=by rw [HD.out,show (l:Int)+d - l=d by omega];exact IntWalk.i64_in _ (by have:=HD.out;have:=HD5.out;omega)
 have HA:=Lib.hid (fun w9 (hb:Below w.heap.size w w9)=>remost_any d (by have:=HD.out;have:=HD5.out;omega) (Re.longerP TU) (Re.emptyP x.t.size fun _=>true) w9 (HEW.out w9 hb))
 clear HD HD5
 go_wp2_with fail
 refine Ri.wp_region_frame (by kernel_rfl) (by kernel_rfl) (by kernel_rfl) (by kernel_rfl)
   (fun L v w'=>Below w.heap.size w w'∧W6.heap.size ≤ w'.heap.size∧(L 9=true→w'.heap[G7]? = some (.cells (words (Re.mostP (Re.longerP TU) (Re.emptyP x.t.size fun _=>true) d)) 94))∧(L 9=false→w'.heap[G7]? = some (.cells (words (Re.emptyP x.t.size fun _=>true)) 94))∧w'.heap[w.heap.size]? = some (.cells #[.int .i64 t.kind,.int .u64 (Oc.U t.w0),.int .u64 (Oc.U t.w1),.int .u64 (Oc.U t.w2),.int .u64 (Oc.U t.w3),.slice (some ⟨b1,o1,none⟩) 1 cap,.int .i64 t.num,.int .i64 (l:Int),.int .i64 hi,.bool t.bare] 37)∧w'.heap[(w.heap.size+1)]? = some (.cells (words fun _=>0#64) 94)∧w'.heap[G5]? = some (.cells (words (Re.emptyP x.t.size fun _=>true)) 94)∧w'.heap[G6]? = some (.cells (words TU) 94)∧(L 0=true→v 0=.pointer (some ⟨w.heap.size,8,none⟩))∧(L 1=true→v 1=.int .i64 hi)∧(L 2=true→v 2=.pointer (some ⟨w.heap.size,7,none⟩))∧(L 3=true→v 3=.int .i64 (l:Int))∧(L 4=true→v 4=.int .i64 (d:Int))∧(L 5=true→v 5=.agg (words TU))∧(L 6=true→v 6=.agg (words (Re.longerP TU)))∧(L 7=true→v 7=.agg (words (Re.emptyP x.t.size fun _=>true)))∧(L 8=true→v 8=.agg (words (Re.mostP (Re.longerP TU) (Re.emptyP x.t.size fun _=>true) d))))
   ?_ ?_ ?_
 · exact ⟨HB6.out.drew,Nat.le_refl _,(by simp),(fun _=>Y7.out),YN.out,Y4.out,Y5.out,Y6.out,by simp,by simp,by simp,by simp,by simp,by simp,by simp,by simp,by simp⟩
 · intro i hi9 L v w9 xa hI hL hd hv ho
   have hi':i=0 ∨ i=1 ∨ i=2 ∨ i=3 ∨ i=4 ∨ i=5 ∨ i=6 ∨ i=7 ∨ i=8 ∨ i=9:=by simp at hi9;omega
   obtain ⟨hb,hz,qn,qo,k0,k1,k2,k3,q0,q1,q2,q3,q4,q5,q6,q7,q8⟩:=hI
   rcases hi' with rfl | rfl | rfl | rfl | rfl | rfl | rfl | rfl | rfl | rfl
   · have e2:xa.tmps.getD 2 undef=.pointer (some ⟨w.heap.size,0,none⟩):=ho 2 (by kernel_rfl)
     refine Ri.step_plain rfl rfl (fun K' hK=>?_)
     go_simp
     exact hK _ _ ⟨_,_,rfl,rfl,hb,hz,qn,qo,k0,k1,k2,k3,fun _=>rfl,q1,q2,q3,q4,q5,q6,q7,q8⟩
   · have l0:L 0=true:=by have:=hd _ rfl;simp [Region.binds] at this;simp [this]
     have f0:=(hv 0 28 rfl l0).trans (q0 l0)
     refine Ri.step_plain rfl rfl (fun K' hK=>?_)
     obtain ⟨-,-,-,-,-,-,-,-,m8,-⟩:=allTen k0
     go_simp
     exact hK _ _ ⟨_,_,rfl,rfl,hb,hz,qn,qo,k0,k1,k2,k3,q0,fun _=>rfl,q2,q3,q4,q5,q6,q7,q8⟩
   · have e2:xa.tmps.getD 2 undef=.pointer (some ⟨w.heap.size,0,none⟩):=ho 2 (by kernel_rfl)
     refine Ri.step_plain rfl rfl (fun K' hK=>?_)
     go_simp
     exact hK _ _ ⟨_,_,rfl,rfl,hb,hz,qn,qo,k0,k1,k2,k3,q0,q1,fun _=>rfl,q3,q4,q5,q6,q7,q8⟩
   · have l0:L 2=true:=by have:=hd _ rfl;simp [Region.binds] at this;simp [this]
     have f2:=(hv 2 30 rfl l0).trans (q2 l0)
     refine Ri.step_plain rfl rfl (fun K' hK=>?_)
     obtain ⟨-,-,-,-,-,-,-,m7,-,-⟩:=allTen k0
     go_simp
     exact hK _ _ ⟨_,_,rfl,rfl,hb,hz,qn,qo,k0,k1,k2,k3,q0,q1,q2,fun _=>rfl,q4,q5,q6,q7,q8⟩
   · have l0:L 1=true∧L 3=true:=by have:=hd _ rfl;simp [Region.binds] at this;simp [this]
     have f1:=(hv 1 29 rfl l0.1).trans (q1 l0.1)
     have f3:=(hv 3 31 rfl l0.2).trans (q3 l0.2)
     refine Ri.step_plain rfl rfl (fun K' hK=>?_)
     go_simp
     exact hK _ _ ⟨_,_,rfl,rfl,hb,hz,qn,qo,k0,k1,k2,k3,q0,q1,q2,q3,fun _=>rfl,q5,q6,q7,q8⟩
   · have e6:xa.tmps.getD 6 undef=.pointer (some ⟨G6,0,none⟩):=ho 6 (by kernel_rfl)
     refine Ri.step_plain rfl rfl (fun K' hK=>?_)
     refine wp_load_row _ _ rfl _ e6 _ _ _ _ k3 Tryd.underlying94 rfl (by rw [words_size];kernel_rfl) ?_
     exact hK _ _ ⟨_,_,rfl,rfl,hb,hz,qn,qo,k0,k1,k2,k3,q0,q1,q2,q3,q4,fun _=>rfl,q6,q7,q8⟩
   · have l0:L 5=true:=by have:=hd _ rfl;simp [Region.binds] at this;simp [this]
     have f5:=(hv 5 33 rfl l0).trans (q5 l0)
     refine Ri.step_plain rfl rfl (fun K' hK=>?_)
     go_simp
     refine (relonger_any _ _).mono ?_
     rintro e w8 ⟨rfl,hb8⟩
     exact hK _ _ ⟨_,_,rfl,rfl,hb.trans (hb8.mono hb.size),Nat.le_trans hz hb8.size,(fun l=>keep_blk hb8 (qn l)),(fun l=>keep_blk hb8 (qo l)),(keep_blk hb8 k0),(keep_blk hb8 k1),(keep_blk hb8 k2),(keep_blk hb8 k3),q0,q1,q2,q3,q4,q5,fun _=>rfl,q7,q8⟩
   · have e5:xa.tmps.getD 5 undef=.pointer (some ⟨G5,0,none⟩):=ho 5 (by kernel_rfl)
     refine Ri.step_plain rfl rfl (fun K' hK=>?_)
     refine wp_load_row _ _ rfl _ e5 _ _ _ _ k2 Tryd.underlying94 rfl (by rw [words_size];kernel_rfl) ?_
     exact hK _ _ ⟨_,_,rfl,rfl,hb,hz,qn,qo,k0,k1,k2,k3,q0,q1,q2,q3,q4,q5,q6,fun _=>rfl,q8⟩
   · have l0:L 4=true∧L 6=true∧L 7=true:=by have:=hd _ rfl;simp [Region.binds] at this;simp [this]
     have f4:=(hv 4 32 rfl l0.1).trans (q4 l0.1)
     have f6:=(hv 6 34 rfl l0.2.1).trans (q6 l0.2.1)
     have f7:=(hv 7 35 rfl l0.2.2).trans (q7 l0.2.2)
     refine Ri.step_plain rfl rfl (fun K' hK=>?_)
     go_simp
     refine (HA.out _ hb).mono ?_
     rintro e w8 ⟨rfl,hb8⟩
     exact hK _ _ ⟨_,_,rfl,rfl,hb.trans (hb8.mono hb.size),Nat.le_trans hz hb8.size,(fun l=>keep_blk hb8 (qn l)),(fun l=>keep_blk hb8 (qo l)),(keep_blk hb8 k0),(keep_blk hb8 k1),(keep_blk hb8 k2),(keep_blk hb8 k3),q0,q1,q2,q3,q4,q5,q6,q7,fun _=>rfl⟩
   · have l0:L 8=true:=by have:=hd _ rfl;simp [Region.binds] at this;simp [this]
     have f8:=(hv 8 36 rfl l0).trans (q8 l0)
     have e7:xa.tmps.getD 7 undef=.pointer (some ⟨G7,0,none⟩):=ho 7 (by kernel_rfl)
     refine Ri.step_plain rfl rfl (fun K' hK=>?_)
     refine wp_store_row _ _ _ rfl G7 (words (Re.mostP (Re.longerP TU) (Re.emptyP x.t.size fun _=>true) d)) e7 f8 94 _ (qo hL) (by rw [words_size];kernel_rfl) (by rw [words_size,words_size]) (words_one _) ?_
     exact hK _ _ ⟨_,undef,rfl,rfl,below_setRow hb (by have:=L4.out;have:=L5.out;have:=L6.out;omega) _,by simpa using hz,(fun _=>heap_setRow (qo hL)),(fun h=>by cases h),(heap_setRow_other _ _ _ (by have:=L4.out;have:=L5.out;have:=L6.out;omega)).trans k0,(heap_setRow_other _ _ _ (by have:=L4.out;have:=L5.out;have:=L6.out;omega)).trans k1,(heap_setRow_other _ _ _ (by have:=L5.out;have:=L6.out;omega)).trans k2,(heap_setRow_other _ _ _ (by have:=L6.out;omega)).trans k3,q0,q1,q2,q3,q4,q5,q6,q7,q8⟩
 · rintro v w9 ⟨hb,hz,qn,-,k0,k1,k2,k3,-,-,-,-,-,-,-,-,-⟩
   have zN:=qn rfl;clear qn
   simp only [Ri.frame,List.zipIdx,List.foldl_cons,List.foldl_nil,if_true,List.setIfInBounds_toArray,List.set_cons_zero,List.set_cons_succ,Nat.reduceAdd]
   generalize v 0=y0;generalize v 1=y1;generalize v 2=y2;generalize v 3=y3;generalize v 4=y4;generalize v 5=y5;generalize v 6=y6;generalize v 7=y7;generalize v 8=y8
   have HB7:=Lib.hid hb;have M7:=Lib.hid zN;have MN:=Lib.hid k0;have M4:=Lib.hid k1;have M6:=Lib.hid k3
   clear hb zN k0 k1 k2 k3 hz n0 n1 n2 n3 n4 n5 n6 n7 n8 n9 HB6 YN Y4 Y5 Y6 Y7
   obtain ⟨n0,n1,n2,n3,n4,n5,n6,n7,n8,n9⟩:=allTen MN.out
   go_wp2
   go_loopw [39] (fun iv wr=>∃ m:Nat,iv=.int .i64 (m:Int)∧m ≤ l∧Hid (Below w.heap.size w wr)∧Hid (wr.heap[w.heap.size+1]? = some (.cells (words fun _=>0#64) 94))∧Hid (wr.heap[G6]? = some (.cells (words TU) 94))∧Hid (wr.heap[G7]? = some (.cells (words (Re.minP TU (Re.mostP (Re.longerP TU) (Re.emptyP x.t.size fun _=>true) d) m)) 94))) (fun iv _=>l - (intOf iv).toNat)
   case atStart=>exact ⟨0,rfl,Nat.zero_le _,HB7,M4,M6,M7⟩
   case round =>
     clear HB7 M7 MN M4 M6
     obtain ⟨m,rfl,hm,HB,Z4,Z6,Z7⟩:=hrel
     by_cases hlt:m < l
     · have wi:IntKind.i64.wrap ((m:Int)+1)=(m:Int)+1:=IntWalk.i64_in _ (by omega)
       have HJ:=Lib.hid (rejoined_any TU (Re.minP TU (Re.mostP (Re.longerP TU) (Re.emptyP x.t.size fun _=>true) d) m) wr (HEW.out _ HB.out))
       clear HEW
       go_wp2_with (first
         | (refine wpList_load_row rfl 94 (.tmp 6) rfl G6 rfl 94 (words TU) (0,0) _ Z6.out Tryd.underlying94 rfl (by rw [words_size];kernel_rfl) ?_)
         | (refine wpList_load_row rfl 94 (.tmp 7) rfl G7 rfl 94 (words (Re.minP TU (Re.mostP (Re.longerP TU) (Re.emptyP x.t.size fun _=>true) d) m)) (0,0) _ Z7.out Tryd.underlying94 rfl (by rw [words_size];kernel_rfl) ?_)
         | fail)
       refine HJ.out.mono ?_
       rintro e w8 ⟨rfl,hb8⟩
       have HB8:=Lib.hid (HB.out.trans (hb8.mono HB.out.size));have V4:=Lib.hid (keep_blk hb8 Z4.out);have V6:=Lib.hid (keep_blk hb8 Z6.out);have V7:=Lib.hid (keep_blk hb8 Z7.out)
       clear hb8 HB Z4 Z6 Z7 HJ
       go_wp2_with (first
         | (refine wpList_store_row rfl 94 (.tmp 7) (.tmp 43) rfl G7 (words (Re.minP TU (Re.mostP (Re.longerP TU) (Re.emptyP x.t.size fun _=>true) d) (m+1))) rfl rfl 94 _ V7.out (by rw [words_size];kernel_rfl) (by rw [words_size,words_size]) (words_one _) ?_)
         | fail)
       refine ⟨⟨m+1,by go_num,by omega,Lib.hid (below_setRow HB8.out (by have:=L4.out;have:=L5.out;have:=L6.out;omega) _),Lib.hid ?_,Lib.hid ?_,Lib.hid (heap_setRow V7.out)⟩,by simp [intOf];omega⟩
       · exact (heap_setRow_other _ _ _ (by have:=L4.out;have:=L5.out;have:=L6.out;omega)).trans V4.out
       · exact (heap_setRow_other _ _ _ (by have:=L6.out;omega)).trans V6.out
     · obtain rfl:m=l:=by omega
       go_wp2_with (first
         | (refine wpList_load_row rfl 94 (.tmp 7) rfl G7 rfl 94 (words (Re.minP TU (Re.mostP (Re.longerP TU) (Re.emptyP x.t.size fun _=>true) d) m)) (0,0) _ Z7.out Tryd.underlying94 rfl (by rw [words_size];kernel_rfl) ?_)
         | (refine wpList_store_row rfl 94 (.tmp 4) (.tmp 45) rfl (w.heap.size+1) (words (Re.minP TU (Re.mostP (Re.longerP TU) (Re.emptyP x.t.size fun _=>true) d) m)) rfl rfl 94 _ Z4.out (by rw [words_size];kernel_rfl) (by rw [words_size,words_size]) (words_one _) ?_)
         | fail)
       refine bodyPost_ret (results_cell_row rfl _ _ (w.heap.size+1) 94 (words (Re.minP TU (Re.mostP (Re.longerP TU) (Re.emptyP x.t.size fun _=>true) d) m)) (0,0) _ rfl (heap_setRow Z4.out) Tryd.underlying94 rfl (by rw [words_size];kernel_rfl)) rfl ⟨by rw [HTU.out],below_setRow HB.out (Nat.le_succ _) _⟩
end Go.Proofs.YtnaoiglbjkjogaaDoor
namespace Go.Proofs.YtnaoiglbjkjogaaDoor
open Go.RowKit
theorem rerounds_rep (x:Sc) (b:Nat) (hn:x.t.size ≤ 63) (t u:Tr) (IH:Taken x b u) (h0:0 ≤ t.least) (h1:t.least ≤ 255) (h2:t.most = -1 ∨ (t.least ≤ t.most∧t.most ≤ 255)) (w:World) (B:Nat→Prop) (v:Value) (hx:ScAt w b x) (hE:ReEnv w) (hs:TreesAt w B v [u]) :
   Calls Tryd.prog 90 #[.agg (t.cells v),.pointer (some ⟨b,0,none⟩)] w (TabEnd (Re.repP x.t.size t.least t.most (Tr.tabT x u)) w):=by
 unfold Re.repP
 by_cases hz:t.most=0
 · rw [if_pos hz]
   exact rerounds_none x b hn t u w B v hx hE hs _ _ rfl rfl hz
 · rw [if_neg hz]
   have hl:t.least=((t.least.toNat:Nat):Int):=by omega
   by_cases he:t.most = -1
   · rw [if_pos he]
     exact rerounds_any x b hn t u IH w B v hx hE hs _ t.least.toNat (by omega) hl rfl hz he
   · rw [if_neg he]
     exact rerounds_most x b hn t u IH w B v hx hE hs _ t.least.toNat (by omega) hl rfl hz (t.most - t.least).toNat (by omega) (by omega)
theorem retaken1 (x:Sc) (b:Nat) (_hn:x.t.size ≤ 63) (t:Tr) (hk:t.kind=1) (P:Nat→BitVec 64) (w:World) (B:Nat→Prop) (s:Value) (_hx:ScAt w b x) (_hE:ReEnv w) (hs:TreesAt w B s t.subs)
   (HC:∀ w9,Below w.heap.size w w9→Calls Tryd.prog 85 #[.pointer (some ⟨b,0,none⟩),.func (.func 91) #[] #[]] w9 fun e w'=>e=.returned (.agg (words P))∧Below w9.heap.size w9 w') :
   Calls Tryd.prog 54 #[.agg (t.cells s),.pointer (some ⟨b,0,none⟩)] w (TabEnd P w):=by
 obtain ⟨p,cap,rfl,hlen⟩:=hs.slice
 clear hs
 have hz:=words_zero
 have hmf:∀ (fn:Fn) (first cap:Array Value) (w:World),(Instr.makeFunc fn first cap).run Tryd.prog w=.ok (.func fn first cap) w:=fun _ _ _ _=>rfl
 have HC':=Lib.hid HC
 clear HC
 unfold Tr.cells
 rw [hk]
 clear hk
 go_enter Tryd.func54,Tryd.ntmps54
 go_upto_region 1 with (fail)
 have yn:((w.alloc (.cells #[.int .i64 1,.int .u64 (Oc.U t.w0),.int .u64 (Oc.U t.w1),.int .u64 (Oc.U t.w2),.int .u64 (Oc.U t.w3),.slice p t.subs.length cap,.int .i64 t.num,.int .i64 t.least,.int .i64 t.most,.bool t.bare] 37)).alloc (.cells (words fun _=>0#64) 94)).heap[w.heap.size]? = some (.cells #[.int .i64 1,.int .u64 (Oc.U t.w0),.int .u64 (Oc.U t.w1),.int .u64 (Oc.U t.w2),.int .u64 (Oc.U t.w3),.slice p t.subs.length cap,.int .i64 t.num,.int .i64 t.least,.int .i64 t.most,.bool t.bare] 37):=heap_alloc_lt (row_new _ _ _ rfl)
 have y4:((w.alloc (.cells #[.int .i64 1,.int .u64 (Oc.U t.w0),.int .u64 (Oc.U t.w1),.int .u64 (Oc.U t.w2),.int .u64 (Oc.U t.w3),.slice p t.subs.length cap,.int .i64 t.num,.int .i64 t.least,.int .i64 t.most,.bool t.bare] 37)).alloc (.cells (words fun _=>0#64) 94)).heap[w.heap.size+1]? = some (.cells (words fun _=>0#64) 94):=row_new _ _ _ (by simp)
 have hb1:Below w.heap.size w ((w.alloc (.cells #[.int .i64 1,.int .u64 (Oc.U t.w0),.int .u64 (Oc.U t.w1),.int .u64 (Oc.U t.w2),.int .u64 (Oc.U t.w3),.slice p t.subs.length cap,.int .i64 t.num,.int .i64 t.least,.int .i64 t.most,.bool t.bare] 37)).alloc (.cells (words fun _=>0#64) 94)):=by go_grown
 have YN:=Lib.hid yn;have Y4:=Lib.hid y4;have HB1:=Lib.hid hb1
 clear yn y4 hb1 hz
 generalize ((w.alloc (.cells #[.int .i64 1,.int .u64 (Oc.U t.w0),.int .u64 (Oc.U t.w1),.int .u64 (Oc.U t.w2),.int .u64 (Oc.U t.w3),.slice p t.subs.length cap,.int .i64 t.num,.int .i64 t.least,.int .i64 t.most,.bool t.bare] 37)).alloc (.cells (words fun _=>0#64) 94))=W1 at *
 obtain ⟨n0,n1,n2,n3,n4,n5,n6,n7,n8,n9⟩:=allTen YN.out
 go_wp2_with fail
 refine (HC'.out W1 HB1.out).mono ?_
 rintro e w2 ⟨rfl,hb2⟩
 have Z4:=Lib.hid (keep_blk hb2 Y4.out);have HB:=Lib.hid (HB1.out.trans (hb2.mono HB1.out.size))
 clear hb2 HB1 Y4 YN n0 n1 n2 n3 n4 n5 n6 n7 n8 n9
 go_wp2_with (first
   | (refine wpList_store_row rfl 94 (.tmp 4) (.tmp 51) rfl (w.heap.size+1) (words P) rfl rfl 94 _ Z4.out (by rw [words_size];kernel_rfl) (by rw [words_size,words_size]) (words_one _) ?_)
   | fail)
 exact bodyPost_ret (results_cell_row rfl _ _ (w.heap.size+1) 94 (words P) (0,0) _ rfl (heap_setRow Z4.out) Tryd.underlying94 rfl (by rw [words_size];kernel_rfl)) rfl ⟨rfl,below_setRow HB.out (Nat.le_succ _) _⟩
theorem retaken2 (x:Sc) (b:Nat) (_hn:x.t.size ≤ 63) (t:Tr) (hk:t.kind=2) (P:Nat→BitVec 64) (w:World) (B:Nat→Prop) (s:Value) (_hx:ScAt w b x) (_hE:ReEnv w) (hs:TreesAt w B s t.subs)
   (HC:∀ w9,Below w.heap.size w w9→Calls Tryd.prog 84 #[(.agg #[.int .u64 (Oc.U (t.w0)),.int .u64 (Oc.U (t.w1)),.int .u64 (Oc.U (t.w2)),.int .u64 (Oc.U (t.w3))]),.pointer (some ⟨b,0,none⟩)] w9 fun e w'=>e=.returned (.agg (words P))∧Below w9.heap.size w9 w') :
   Calls Tryd.prog 54 #[.agg (t.cells s),.pointer (some ⟨b,0,none⟩)] w (TabEnd P w):=by
 obtain ⟨p,cap,rfl,hlen⟩:=hs.slice
 clear hs
 have hz:=words_zero
 have hmf:∀ (fn:Fn) (first cap:Array Value) (w:World),(Instr.makeFunc fn first cap).run Tryd.prog w=.ok (.func fn first cap) w:=fun _ _ _ _=>rfl
 have HC':=Lib.hid HC
 clear HC
 unfold Tr.cells
 rw [hk]
 clear hk
 go_enter Tryd.func54,Tryd.ntmps54
 go_upto_region 1 with (fail)
 have yn:((w.alloc (.cells #[.int .i64 2,.int .u64 (Oc.U t.w0),.int .u64 (Oc.U t.w1),.int .u64 (Oc.U t.w2),.int .u64 (Oc.U t.w3),.slice p t.subs.length cap,.int .i64 t.num,.int .i64 t.least,.int .i64 t.most,.bool t.bare] 37)).alloc (.cells (words fun _=>0#64) 94)).heap[w.heap.size]? = some (.cells #[.int .i64 2,.int .u64 (Oc.U t.w0),.int .u64 (Oc.U t.w1),.int .u64 (Oc.U t.w2),.int .u64 (Oc.U t.w3),.slice p t.subs.length cap,.int .i64 t.num,.int .i64 t.least,.int .i64 t.most,.bool t.bare] 37):=heap_alloc_lt (row_new _ _ _ rfl)
 have y4:((w.alloc (.cells #[.int .i64 2,.int .u64 (Oc.U t.w0),.int .u64 (Oc.U t.w1),.int .u64 (Oc.U t.w2),.int .u64 (Oc.U t.w3),.slice p t.subs.length cap,.int .i64 t.num,.int .i64 t.least,.int .i64 t.most,.bool t.bare] 37)).alloc (.cells (words fun _=>0#64) 94)).heap[w.heap.size+1]? = some (.cells (words fun _=>0#64) 94):=row_new _ _ _ (by simp)
 have hb1:Below w.heap.size w ((w.alloc (.cells #[.int .i64 2,.int .u64 (Oc.U t.w0),.int .u64 (Oc.U t.w1),.int .u64 (Oc.U t.w2),.int .u64 (Oc.U t.w3),.slice p t.subs.length cap,.int .i64 t.num,.int .i64 t.least,.int .i64 t.most,.bool t.bare] 37)).alloc (.cells (words fun _=>0#64) 94)):=by go_grown
 have YN:=Lib.hid yn;have Y4:=Lib.hid y4;have HB1:=Lib.hid hb1
 clear yn y4 hb1 hz
 generalize ((w.alloc (.cells #[.int .i64 2,.int .u64 (Oc.U t.w0),.int .u64 (Oc.U t.w1),.int .u64 (Oc.U t.w2),.int .u64 (Oc.U t.w3),.slice p t.subs.length cap,.int .i64 t.num,.int .i64 t.least,.int .i64 t.most,.bool t.bare] 37)).alloc (.cells (words fun _=>0#64) 94))=W1 at *
 obtain ⟨n0,n1,n2,n3,n4,n5,n6,n7,n8,n9⟩:=allTen YN.out
 go_wp2_with fail
 refine (HC'.out W1 HB1.out).mono ?_
 rintro e w2 ⟨rfl,hb2⟩
 have Z4:=Lib.hid (keep_blk hb2 Y4.out);have HB:=Lib.hid (HB1.out.trans (hb2.mono HB1.out.size))
 clear hb2 HB1 Y4 YN n0 n1 n2 n3 n4 n5 n6 n7 n8 n9
 go_wp2_with (first
   | (refine wpList_store_row rfl 94 (.tmp 4) (.tmp 12) rfl (w.heap.size+1) (words P) rfl rfl 94 _ Z4.out (by rw [words_size];kernel_rfl) (by rw [words_size,words_size]) (words_one _) ?_)
   | fail)
 exact bodyPost_ret (results_cell_row rfl _ _ (w.heap.size+1) 94 (words P) (0,0) _ rfl (heap_setRow Z4.out) Tryd.underlying94 rfl (by rw [words_size];kernel_rfl)) rfl ⟨rfl,below_setRow HB.out (Nat.le_succ _) _⟩
theorem retaken3 (x:Sc) (b:Nat) (_hn:x.t.size ≤ 63) (t:Tr) (hk:t.kind=3) (P:Nat→BitVec 64) (w:World) (B:Nat→Prop) (s:Value) (_hx:ScAt w b x) (_hE:ReEnv w) (hs:TreesAt w B s t.subs)
   (HC:∀ w9,Below w.heap.size w w9→Calls Tryd.prog 85 #[.pointer (some ⟨b,0,none⟩),.func (.func 86) #[.pointer (some ⟨b,0,none⟩)] #[]] w9 fun e w'=>e=.returned (.agg (words P))∧Below w9.heap.size w9 w') :
   Calls Tryd.prog 54 #[.agg (t.cells s),.pointer (some ⟨b,0,none⟩)] w (TabEnd P w):=by
 obtain ⟨p,cap,rfl,hlen⟩:=hs.slice
 clear hs
 have hz:=words_zero
 have hmf:∀ (fn:Fn) (first cap:Array Value) (w:World),(Instr.makeFunc fn first cap).run Tryd.prog w=.ok (.func fn first cap) w:=fun _ _ _ _=>rfl
 have HC':=Lib.hid HC
 clear HC
 unfold Tr.cells
 rw [hk]
 clear hk
 go_enter Tryd.func54,Tryd.ntmps54
 go_upto_region 1 with (fail)
 have yn:((w.alloc (.cells #[.int .i64 3,.int .u64 (Oc.U t.w0),.int .u64 (Oc.U t.w1),.int .u64 (Oc.U t.w2),.int .u64 (Oc.U t.w3),.slice p t.subs.length cap,.int .i64 t.num,.int .i64 t.least,.int .i64 t.most,.bool t.bare] 37)).alloc (.cells (words fun _=>0#64) 94)).heap[w.heap.size]? = some (.cells #[.int .i64 3,.int .u64 (Oc.U t.w0),.int .u64 (Oc.U t.w1),.int .u64 (Oc.U t.w2),.int .u64 (Oc.U t.w3),.slice p t.subs.length cap,.int .i64 t.num,.int .i64 t.least,.int .i64 t.most,.bool t.bare] 37):=heap_alloc_lt (row_new _ _ _ rfl)
 have y4:((w.alloc (.cells #[.int .i64 3,.int .u64 (Oc.U t.w0),.int .u64 (Oc.U t.w1),.int .u64 (Oc.U t.w2),.int .u64 (Oc.U t.w3),.slice p t.subs.length cap,.int .i64 t.num,.int .i64 t.least,.int .i64 t.most,.bool t.bare] 37)).alloc (.cells (words fun _=>0#64) 94)).heap[w.heap.size+1]? = some (.cells (words fun _=>0#64) 94):=row_new _ _ _ (by simp)
 have hb1:Below w.heap.size w ((w.alloc (.cells #[.int .i64 3,.int .u64 (Oc.U t.w0),.int .u64 (Oc.U t.w1),.int .u64 (Oc.U t.w2),.int .u64 (Oc.U t.w3),.slice p t.subs.length cap,.int .i64 t.num,.int .i64 t.least,.int .i64 t.most,.bool t.bare] 37)).alloc (.cells (words fun _=>0#64) 94)):=by go_grown
 have YN:=Lib.hid yn;have Y4:=Lib.hid y4;have HB1:=Lib.hid hb1
 clear yn y4 hb1 hz
 generalize ((w.alloc (.cells #[.int .i64 3,.int .u64 (Oc.U t.w0),.int .u64 (Oc.U t.w1),.int .u64 (Oc.U t.w2),.int .u64 (Oc.U t.w3),.slice p t.subs.length cap,.int .i64 t.num,.int .i64 t.least,.int .i64 t.most,.bool t.bare] 37)).alloc (.cells (words fun _=>0#64) 94))=W1 at *
 obtain ⟨n0,n1,n2,n3,n4,n5,n6,n7,n8,n9⟩:=allTen YN.out
 go_wp2_with fail
 refine (HC'.out W1 HB1.out).mono ?_
 rintro e w2 ⟨rfl,hb2⟩
 have Z4:=Lib.hid (keep_blk hb2 Y4.out);have HB:=Lib.hid (HB1.out.trans (hb2.mono HB1.out.size))
 clear hb2 HB1 Y4 YN n0 n1 n2 n3 n4 n5 n6 n7 n8 n9
 go_wp2_with (first
   | (refine wpList_store_row rfl 94 (.tmp 4) (.tmp 18) rfl (w.heap.size+1) (words P) rfl rfl 94 _ Z4.out (by rw [words_size];kernel_rfl) (by rw [words_size,words_size]) (words_one _) ?_)
   | fail)
 exact bodyPost_ret (results_cell_row rfl _ _ (w.heap.size+1) 94 (words P) (0,0) _ rfl (heap_setRow Z4.out) Tryd.underlying94 rfl (by rw [words_size];kernel_rfl)) rfl ⟨rfl,below_setRow HB.out (Nat.le_succ _) _⟩
theorem retaken4 (x:Sc) (b:Nat) (_hn:x.t.size ≤ 63) (t:Tr) (hk:t.kind=4) (P:Nat→BitVec 64) (w:World) (B:Nat→Prop) (s:Value) (_hx:ScAt w b x) (_hE:ReEnv w) (hs:TreesAt w B s t.subs)
   (HC:∀ w9,Below w.heap.size w w9→Calls Tryd.prog 85 #[.pointer (some ⟨b,0,none⟩),.func (.func 87) #[.pointer (some ⟨b,0,none⟩)] #[]] w9 fun e w'=>e=.returned (.agg (words P))∧Below w9.heap.size w9 w') :
   Calls Tryd.prog 54 #[.agg (t.cells s),.pointer (some ⟨b,0,none⟩)] w (TabEnd P w):=by
 obtain ⟨p,cap,rfl,hlen⟩:=hs.slice
 clear hs
 have hz:=words_zero
 have hmf:∀ (fn:Fn) (first cap:Array Value) (w:World),(Instr.makeFunc fn first cap).run Tryd.prog w=.ok (.func fn first cap) w:=fun _ _ _ _=>rfl
 have HC':=Lib.hid HC
 clear HC
 unfold Tr.cells
 rw [hk]
 clear hk
 go_enter Tryd.func54,Tryd.ntmps54
 go_upto_region 1 with (fail)
 have yn:((w.alloc (.cells #[.int .i64 4,.int .u64 (Oc.U t.w0),.int .u64 (Oc.U t.w1),.int .u64 (Oc.U t.w2),.int .u64 (Oc.U t.w3),.slice p t.subs.length cap,.int .i64 t.num,.int .i64 t.least,.int .i64 t.most,.bool t.bare] 37)).alloc (.cells (words fun _=>0#64) 94)).heap[w.heap.size]? = some (.cells #[.int .i64 4,.int .u64 (Oc.U t.w0),.int .u64 (Oc.U t.w1),.int .u64 (Oc.U t.w2),.int .u64 (Oc.U t.w3),.slice p t.subs.length cap,.int .i64 t.num,.int .i64 t.least,.int .i64 t.most,.bool t.bare] 37):=heap_alloc_lt (row_new _ _ _ rfl)
 have y4:((w.alloc (.cells #[.int .i64 4,.int .u64 (Oc.U t.w0),.int .u64 (Oc.U t.w1),.int .u64 (Oc.U t.w2),.int .u64 (Oc.U t.w3),.slice p t.subs.length cap,.int .i64 t.num,.int .i64 t.least,.int .i64 t.most,.bool t.bare] 37)).alloc (.cells (words fun _=>0#64) 94)).heap[w.heap.size+1]? = some (.cells (words fun _=>0#64) 94):=row_new _ _ _ (by simp)
 have hb1:Below w.heap.size w ((w.alloc (.cells #[.int .i64 4,.int .u64 (Oc.U t.w0),.int .u64 (Oc.U t.w1),.int .u64 (Oc.U t.w2),.int .u64 (Oc.U t.w3),.slice p t.subs.length cap,.int .i64 t.num,.int .i64 t.least,.int .i64 t.most,.bool t.bare] 37)).alloc (.cells (words fun _=>0#64) 94)):=by go_grown
 have YN:=Lib.hid yn;have Y4:=Lib.hid y4;have HB1:=Lib.hid hb1
 clear yn y4 hb1 hz
 generalize ((w.alloc (.cells #[.int .i64 4,.int .u64 (Oc.U t.w0),.int .u64 (Oc.U t.w1),.int .u64 (Oc.U t.w2),.int .u64 (Oc.U t.w3),.slice p t.subs.length cap,.int .i64 t.num,.int .i64 t.least,.int .i64 t.most,.bool t.bare] 37)).alloc (.cells (words fun _=>0#64) 94))=W1 at *
 obtain ⟨n0,n1,n2,n3,n4,n5,n6,n7,n8,n9⟩:=allTen YN.out
 go_wp2_with fail
 refine (HC'.out W1 HB1.out).mono ?_
 rintro e w2 ⟨rfl,hb2⟩
 have Z4:=Lib.hid (keep_blk hb2 Y4.out);have HB:=Lib.hid (HB1.out.trans (hb2.mono HB1.out.size))
 clear hb2 HB1 Y4 YN n0 n1 n2 n3 n4 n5 n6 n7 n8 n9
 go_wp2_with (first
   | (refine wpList_store_row rfl 94 (.tmp 4) (.tmp 24) rfl (w.heap.size+1) (words P) rfl rfl 94 _ Z4.out (by rw [words_size];kernel_rfl) (by rw [words_size,words_size]) (words_one _) ?_)
   | fail)
 exact bodyPost_ret (results_cell_row rfl _ _ (w.heap.size+1) 94 (words P) (0,0) _ rfl (heap_setRow Z4.out) Tryd.underlying94 rfl (by rw [words_size];kernel_rfl)) rfl ⟨rfl,below_setRow HB.out (Nat.le_succ _) _⟩
theorem retaken5 (x:Sc) (b:Nat) (_hn:x.t.size ≤ 63) (t:Tr) (hk:t.kind=5) (P:Nat→BitVec 64) (w:World) (B:Nat→Prop) (s:Value) (_hx:ScAt w b x) (_hE:ReEnv w) (hs:TreesAt w B s t.subs)
   (HC:∀ w9,Below w.heap.size w w9→Calls Tryd.prog 88 #[s,.pointer (some ⟨b,0,none⟩)] w9 fun e w'=>e=.returned (.agg (words P))∧Below w9.heap.size w9 w') :
   Calls Tryd.prog 54 #[.agg (t.cells s),.pointer (some ⟨b,0,none⟩)] w (TabEnd P w):=by
 obtain ⟨p,cap,rfl,hlen⟩:=hs.slice
 clear hs
 have hz:=words_zero
 have hmf:∀ (fn:Fn) (first cap:Array Value) (w:World),(Instr.makeFunc fn first cap).run Tryd.prog w=.ok (.func fn first cap) w:=fun _ _ _ _=>rfl
 have HC':=Lib.hid HC
 clear HC
 unfold Tr.cells
 rw [hk]
 clear hk
 go_enter Tryd.func54,Tryd.ntmps54
 go_upto_region 1 with (fail)
 have yn:((w.alloc (.cells #[.int .i64 5,.int .u64 (Oc.U t.w0),.int .u64 (Oc.U t.w1),.int .u64 (Oc.U t.w2),.int .u64 (Oc.U t.w3),.slice p t.subs.length cap,.int .i64 t.num,.int .i64 t.least,.int .i64 t.most,.bool t.bare] 37)).alloc (.cells (words fun _=>0#64) 94)).heap[w.heap.size]? = some (.cells #[.int .i64 5,.int .u64 (Oc.U t.w0),.int .u64 (Oc.U t.w1),.int .u64 (Oc.U t.w2),.int .u64 (Oc.U t.w3),.slice p t.subs.length cap,.int .i64 t.num,.int .i64 t.least,.int .i64 t.most,.bool t.bare] 37):=heap_alloc_lt (row_new _ _ _ rfl)
 have y4:((w.alloc (.cells #[.int .i64 5,.int .u64 (Oc.U t.w0),.int .u64 (Oc.U t.w1),.int .u64 (Oc.U t.w2),.int .u64 (Oc.U t.w3),.slice p t.subs.length cap,.int .i64 t.num,.int .i64 t.least,.int .i64 t.most,.bool t.bare] 37)).alloc (.cells (words fun _=>0#64) 94)).heap[w.heap.size+1]? = some (.cells (words fun _=>0#64) 94):=row_new _ _ _ (by simp)
 have hb1:Below w.heap.size w ((w.alloc (.cells #[.int .i64 5,.int .u64 (Oc.U t.w0),.int .u64 (Oc.U t.w1),.int .u64 (Oc.U t.w2),.int .u64 (Oc.U t.w3),.slice p t.subs.length cap,.int .i64 t.num,.int .i64 t.least,.int .i64 t.most,.bool t.bare] 37)).alloc (.cells (words fun _=>0#64) 94)):=by go_grown
 have YN:=Lib.hid yn;have Y4:=Lib.hid y4;have HB1:=Lib.hid hb1
 clear yn y4 hb1 hz
 generalize ((w.alloc (.cells #[.int .i64 5,.int .u64 (Oc.U t.w0),.int .u64 (Oc.U t.w1),.int .u64 (Oc.U t.w2),.int .u64 (Oc.U t.w3),.slice p t.subs.length cap,.int .i64 t.num,.int .i64 t.least,.int .i64 t.most,.bool t.bare] 37)).alloc (.cells (words fun _=>0#64) 94))=W1 at *
 obtain ⟨n0,n1,n2,n3,n4,n5,n6,n7,n8,n9⟩:=allTen YN.out
 go_wp2_with fail
 refine (HC'.out W1 HB1.out).mono ?_
 rintro e w2 ⟨rfl,hb2⟩
 have Z4:=Lib.hid (keep_blk hb2 Y4.out);have HB:=Lib.hid (HB1.out.trans (hb2.mono HB1.out.size))
 clear hb2 HB1 Y4 YN n0 n1 n2 n3 n4 n5 n6 n7 n8 n9
 go_wp2_with (first
   | (refine wpList_store_row rfl 94 (.tmp 4) (.tmp 30) rfl (w.heap.size+1) (words P) rfl rfl 94 _ Z4.out (by rw [words_size];kernel_rfl) (by rw [words_size,words_size]) (words_one _) ?_)
   | fail)
 exact bodyPost_ret (results_cell_row rfl _ _ (w.heap.size+1) 94 (words P) (0,0) _ rfl (heap_setRow Z4.out) Tryd.underlying94 rfl (by rw [words_size];kernel_rfl)) rfl ⟨rfl,below_setRow HB.out (Nat.le_succ _) _⟩
theorem retaken6 (x:Sc) (b:Nat) (_hn:x.t.size ≤ 63) (t:Tr) (hk:t.kind=6) (P:Nat→BitVec 64) (w:World) (B:Nat→Prop) (s:Value) (_hx:ScAt w b x) (_hE:ReEnv w) (hs:TreesAt w B s t.subs)
   (HC:∀ w9,Below w.heap.size w w9→Calls Tryd.prog 89 #[s,.pointer (some ⟨b,0,none⟩)] w9 fun e w'=>e=.returned (.agg (words P))∧Below w9.heap.size w9 w') :
   Calls Tryd.prog 54 #[.agg (t.cells s),.pointer (some ⟨b,0,none⟩)] w (TabEnd P w):=by
 obtain ⟨p,cap,rfl,hlen⟩:=hs.slice
 clear hs
 have hz:=words_zero
 have hmf:∀ (fn:Fn) (first cap:Array Value) (w:World),(Instr.makeFunc fn first cap).run Tryd.prog w=.ok (.func fn first cap) w:=fun _ _ _ _=>rfl
 have HC':=Lib.hid HC
 clear HC
 unfold Tr.cells
 rw [hk]
 clear hk
 go_enter Tryd.func54,Tryd.ntmps54
 go_upto_region 1 with (fail)
 have yn:((w.alloc (.cells #[.int .i64 6,.int .u64 (Oc.U t.w0),.int .u64 (Oc.U t.w1),.int .u64 (Oc.U t.w2),.int .u64 (Oc.U t.w3),.slice p t.subs.length cap,.int .i64 t.num,.int .i64 t.least,.int .i64 t.most,.bool t.bare] 37)).alloc (.cells (words fun _=>0#64) 94)).heap[w.heap.size]? = some (.cells #[.int .i64 6,.int .u64 (Oc.U t.w0),.int .u64 (Oc.U t.w1),.int .u64 (Oc.U t.w2),.int .u64 (Oc.U t.w3),.slice p t.subs.length cap,.int .i64 t.num,.int .i64 t.least,.int .i64 t.most,.bool t.bare] 37):=heap_alloc_lt (row_new _ _ _ rfl)
 have y4:((w.alloc (.cells #[.int .i64 6,.int .u64 (Oc.U t.w0),.int .u64 (Oc.U t.w1),.int .u64 (Oc.U t.w2),.int .u64 (Oc.U t.w3),.slice p t.subs.length cap,.int .i64 t.num,.int .i64 t.least,.int .i64 t.most,.bool t.bare] 37)).alloc (.cells (words fun _=>0#64) 94)).heap[w.heap.size+1]? = some (.cells (words fun _=>0#64) 94):=row_new _ _ _ (by simp)
 have hb1:Below w.heap.size w ((w.alloc (.cells #[.int .i64 6,.int .u64 (Oc.U t.w0),.int .u64 (Oc.U t.w1),.int .u64 (Oc.U t.w2),.int .u64 (Oc.U t.w3),.slice p t.subs.length cap,.int .i64 t.num,.int .i64 t.least,.int .i64 t.most,.bool t.bare] 37)).alloc (.cells (words fun _=>0#64) 94)):=by go_grown
 have YN:=Lib.hid yn;have Y4:=Lib.hid y4;have HB1:=Lib.hid hb1
 clear yn y4 hb1 hz
 generalize ((w.alloc (.cells #[.int .i64 6,.int .u64 (Oc.U t.w0),.int .u64 (Oc.U t.w1),.int .u64 (Oc.U t.w2),.int .u64 (Oc.U t.w3),.slice p t.subs.length cap,.int .i64 t.num,.int .i64 t.least,.int .i64 t.most,.bool t.bare] 37)).alloc (.cells (words fun _=>0#64) 94))=W1 at *
 obtain ⟨n0,n1,n2,n3,n4,n5,n6,n7,n8,n9⟩:=allTen YN.out
 go_wp2_with fail
 refine (HC'.out W1 HB1.out).mono ?_
 rintro e w2 ⟨rfl,hb2⟩
 have Z4:=Lib.hid (keep_blk hb2 Y4.out);have HB:=Lib.hid (HB1.out.trans (hb2.mono HB1.out.size))
 clear hb2 HB1 Y4 YN n0 n1 n2 n3 n4 n5 n6 n7 n8 n9
 go_wp2_with (first
   | (refine wpList_store_row rfl 94 (.tmp 4) (.tmp 36) rfl (w.heap.size+1) (words P) rfl rfl 94 _ Z4.out (by rw [words_size];kernel_rfl) (by rw [words_size,words_size]) (words_one _) ?_)
   | fail)
 exact bodyPost_ret (results_cell_row rfl _ _ (w.heap.size+1) 94 (words P) (0,0) _ rfl (heap_setRow Z4.out) Tryd.underlying94 rfl (by rw [words_size];kernel_rfl)) rfl ⟨rfl,below_setRow HB.out (Nat.le_succ _) _⟩
theorem retaken7 (x:Sc) (b:Nat) (_hn:x.t.size ≤ 63) (t:Tr) (hk:t.kind=7) (u:Tr) (hsub:t.subs=[u]) (P:Nat→BitVec 64) (w:World) (B:Nat→Prop) (s:Value) (_hx:ScAt w b x) (_hE:ReEnv w) (hs:TreesAt w B s t.subs)
   (HC:∀ s1,TreesAt w B s1 u.subs→∀ w9,Below w.heap.size w w9→Calls Tryd.prog 54 #[.agg (u.cells s1),.pointer (some ⟨b,0,none⟩)] w9 fun e w'=>e=.returned (.agg (words P))∧Below w9.heap.size w9 w') :
   Calls Tryd.prog 54 #[.agg (t.cells s),.pointer (some ⟨b,0,none⟩)] w (TabEnd P w):=by
 obtain ⟨p,cap,rfl,hlen⟩:=hs.slice
 rw [hsub] at hs
 have hl1:t.subs.length=1:=by rw [hsub];rfl
 rw [hl1] at *
 obtain ⟨b1,o1,s1,rfl,-,t1,sub1⟩:=hs.get (i:=0) (t:=u) rfl
 rw [Nat.zero_mul,Nat.add_zero] at t1
 obtain ⟨p1,c1,rfl,hl1'⟩:=sub1.slice
 have T1:=Lib.hid t1
 replace HC:=HC _ sub1
 unfold Tr.cells at HC
 clear hs hsub hl1 hl1' t1 sub1
 have hz:=words_zero
 have hmf:∀ (fn:Fn) (first cap:Array Value) (w:World),(Instr.makeFunc fn first cap).run Tryd.prog w=.ok (.func fn first cap) w:=fun _ _ _ _=>rfl
 have HC':=Lib.hid HC
 clear HC
 unfold Tr.cells
 rw [hk]
 clear hk
 go_enter Tryd.func54,Tryd.ntmps54
 go_upto_region 1 with (fail)
 have yn:((w.alloc (.cells #[.int .i64 7,.int .u64 (Oc.U t.w0),.int .u64 (Oc.U t.w1),.int .u64 (Oc.U t.w2),.int .u64 (Oc.U t.w3),.slice (some ⟨b1,o1,none⟩) 1 cap,.int .i64 t.num,.int .i64 t.least,.int .i64 t.most,.bool t.bare] 37)).alloc (.cells (words fun _=>0#64) 94)).heap[w.heap.size]? = some (.cells #[.int .i64 7,.int .u64 (Oc.U t.w0),.int .u64 (Oc.U t.w1),.int .u64 (Oc.U t.w2),.int .u64 (Oc.U t.w3),.slice (some ⟨b1,o1,none⟩) 1 cap,.int .i64 t.num,.int .i64 t.least,.int .i64 t.most,.bool t.bare] 37):=heap_alloc_lt (row_new _ _ _ rfl)
 have y4:((w.alloc (.cells #[.int .i64 7,.int .u64 (Oc.U t.w0),.int .u64 (Oc.U t.w1),.int .u64 (Oc.U t.w2),.int .u64 (Oc.U t.w3),.slice (some ⟨b1,o1,none⟩) 1 cap,.int .i64 t.num,.int .i64 t.least,.int .i64 t.most,.bool t.bare] 37)).alloc (.cells (words fun _=>0#64) 94)).heap[w.heap.size+1]? = some (.cells (words fun _=>0#64) 94):=row_new _ _ _ (by simp)
 have hb1:Below w.heap.size w ((w.alloc (.cells #[.int .i64 7,.int .u64 (Oc.U t.w0),.int .u64 (Oc.U t.w1),.int .u64 (Oc.U t.w2),.int .u64 (Oc.U t.w3),.slice (some ⟨b1,o1,none⟩) 1 cap,.int .i64 t.num,.int .i64 t.least,.int .i64 t.most,.bool t.bare] 37)).alloc (.cells (words fun _=>0#64) 94)):=by go_grown
 have YN:=Lib.hid yn;have Y4:=Lib.hid y4;have HB1:=Lib.hid hb1
 clear yn y4 hb1 hz
 generalize ((w.alloc (.cells #[.int .i64 7,.int .u64 (Oc.U t.w0),.int .u64 (Oc.U t.w1),.int .u64 (Oc.U t.w2),.int .u64 (Oc.U t.w3),.slice (some ⟨b1,o1,none⟩) 1 cap,.int .i64 t.num,.int .i64 t.least,.int .i64 t.most,.bool t.bare] 37)).alloc (.cells (words fun _=>0#64) 94))=W1 at *
 obtain ⟨n0,n1,n2,n3,n4,n5,n6,n7,n8,n9⟩:=allTen YN.out
 obtain ⟨d0,d1,d2,d3,d4,d5,d6,d7,d8,d9⟩:=T1.out.keep (HB1.out.block _ T1.out.lt)
 go_wp2_with fail
 refine (HC'.out W1 HB1.out).mono ?_
 rintro e w2 ⟨rfl,hb2⟩
 have Z4:=Lib.hid (keep_blk hb2 Y4.out);have HB:=Lib.hid (HB1.out.trans (hb2.mono HB1.out.size))
 clear hb2 HB1 Y4 YN n0 n1 n2 n3 n4 n5 n6 n7 n8 n9
 go_wp2_with (first
   | (refine wpList_store_row rfl 94 (.tmp 4) (.tmp 44) rfl (w.heap.size+1) (words P) rfl rfl 94 _ Z4.out (by rw [words_size];kernel_rfl) (by rw [words_size,words_size]) (words_one _) ?_)
   | fail)
 exact bodyPost_ret (results_cell_row rfl _ _ (w.heap.size+1) 94 (words P) (0,0) _ rfl (heap_setRow Z4.out) Tryd.underlying94 rfl (by rw [words_size];kernel_rfl)) rfl ⟨rfl,below_setRow HB.out (Nat.le_succ _) _⟩
theorem retaken8 (x:Sc) (b:Nat) (_hn:x.t.size ≤ 63) (t:Tr) (hk:t.kind=8) (P:Nat→BitVec 64) (w:World) (B:Nat→Prop) (s:Value) (_hx:ScAt w b x) (_hE:ReEnv w) (hs:TreesAt w B s t.subs)
   (HC:∀ w9,Below w.heap.size w w9→Calls Tryd.prog 90 #[.agg (t.cells s),.pointer (some ⟨b,0,none⟩)] w9 fun e w'=>e=.returned (.agg (words P))∧Below w9.heap.size w9 w') :
   Calls Tryd.prog 54 #[.agg (t.cells s),.pointer (some ⟨b,0,none⟩)] w (TabEnd P w):=by
 obtain ⟨p,cap,rfl,hlen⟩:=hs.slice
 clear hs
 unfold Tr.cells at HC
 rw [hk] at HC
 have hz:=words_zero
 have hmf:∀ (fn:Fn) (first cap:Array Value) (w:World),(Instr.makeFunc fn first cap).run Tryd.prog w=.ok (.func fn first cap) w:=fun _ _ _ _=>rfl
 have HC':=Lib.hid HC
 clear HC
 unfold Tr.cells
 rw [hk]
 clear hk
 go_enter Tryd.func54,Tryd.ntmps54
 go_upto_region 1 with (fail)
 have yn:((w.alloc (.cells #[.int .i64 8,.int .u64 (Oc.U t.w0),.int .u64 (Oc.U t.w1),.int .u64 (Oc.U t.w2),.int .u64 (Oc.U t.w3),.slice p t.subs.length cap,.int .i64 t.num,.int .i64 t.least,.int .i64 t.most,.bool t.bare] 37)).alloc (.cells (words fun _=>0#64) 94)).heap[w.heap.size]? = some (.cells #[.int .i64 8,.int .u64 (Oc.U t.w0),.int .u64 (Oc.U t.w1),.int .u64 (Oc.U t.w2),.int .u64 (Oc.U t.w3),.slice p t.subs.length cap,.int .i64 t.num,.int .i64 t.least,.int .i64 t.most,.bool t.bare] 37):=heap_alloc_lt (row_new _ _ _ rfl)
 have y4:((w.alloc (.cells #[.int .i64 8,.int .u64 (Oc.U t.w0),.int .u64 (Oc.U t.w1),.int .u64 (Oc.U t.w2),.int .u64 (Oc.U t.w3),.slice p t.subs.length cap,.int .i64 t.num,.int .i64 t.least,.int .i64 t.most,.bool t.bare] 37)).alloc (.cells (words fun _=>0#64) 94)).heap[w.heap.size+1]? = some (.cells (words fun _=>0#64) 94):=row_new _ _ _ (by simp)
 have hb1:Below w.heap.size w ((w.alloc (.cells #[.int .i64 8,.int .u64 (Oc.U t.w0),.int .u64 (Oc.U t.w1),.int .u64 (Oc.U t.w2),.int .u64 (Oc.U t.w3),.slice p t.subs.length cap,.int .i64 t.num,.int .i64 t.least,.int .i64 t.most,.bool t.bare] 37)).alloc (.cells (words fun _=>0#64) 94)):=by go_grown
 have YN:=Lib.hid yn;have Y4:=Lib.hid y4;have HB1:=Lib.hid hb1
 clear yn y4 hb1 hz
 generalize ((w.alloc (.cells #[.int .i64 8,.int .u64 (Oc.U t.w0),.int .u64 (Oc.U t.w1),.int .u64 (Oc.U t.w2),.int .u64 (Oc.U t.w3),.slice p t.subs.length cap,.int .i64 t.num,.int .i64 t.least,.int .i64 t.most,.bool t.bare] 37)).alloc (.cells (words fun _=>0#64) 94))=W1 at *
 obtain ⟨n0,n1,n2,n3,n4,n5,n6,n7,n8,n9⟩:=allTen YN.out
 go_wp2_with (first
   | (refine wpList_load_row rfl 37 (.tmp 2) rfl w.heap.size rfl 37 _ (0,0) _ YN.out Tryd.underlying37 rfl (by kernel_rfl) ?_)
   | fail)
 refine (HC'.out W1 HB1.out).mono ?_
 rintro e w2 ⟨rfl,hb2⟩
 have Z4:=Lib.hid (keep_blk hb2 Y4.out);have HB:=Lib.hid (HB1.out.trans (hb2.mono HB1.out.size))
 clear hb2 HB1 Y4 YN n0 n1 n2 n3 n4 n5 n6 n7 n8 n9
 go_wp2_with (first
   | (refine wpList_store_row rfl 94 (.tmp 4) (.tmp 49) rfl (w.heap.size+1) (words P) rfl rfl 94 _ Z4.out (by rw [words_size];kernel_rfl) (by rw [words_size,words_size]) (words_one _) ?_)
   | fail)
 exact bodyPost_ret (results_cell_row rfl _ _ (w.heap.size+1) 94 (words P) (0,0) _ rfl (heap_setRow Z4.out) Tryd.underlying94 rfl (by rw [words_size];kernel_rfl)) rfl ⟨rfl,below_setRow HB.out (Nat.le_succ _) _⟩
theorem retaken_any (x:Sc) (b:Nat) (hn:x.t.size ≤ 63) (t:Tr) (hf:t.InForm):Taken x b t:=by
 induction t using Tr.rec_subs with
 | h t ih =>
   have IH:∀ u,u ∈ t.subs→Taken x b u:=fun u hu=>ih u hu (hf.sub hu)
   intro w B v hx hE hv
   obtain ⟨s,rfl,hs⟩:=hv
   have e1:=Tr.tabT_eq x t
   rcases hf.fields with ⟨hk,-⟩ | ⟨hk,-⟩ | ⟨hk | hk,-⟩ | ⟨hk,-,-,-,-,hl,-⟩ | ⟨hk,-,-,-,-,hl,-,h0,h1,h2,-⟩
   · rcases hk with hk | hk | hk
     · have e2:Tr.tabT x t=Re.emptyP x.t.size fun _=>true:=by rw [e1,hk];simp only [Int.reduceEq,if_false]
       rw [e2]
       exact retaken1 x b hn t hk _ w B s hx hE hs fun w9 hb=>reemptyall_any x b hn w9 (hx.below hb)
     · have e2:Tr.tabT x t=Re.emptyP x.t.size fun i=>x.beg (i:Int):=by rw [e1,hk];simp only [Int.reduceEq,if_false,if_true]
       rw [e2]
       exact retaken3 x b hn t hk _ w B s hx hE hs fun w9 hb=>reemptybeg_any x b hn w9 (hx.below hb)
     · have e2:Tr.tabT x t=Re.emptyP x.t.size fun i=>x.fin (i:Int):=by rw [e1,hk];simp only [Int.reduceEq,if_false,if_true]
       rw [e2]
       exact retaken4 x b hn t hk _ w B s hx hE hs fun w9 hb=>reemptyend_any x b hn w9 (hx.below hb)
   · have e2:Tr.tabT x t=Re.singleP x.t.size fun i=>Oc.mem t.w0 t.w1 t.w2 t.w3 (cb x.t i):=by rw [e1,if_pos hk]
     rw [e2]
     exact retaken2 x b hn t hk _ w B s hx hE hs fun w9 hb=>resingle_any t.w0 t.w1 t.w2 t.w3 x b hn w9 (hx.below hb)
   · have e2:Tr.tabT x t=Tr.tabSeq x t.subs (Re.emptyP x.t.size fun _=>true):=by rw [e1,hk];simp only [Int.reduceEq,if_false,if_true]
     rw [e2]
     exact retaken5 x b hn t hk _ w B s hx hE hs fun w9 hb=>reseq_of x b hn t.subs IH w9 B s (hx.below hb) (hE.below hb) (hs.later hb)
   · have e2:Tr.tabT x t=Tr.tabAlt x t.subs (fun _=>0#64):=by rw [e1,hk];simp only [Int.reduceEq,if_false,if_true]
     rw [e2]
     exact retaken6 x b hn t hk _ w B s hx hE hs fun w9 hb=>realt_of x b t.subs IH w9 B s (hx.below hb) (hE.below hb) (hs.later hb)
   · obtain ⟨u,hu⟩:=List.length_eq_one_iff.1 hl
     have e2:Tr.tabT x t=Tr.tabT x u:=by rw [e1,hk,hu];simp only [Int.reduceEq,if_false,if_true,Tr.tabHead]
     rw [e2]
     exact retaken7 x b hn t hk u hu _ w B s hx hE hs fun s1 h1 w9 hb=>IH u (by rw [hu];simp) w9 B _ (hx.below hb) (hE.below hb) ⟨s1,rfl,h1.later hb⟩
   · obtain ⟨u,hu⟩:=List.length_eq_one_iff.1 hl
     have e2:Tr.tabT x t=Re.repP x.t.size t.least t.most (Tr.tabT x u):=by rw [e1,hk,hu];simp only [Int.reduceEq,if_false,if_true,Tr.tabHead]
     rw [e2]
     exact retaken8 x b hn t hk _ w B s hx hE hs fun w9 hb=>rerounds_rep x b hn t u (IH u (by rw [hu];simp)) h0 h1 h2 w9 B s (hx.below hb) (hE.below hb) (by rw [← hu];exact hs.later hb)
end Go.Proofs.YtnaoiglbjkjogaaDoor
namespace Go.Proofs.YtnaoiglbjkjogaaDoor
open Go.RowKit
theorem Tryd.infoIntI:(Tryd.prog.info? 3).map (fun i=>(i.zero,i.size,i.bytes))=some (some (.int .i64 0),1,8):=by kernel_rfl
def intCells (l:List Nat):List Value:=l.map fun (n:Nat)=>.int .i64 (n:Int)
theorem intCells_append (l m:List Nat):intCells (l ++ m)=intCells l ++ intCells m:=by unfold intCells;rw [List.map_append]
theorem intCells_get (l:List Nat) (i:Nat) (k:Nat) (h:l[i]? = some k):(intCells l)[i]? = some (.int .i64 (k:Int)):=by unfold intCells;rw [List.getElem?_map,h];rfl
def IR (B:Nat) (w:World) (v:Value) (l:List Nat):Prop:=w.ownsRow B 3 1 v l.length (intCells l)
theorem IR.nil (B:Nat) (w:World):IR B w (.slice none 0 0) []:=World.ownsRow_nil _ _ _ _
theorem IR.below {B:Nat} {w w':World} {v:Value} {l:List Nat} (h:IR B w v l) (hb:Below w.heap.size w w'):IR B w' v l :=
 World.ownsRow.kept h (row:=none) ⟨hb.os,hb.tape,hb.output,hb.size,fun k hk _=>hb.block k hk⟩ (by
   cases h:Value.ownBlock v with
   | none=>exact .inl rfl
   | some g=>exact .inr (by simp))
theorem IR.mono {B B':Nat} {w:World} {v:Value} {l:List Nat} (h:IR B w v l) (hb:B' ≤ B):IR B' w v l :=
 ⟨h.1,h.2.imp id fun ⟨g,cap,cur,h1,h2,h3⟩=>⟨g,cap,cur,h1,Nat.le_trans hb h2,h3⟩⟩
def IntsAt (w:World) (v:Value) (l:List Nat):Prop:=∃ p cap,v=.slice p l.length cap∧∀ (i k:Nat),l[i]? = some k→∃ b o,p=some ⟨b,o,none⟩∧b < w.heap.size∧w.cell? ⟨b,o+i,none⟩=some (.int .i64 (k:Int))
theorem IntsAt.below {w w':World} {v:Value} {l:List Nat} (h:IntsAt w v l) (hb:Below w.heap.size w w'):IntsAt w' v l:=by
 obtain ⟨p,cap,e,h⟩:=h
 refine ⟨p,cap,e,fun i k hi=>?_⟩
 obtain ⟨b,o,hp,hlt,hc⟩:=h i k hi
 exact ⟨b,o,hp,Nat.lt_of_lt_of_le hlt hb.size,(hb.cell (p:=⟨b,_,none⟩) hlt).trans hc⟩
theorem IR.ints {B:Nat} {w:World} {v:Value} {l:List Nat} (h:IR B w v l):IntsAt w v l:=by
 have hcells:=fun g hv=>World.ownsRow.cells h (g:=g) hv
 rcases h.2 with ⟨rfl,hn0⟩ | ⟨g,cap,cur,rfl,hbg,hheap,-⟩
 · refine ⟨none,0,by rw [hn0],fun i k hi=>?_⟩
   have:=List.getElem?_eq_some_iff.1 hi
   obtain ⟨hlt,-⟩:=this
   omega
 · refine ⟨some ⟨g,0,none⟩,cap,rfl,fun i k hi=>⟨g,0,rfl,(Array.getElem?_eq_some_iff.1 hheap).1, ?_⟩⟩
   have:=hcells g rfl i _ (intCells_get l i k hi)
   have hadd:(⟨g,0,none⟩:Addr).add i=⟨g,i,none⟩:=by unfold Addr.add;split <;> simp_all
   rw [hadd] at this
   rw [Nat.zero_add];exact this
theorem wp_appI {w:World} {B:Nat} {v:Value} {l:List Nat} {ops:Array Oper} {rest:List Oper} {o:Oper} {a:Act} {Q:Exit→Act→World→Prop} (hgd:o.guard=none) (s x:Operand)
   (ho:o.op=.call { callee:=.builtin .append,args:=#[s,x],argTypes:=#[50,50] }) (c:Nat) (g:Nat) (hs:a.eval s=v) (hx:a.eval x=.slice (some ⟨g,0,none⟩) 1 1)
   (hg:w.cell? ⟨g,0,none⟩=some (.int .i64 (c:Int))) (hrow:IR B w v l) (hB:B ≤ w.heap.size) (hlen:l.length ≤ 1000000)
   (h:∀ v' w',IR B w' v' (l ++ [c])→Below B w w'→wpList Tryd.prog ops Q rest (a.put o.dst v') w'):wpList Tryd.prog ops Q (o :: rest) a w:=by
 obtain ⟨ie,hi,hz0,hz1,hz2⟩:=info_parts Tryd.infoIntI
 refine wpList_append_own w hgd s x 50 ho B 3 ie _ 1 8 Tryd.underlying50 hi hz0 hz1 hz2 rfl (by decide) v l.length _ hs hrow ⟨g,0,none⟩ 1 1 [.int .i64 (c:Int)] hx rfl ?_ ?_ (by unfold maxLen;omega) (by omega) hB ?_
 · intro j u hj
   match j,hj with
   | 0,hj=>simp at hj;subst hj;exact hg
 · intro u hu;simp at hu;subst hu;rfl
 · intro v' w' hown hgr _
   refine h v' w' ?_ ((Below.refl B w).grown hgr hB (fun k hk=>(World.ownsRow.lt hrow k hk).1))
   unfold IR
   rw [intCells_append,List.length_append]
   exact hown
theorem sameints_any (l m:List Nat) (hl:l.length ≤ 1000000) (hm:m.length ≤ 1000000) (v u:Value) (w:World) (hv:IntsAt w v l) (hu:IntsAt w u m) :
   Calls Tryd.prog 26 #[v,u] w fun e w'=>e=.returned (.bool (decide (l=m)))∧Below w.heap.size w w':=by
 obtain ⟨p,c1,rfl,H1⟩:=hv
 obtain ⟨q,c2,rfl,H2⟩:=hu
 have h1:=Lib.hid H1;have h2:=Lib.hid H2
 clear H1 H2
 by_cases hlen:l.length=m.length
 · have hd:((l.length:Int) == (m.length:Int))=true:=by rw [hlen];simp
   have hne:((l.length:Int) != (m.length:Int))=false:=by rw [hlen];simp
   have HL:=Lib.hid hlen
   rw [hlen] at hl ⊢
   clear hlen hd hne
   generalize hn:m.length=n at *
   have HN:=Lib.hid hn
   clear hn
   go_enter Tryd.func26,Tryd.ntmps26
   go_wp2
   go_loopw [13] (fun iv wr=>∃ k:Nat,iv=.int .i64 (k:Int)∧k ≤ n∧Hid (Below w.heap.size w wr)∧Hid (∀ i,i < k→l[i]? = m[i]?)) (fun iv _=>n - (intOf iv).toNat)
   case atStart=>exact ⟨0,rfl,Nat.zero_le _,Lib.hid (Below.refl _ _),Lib.hid (fun i h=>by omega)⟩
   case round =>
     obtain ⟨k,rfl,hk,HB,HS⟩:=hrel
     by_cases hlt:k < n
     · have wi:IntKind.i64.wrap ((k:Int)+1)=(k:Int)+1:=IntWalk.i64_in _ (by omega)
       have hk1:k < l.length:=by have:=HL.out;omega
       have hk2:k < m.length:=by have:=HN.out;omega
       obtain ⟨x,hx⟩:∃ x,l[k]? = some x:=⟨_,List.getElem?_eq_getElem hk1⟩
       obtain ⟨y,hy⟩:∃ y,m[k]? = some y:=⟨_,List.getElem?_eq_getElem hk2⟩
       obtain ⟨b1,o1,rfl,hb1,d1⟩:=h1.out k x hx
       obtain ⟨b2,o2,rfl,hb2,d2⟩:=h2.out k y hy
       have e1:=(HB.out.cell (p:=⟨b1,o1+k,none⟩) hb1).trans d1
       have e2:=(HB.out.cell (p:=⟨b2,o2+k,none⟩) hb2).trans d2
       have HX:=Lib.hid hx;have HY:=Lib.hid hy
       have hkn:(k:Int) < (n:Int):=by omega
       clear hx hy d1 d2 hb1 hb2 h1 h2
       by_cases hxy:x=y
       · subst hxy
         have hq:((x:Int) == (x:Int))=true:=by simp
         go_wp2_with fail
         go_region
         go_wp2
         exact ⟨⟨k+1,by go_num,by omega,Lib.hid HB.out.drew,Lib.hid (fun i hi=>by
           by_cases e:i=k
           · subst e;rw [HX.out,HY.out]
           · exact HS.out i (by omega))⟩,by simp [intOf];omega⟩
       · have hq:((x:Int) == (y:Int))=false:=by rw [beq_eq_false_iff_ne];omega
         have hxy':¬ (x:Int)=(y:Int):=by omega
         have HNE:=Lib.hid (decide_eq_false (show ¬ l=m from fun e=>hxy (by have h:=HX.out;rw [e,HY.out] at h;exact (Option.some.inj h).symm)))
         clear hxy
         go_wp2_with fail
         go_region
         go_wp2
         go_ret
         exact ⟨ret_bool HNE.out.symm,HB.out.drew⟩
     · obtain rfl:k=n:=by omega
       have HEQ:=Lib.hid (decide_eq_true (show l=m from by
         apply List.ext_getElem?;intro i
         by_cases hi:i < k
         · exact HS.out i hi
         · have:=HL.out;have:=HN.out
           rw [List.getElem?_eq_none (by omega),List.getElem?_eq_none (by omega)]))
       clear h1 h2
       go_wp2
       go_ret
       exact ⟨ret_bool HEQ.out.symm,HB.out⟩
 · have hd:((l.length:Int) == (m.length:Int))=false:=by rw [beq_eq_false_iff_ne];omega
   have hne:¬ l=m:=fun e=>hlen (by rw [e])
   have HD:=Lib.hid (decide_eq_false hne)
   clear hne
   go_enter Tryd.func26,Tryd.ntmps26
   go_wp2
   go_ret
   exact ⟨ret_bool HD.out.symm,Below.refl _ _⟩
end Go.Proofs.YtnaoiglbjkjogaaDoor
namespace Go.Proofs.YtnaoiglbjkjogaaDoor
open Go.RowKit
theorem rerising_any (x:BitVec 64) (w:World) (hE:ReEnv w) :
   Calls Tryd.prog 53 #[.int .u64 (Oc.U x)] w fun e w'=>∃ v,e=.returned v∧IR w.heap.size w' v (Re.up x.getLsbD 64 0)∧Below w.heap.size w w':=by
 have HE:=Lib.hid (fun w9 (hb:Below w.heap.size w w9)=>hE.below hb)
 clear hE
 go_enter Tryd.func53,Tryd.ntmps53
 go_wp2
 go_loopw [3,0] (fun lv rv wr=>∃ (r:BitVec 64) (l:List Nat),rv=.int .u64 (Oc.U r)∧Hid (IR w.heap.size wr lv l)∧Hid (Below w.heap.size w wr)∧Hid (l ++ Re.up r.getLsbD 64 0=Re.up x.getLsbD 64 0)) (fun _ rv _=>(intOf rv).toNat)
 case atStart=>exact ⟨x,[],rfl,Lib.hid (IR.nil _ _),Lib.hid (Below.refl _ _),Lib.hid rfl⟩
 case round =>
   obtain ⟨r,l,rfl,HR,HB,HL⟩:=hrel
   by_cases hr:r=0#64
   · subst hr
     have h0:Oc.U 0#64=0:=by decide
     have hl:=HL.out
     rw [Re.up_none 64 0 (fun i _ _=>by simp),List.append_nil] at hl
     subst hl
     clear HL
     go_wp2
     go_ret
     exact ⟨_,rfl,HR.out,HB.out⟩
   · have hne:=U_ne0 hr
     have hne2:(Oc.U r == 0)=false:=by simpa using hne
     obtain ⟨hz,hz1,hz0⟩:=Oc.ctz_bits r hr
     have HF:=Lib.hid (refirst_any r hr wr (HE.out wr HB.out))
     have HD:=Lib.hid (fun w9=>redrop_any r w9)
     have HN:=Lib.hid (Re.up_first hz1 hz0 (Re.drop_bit r hr) 64 0 (Nat.zero_le _) (by omega))
     have HLT:=Lib.hid (Re.drop_lt r hr)
     have hll:l.length ≤ 1000000:=by
       have h1:=congrArg List.length HL.out
       have h2:=Re.up_length x.getLsbD 64 0
       rw [List.length_append] at h1
       omega
     clear hr hz hz1 hz0
     go_wp2_with fail
     refine HF.out.mono ?_
     rintro e1 w1 ⟨rfl,rfl⟩
     have HBX:=Lib.hid (HB.out.alloc HB.out.size (.cells #[.int .i64 (Oc.zeros r:Int)] 3))
     have HRX:=Lib.hid (HR.out.below ((Below.refl w1.heap.size w1).alloc (Nat.le_refl _) (.cells #[.int .i64 (Oc.zeros r:Int)] 3)))
     go_wp2_with (first
       | (at_builtin;refine wp_appI rfl _ _ rfl (Oc.zeros r) _ rfl rfl ((cell_new _ _ _ 0).trans rfl) HRX.out HBX.out.size hll ?_;intro v' w' hr' hb')
       | fail)
     have HR3:=Lib.hid hr';have HB3:=Lib.hid (HBX.out.trans hb')
     clear hr' hb' HRX HBX HF HR HB
     go_wp2_with fail
     refine (HD.out _).mono ?_
     rintro e1 w2 ⟨rfl,rfl⟩
     go_wp2
     exact ⟨⟨_,_,rfl,HR3,HB3,Lib.hid (by rw [← HL.out,HN.out,List.append_assoc];rfl)⟩,by simp only [intOf,Oc.U_toNat];exact HLT.out⟩
namespace Re
end Re
end Go.Proofs.YtnaoiglbjkjogaaDoor
namespace Go.Proofs.YtnaoiglbjkjogaaDoor
open Go.RowKit
def HandedAt (w:World) (v:Value) (ps:List Int):Prop:=∃ p cap,v=.slice p ps.length cap∧∀ (i:Nat) (k:Int),ps[i]? = some k→∃ b o,p=some ⟨b,o,none⟩∧b < w.heap.size∧w.cell? ⟨b,o+i,none⟩=some (.int .i64 k)
namespace Re
def okP (n:Nat) (p:Int):Bool:=decide (0 ≤ p) && decide (p ≤ (n:Int))
def code (t:Tr) (n:Nat) (ps:List Int):Nat:=if t.checkC ≠ 0 then t.checkC else if 63 < n then 12 else if ps.all (okP n)=true then 0 else 15
theorem code_zero {t:Tr} {n:Nat} {ps:List Int} : code t n ps=0 ↔ t.checkC=0∧n ≤ 63∧∀ p,p ∈ ps→0 ≤ p∧p ≤ n:=by
 unfold code
 by_cases h:t.checkC=0
 · rw [if_neg (by omega)]
   by_cases h1:63 < n
   · rw [if_pos h1];constructor
     · intro h;exact absurd h (by decide)
     · rintro ⟨-,a,-⟩;omega
   · rw [if_neg h1]
     have e:ps.all (okP n)=true ↔ ∀ p,p ∈ ps→0 ≤ p∧p ≤ n:=by
       rw [List.all_eq_true]
       constructor
       · intro a p hp;have:=a p hp;unfold okP at this;simpa using this
       · intro a p hp;have:=a p hp;unfold okP;simpa using this
     constructor
     · intro a
       by_cases b:ps.all (okP n)=true
       · exact ⟨h,by omega,e.1 b⟩
       · rw [if_neg b] at a;exact absurd a (by decide)
     · rintro ⟨-,-,a⟩
       rw [if_pos (e.2 a)]
 · rw [if_pos h]
   constructor
   · intro a;exact absurd a h
   · rintro ⟨a,-⟩;exact absurd a h
end Re
structure ReMemT (A:Nat→Addr) (w:World):Prop where
 env:ReEnv w
 errs:ErrsT w A
theorem ReMemT.below {A:Nat→Addr} {w w':World} (h:ReMemT A w) (hb:Below w.heap.size w w'):ReMemT A w':=⟨h.env.below hb,h.errs.below hb⟩
theorem recheckT_any (A:Nat→Addr) (t:Tr) (hd:t.dpT ≤ 1000000) (x:Sc) (b:Nat) (ps:List Int) (hps:ps.length ≤ 1000) (u:Value) (w:World) (hM:ReMemT A w) (hx:ScAt w b x) (B:Nat→Prop) (v:Value) (hv:NodeV w B v t) (hu:HandedAt w u ps) :
   Calls Tryd.prog 52 #[v,.pointer (some ⟨b,0,none⟩),u] w fun e w'=>e=.returned (sentV A (Re.code t x.t.size ps))∧Below w.heap.size w w':=by
 obtain ⟨s,rfl,hs⟩:=hv
 obtain ⟨p,cap,rfl,hlen⟩:=hs.slice
 obtain ⟨q,qc,rfl,hq⟩:=hu
 have HQ:=Lib.hid hq;have HM:=Lib.hid hM
 have HC:=Lib.hid (fun w9 (hb:Below w.heap.size w w9)=>treecheckT_any A t hd w9 (hM.errs.below hb) B (.agg (t.cells (.slice p t.subs.length cap))) ⟨_,rfl,hs.later hb⟩)
 have HL:=Lib.hid (fun w9 (hb:Below w.heap.size w w9)=>sclen_any x b w9 (hx.below hb))
 have hcd:Re.code t x.t.size ps=if t.checkC ≠ 0 then t.checkC else if 63 < x.t.size then 12 else if ps.all (Re.okP x.t.size)=true then 0 else 15:=rfl
 have HCD:=Lib.hid hcd
 clear hs hx hM hq hcd hd
 unfold Tr.cells at *
 generalize Re.code t x.t.size ps=c at *
 go_enter Tryd.func52,Tryd.ntmps52
 have hb1:Below w.heap.size w (w.alloc (.cells #[.int .i64 t.kind,.int .u64 (Oc.U t.w0),.int .u64 (Oc.U t.w1),.int .u64 (Oc.U t.w2),.int .u64 (Oc.U t.w3),.slice p t.subs.length cap,.int .i64 t.num,.int .i64 t.least,.int .i64 t.most,.bool t.bare] 37)):=(Below.refl _ _).alloc (Nat.le_refl _) _
 have Z0:=Lib.hid (heap_alloc_new w (.cells #[.int .i64 t.kind,.int .u64 (Oc.U t.w0),.int .u64 (Oc.U t.w1),.int .u64 (Oc.U t.w2),.int .u64 (Oc.U t.w3),.slice p t.subs.length cap,.int .i64 t.num,.int .i64 t.least,.int .i64 t.most,.bool t.bare] 37))
 go_wp2_with (first
   | (refine wpList_load_row rfl 37 (.tmp 3) rfl w.heap.size rfl 37 _ (0,0) _ Z0.out Tryd.underlying37 rfl (by kernel_rfl) ?_)
   | fail)
 have HB1:=Lib.hid hb1
 clear hb1 Z0
 generalize World.alloc w _=W1 at *
 refine (HC.out W1 HB1.out).mono ?_
 rintro e w2 ⟨rfl,hb2⟩
 have HB2:=Lib.hid (HB1.out.trans (hb2.mono HB1.out.size))
 clear hb2 HB1 HC
 have hcd:=HCD.out
 by_cases hc:t.checkC=0
 · rw [if_neg (by omega)] at hcd
   have e0:sentV A t.checkC=.nilIface:=by rw [hc];rfl
   rw [e0]
   have HCE:=Lib.hid hcd
   clear hcd HCD hc e0
   go_wp2_with fail
   refine (HL.out w2 HB2.out).mono ?_
   rintro e w3 ⟨rfl,rfl⟩
   generalize hn:x.t.size=n at *
   clear hn
   have hcd:=HCE.out
   by_cases h63:63 < n
   · rw [if_pos h63] at hcd
     have HF:=Lib.hid hcd
     have d1:decide ((63:Int) < n)=true:=by simp;omega
     have d2:decide (63 < n)=true:=decide_eq_true h63
     have G:w3.cell? ⟨3,0,none⟩=some (.iface 199 (.pointer (some (A 11)))):=((HM.out.errs.below HB2.out) 11 (by decide)).1
     clear hcd HCE h63 HL HQ
     go_wp2
     go_ret
     exact ⟨congrArg Ending.returned (by rw [HF.out];rfl),HB2.out⟩
   · rw [if_neg h63] at hcd
     have HF:=Lib.hid hcd
     have d1:decide ((63:Int) < n)=false:=by simp;omega
     have d2:decide (63 < n)=false:=decide_eq_false h63
     clear hcd HCE h63
     go_wp2
     go_loopw [21] (fun iv wr=>∃ k:Nat,iv=.int .i64 (k:Int)∧k ≤ ps.length∧wr=w3∧Hid (∀ i r,i < k→ps[i]? = some r→Re.okP n r=true)) (fun iv _=>ps.length - (intOf iv).toNat)
     case atStart=>exact ⟨0,rfl,Nat.zero_le _,rfl,Lib.hid (fun i r h=>by omega)⟩
     case round =>
       obtain ⟨k,rfl,hk,rfl,HS⟩:=hrel
       by_cases hlt:k < ps.length
       · have wi:IntKind.i64.wrap ((k:Int)+1)=(k:Int)+1:=IntWalk.i64_in _ (by omega)
         obtain ⟨r,hr⟩:∃ r,ps[k]? = some r:=⟨_,List.getElem?_eq_getElem hlt⟩
         obtain ⟨b1,o1,rfl,hb1,d⟩:=HQ.out k r hr
         have d0:=(HB2.out.cell (p:=⟨b1,o1+k,none⟩) hb1).trans d
         have HR:=Lib.hid hr
         have G:wr.cell? ⟨4,0,none⟩=some (.iface 199 (.pointer (some (A 14)))):=((HM.out.errs.below HB2.out) 14 (by decide)).1
         have HLr:=Lib.hid (HL.out wr HB2.out)
         have hbad:Re.okP n r=false→c=15:=fun hno=>by
           rw [HF.out,if_neg]
           intro hall
           have:=List.all_eq_true.1 hall r (List.mem_of_getElem? hr)
           rw [hno] at this;exact absurd this (by decide)
         have HBAD:=Lib.hid hbad
         clear hr hb1 d HQ HL hbad HF
         by_cases h0:r < 0
         · have d5:decide (r < 0)=true:=decide_eq_true h0
           have HV:=Lib.hid (HBAD.out (by unfold Re.okP;rw [decide_eq_false (by omega)];rfl))
           clear h0 HBAD HLr HS
           go_wp2
           go_ret
           exact ⟨congrArg Ending.returned (by rw [HV.out];rfl),HB2.out⟩
         · have d5:decide (r < 0)=false:=decide_eq_false h0
           by_cases h1:(n:Int) < r
           · have d6:decide ((n:Int) < r)=true:=decide_eq_true h1
             have HV:=Lib.hid (HBAD.out (by unfold Re.okP;rw [show decide (r ≤ (n:Int))=false from decide_eq_false (by omega),Bool.and_false]))
             clear h0 h1 HBAD HS
             go_wp2_with fail
             refine HLr.out.mono ?_
             rintro e w4 ⟨rfl,rfl⟩
             go_wp2
             go_ret
             exact ⟨congrArg Ending.returned (by rw [HV.out];rfl),HB2.out⟩
           · have d6:decide ((n:Int) < r)=false:=decide_eq_false h1
             have HOK:=Lib.hid (show Re.okP n r=true by unfold Re.okP;rw [decide_eq_true (by omega),decide_eq_true (by omega)];rfl)
             clear h0 h1 HBAD
             go_wp2_with fail
             refine HLr.out.mono ?_
             rintro e w4 ⟨rfl,rfl⟩
             go_wp2
             exact ⟨⟨k+1,by go_num,by omega,by first | rfl | trivial,Lib.hid (fun i r' hi hr'=>by
               by_cases e:i=k
               · subst e
                 rw [HR.out] at hr'
                 obtain rfl:=Option.some.inj hr'
                 exact HOK.out
               · exact HS.out i r' (by omega) hr')⟩,by simp [intOf];omega⟩
       · obtain rfl:k=ps.length:=by omega
         have HV:=Lib.hid (show c=0 by
           rw [HF.out,if_pos]
           rw [List.all_eq_true];intro r hr
           obtain ⟨i,hi,e⟩:=List.mem_iff_getElem.1 hr
           exact HS.out i r hi (by rw [List.getElem?_eq_getElem hi,e]))
         clear HF HS HQ HL
         go_wp2
         go_ret
         exact ⟨congrArg Ending.returned (by rw [HV.out];rfl),HB2.out⟩
 · rw [if_pos hc] at hcd
   have hne:sentV A t.checkC=.iface 199 (.pointer (some (A (t.checkC - 1)))):=by unfold sentV;rw [if_neg hc]
   rw [hne]
   have HV:=Lib.hid (show sentV A c=.iface 199 (.pointer (some (A (t.checkC - 1)))) by rw [hcd];exact hne)
   clear hcd HCD hc hne HL HQ
   go_wp2
   go_ret
   exact ⟨congrArg Ending.returned HV.out.symm,HB2.out⟩
end Go.Proofs.YtnaoiglbjkjogaaDoor
namespace Go.Proofs.YtnaoiglbjkjogaaDoor
open Go.RowKit
theorem sent_nil (A:Nat→Addr):sentV A 0=.nilIface:=rfl
theorem sent_ne {A:Nat→Addr} {c:Nat} (h:c ≠ 0):sentV A c=.iface 199 (.pointer (some (A (c - 1)))):=by unfold sentV;rw [if_neg h]
theorem handed_one {w:World} {g:Nat} {a:Int} {ty:TypeId} (h:w.heap[g]? = some (.cells #[.int .i64 a] ty)):HandedAt w (.slice (some ⟨g,0,none⟩) 1 1) [a] :=
 ⟨some ⟨g,0,none⟩,1,rfl,fun i k hi=>by
   match i,hi with
   | 0,hi=>simp at hi;subst hi;exact ⟨g,0,rfl,blk_lt h,by unfold World.cell?;rw [h];rfl⟩⟩
def EndsEnd (A:Nat→Addr) (x:Sc) (t:Tr) (f:Int) (w:World) (e:Ending) (w':World):Prop :=
 ∃ v,e=.returned (.tuple #[v,sentV A (Re.code t x.t.size [f])])∧Below w.heap.size w w'∧(if Re.code t x.t.size [f]=0 then IR w.heap.size w' v (Re.up (Tr.tabT x t f.toNat).getLsbD 64 0) else v=.slice none 0 0)
theorem EndsEnd.yes {A:Nat→Addr} {x:Sc} {t:Tr} {f:Int} {w:World} {e:Ending} {w':World} (h:EndsEnd A x t f w e w') (hc:Re.code t x.t.size [f]=0) :
   ∃ v,e=.returned (.tuple #[v,.nilIface])∧IR w.heap.size w' v (Re.up (Tr.tabT x t f.toNat).getLsbD 64 0)∧Below w.heap.size w w':=by
 obtain ⟨v,e1,hb,h3⟩:=h
 rw [if_pos hc] at h3
 rw [hc] at e1
 exact ⟨v,e1,h3,hb⟩
theorem reendsT_any (A:Nat→Addr) (t:Tr) (hd:t.dpT ≤ 1000000) (x:Sc) (b:Nat) (f:Int) (w:World) (hM:ReMemT A w) (hx:ScAt w b x) (B:Nat→Prop) (v:Value) (hv:NodeV w B v t) :
   Calls Tryd.prog 25 #[v,.pointer (some ⟨b,0,none⟩),.int .i64 f] w (EndsEnd A x t f w):=by
 obtain ⟨s,rfl,hs⟩:=hv
 obtain ⟨p,cap,rfl,hlen⟩:=hs.slice
 have HCK:=Lib.hid (fun w9 (hb:Below w.heap.size w w9) u (hu:HandedAt w9 u [f])=>recheckT_any A t hd x b [f] (by simp) u w9 (hM.below hb) (hx.below hb) B (.agg (t.cells (.slice p t.subs.length cap))) ⟨_,rfl,hs.later hb⟩ hu)
 have HTK:=Lib.hid (fun (hf:t.InForm) (hn:x.t.size ≤ 63) w9 (hb:Below w.heap.size w w9)=>(retaken_any x b hn t hf w9 B (.agg (t.cells (.slice p t.subs.length cap))) (hx.below hb) (hM.env.below hb) ⟨_,rfl,hs.later hb⟩).mono fun _ _ h=>h.of)
 have HM:=Lib.hid (fun w9 (hb:Below w.heap.size w w9)=>hM.below hb)
 have HCZ:=Lib.hid (Re.code_zero (t:=t) (n:=x.t.size) (ps:=[f]))
 clear hs hx hM hd
 unfold Tr.cells at *
 go_enter Tryd.func25,Tryd.ntmps25
 have y0:(w.alloc (.cells #[.int .i64 t.kind,.int .u64 (Oc.U t.w0),.int .u64 (Oc.U t.w1),.int .u64 (Oc.U t.w2),.int .u64 (Oc.U t.w3),.slice p t.subs.length cap,.int .i64 t.num,.int .i64 t.least,.int .i64 t.most,.bool t.bare] 37)).heap[w.heap.size]? = some (.cells #[.int .i64 t.kind,.int .u64 (Oc.U t.w0),.int .u64 (Oc.U t.w1),.int .u64 (Oc.U t.w2),.int .u64 (Oc.U t.w3),.slice p t.subs.length cap,.int .i64 t.num,.int .i64 t.least,.int .i64 t.most,.bool t.bare] 37):=row_new _ _ _ rfl
 go_wp2_with (first
   | (refine wpList_load_row rfl 37 (.tmp 3) rfl w.heap.size rfl 37 _ (0,0) _ y0 Tryd.underlying37 rfl (by kernel_rfl) ?_)
   | fail)
 have hb1:Below w.heap.size w ((w.alloc (.cells #[.int .i64 t.kind,.int .u64 (Oc.U t.w0),.int .u64 (Oc.U t.w1),.int .u64 (Oc.U t.w2),.int .u64 (Oc.U t.w3),.slice p t.subs.length cap,.int .i64 t.num,.int .i64 t.least,.int .i64 t.most,.bool t.bare] 37)).alloc (.cells #[.int .i64 f] 3)):=by go_grown
 have hu:HandedAt ((w.alloc (.cells #[.int .i64 t.kind,.int .u64 (Oc.U t.w0),.int .u64 (Oc.U t.w1),.int .u64 (Oc.U t.w2),.int .u64 (Oc.U t.w3),.slice p t.subs.length cap,.int .i64 t.num,.int .i64 t.least,.int .i64 t.most,.bool t.bare] 37)).alloc (.cells #[.int .i64 f] 3)) (.slice (some ⟨w.heap.size+1,0,none⟩) 1 1) [f]:=handed_one (row_new _ _ _ (by simp))
 have Y0:=Lib.hid (show ((w.alloc (.cells #[.int .i64 t.kind,.int .u64 (Oc.U t.w0),.int .u64 (Oc.U t.w1),.int .u64 (Oc.U t.w2),.int .u64 (Oc.U t.w3),.slice p t.subs.length cap,.int .i64 t.num,.int .i64 t.least,.int .i64 t.most,.bool t.bare] 37)).alloc (.cells #[.int .i64 f] 3)).heap[w.heap.size]? = some (.cells #[.int .i64 t.kind,.int .u64 (Oc.U t.w0),.int .u64 (Oc.U t.w1),.int .u64 (Oc.U t.w2),.int .u64 (Oc.U t.w3),.slice p t.subs.length cap,.int .i64 t.num,.int .i64 t.least,.int .i64 t.most,.bool t.bare] 37) from heap_alloc_lt y0)
 have HB1:=Lib.hid hb1;have HU:=Lib.hid hu
 clear hb1 hu y0
 generalize ((w.alloc (.cells #[.int .i64 t.kind,.int .u64 (Oc.U t.w0),.int .u64 (Oc.U t.w1),.int .u64 (Oc.U t.w2),.int .u64 (Oc.U t.w3),.slice p t.subs.length cap,.int .i64 t.num,.int .i64 t.least,.int .i64 t.most,.bool t.bare] 37)).alloc (.cells #[.int .i64 f] 3))=W2 at *
 refine (HCK.out W2 HB1.out _ HU.out).mono ?_
 rintro e w2 ⟨rfl,hb2⟩
 have Z0:=Lib.hid (keep_blk hb2 Y0.out);have HB2:=Lib.hid (HB1.out.trans (hb2.mono HB1.out.size))
 clear hb2 HB1 HU Y0 HCK
 generalize hc:Re.code t x.t.size [f]=c at *
 by_cases h0:c=0
 · have hz:=HCZ.out.1 h0
   obtain ⟨k,rfl⟩:∃ k:Nat,f=k:=⟨f.toNat,by have:=hz.2.2 f (by simp);omega⟩
   have hk:k < 64:=by have:=hz.2.2 (k:Int) (by simp);have:=hz.2.1;omega
   have HT:=Lib.hid (HTK.out (Tr.checkC_zero.1 hz.1).1 hz.2.1)
   have HIX:=Lib.hid (fun (P:Nat→BitVec 64) w=>run_index_words P k hk w)
   have HC:=Lib.hid (hc.trans h0)
   subst h0
   rw [sent_nil]
   clear hz hc HCZ HTK
   go_wp2_with (first
     | (refine wpList_load_row rfl 37 (.tmp 3) rfl w.heap.size rfl 37 _ (0,0) _ Z0.out Tryd.underlying37 rfl (by kernel_rfl) ?_)
     | fail)
   refine (HT.out w2 HB2.out).mono ?_
   rintro e w3 ⟨rfl,hb3⟩
   have HB3:=Lib.hid (HB2.out.trans (hb3.mono HB2.out.size))
   clear hb3 HB2 HT Z0
   generalize hP:Tr.tabT x t=P at *
   have HP:=Lib.hid hP
   clear hP
   have hix:=HIX.out P
   go_wp2_with fail
   refine (rerising_any (P k) w3 (HM.out w3 HB3.out).env).mono ?_
   rintro e w4 ⟨v,rfl,hv,hb4⟩
   have HV:=Lib.hid hv;have HB4:=Lib.hid (HB3.out.trans (hb4.mono HB3.out.size))
   have HLE:=Lib.hid HB3.out.size
   clear hv hb4 HB3
   go_wp2
   go_ret2
   exact ⟨v,by rw [HC.out];rfl,HB4.out,by rw [if_pos HC.out,HP.out,Int.toNat_natCast];exact HV.out.mono HLE.out⟩
 · have HC:=Lib.hid hc
   rw [sent_ne h0]
   have H0:=Lib.hid h0
   clear hc h0 HCZ HTK
   go_wp2
   go_ret2
   exact ⟨.slice none 0 0,by (rw [HC.out,sent_ne H0.out];rfl),HB2.out,by rw [if_neg (by rw [HC.out];exact H0.out)]⟩
namespace Re
end Re
end Go.Proofs.YtnaoiglbjkjogaaDoor
namespace Go.Proofs.YtnaoiglbjkjogaaDoor
open Go.RowKit
theorem used_form (t:Tr) (s:Value) (hs:∃ p l c,s=.slice p l c) (hf:t.fieldsOk) (w:World):Calls Tryd.prog 106 #[.agg (t.cells s)] w fun e w'=>e=.returned (.agg (t.cells (.slice none 0 0)))∧Below w.heap.size w w':=by
 obtain ⟨p,l,c,rfl⟩:=hs
 cases t with | node k a b c d ts n lo hi br =>
 unfold Tr.fieldsOk at hf
 simp only [Tr.cells,Tr.kind,Tr.w0,Tr.w1,Tr.w2,Tr.w3,Tr.num,Tr.least,Tr.most,Tr.bare,Tr.subs] at *
 rcases hf with ⟨h | h | h,rfl,rfl,rfl,rfl,-,rfl,rfl,rfl,rfl⟩ | ⟨h,-,rfl,rfl,rfl,rfl⟩ | ⟨h | h,rfl,rfl,rfl,rfl,-,rfl,rfl,rfl,rfl⟩ | ⟨h,rfl,rfl,rfl,rfl,-,-,-,rfl,rfl,rfl⟩ | ⟨h,rfl,rfl,rfl,rfl,-,rfl,-,-,-,-⟩
 all_goals
   subst h
   have u0:Oc.U 0#64=0:=by decide
   try simp only [u0]
   clear u0
   go_enter Tryd.func106,Tryd.ntmps106
   go_wp2
   exact bodyPost_ret (results_cell_row rfl _ _ (w.heap.size+1) 37 _ (0,0) _ rfl (three_new _ _ _ _).2.1 Tryd.underlying37 rfl (by kernel_rfl)) rfl ⟨rfl,by go_grown⟩
theorem ten {w:World} {b:Nat} {x0 x1 x2 x3 x4 x5 x6 x7 x8 x9:Value} {t:TypeId} (h:w.heap[b]? = some (.cells #[x0,x1,x2,x3,x4,x5,x6,x7,x8,x9] t)):w.cell? ⟨b,0,none⟩=some x0∧w.cell? ⟨b,1,none⟩=some x1∧w.cell? ⟨b,2,none⟩=some x2∧w.cell? ⟨b,3,none⟩=some x3∧w.cell? ⟨b,4,none⟩=some x4∧w.cell? ⟨b,5,none⟩=some x5∧w.cell? ⟨b,6,none⟩=some x6∧w.cell? ⟨b,7,none⟩=some x7∧w.cell? ⟨b,8,none⟩=some x8∧w.cell? ⟨b,9,none⟩=some x9:=by
 simp [World.cell?,h]
theorem refform_yes:∀ t:Tr,t.InForm→∀ (w:World) (B:Nat→Prop) (v:Value),NodeV w B v t→Calls Tryd.prog 75 #[v] w fun e w'=>e=.returned (.bool true)∧Below w.heap.size w w':=by
 intro t
 induction t using Tr.rec_subs with
 | h t ih =>
   intro hf w B v hv
   obtain ⟨s,rfl,hs⟩:=hv
   obtain ⟨p,cap,rfl,hlen⟩:=hs.slice
   have he:=eq4
   have hfl:=hf.fields
   have HU:=Lib.hid (used_form t (.slice p t.subs.length cap) ⟨_,_,_,rfl⟩ hfl)
   have IH:=Lib.hid ih;have HF:=Lib.hid hf;have HS:=Lib.hid hs
   clear ih hf hs
   generalize hts:t.subs=ts at *
   have HTS:=Lib.hid hts
   cases t with | node k a b c d us n lo hi br =>
   unfold Tr.fieldsOk at hfl
   simp only [Tr.cells,Tr.kind,Tr.w0,Tr.w1,Tr.w2,Tr.w3,Tr.num,Tr.least,Tr.most,Tr.bare,Tr.subs] at *
   subst hts
   rcases hfl with ⟨h | h | h,rfl,rfl,rfl,rfl,hl,rfl,rfl,rfl,rfl⟩ | ⟨h,hl,rfl,rfl,rfl,rfl⟩ | ⟨h | h,rfl,rfl,rfl,rfl,hl,rfl,rfl,rfl,rfl⟩ | ⟨h,rfl,rfl,rfl,rfl,hl,hn1,hn2,rfl,rfl,rfl⟩ | ⟨h,rfl,rfl,rfl,rfl,hl,rfl,h1,h2,h3,h4⟩
   · subst h
     have g1:((us.length:Int) != 0)=false:=by rw [hl];rfl
     clear hl
     go_enter Tryd.func75,Tryd.ntmps75
     go_wp2_with fail
     refine (HU.out _).mono ?_
     rintro e w1 ⟨rfl,hb1⟩
     have Z1:=Lib.hid (keep_blk hb1 (heap_alloc_new w _))
     have HB1:=Lib.hid (((Below.refl _ _).alloc (Nat.le_refl _) _).trans (hb1.mono (by simp)))
     have hs1:w.heap.size < w1.heap.size:=by have:=hb1.size;simp at this;omega
     clear hb1
     have Z2:=fun o=>Lib.hid (heap_alloc_lt (o:=o) Z1.out)
     have f0:=fun o=>(ten (Z2 o).out).1
     have f1:=fun o=>(ten (Z2 o).out).2.1
     have f2:=fun o=>(ten (Z2 o).out).2.2.1
     have f3:=fun o=>(ten (Z2 o).out).2.2.2.1
     have f4:=fun o=>(ten (Z2 o).out).2.2.2.2.1
     have f5:=fun o=>(ten (Z2 o).out).2.2.2.2.2.1
     have f6:=fun o=>(ten (Z2 o).out).2.2.2.2.2.2.1
     have f7:=fun o=>(ten (Z2 o).out).2.2.2.2.2.2.2.1
     have f8:=fun o=>(ten (Z2 o).out).2.2.2.2.2.2.2.2.1
     have f9:=fun o=>(ten (Z2 o).out).2.2.2.2.2.2.2.2.2
     go_wp2
     go_loopw [5] (fun iv wr=>∃ m:Nat,iv=.int .i64 m∧m ≤ us.length∧Hid (Below w.heap.size w wr)∧w.heap.size < wr.heap.size∧Hid (wr.cell? ⟨w.heap.size,5,none⟩=some (.slice p us.length cap))) (fun iv _=>us.length - (intOf iv).toNat)
     case atStart=>exact ⟨0,rfl,Nat.zero_le _,Lib.hid (HB1.out.alloc HB1.out.size _),by simp;omega,Lib.hid (f5 _)⟩
     case round =>
       obtain ⟨m,rfl,hm,HB,hsz,Z0⟩:=hrel
       clear f0 f1 f2 f3 f4 f5 f6 f7 f8 f9
       have wm:IntKind.i64.wrap ((m:Int)+1)=(m:Int)+1:=IntWalk.i64_in _ (by omega)
       by_cases hlt:m < us.length
       · obtain ⟨x,hx⟩:∃ x,us[m]? = some x:=⟨_,List.getElem?_eq_getElem hlt⟩
         obtain ⟨b1,o1,s1,rfl,-,t1,sub1⟩:=HS.out.get hx
         obtain ⟨d0,d1,d2,d3,d4,d5,d6,d7,d8,d9⟩:=t1.keep (HB.out.block _ t1.lt)
         have hmem:=List.mem_of_getElem? hx
         have HC:=Lib.hid (IH.out x hmem (HF.out.sub hmem) wr B (.agg (x.cells s1)) ⟨_,rfl,sub1.later HB.out⟩)
         have z5:=Z0.out
         clear t1 sub1 hmem hx
         unfold Tr.cells at HC
         go_wp2_with fail
         refine HC.out.mono ?_
         rintro e w2 ⟨rfl,hb2⟩
         have HB2:=Lib.hid (HB.out.trans (hb2.mono HB.out.size));have Y2:=Lib.hid ((hb2.cell (p:=⟨w.heap.size,5,none⟩) hsz).trans z5)
         have hsz2:w.heap.size < w2.heap.size:=Nat.lt_of_lt_of_le hsz hb2.size
         clear d0 d1 d2 d3 d4 d5 d6 d7 d8 d9 z5 hb2 HC
         go_wp2
         exact ⟨⟨m+1,by go_num,by omega,HB2,hsz2,Y2⟩,by simp [intOf];omega⟩
       · obtain rfl:m=us.length:=by omega
         go_wp2
         go_ret
         exact ⟨rfl,HB.out⟩
   · subst h
     have g1:((us.length:Int) != 0)=false:=by rw [hl];rfl
     clear hl
     go_enter Tryd.func75,Tryd.ntmps75
     go_wp2_with fail
     refine (HU.out _).mono ?_
     rintro e w1 ⟨rfl,hb1⟩
     have Z1:=Lib.hid (keep_blk hb1 (heap_alloc_new w _))
     have HB1:=Lib.hid (((Below.refl _ _).alloc (Nat.le_refl _) _).trans (hb1.mono (by simp)))
     have hs1:w.heap.size < w1.heap.size:=by have:=hb1.size;simp at this;omega
     clear hb1
     have Z2:=fun o=>Lib.hid (heap_alloc_lt (o:=o) Z1.out)
     have f0:=fun o=>(ten (Z2 o).out).1
     have f1:=fun o=>(ten (Z2 o).out).2.1
     have f2:=fun o=>(ten (Z2 o).out).2.2.1
     have f3:=fun o=>(ten (Z2 o).out).2.2.2.1
     have f4:=fun o=>(ten (Z2 o).out).2.2.2.2.1
     have f5:=fun o=>(ten (Z2 o).out).2.2.2.2.2.1
     have f6:=fun o=>(ten (Z2 o).out).2.2.2.2.2.2.1
     have f7:=fun o=>(ten (Z2 o).out).2.2.2.2.2.2.2.1
     have f8:=fun o=>(ten (Z2 o).out).2.2.2.2.2.2.2.2.1
     have f9:=fun o=>(ten (Z2 o).out).2.2.2.2.2.2.2.2.2
     go_wp2
     go_loopw [5] (fun iv wr=>∃ m:Nat,iv=.int .i64 m∧m ≤ us.length∧Hid (Below w.heap.size w wr)∧w.heap.size < wr.heap.size∧Hid (wr.cell? ⟨w.heap.size,5,none⟩=some (.slice p us.length cap))) (fun iv _=>us.length - (intOf iv).toNat)
     case atStart=>exact ⟨0,rfl,Nat.zero_le _,Lib.hid (HB1.out.alloc HB1.out.size _),by simp;omega,Lib.hid (f5 _)⟩
     case round =>
       obtain ⟨m,rfl,hm,HB,hsz,Z0⟩:=hrel
       clear f0 f1 f2 f3 f4 f5 f6 f7 f8 f9
       have wm:IntKind.i64.wrap ((m:Int)+1)=(m:Int)+1:=IntWalk.i64_in _ (by omega)
       by_cases hlt:m < us.length
       · obtain ⟨x,hx⟩:∃ x,us[m]? = some x:=⟨_,List.getElem?_eq_getElem hlt⟩
         obtain ⟨b1,o1,s1,rfl,-,t1,sub1⟩:=HS.out.get hx
         obtain ⟨d0,d1,d2,d3,d4,d5,d6,d7,d8,d9⟩:=t1.keep (HB.out.block _ t1.lt)
         have hmem:=List.mem_of_getElem? hx
         have HC:=Lib.hid (IH.out x hmem (HF.out.sub hmem) wr B (.agg (x.cells s1)) ⟨_,rfl,sub1.later HB.out⟩)
         have z5:=Z0.out
         clear t1 sub1 hmem hx
         unfold Tr.cells at HC
         go_wp2_with fail
         refine HC.out.mono ?_
         rintro e w2 ⟨rfl,hb2⟩
         have HB2:=Lib.hid (HB.out.trans (hb2.mono HB.out.size));have Y2:=Lib.hid ((hb2.cell (p:=⟨w.heap.size,5,none⟩) hsz).trans z5)
         have hsz2:w.heap.size < w2.heap.size:=Nat.lt_of_lt_of_le hsz hb2.size
         clear d0 d1 d2 d3 d4 d5 d6 d7 d8 d9 z5 hb2 HC
         go_wp2
         exact ⟨⟨m+1,by go_num,by omega,HB2,hsz2,Y2⟩,by simp [intOf];omega⟩
       · obtain rfl:m=us.length:=by omega
         go_wp2
         go_ret
         exact ⟨rfl,HB.out⟩
   · subst h
     have g1:((us.length:Int) != 0)=false:=by rw [hl];rfl
     clear hl
     go_enter Tryd.func75,Tryd.ntmps75
     go_wp2_with fail
     refine (HU.out _).mono ?_
     rintro e w1 ⟨rfl,hb1⟩
     have Z1:=Lib.hid (keep_blk hb1 (heap_alloc_new w _))
     have HB1:=Lib.hid (((Below.refl _ _).alloc (Nat.le_refl _) _).trans (hb1.mono (by simp)))
     have hs1:w.heap.size < w1.heap.size:=by have:=hb1.size;simp at this;omega
     clear hb1
     have Z2:=fun o=>Lib.hid (heap_alloc_lt (o:=o) Z1.out)
     have f0:=fun o=>(ten (Z2 o).out).1
     have f1:=fun o=>(ten (Z2 o).out).2.1
     have f2:=fun o=>(ten (Z2 o).out).2.2.1
     have f3:=fun o=>(ten (Z2 o).out).2.2.2.1
     have f4:=fun o=>(ten (Z2 o).out).2.2.2.2.1
     have f5:=fun o=>(ten (Z2 o).out).2.2.2.2.2.1
     have f6:=fun o=>(ten (Z2 o).out).2.2.2.2.2.2.1
     have f7:=fun o=>(ten (Z2 o).out).2.2.2.2.2.2.2.1
     have f8:=fun o=>(ten (Z2 o).out).2.2.2.2.2.2.2.2.1
     have f9:=fun o=>(ten (Z2 o).out).2.2.2.2.2.2.2.2.2
     go_wp2
     go_loopw [5] (fun iv wr=>∃ m:Nat,iv=.int .i64 m∧m ≤ us.length∧Hid (Below w.heap.size w wr)∧w.heap.size < wr.heap.size∧Hid (wr.cell? ⟨w.heap.size,5,none⟩=some (.slice p us.length cap))) (fun iv _=>us.length - (intOf iv).toNat)
     case atStart=>exact ⟨0,rfl,Nat.zero_le _,Lib.hid (HB1.out.alloc HB1.out.size _),by simp;omega,Lib.hid (f5 _)⟩
     case round =>
       obtain ⟨m,rfl,hm,HB,hsz,Z0⟩:=hrel
       clear f0 f1 f2 f3 f4 f5 f6 f7 f8 f9
       have wm:IntKind.i64.wrap ((m:Int)+1)=(m:Int)+1:=IntWalk.i64_in _ (by omega)
       by_cases hlt:m < us.length
       · obtain ⟨x,hx⟩:∃ x,us[m]? = some x:=⟨_,List.getElem?_eq_getElem hlt⟩
         obtain ⟨b1,o1,s1,rfl,-,t1,sub1⟩:=HS.out.get hx
         obtain ⟨d0,d1,d2,d3,d4,d5,d6,d7,d8,d9⟩:=t1.keep (HB.out.block _ t1.lt)
         have hmem:=List.mem_of_getElem? hx
         have HC:=Lib.hid (IH.out x hmem (HF.out.sub hmem) wr B (.agg (x.cells s1)) ⟨_,rfl,sub1.later HB.out⟩)
         have z5:=Z0.out
         clear t1 sub1 hmem hx
         unfold Tr.cells at HC
         go_wp2_with fail
         refine HC.out.mono ?_
         rintro e w2 ⟨rfl,hb2⟩
         have HB2:=Lib.hid (HB.out.trans (hb2.mono HB.out.size));have Y2:=Lib.hid ((hb2.cell (p:=⟨w.heap.size,5,none⟩) hsz).trans z5)
         have hsz2:w.heap.size < w2.heap.size:=Nat.lt_of_lt_of_le hsz hb2.size
         clear d0 d1 d2 d3 d4 d5 d6 d7 d8 d9 z5 hb2 HC
         go_wp2
         exact ⟨⟨m+1,by go_num,by omega,HB2,hsz2,Y2⟩,by simp [intOf];omega⟩
       · obtain rfl:m=us.length:=by omega
         go_wp2
         go_ret
         exact ⟨rfl,HB.out⟩
   · subst h
     have g1:((us.length:Int) != 0)=false:=by rw [hl];rfl
     clear hl
     go_enter Tryd.func75,Tryd.ntmps75
     go_wp2_with fail
     refine (HU.out _).mono ?_
     rintro e w1 ⟨rfl,hb1⟩
     have Z1:=Lib.hid (keep_blk hb1 (heap_alloc_new w _))
     have HB1:=Lib.hid (((Below.refl _ _).alloc (Nat.le_refl _) _).trans (hb1.mono (by simp)))
     have hs1:w.heap.size < w1.heap.size:=by have:=hb1.size;simp at this;omega
     clear hb1
     have Z2:=fun o=>Lib.hid (heap_alloc_lt (o:=o) Z1.out)
     have f0:=fun o=>(ten (Z2 o).out).1
     have f1:=fun o=>(ten (Z2 o).out).2.1
     have f2:=fun o=>(ten (Z2 o).out).2.2.1
     have f3:=fun o=>(ten (Z2 o).out).2.2.2.1
     have f4:=fun o=>(ten (Z2 o).out).2.2.2.2.1
     have f5:=fun o=>(ten (Z2 o).out).2.2.2.2.2.1
     have f6:=fun o=>(ten (Z2 o).out).2.2.2.2.2.2.1
     have f7:=fun o=>(ten (Z2 o).out).2.2.2.2.2.2.2.1
     have f8:=fun o=>(ten (Z2 o).out).2.2.2.2.2.2.2.2.1
     have f9:=fun o=>(ten (Z2 o).out).2.2.2.2.2.2.2.2.2
     go_wp2
     go_loopw [5] (fun iv wr=>∃ m:Nat,iv=.int .i64 m∧m ≤ us.length∧Hid (Below w.heap.size w wr)∧w.heap.size < wr.heap.size∧Hid (wr.cell? ⟨w.heap.size,5,none⟩=some (.slice p us.length cap))) (fun iv _=>us.length - (intOf iv).toNat)
     case atStart=>exact ⟨0,rfl,Nat.zero_le _,Lib.hid (HB1.out.alloc HB1.out.size _),by simp;omega,Lib.hid (f5 _)⟩
     case round =>
       obtain ⟨m,rfl,hm,HB,hsz,Z0⟩:=hrel
       clear f0 f1 f2 f3 f4 f5 f6 f7 f8 f9
       have wm:IntKind.i64.wrap ((m:Int)+1)=(m:Int)+1:=IntWalk.i64_in _ (by omega)
       by_cases hlt:m < us.length
       · obtain ⟨x,hx⟩:∃ x,us[m]? = some x:=⟨_,List.getElem?_eq_getElem hlt⟩
         obtain ⟨b1,o1,s1,rfl,-,t1,sub1⟩:=HS.out.get hx
         obtain ⟨d0,d1,d2,d3,d4,d5,d6,d7,d8,d9⟩:=t1.keep (HB.out.block _ t1.lt)
         have hmem:=List.mem_of_getElem? hx
         have HC:=Lib.hid (IH.out x hmem (HF.out.sub hmem) wr B (.agg (x.cells s1)) ⟨_,rfl,sub1.later HB.out⟩)
         have z5:=Z0.out
         clear t1 sub1 hmem hx
         unfold Tr.cells at HC
         go_wp2_with fail
         refine HC.out.mono ?_
         rintro e w2 ⟨rfl,hb2⟩
         have HB2:=Lib.hid (HB.out.trans (hb2.mono HB.out.size));have Y2:=Lib.hid ((hb2.cell (p:=⟨w.heap.size,5,none⟩) hsz).trans z5)
         have hsz2:w.heap.size < w2.heap.size:=Nat.lt_of_lt_of_le hsz hb2.size
         clear d0 d1 d2 d3 d4 d5 d6 d7 d8 d9 z5 hb2 HC
         go_wp2
         exact ⟨⟨m+1,by go_num,by omega,HB2,hsz2,Y2⟩,by simp [intOf];omega⟩
       · obtain rfl:m=us.length:=by omega
         go_wp2
         go_ret
         exact ⟨rfl,HB.out⟩
   · subst h
     have g1:decide ((us.length:Int) < 2)=false:=by simp;omega
     have g2:decide (us.length < 2)=false:=by simp;omega
     clear hl
     go_enter Tryd.func75,Tryd.ntmps75
     go_wp2_with fail
     refine (HU.out _).mono ?_
     rintro e w1 ⟨rfl,hb1⟩
     have Z1:=Lib.hid (keep_blk hb1 (heap_alloc_new w _))
     have HB1:=Lib.hid (((Below.refl _ _).alloc (Nat.le_refl _) _).trans (hb1.mono (by simp)))
     have hs1:w.heap.size < w1.heap.size:=by have:=hb1.size;simp at this;omega
     clear hb1
     have Z2:=fun o=>Lib.hid (heap_alloc_lt (o:=o) Z1.out)
     have f0:=fun o=>(ten (Z2 o).out).1
     have f1:=fun o=>(ten (Z2 o).out).2.1
     have f2:=fun o=>(ten (Z2 o).out).2.2.1
     have f3:=fun o=>(ten (Z2 o).out).2.2.2.1
     have f4:=fun o=>(ten (Z2 o).out).2.2.2.2.1
     have f5:=fun o=>(ten (Z2 o).out).2.2.2.2.2.1
     have f6:=fun o=>(ten (Z2 o).out).2.2.2.2.2.2.1
     have f7:=fun o=>(ten (Z2 o).out).2.2.2.2.2.2.2.1
     have f8:=fun o=>(ten (Z2 o).out).2.2.2.2.2.2.2.2.1
     have f9:=fun o=>(ten (Z2 o).out).2.2.2.2.2.2.2.2.2
     go_wp2
     go_loopw [5] (fun iv wr=>∃ m:Nat,iv=.int .i64 m∧m ≤ us.length∧Hid (Below w.heap.size w wr)∧w.heap.size < wr.heap.size∧Hid (wr.cell? ⟨w.heap.size,5,none⟩=some (.slice p us.length cap))) (fun iv _=>us.length - (intOf iv).toNat)
     case atStart=>exact ⟨0,rfl,Nat.zero_le _,Lib.hid (HB1.out.alloc HB1.out.size _),by simp;omega,Lib.hid (f5 _)⟩
     case round =>
       obtain ⟨m,rfl,hm,HB,hsz,Z0⟩:=hrel
       clear f0 f1 f2 f3 f4 f5 f6 f7 f8 f9
       have wm:IntKind.i64.wrap ((m:Int)+1)=(m:Int)+1:=IntWalk.i64_in _ (by omega)
       by_cases hlt:m < us.length
       · obtain ⟨x,hx⟩:∃ x,us[m]? = some x:=⟨_,List.getElem?_eq_getElem hlt⟩
         obtain ⟨b1,o1,s1,rfl,-,t1,sub1⟩:=HS.out.get hx
         obtain ⟨d0,d1,d2,d3,d4,d5,d6,d7,d8,d9⟩:=t1.keep (HB.out.block _ t1.lt)
         have hmem:=List.mem_of_getElem? hx
         have HC:=Lib.hid (IH.out x hmem (HF.out.sub hmem) wr B (.agg (x.cells s1)) ⟨_,rfl,sub1.later HB.out⟩)
         have z5:=Z0.out
         clear t1 sub1 hmem hx
         unfold Tr.cells at HC
         go_wp2_with fail
         refine HC.out.mono ?_
         rintro e w2 ⟨rfl,hb2⟩
         have HB2:=Lib.hid (HB.out.trans (hb2.mono HB.out.size));have Y2:=Lib.hid ((hb2.cell (p:=⟨w.heap.size,5,none⟩) hsz).trans z5)
         have hsz2:w.heap.size < w2.heap.size:=Nat.lt_of_lt_of_le hsz hb2.size
         clear d0 d1 d2 d3 d4 d5 d6 d7 d8 d9 z5 hb2 HC
         go_wp2
         exact ⟨⟨m+1,by go_num,by omega,HB2,hsz2,Y2⟩,by simp [intOf];omega⟩
       · obtain rfl:m=us.length:=by omega
         go_wp2
         go_ret
         exact ⟨rfl,HB.out⟩
   · subst h
     have g1:decide ((us.length:Int) < 2)=false:=by simp;omega
     have g2:decide (us.length < 2)=false:=by simp;omega
     clear hl
     go_enter Tryd.func75,Tryd.ntmps75
     go_wp2_with fail
     refine (HU.out _).mono ?_
     rintro e w1 ⟨rfl,hb1⟩
     have Z1:=Lib.hid (keep_blk hb1 (heap_alloc_new w _))
     have HB1:=Lib.hid (((Below.refl _ _).alloc (Nat.le_refl _) _).trans (hb1.mono (by simp)))
     have hs1:w.heap.size < w1.heap.size:=by have:=hb1.size;simp at this;omega
     clear hb1
     have Z2:=fun o=>Lib.hid (heap_alloc_lt (o:=o) Z1.out)
     have f0:=fun o=>(ten (Z2 o).out).1
     have f1:=fun o=>(ten (Z2 o).out).2.1
     have f2:=fun o=>(ten (Z2 o).out).2.2.1
     have f3:=fun o=>(ten (Z2 o).out).2.2.2.1
     have f4:=fun o=>(ten (Z2 o).out).2.2.2.2.1
     have f5:=fun o=>(ten (Z2 o).out).2.2.2.2.2.1
     have f6:=fun o=>(ten (Z2 o).out).2.2.2.2.2.2.1
     have f7:=fun o=>(ten (Z2 o).out).2.2.2.2.2.2.2.1
     have f8:=fun o=>(ten (Z2 o).out).2.2.2.2.2.2.2.2.1
     have f9:=fun o=>(ten (Z2 o).out).2.2.2.2.2.2.2.2.2
     go_wp2
     go_loopw [5] (fun iv wr=>∃ m:Nat,iv=.int .i64 m∧m ≤ us.length∧Hid (Below w.heap.size w wr)∧w.heap.size < wr.heap.size∧Hid (wr.cell? ⟨w.heap.size,5,none⟩=some (.slice p us.length cap))) (fun iv _=>us.length - (intOf iv).toNat)
     case atStart=>exact ⟨0,rfl,Nat.zero_le _,Lib.hid (HB1.out.alloc HB1.out.size _),by simp;omega,Lib.hid (f5 _)⟩
     case round =>
       obtain ⟨m,rfl,hm,HB,hsz,Z0⟩:=hrel
       clear f0 f1 f2 f3 f4 f5 f6 f7 f8 f9
       have wm:IntKind.i64.wrap ((m:Int)+1)=(m:Int)+1:=IntWalk.i64_in _ (by omega)
       by_cases hlt:m < us.length
       · obtain ⟨x,hx⟩:∃ x,us[m]? = some x:=⟨_,List.getElem?_eq_getElem hlt⟩
         obtain ⟨b1,o1,s1,rfl,-,t1,sub1⟩:=HS.out.get hx
         obtain ⟨d0,d1,d2,d3,d4,d5,d6,d7,d8,d9⟩:=t1.keep (HB.out.block _ t1.lt)
         have hmem:=List.mem_of_getElem? hx
         have HC:=Lib.hid (IH.out x hmem (HF.out.sub hmem) wr B (.agg (x.cells s1)) ⟨_,rfl,sub1.later HB.out⟩)
         have z5:=Z0.out
         clear t1 sub1 hmem hx
         unfold Tr.cells at HC
         go_wp2_with fail
         refine HC.out.mono ?_
         rintro e w2 ⟨rfl,hb2⟩
         have HB2:=Lib.hid (HB.out.trans (hb2.mono HB.out.size));have Y2:=Lib.hid ((hb2.cell (p:=⟨w.heap.size,5,none⟩) hsz).trans z5)
         have hsz2:w.heap.size < w2.heap.size:=Nat.lt_of_lt_of_le hsz hb2.size
         clear d0 d1 d2 d3 d4 d5 d6 d7 d8 d9 z5 hb2 HC
         go_wp2
         exact ⟨⟨m+1,by go_num,by omega,HB2,hsz2,Y2⟩,by simp [intOf];omega⟩
       · obtain rfl:m=us.length:=by omega
         go_wp2
         go_ret
         exact ⟨rfl,HB.out⟩
   · subst h
     have g1:((us.length:Int) != 1)=false:=by rw [hl];rfl
     have g2:decide (n < 1)=false:=by simp;omega
     have g3:decide (999 < n)=false:=by simp;omega
     clear hl
     go_enter Tryd.func75,Tryd.ntmps75
     go_wp2_with fail
     refine (HU.out _).mono ?_
     rintro e w1 ⟨rfl,hb1⟩
     have Z1:=Lib.hid (keep_blk hb1 (heap_alloc_new w _))
     have HB1:=Lib.hid (((Below.refl _ _).alloc (Nat.le_refl _) _).trans (hb1.mono (by simp)))
     have hs1:w.heap.size < w1.heap.size:=by have:=hb1.size;simp at this;omega
     clear hb1
     have Z2:=fun o=>Lib.hid (heap_alloc_lt (o:=o) Z1.out)
     have f0:=fun o=>(ten (Z2 o).out).1
     have f1:=fun o=>(ten (Z2 o).out).2.1
     have f2:=fun o=>(ten (Z2 o).out).2.2.1
     have f3:=fun o=>(ten (Z2 o).out).2.2.2.1
     have f4:=fun o=>(ten (Z2 o).out).2.2.2.2.1
     have f5:=fun o=>(ten (Z2 o).out).2.2.2.2.2.1
     have f6:=fun o=>(ten (Z2 o).out).2.2.2.2.2.2.1
     have f7:=fun o=>(ten (Z2 o).out).2.2.2.2.2.2.2.1
     have f8:=fun o=>(ten (Z2 o).out).2.2.2.2.2.2.2.2.1
     have f9:=fun o=>(ten (Z2 o).out).2.2.2.2.2.2.2.2.2
     go_wp2
     go_loopw [5] (fun iv wr=>∃ m:Nat,iv=.int .i64 m∧m ≤ us.length∧Hid (Below w.heap.size w wr)∧w.heap.size < wr.heap.size∧Hid (wr.cell? ⟨w.heap.size,5,none⟩=some (.slice p us.length cap))) (fun iv _=>us.length - (intOf iv).toNat)
     case atStart=>exact ⟨0,rfl,Nat.zero_le _,Lib.hid (HB1.out.alloc HB1.out.size _),by simp;omega,Lib.hid (f5 _)⟩
     case round =>
       obtain ⟨m,rfl,hm,HB,hsz,Z0⟩:=hrel
       clear f0 f1 f2 f3 f4 f5 f6 f7 f8 f9
       have wm:IntKind.i64.wrap ((m:Int)+1)=(m:Int)+1:=IntWalk.i64_in _ (by omega)
       by_cases hlt:m < us.length
       · obtain ⟨x,hx⟩:∃ x,us[m]? = some x:=⟨_,List.getElem?_eq_getElem hlt⟩
         obtain ⟨b1,o1,s1,rfl,-,t1,sub1⟩:=HS.out.get hx
         obtain ⟨d0,d1,d2,d3,d4,d5,d6,d7,d8,d9⟩:=t1.keep (HB.out.block _ t1.lt)
         have hmem:=List.mem_of_getElem? hx
         have HC:=Lib.hid (IH.out x hmem (HF.out.sub hmem) wr B (.agg (x.cells s1)) ⟨_,rfl,sub1.later HB.out⟩)
         have z5:=Z0.out
         clear t1 sub1 hmem hx
         unfold Tr.cells at HC
         go_wp2_with fail
         refine HC.out.mono ?_
         rintro e w2 ⟨rfl,hb2⟩
         have HB2:=Lib.hid (HB.out.trans (hb2.mono HB.out.size));have Y2:=Lib.hid ((hb2.cell (p:=⟨w.heap.size,5,none⟩) hsz).trans z5)
         have hsz2:w.heap.size < w2.heap.size:=Nat.lt_of_lt_of_le hsz hb2.size
         clear d0 d1 d2 d3 d4 d5 d6 d7 d8 d9 z5 hb2 HC
         go_wp2
         exact ⟨⟨m+1,by go_num,by omega,HB2,hsz2,Y2⟩,by simp [intOf];omega⟩
       · obtain rfl:m=us.length:=by omega
         go_wp2
         go_ret
         exact ⟨rfl,HB.out⟩
   · have hspl:((-1:Int)=hi ∨ (decide ((0:Int) ≤ hi)=true∧decide (hi < lo)=false)):=by
       rcases h3 with h3 | h3
       · exact .inl h3.symm
       · exact .inr ⟨by simp;omega,by simp;omega⟩
     have hbr:br=false ∨ (br=true∧lo=0):=by cases br with | false=>exact .inl rfl | true=>exact .inr ⟨rfl,h4 rfl⟩
     have hhi:hi ≤ 255:=by rcases h3 with h3 | h3 <;> omega
     clear h3 h4
     rcases hspl with rfl | ⟨k1,k2⟩ <;> rcases hbr with rfl | ⟨rfl,rfl⟩
     · subst h
       have g1:((us.length:Int) != 1)=false:=by rw [hl];rfl
       have g2:decide (lo < 0)=false:=by simp;omega
       have g3:decide (255 < lo)=false:=by simp;omega
       clear hl
       go_enter Tryd.func75,Tryd.ntmps75
       go_wp2_with fail
       refine (HU.out _).mono ?_
       rintro e w1 ⟨rfl,hb1⟩
       have Z1:=Lib.hid (keep_blk hb1 (heap_alloc_new w _))
       have HB1:=Lib.hid (((Below.refl _ _).alloc (Nat.le_refl _) _).trans (hb1.mono (by simp)))
       have hs1:w.heap.size < w1.heap.size:=by have:=hb1.size;simp at this;omega
       clear hb1
       have Z2:=fun o=>Lib.hid (heap_alloc_lt (o:=o) Z1.out)
       have f0:=fun o=>(ten (Z2 o).out).1
       have f1:=fun o=>(ten (Z2 o).out).2.1
       have f2:=fun o=>(ten (Z2 o).out).2.2.1
       have f3:=fun o=>(ten (Z2 o).out).2.2.2.1
       have f4:=fun o=>(ten (Z2 o).out).2.2.2.2.1
       have f5:=fun o=>(ten (Z2 o).out).2.2.2.2.2.1
       have f6:=fun o=>(ten (Z2 o).out).2.2.2.2.2.2.1
       have f7:=fun o=>(ten (Z2 o).out).2.2.2.2.2.2.2.1
       have f8:=fun o=>(ten (Z2 o).out).2.2.2.2.2.2.2.2.1
       have f9:=fun o=>(ten (Z2 o).out).2.2.2.2.2.2.2.2.2
       go_wp2
       go_loopw [5] (fun iv wr=>∃ m:Nat,iv=.int .i64 m∧m ≤ us.length∧Hid (Below w.heap.size w wr)∧w.heap.size < wr.heap.size∧Hid (wr.cell? ⟨w.heap.size,5,none⟩=some (.slice p us.length cap))) (fun iv _=>us.length - (intOf iv).toNat)
       case atStart=>exact ⟨0,rfl,Nat.zero_le _,Lib.hid (HB1.out.alloc HB1.out.size _),by simp;omega,Lib.hid (f5 _)⟩
       case round =>
         obtain ⟨m,rfl,hm,HB,hsz,Z0⟩:=hrel
         clear f0 f1 f2 f3 f4 f5 f6 f7 f8 f9
         have wm:IntKind.i64.wrap ((m:Int)+1)=(m:Int)+1:=IntWalk.i64_in _ (by omega)
         by_cases hlt:m < us.length
         · obtain ⟨x,hx⟩:∃ x,us[m]? = some x:=⟨_,List.getElem?_eq_getElem hlt⟩
           obtain ⟨b1,o1,s1,rfl,-,t1,sub1⟩:=HS.out.get hx
           obtain ⟨d0,d1,d2,d3,d4,d5,d6,d7,d8,d9⟩:=t1.keep (HB.out.block _ t1.lt)
           have hmem:=List.mem_of_getElem? hx
           have HC:=Lib.hid (IH.out x hmem (HF.out.sub hmem) wr B (.agg (x.cells s1)) ⟨_,rfl,sub1.later HB.out⟩)
           have z5:=Z0.out
           clear t1 sub1 hmem hx
           unfold Tr.cells at HC
           go_wp2_with fail
           refine HC.out.mono ?_
           rintro e w2 ⟨rfl,hb2⟩
           have HB2:=Lib.hid (HB.out.trans (hb2.mono HB.out.size));have Y2:=Lib.hid ((hb2.cell (p:=⟨w.heap.size,5,none⟩) hsz).trans z5)
           have hsz2:w.heap.size < w2.heap.size:=Nat.lt_of_lt_of_le hsz hb2.size
           clear d0 d1 d2 d3 d4 d5 d6 d7 d8 d9 z5 hb2 HC
           go_wp2
           exact ⟨⟨m+1,by go_num,by omega,HB2,hsz2,Y2⟩,by simp [intOf];omega⟩
         · obtain rfl:m=us.length:=by omega
           go_wp2
           go_ret
           exact ⟨rfl,HB.out⟩
     · subst h
       have g1:((us.length:Int) != 1)=false:=by rw [hl];rfl
       clear hl
       go_enter Tryd.func75,Tryd.ntmps75
       go_wp2_with fail
       refine (HU.out _).mono ?_
       rintro e w1 ⟨rfl,hb1⟩
       have Z1:=Lib.hid (keep_blk hb1 (heap_alloc_new w _))
       have HB1:=Lib.hid (((Below.refl _ _).alloc (Nat.le_refl _) _).trans (hb1.mono (by simp)))
       have hs1:w.heap.size < w1.heap.size:=by have:=hb1.size;simp at this;omega
       clear hb1
       have Z2:=fun o=>Lib.hid (heap_alloc_lt (o:=o) Z1.out)
       have f0:=fun o=>(ten (Z2 o).out).1
       have f1:=fun o=>(ten (Z2 o).out).2.1
       have f2:=fun o=>(ten (Z2 o).out).2.2.1
       have f3:=fun o=>(ten (Z2 o).out).2.2.2.1
       have f4:=fun o=>(ten (Z2 o).out).2.2.2.2.1
       have f5:=fun o=>(ten (Z2 o).out).2.2.2.2.2.1
       have f6:=fun o=>(ten (Z2 o).out).2.2.2.2.2.2.1
       have f7:=fun o=>(ten (Z2 o).out).2.2.2.2.2.2.2.1
       have f8:=fun o=>(ten (Z2 o).out).2.2.2.2.2.2.2.2.1
       have f9:=fun o=>(ten (Z2 o).out).2.2.2.2.2.2.2.2.2
       go_wp2
       go_loopw [5] (fun iv wr=>∃ m:Nat,iv=.int .i64 m∧m ≤ us.length∧Hid (Below w.heap.size w wr)∧w.heap.size < wr.heap.size∧Hid (wr.cell? ⟨w.heap.size,5,none⟩=some (.slice p us.length cap))) (fun iv _=>us.length - (intOf iv).toNat)
       case atStart=>exact ⟨0,rfl,Nat.zero_le _,Lib.hid (HB1.out.alloc HB1.out.size _),by simp;omega,Lib.hid (f5 _)⟩
       case round =>
         obtain ⟨m,rfl,hm,HB,hsz,Z0⟩:=hrel
         clear f0 f1 f2 f3 f4 f5 f6 f7 f8 f9
         have wm:IntKind.i64.wrap ((m:Int)+1)=(m:Int)+1:=IntWalk.i64_in _ (by omega)
         by_cases hlt:m < us.length
         · obtain ⟨x,hx⟩:∃ x,us[m]? = some x:=⟨_,List.getElem?_eq_getElem hlt⟩
           obtain ⟨b1,o1,s1,rfl,-,t1,sub1⟩:=HS.out.get hx
           obtain ⟨d0,d1,d2,d3,d4,d5,d6,d7,d8,d9⟩:=t1.keep (HB.out.block _ t1.lt)
           have hmem:=List.mem_of_getElem? hx
           have HC:=Lib.hid (IH.out x hmem (HF.out.sub hmem) wr B (.agg (x.cells s1)) ⟨_,rfl,sub1.later HB.out⟩)
           have z5:=Z0.out
           clear t1 sub1 hmem hx
           unfold Tr.cells at HC
           go_wp2_with fail
           refine HC.out.mono ?_
           rintro e w2 ⟨rfl,hb2⟩
           have HB2:=Lib.hid (HB.out.trans (hb2.mono HB.out.size));have Y2:=Lib.hid ((hb2.cell (p:=⟨w.heap.size,5,none⟩) hsz).trans z5)
           have hsz2:w.heap.size < w2.heap.size:=Nat.lt_of_lt_of_le hsz hb2.size
           clear d0 d1 d2 d3 d4 d5 d6 d7 d8 d9 z5 hb2 HC
           go_wp2
           exact ⟨⟨m+1,by go_num,by omega,HB2,hsz2,Y2⟩,by simp [intOf];omega⟩
         · obtain rfl:m=us.length:=by omega
           go_wp2
           go_ret
           exact ⟨rfl,HB.out⟩
     · subst h
       have g1:((us.length:Int) != 1)=false:=by rw [hl];rfl
       have g2:decide (lo < 0)=false:=by simp;omega
       have g3:decide (255 < lo)=false:=by simp;omega
       have g4:decide (hi < -1)=false:=by simp only [decide_eq_true_eq] at k1;simp;omega
       have g5:decide (255 < hi)=false:=by simp;omega
       clear hl
       go_enter Tryd.func75,Tryd.ntmps75
       go_wp2_with fail
       refine (HU.out _).mono ?_
       rintro e w1 ⟨rfl,hb1⟩
       have Z1:=Lib.hid (keep_blk hb1 (heap_alloc_new w _))
       have HB1:=Lib.hid (((Below.refl _ _).alloc (Nat.le_refl _) _).trans (hb1.mono (by simp)))
       have hs1:w.heap.size < w1.heap.size:=by have:=hb1.size;simp at this;omega
       clear hb1
       have Z2:=fun o=>Lib.hid (heap_alloc_lt (o:=o) Z1.out)
       have f0:=fun o=>(ten (Z2 o).out).1
       have f1:=fun o=>(ten (Z2 o).out).2.1
       have f2:=fun o=>(ten (Z2 o).out).2.2.1
       have f3:=fun o=>(ten (Z2 o).out).2.2.2.1
       have f4:=fun o=>(ten (Z2 o).out).2.2.2.2.1
       have f5:=fun o=>(ten (Z2 o).out).2.2.2.2.2.1
       have f6:=fun o=>(ten (Z2 o).out).2.2.2.2.2.2.1
       have f7:=fun o=>(ten (Z2 o).out).2.2.2.2.2.2.2.1
       have f8:=fun o=>(ten (Z2 o).out).2.2.2.2.2.2.2.2.1
       have f9:=fun o=>(ten (Z2 o).out).2.2.2.2.2.2.2.2.2
       go_wp2
       go_loopw [5] (fun iv wr=>∃ m:Nat,iv=.int .i64 m∧m ≤ us.length∧Hid (Below w.heap.size w wr)∧w.heap.size < wr.heap.size∧Hid (wr.cell? ⟨w.heap.size,5,none⟩=some (.slice p us.length cap))) (fun iv _=>us.length - (intOf iv).toNat)
       case atStart=>exact ⟨0,rfl,Nat.zero_le _,Lib.hid (HB1.out.alloc HB1.out.size _),by simp;omega,Lib.hid (f5 _)⟩
       case round =>
         obtain ⟨m,rfl,hm,HB,hsz,Z0⟩:=hrel
         clear f0 f1 f2 f3 f4 f5 f6 f7 f8 f9
         have wm:IntKind.i64.wrap ((m:Int)+1)=(m:Int)+1:=IntWalk.i64_in _ (by omega)
         by_cases hlt:m < us.length
         · obtain ⟨x,hx⟩:∃ x,us[m]? = some x:=⟨_,List.getElem?_eq_getElem hlt⟩
           obtain ⟨b1,o1,s1,rfl,-,t1,sub1⟩:=HS.out.get hx
           obtain ⟨d0,d1,d2,d3,d4,d5,d6,d7,d8,d9⟩:=t1.keep (HB.out.block _ t1.lt)
           have hmem:=List.mem_of_getElem? hx
           have HC:=Lib.hid (IH.out x hmem (HF.out.sub hmem) wr B (.agg (x.cells s1)) ⟨_,rfl,sub1.later HB.out⟩)
           have z5:=Z0.out
           clear t1 sub1 hmem hx
           unfold Tr.cells at HC
           go_wp2_with fail
           refine HC.out.mono ?_
           rintro e w2 ⟨rfl,hb2⟩
           have HB2:=Lib.hid (HB.out.trans (hb2.mono HB.out.size));have Y2:=Lib.hid ((hb2.cell (p:=⟨w.heap.size,5,none⟩) hsz).trans z5)
           have hsz2:w.heap.size < w2.heap.size:=Nat.lt_of_lt_of_le hsz hb2.size
           clear d0 d1 d2 d3 d4 d5 d6 d7 d8 d9 z5 hb2 HC
           go_wp2
           exact ⟨⟨m+1,by go_num,by omega,HB2,hsz2,Y2⟩,by simp [intOf];omega⟩
         · obtain rfl:m=us.length:=by omega
           go_wp2
           go_ret
           exact ⟨rfl,HB.out⟩
     · subst h
       have g1:((us.length:Int) != 1)=false:=by rw [hl];rfl
       have g4:decide (hi < -1)=false:=by simp only [decide_eq_true_eq] at k1;simp;omega
       have g5:decide (255 < hi)=false:=by simp;omega
       clear hl
       go_enter Tryd.func75,Tryd.ntmps75
       go_wp2_with fail
       refine (HU.out _).mono ?_
       rintro e w1 ⟨rfl,hb1⟩
       have Z1:=Lib.hid (keep_blk hb1 (heap_alloc_new w _))
       have HB1:=Lib.hid (((Below.refl _ _).alloc (Nat.le_refl _) _).trans (hb1.mono (by simp)))
       have hs1:w.heap.size < w1.heap.size:=by have:=hb1.size;simp at this;omega
       clear hb1
       have Z2:=fun o=>Lib.hid (heap_alloc_lt (o:=o) Z1.out)
       have f0:=fun o=>(ten (Z2 o).out).1
       have f1:=fun o=>(ten (Z2 o).out).2.1
       have f2:=fun o=>(ten (Z2 o).out).2.2.1
       have f3:=fun o=>(ten (Z2 o).out).2.2.2.1
       have f4:=fun o=>(ten (Z2 o).out).2.2.2.2.1
       have f5:=fun o=>(ten (Z2 o).out).2.2.2.2.2.1
       have f6:=fun o=>(ten (Z2 o).out).2.2.2.2.2.2.1
       have f7:=fun o=>(ten (Z2 o).out).2.2.2.2.2.2.2.1
       have f8:=fun o=>(ten (Z2 o).out).2.2.2.2.2.2.2.2.1
       have f9:=fun o=>(ten (Z2 o).out).2.2.2.2.2.2.2.2.2
       go_wp2
       go_loopw [5] (fun iv wr=>∃ m:Nat,iv=.int .i64 m∧m ≤ us.length∧Hid (Below w.heap.size w wr)∧w.heap.size < wr.heap.size∧Hid (wr.cell? ⟨w.heap.size,5,none⟩=some (.slice p us.length cap))) (fun iv _=>us.length - (intOf iv).toNat)
       case atStart=>exact ⟨0,rfl,Nat.zero_le _,Lib.hid (HB1.out.alloc HB1.out.size _),by simp;omega,Lib.hid (f5 _)⟩
       case round =>
         obtain ⟨m,rfl,hm,HB,hsz,Z0⟩:=hrel
         clear f0 f1 f2 f3 f4 f5 f6 f7 f8 f9
         have wm:IntKind.i64.wrap ((m:Int)+1)=(m:Int)+1:=IntWalk.i64_in _ (by omega)
         by_cases hlt:m < us.length
         · obtain ⟨x,hx⟩:∃ x,us[m]? = some x:=⟨_,List.getElem?_eq_getElem hlt⟩
           obtain ⟨b1,o1,s1,rfl,-,t1,sub1⟩:=HS.out.get hx
           obtain ⟨d0,d1,d2,d3,d4,d5,d6,d7,d8,d9⟩:=t1.keep (HB.out.block _ t1.lt)
           have hmem:=List.mem_of_getElem? hx
           have HC:=Lib.hid (IH.out x hmem (HF.out.sub hmem) wr B (.agg (x.cells s1)) ⟨_,rfl,sub1.later HB.out⟩)
           have z5:=Z0.out
           clear t1 sub1 hmem hx
           unfold Tr.cells at HC
           go_wp2_with fail
           refine HC.out.mono ?_
           rintro e w2 ⟨rfl,hb2⟩
           have HB2:=Lib.hid (HB.out.trans (hb2.mono HB.out.size));have Y2:=Lib.hid ((hb2.cell (p:=⟨w.heap.size,5,none⟩) hsz).trans z5)
           have hsz2:w.heap.size < w2.heap.size:=Nat.lt_of_lt_of_le hsz hb2.size
           clear d0 d1 d2 d3 d4 d5 d6 d7 d8 d9 z5 hb2 HC
           go_wp2
           exact ⟨⟨m+1,by go_num,by omega,HB2,hsz2,Y2⟩,by simp [intOf];omega⟩
         · obtain rfl:m=us.length:=by omega
           go_wp2
           go_ret
           exact ⟨rfl,HB.out⟩
theorem refSize_any (t:Tr) (hf:t.InForm) (w:World) (B:Nat→Prop) (v:Value) (hv:NodeV w B v t):Calls Tryd.prog 45 #[v] w (SizeEnd t.szT w):=by
 obtain ⟨s,rfl,hs⟩:=hv
 have h1:=fun w' hb=>refform_yes t hf w' B (.agg (t.cells s)) ⟨s,rfl,TreesAt.later (w':=w') hs hb⟩
 have h2:=fun w' hb=>refsize_any t hf w' B (.agg (t.cells s)) ⟨s,rfl,TreesAt.later (w':=w') hs hb⟩
 have H1:=Lib.hid h1;have H2:=Lib.hid h2
 clear h1 h2 hs hf
 unfold Tr.cells at *
 go_enter Tryd.func45,Tryd.ntmps45
 go_wp2_with fail
 refine (H1.out _ ((Below.refl _ _).alloc (Nat.le_refl _) _)).mono ?_
 rintro e w1 ⟨rfl,hb1⟩
 have Z1:=Lib.hid (keep_blk hb1 (heap_alloc_new w _))
 have HB1:=Lib.hid (((Below.refl _ _).alloc (Nat.le_refl _) _).trans (hb1.mono (by simp)))
 clear hb1
 go_wp2_with (first
   | (refine wpList_load_row rfl 37 (.tmp 1) rfl w.heap.size rfl 37 _ (0,0) _ Z1.out Tryd.underlying37 rfl (by kernel_rfl) ?_)
   | fail)
 refine (H2.out _ HB1.out).mono ?_
 rintro e w2 ⟨rfl,hb2⟩
 have HB2:=Lib.hid (HB1.out.trans (hb2.mono HB1.out.size))
 clear hb2
 go_wp2
 go_ret
 exact ⟨rfl,HB2.out⟩
end Go.Proofs.YtnaoiglbjkjogaaDoor
namespace Go.Proofs.YtnaoiglbjkjogaaDoor
open Go.RowKit
namespace Tr
def usedT (t:Tr):Tr:=.node t.kind (if t.kind=2 then t.w0 else 0#64) (if t.kind=2 then t.w1 else 0#64) (if t.kind=2 then t.w2 else 0#64) (if t.kind=2 then t.w3 else 0#64) [] (if t.kind=7 then t.num else 0) (if t.kind=8 then t.least else 0) (if t.kind=8 then t.most else 0) (if t.kind=8 then t.bare else false)
end Tr
theorem refused_plain (k:Int) (a b c d:BitVec 64) (n lo hi:Int) (br:Bool) (p:Option Addr) (l cp:Nat) (w:World):Calls Tryd.prog 106 #[.agg #[.int .i64 k,.int .u64 (Oc.U a),.int .u64 (Oc.U b),.int .u64 (Oc.U c),.int .u64 (Oc.U d),.slice p l cp,.int .i64 n,.int .i64 lo,.int .i64 hi,.bool br]] w fun e w' =>
   e=.returned (.agg #[.int .i64 k,.int .u64 (Oc.U (if k=2 then a else 0#64)),.int .u64 (Oc.U (if k=2 then b else 0#64)),.int .u64 (Oc.U (if k=2 then c else 0#64)),.int .u64 (Oc.U (if k=2 then d else 0#64)),.slice none 0 0,.int .i64 (if k=7 then n else 0),.int .i64 (if k=8 then lo else 0),.int .i64 (if k=8 then hi else 0),.bool (if k=8 then br else false)])∧Below w.heap.size w w':=by
 have u0:Oc.U 0#64=0:=by decide
 by_cases h2:k=2
 · subst h2
   simp only [if_true,reduceIte,Int.reduceEq]
   clear u0
   go_enter Tryd.func106,Tryd.ntmps106
   go_wp2
   exact bodyPost_ret (results_cell_row rfl _ _ (w.heap.size+1) 37 _ (0,0) _ rfl (three_new _ _ _ _).2.1 Tryd.underlying37 rfl (by kernel_rfl)) rfl ⟨rfl,by go_grown⟩
 have e2:(k == 2)=false:=by simpa using h2
 simp only [if_neg h2,u0]
 clear u0 h2
 by_cases h7:k=7
 · subst h7
   simp only [if_true,reduceIte,Int.reduceEq]
   go_enter Tryd.func106,Tryd.ntmps106
   go_wp2
   exact bodyPost_ret (results_cell_row rfl _ _ (w.heap.size+1) 37 _ (0,0) _ rfl (three_new _ _ _ _).2.1 Tryd.underlying37 rfl (by kernel_rfl)) rfl ⟨rfl,by go_grown⟩
 have e7:(k == 7)=false:=by simpa using h7
 simp only [if_neg h7]
 clear h7
 by_cases h8:k=8
 · subst h8
   simp only [if_true]
   go_enter Tryd.func106,Tryd.ntmps106
   go_wp2
   exact bodyPost_ret (results_cell_row rfl _ _ (w.heap.size+1) 37 _ (0,0) _ rfl (three_new _ _ _ _).2.1 Tryd.underlying37 rfl (by kernel_rfl)) rfl ⟨rfl,by go_grown⟩
 have e8:(k == 8)=false:=by simpa using h8
 simp only [if_neg h8]
 clear h8
 go_enter Tryd.func106,Tryd.ntmps106
 go_wp2
 exact bodyPost_ret (results_cell_row rfl _ _ (w.heap.size+1) 37 _ (0,0) _ rfl (three_new _ _ _ _).2.1 Tryd.underlying37 rfl (by kernel_rfl)) rfl ⟨rfl,by go_grown⟩
theorem refused_any (t:Tr) (s:Value) (hs:∃ p l c,s=.slice p l c) (w:World):Calls Tryd.prog 106 #[.agg (t.cells s)] w fun e w'=>e=.returned (.agg (t.usedT.cells (.slice none 0 0)))∧Below w.heap.size w w':=by
 obtain ⟨p,l,c,rfl⟩:=hs
 exact refused_plain t.kind t.w0 t.w1 t.w2 t.w3 t.num t.least t.most t.bare p l c w
end Go.Proofs.YtnaoiglbjkjogaaDoor
namespace Go.Proofs.YtnaoiglbjkjogaaDoor
open Go.RowKit
namespace Tr
def misV (k:Int) (S:Bool) (n un lo ulo hi uhi:Int) (br ubr:Bool):Bool:=decide (k < 1) || decide (8 < k) || !S || (n != un) || (lo != ulo) || (hi != uhi) || (br != ubr)
def badV (k:Int) (len:Nat) (n lo hi:Int) (br:Bool):Bool :=
 if k=5 ∨ k=6 then decide (len < 2)
 else if k=7 then len != 1 || decide (n < 1) || decide (999 < n)
 else if k=8 then len != 1 || decide (lo < 0) || decide (255 < lo) || decide (hi < -1) || decide (255 < hi) || (decide (0 ≤ hi) && decide (hi < lo)) || (br && lo != 0)
 else len != 0
def sameW (a b c d a' b' c' d':BitVec 64):Bool:=Oc.U a == Oc.U a' && (Oc.U b == Oc.U b' && (Oc.U c == Oc.U c' && Oc.U d == Oc.U d'))
theorem sameW_iff {a b c d a' b' c' d':BitVec 64} : sameW a b c d a' b' c' d'=true ↔ a=a'∧b=b'∧c=c'∧d=d':=by
 unfold sameW
 rw [Bool.and_eq_true,Bool.and_eq_true,Bool.and_eq_true,beq_iff_eq,beq_iff_eq,beq_iff_eq,beq_iff_eq]
 exact ⟨fun h=>⟨Oc.U_inj h.1,Oc.U_inj h.2.1,Oc.U_inj h.2.2.1,Oc.U_inj h.2.2.2⟩,fun h=>by rw [h.1,h.2.1,h.2.2.1,h.2.2.2];exact ⟨rfl,rfl,rfl,rfl⟩⟩
def mism (t:Tr):Bool:=misV t.kind (sameW t.w0 t.w1 t.w2 t.w3 t.usedT.w0 t.usedT.w1 t.usedT.w2 t.usedT.w3) t.num t.usedT.num t.least t.usedT.least t.most t.usedT.most t.bare t.usedT.bare
def bad (t:Tr):Bool:=badV t.kind t.subs.length t.num t.least t.most t.bare
theorem mism_iff (t:Tr):t.mism=false ↔ (1 ≤ t.kind∧t.kind ≤ 8)∧(t.kind=2 ∨ (t.w0=0#64∧t.w1=0#64∧t.w2=0#64∧t.w3=0#64))∧(t.kind=7 ∨ t.num=0)∧(t.kind=8 ∨ (t.least=0∧t.most=0∧t.bare=false)):=by
 unfold mism misV usedT
 simp only [Bool.or_eq_false_iff,decide_eq_false_iff_not,Bool.not_eq_false',sameW_iff,bne_eq_false_iff_eq,Tr.w0,Tr.w1,Tr.w2,Tr.w3,Tr.num,Tr.least,Tr.most,Tr.bare]
 by_cases h2:t.kind=2
 · simp only [h2];simp [and_assoc]
 · by_cases h7:t.kind=7
   · simp only [h7];simp [and_assoc]
   · by_cases h8:t.kind=8
     · simp only [h8];simp [and_assoc]
     · simp only [h2,h7,h8];simp [and_assoc]
theorem fieldsB_ref (t:Tr):t.fieldsB=(!t.mism && !t.bad):=by
 rw [Bool.eq_iff_iff,fieldsB_iff,Bool.and_eq_true,Bool.not_eq_true',Bool.not_eq_true',mism_iff]
 unfold bad badV fieldsOk
 have hl:∀ m:Nat,(t.subs.length != m)=false ↔ t.subs.length=m:=fun m=>by simp
 constructor
 · rintro (⟨h | h | h,a,b,c,d,i,e,f,g,j⟩ | ⟨h,i,e,f,g,j⟩ | ⟨h | h,a,b,c,d,i,e,f,g,j⟩ | ⟨h,a,b,c,d,i,e1,e2,f,g,j⟩ | ⟨h,a,b,c,d,i,e,f1,f2,f3,f4⟩) <;> simp only [h] at * <;> simp_all <;> omega
 · rintro ⟨⟨⟨h1,h2⟩,h3,h4,h5⟩,h6⟩
   have hk:t.kind=1 ∨ t.kind=2 ∨ t.kind=3 ∨ t.kind=4 ∨ t.kind=5 ∨ t.kind=6 ∨ t.kind=7 ∨ t.kind=8:=by omega
   rcases hk with h | h | h | h | h | h | h | h <;> simp only [h] at * <;> simp_all <;> omega
end Tr
end Go.Proofs.YtnaoiglbjkjogaaDoor
namespace Go.Proofs.YtnaoiglbjkjogaaDoor
open Go.RowKit
theorem refform_step (k:Int) (a b c d:BitVec 64) (us:List Tr) (n lo hi:Int) (br:Bool) (p:Option Addr) (cap:Nat) (ua ub uc ud:BitVec 64) (un ulo uhi:Int) (ubr:Bool) (w:World) (B:Nat→Prop)
   (HU:Hid (∀ w,Calls Tryd.prog 106 #[.agg #[.int .i64 k,.int .u64 (Oc.U a),.int .u64 (Oc.U b),.int .u64 (Oc.U c),.int .u64 (Oc.U d),.slice p us.length cap,.int .i64 n,.int .i64 lo,.int .i64 hi,.bool br]] w fun e w'=>e=.returned (.agg #[.int .i64 k,.int .u64 (Oc.U ua),.int .u64 (Oc.U ub),.int .u64 (Oc.U uc),.int .u64 (Oc.U ud),.slice none 0 0,.int .i64 un,.int .i64 ulo,.int .i64 uhi,.bool ubr])∧Below w.heap.size w w'))
   (HS:Hid (TreesAt w B (.slice p us.length cap) us)) (hlen:us.length * 96 ≤ 140737488351232)
   (IH:Hid (∀ x,x ∈ us→∀ w B v,NodeV w B v x→Calls Tryd.prog 75 #[v] w fun e w'=>e=.returned (.bool x.formB)∧Below w.heap.size w w')) :
   Calls Tryd.prog 75 #[.agg #[.int .i64 k,.int .u64 (Oc.U a),.int .u64 (Oc.U b),.int .u64 (Oc.U c),.int .u64 (Oc.U d),.slice p us.length cap,.int .i64 n,.int .i64 lo,.int .i64 hi,.bool br]] w fun e w'=>e=.returned (.bool ((!Tr.misV k (Tr.sameW a b c d ua ub uc ud) n un lo ulo hi uhi br ubr && !Tr.badV k us.length n lo hi br) && Tr.formS us))∧Below w.heap.size w w':=by
 have he:=eq4
 obtain ⟨S,hS⟩:∃ S,Tr.sameW a b c d ua ub uc ud=S:=⟨_,rfl⟩
 obtain ⟨M,hM⟩:∃ M,Tr.misV k S n un lo ulo hi uhi br ubr=M:=⟨_,rfl⟩
 obtain ⟨Bd,hB⟩:∃ Bd,Tr.badV k us.length n lo hi br=Bd:=⟨_,rfl⟩
 obtain ⟨R,hR⟩:∃ R,((!M && !Bd) && Tr.formS us)=R:=⟨_,rfl⟩
 rw [hS,hM,hB,hR]
 have HR:=Lib.hid hR
 unfold Tr.sameW at hS
 unfold Tr.misV at hM
 unfold Tr.badV at hB
 have HM:=Lib.hid hM;have HBd:=Lib.hid hB;have HSm:=Lib.hid hS;have HLen:=Lib.hid hlen
 clear hM hB hR hS hlen
 go_enter Tryd.func75,Tryd.ntmps75
 go_wp2_with fail
 refine (HU.out _).mono ?_
 rintro e W0 ⟨rfl,hb1⟩
 have Z1:=Lib.hid (keep_blk hb1 (heap_alloc_new w _))
 have HB1:=Lib.hid (((Below.refl _ _).alloc (Nat.le_refl _) _).trans (hb1.mono (by simp)))
 have hs1:w.heap.size < W0.heap.size:=by have:=hb1.size;simp at this;omega
 clear hb1 HU
 go_upto_region 2 with (fail)
 have Z2:=Lib.hid (heap_alloc_lt (o:=.cells #[.int .i64 k,.int .u64 (Oc.U ua),.int .u64 (Oc.U ub),.int .u64 (Oc.U uc),.int .u64 (Oc.U ud),.slice none 0 0,.int .i64 un,.int .i64 ulo,.int .i64 uhi,.bool ubr] 37) Z1.out)
 have Y2:=Lib.hid (heap_alloc_new W0 (.cells #[.int .i64 k,.int .u64 (Oc.U ua),.int .u64 (Oc.U ub),.int .u64 (Oc.U uc),.int .u64 (Oc.U ud),.slice none 0 0,.int .i64 un,.int .i64 ulo,.int .i64 uhi,.bool ubr] 37))
 have HB2:=Lib.hid (HB1.out.alloc HB1.out.size (.cells #[.int .i64 k,.int .u64 (Oc.U ua),.int .u64 (Oc.U ub),.int .u64 (Oc.U uc),.int .u64 (Oc.U ud),.slice none 0 0,.int .i64 un,.int .i64 ulo,.int .i64 uhi,.bool ubr] 37))
 have hs2:w.heap.size < (W0.alloc (.cells #[.int .i64 k,.int .u64 (Oc.U ua),.int .u64 (Oc.U ub),.int .u64 (Oc.U uc),.int .u64 (Oc.U ud),.slice none 0 0,.int .i64 un,.int .i64 ulo,.int .i64 uhi,.bool ubr] 37)).heap.size:=by simp;omega
 clear Z1 HB1
 generalize W0.alloc (.cells #[.int .i64 k,.int .u64 (Oc.U ua),.int .u64 (Oc.U ub),.int .u64 (Oc.U uc),.int .u64 (Oc.U ud),.slice none 0 0,.int .i64 un,.int .i64 ulo,.int .i64 uhi,.bool ubr] 37)=W2 at *
 go_cut [51] (fun u wx=>u=.bool M∧W2=wx)
 case first =>
   have hM:=HM.out;have hS:=HSm.out
   obtain ⟨d0,d1,d2,d3,d4,d5,d6,d7,d8,d9⟩:=allTen Z2.out
   obtain ⟨u0,u1,u2,u3,u4,u5,u6,u7,u8,u9⟩:=allTen Y2.out
   clear HM HBd HSm HR HS IH HB2 hs2
   rcases bool_or (decide (k < 1)) with q0 | q0
   · rw [q0] at hM
     subst hM
     go_wp2
     go_meet
     exact ⟨rfl,rfl⟩
   rcases bool_or (decide (8 < k)) with q1 | q1
   · rw [q0,q1] at hM
     subst hM
     go_wp2
     go_meet
     exact ⟨rfl,rfl⟩
   cases S with
   | false =>
     rw [q0,q1] at hM
     subst hM
     go_wp2
     go_meet
     exact ⟨rfl,rfl⟩
   | true =>
     rcases bool_or (n != un) with q3 | q3
     · rw [q0,q1,q3] at hM
       subst hM
       go_wp2
       go_meet
       exact ⟨rfl,rfl⟩
     rcases bool_or (lo != ulo) with q4 | q4
     · rw [q0,q1,q3,q4] at hM
       subst hM
       go_wp2
       go_meet
       exact ⟨rfl,rfl⟩
     rcases bool_or (hi != uhi) with q5 | q5
     · rw [q0,q1,q3,q4,q5] at hM
       subst hM
       go_wp2
       go_meet
       exact ⟨rfl,rfl⟩
     cases br <;> cases ubr <;> (
       rw [q0,q1,q3,q4,q5] at hM
       subst hM
       go_wp2
       go_meet
       exact ⟨rfl,rfl⟩)
 case rest =>
   obtain ⟨rfl,rfl⟩:=hcut
   clear HM HSm Y2
   cases M with
   | true =>
     have hr:=HR.out
     rw [Bool.not_true,Bool.false_and,Bool.false_and] at hr
     subst hr
     clear HR HBd HS IH
     go_wp2
     go_ret
     exact ⟨rfl,HB2.out⟩
   | false =>
     have hr:=HR.out
     rw [Bool.not_false,Bool.true_and] at hr
     have HR:=Lib.hid hr
     clear hr
     have hB:=HBd.out
     clear HBd
     have z5:=(allTen Z2.out).2.2.2.2.2.1
     obtain ⟨d0,d1,d2,d3,d4,d5,d6,d7,d8,d9⟩:=allTen Z2.out
     by_cases kk5:k=5
     · subst kk5
       rw [if_pos (by decide)] at hB
       have hl2:decide ((us.length:Int) < 2)=decide (us.length < 2):=by
         by_cases h:us.length < 2
         · rw [decide_eq_true h,decide_eq_true (by omega)]
         · rw [decide_eq_false h,decide_eq_false (by omega)]
       cases Bd with
       | true =>
         have hr:=HR.out
         rw [Bool.not_true,Bool.false_and] at hr
         subst hr
         rw [hB] at hl2
         go_wp2
         go_ret
         exact ⟨rfl,HB2.out⟩
       | false =>
         have hr:=HR.out
         rw [Bool.not_false,Bool.true_and] at hr
         have HR:=Lib.hid hr
         clear hr
         rw [hB] at hl2
         go_wp2
         clear d0 d1 d2 d3 d4 d5 d6 d7 d8 d9
         go_loopw [5] (fun iv wr=>∃ m:Nat,iv=.int .i64 m∧m ≤ us.length∧Hid (Tr.formS (us.take m)=true)∧Hid (Below w.heap.size w wr)∧w.heap.size < wr.heap.size∧Hid (wr.cell? ⟨w.heap.size,5,none⟩=some (.slice p us.length cap))) (fun iv _=>us.length - (intOf iv).toNat)
         case atStart=>exact ⟨0,rfl,Nat.zero_le _,Lib.hid rfl,HB2,hs2,Lib.hid z5⟩
         case round =>
           obtain ⟨m,rfl,hm,HT,HB,hsz,Z0⟩:=hrel
           clear z5
           have wm:IntKind.i64.wrap ((m:Int)+1)=(m:Int)+1:=IntWalk.i64_in _ (by have:=HLen.out;omega)
           by_cases hlt:m < us.length
           · obtain ⟨x,hx⟩:∃ x,us[m]? = some x:=⟨_,List.getElem?_eq_getElem hlt⟩
             obtain ⟨b1,o1,s1,rfl,-,t1,sub1⟩:=HS.out.get hx
             obtain ⟨d0,d1,d2,d3,d4,d5,d6,d7,d8,d9⟩:=t1.keep (HB.out.block _ t1.lt)
             have hmem:=List.mem_of_getElem? hx
             have HC:=Lib.hid (IH.out x hmem wr B (.agg (x.cells s1)) ⟨_,rfl,sub1.later HB.out⟩)
             have hst:=Tr.formS_take us m x hx
             rw [HT.out,Bool.true_and] at hst
             have HST:=Lib.hid hst
             have z5:=Z0.out
             clear t1 sub1 hmem hx hst
             unfold Tr.cells at HC
             go_wp2_with fail
             refine HC.out.mono ?_
             rintro e w2 ⟨rfl,hb2⟩
             have HB2:=Lib.hid (HB.out.trans (hb2.mono HB.out.size));have Y2:=Lib.hid ((hb2.cell (p:=⟨w.heap.size,5,none⟩) hsz).trans z5)
             have hsz2:w.heap.size < w2.heap.size:=Nat.lt_of_lt_of_le hsz hb2.size
             clear d0 d1 d2 d3 d4 d5 d6 d7 d8 d9 z5 hb2 HC
             cases hxf:x.formB with
             | false =>
               rw [hxf] at HST
               have hr:=HR.out
               rw [Tr.formS_no HST.out] at hr
               subst hr
               clear hxf
               go_wp2
               go_ret
               exact ⟨rfl,HB2.out⟩
             | true =>
               rw [hxf] at HST
               clear hxf
               go_wp2
               exact ⟨⟨m+1,by go_num,by omega,HST,HB2,hsz2,Y2⟩,by simp [intOf];omega⟩
           · obtain rfl:m=us.length:=by omega
             rw [List.take_length] at *
             have hr:=HR.out
             rw [HT.out] at hr
             subst hr
             go_wp2
             go_ret
             exact ⟨rfl,HB.out⟩
     have n5:(k == 5)=false:=by simpa using kk5
     by_cases kk6:k=6
     · subst kk6
       rw [if_pos (by decide)] at hB
       have hl2:decide ((us.length:Int) < 2)=decide (us.length < 2):=by
         by_cases h:us.length < 2
         · rw [decide_eq_true h,decide_eq_true (by omega)]
         · rw [decide_eq_false h,decide_eq_false (by omega)]
       cases Bd with
       | true =>
         have hr:=HR.out
         rw [Bool.not_true,Bool.false_and] at hr
         subst hr
         rw [hB] at hl2
         go_wp2
         go_ret
         exact ⟨rfl,HB2.out⟩
       | false =>
         have hr:=HR.out
         rw [Bool.not_false,Bool.true_and] at hr
         have HR:=Lib.hid hr
         clear hr
         rw [hB] at hl2
         go_wp2
         clear d0 d1 d2 d3 d4 d5 d6 d7 d8 d9
         go_loopw [5] (fun iv wr=>∃ m:Nat,iv=.int .i64 m∧m ≤ us.length∧Hid (Tr.formS (us.take m)=true)∧Hid (Below w.heap.size w wr)∧w.heap.size < wr.heap.size∧Hid (wr.cell? ⟨w.heap.size,5,none⟩=some (.slice p us.length cap))) (fun iv _=>us.length - (intOf iv).toNat)
         case atStart=>exact ⟨0,rfl,Nat.zero_le _,Lib.hid rfl,HB2,hs2,Lib.hid z5⟩
         case round =>
           obtain ⟨m,rfl,hm,HT,HB,hsz,Z0⟩:=hrel
           clear z5
           have wm:IntKind.i64.wrap ((m:Int)+1)=(m:Int)+1:=IntWalk.i64_in _ (by have:=HLen.out;omega)
           by_cases hlt:m < us.length
           · obtain ⟨x,hx⟩:∃ x,us[m]? = some x:=⟨_,List.getElem?_eq_getElem hlt⟩
             obtain ⟨b1,o1,s1,rfl,-,t1,sub1⟩:=HS.out.get hx
             obtain ⟨d0,d1,d2,d3,d4,d5,d6,d7,d8,d9⟩:=t1.keep (HB.out.block _ t1.lt)
             have hmem:=List.mem_of_getElem? hx
             have HC:=Lib.hid (IH.out x hmem wr B (.agg (x.cells s1)) ⟨_,rfl,sub1.later HB.out⟩)
             have hst:=Tr.formS_take us m x hx
             rw [HT.out,Bool.true_and] at hst
             have HST:=Lib.hid hst
             have z5:=Z0.out
             clear t1 sub1 hmem hx hst
             unfold Tr.cells at HC
             go_wp2_with fail
             refine HC.out.mono ?_
             rintro e w2 ⟨rfl,hb2⟩
             have HB2:=Lib.hid (HB.out.trans (hb2.mono HB.out.size));have Y2:=Lib.hid ((hb2.cell (p:=⟨w.heap.size,5,none⟩) hsz).trans z5)
             have hsz2:w.heap.size < w2.heap.size:=Nat.lt_of_lt_of_le hsz hb2.size
             clear d0 d1 d2 d3 d4 d5 d6 d7 d8 d9 z5 hb2 HC
             cases hxf:x.formB with
             | false =>
               rw [hxf] at HST
               have hr:=HR.out
               rw [Tr.formS_no HST.out] at hr
               subst hr
               clear hxf
               go_wp2
               go_ret
               exact ⟨rfl,HB2.out⟩
             | true =>
               rw [hxf] at HST
               clear hxf
               go_wp2
               exact ⟨⟨m+1,by go_num,by omega,HST,HB2,hsz2,Y2⟩,by simp [intOf];omega⟩
           · obtain rfl:m=us.length:=by omega
             rw [List.take_length] at *
             have hr:=HR.out
             rw [HT.out] at hr
             subst hr
             go_wp2
             go_ret
             exact ⟨rfl,HB.out⟩
     have n6:(k == 6)=false:=by simpa using kk6
     by_cases kk7:k=7
     · subst kk7
       rw [if_neg (by decide),if_pos rfl] at hB
       have hl1:((us.length:Int) != 1)=(us.length != 1):=by
         by_cases h:us.length=1
         · rw [h];rfl
         · have e1:(us.length != 1)=true:=by simpa using h
           have e2:((us.length:Int) != 1)=true:=by rw [bne_iff_ne];omega
           rw [e1,e2]
       rcases bool_or (us.length != 1) with q0 | q0
       · rw [q0] at hB hl1
         simp only [Bool.true_or] at hB
         subst hB
         have hr:=HR.out
         rw [Bool.not_true,Bool.false_and] at hr
         subst hr
         go_wp2
         go_ret
         exact ⟨rfl,HB2.out⟩
       rw [q0] at hl1
       rcases bool_or (decide (n < 1)) with q1 | q1
       · rw [q0,q1] at hB
         simp only [Bool.true_or,Bool.or_true] at hB
         subst hB
         have hr:=HR.out
         rw [Bool.not_true,Bool.false_and] at hr
         subst hr
         go_wp2
         go_ret
         exact ⟨rfl,HB2.out⟩
       rcases bool_or (decide (999 < n)) with q2 | q2
       · rw [q0,q1,q2] at hB
         simp only [Bool.or_false,Bool.or_true] at hB
         subst hB
         have hr:=HR.out
         rw [Bool.not_true,Bool.false_and] at hr
         subst hr
         go_wp2
         go_ret
         exact ⟨rfl,HB2.out⟩
       rw [q0,q1,q2] at hB
       simp only [Bool.or_false] at hB
       subst hB
       have hr:=HR.out
       rw [Bool.not_false,Bool.true_and] at hr
       have HR:=Lib.hid hr
       clear hr
       go_wp2
       clear d0 d1 d2 d3 d4 d5 d6 d7 d8 d9
       go_loopw [5] (fun iv wr=>∃ m:Nat,iv=.int .i64 m∧m ≤ us.length∧Hid (Tr.formS (us.take m)=true)∧Hid (Below w.heap.size w wr)∧w.heap.size < wr.heap.size∧Hid (wr.cell? ⟨w.heap.size,5,none⟩=some (.slice p us.length cap))) (fun iv _=>us.length - (intOf iv).toNat)
       case atStart=>exact ⟨0,rfl,Nat.zero_le _,Lib.hid rfl,HB2,hs2,Lib.hid z5⟩
       case round =>
         obtain ⟨m,rfl,hm,HT,HB,hsz,Z0⟩:=hrel
         clear z5
         have wm:IntKind.i64.wrap ((m:Int)+1)=(m:Int)+1:=IntWalk.i64_in _ (by have:=HLen.out;omega)
         by_cases hlt:m < us.length
         · obtain ⟨x,hx⟩:∃ x,us[m]? = some x:=⟨_,List.getElem?_eq_getElem hlt⟩
           obtain ⟨b1,o1,s1,rfl,-,t1,sub1⟩:=HS.out.get hx
           obtain ⟨d0,d1,d2,d3,d4,d5,d6,d7,d8,d9⟩:=t1.keep (HB.out.block _ t1.lt)
           have hmem:=List.mem_of_getElem? hx
           have HC:=Lib.hid (IH.out x hmem wr B (.agg (x.cells s1)) ⟨_,rfl,sub1.later HB.out⟩)
           have hst:=Tr.formS_take us m x hx
           rw [HT.out,Bool.true_and] at hst
           have HST:=Lib.hid hst
           have z5:=Z0.out
           clear t1 sub1 hmem hx hst
           unfold Tr.cells at HC
           go_wp2_with fail
           refine HC.out.mono ?_
           rintro e w2 ⟨rfl,hb2⟩
           have HB2:=Lib.hid (HB.out.trans (hb2.mono HB.out.size));have Y2:=Lib.hid ((hb2.cell (p:=⟨w.heap.size,5,none⟩) hsz).trans z5)
           have hsz2:w.heap.size < w2.heap.size:=Nat.lt_of_lt_of_le hsz hb2.size
           clear d0 d1 d2 d3 d4 d5 d6 d7 d8 d9 z5 hb2 HC
           cases hxf:x.formB with
           | false =>
             rw [hxf] at HST
             have hr:=HR.out
             rw [Tr.formS_no HST.out] at hr
             subst hr
             clear hxf
             go_wp2
             go_ret
             exact ⟨rfl,HB2.out⟩
           | true =>
             rw [hxf] at HST
             clear hxf
             go_wp2
             exact ⟨⟨m+1,by go_num,by omega,HST,HB2,hsz2,Y2⟩,by simp [intOf];omega⟩
         · obtain rfl:m=us.length:=by omega
           rw [List.take_length] at *
           have hr:=HR.out
           rw [HT.out] at hr
           subst hr
           go_wp2
           go_ret
           exact ⟨rfl,HB.out⟩
     have n7:(k == 7)=false:=by simpa using kk7
     by_cases kk8:k=8
     · subst kk8
       rw [if_neg (by decide),if_neg (by decide),if_pos rfl] at hB
       have hl1:((us.length:Int) != 1)=(us.length != 1):=by
         by_cases h:us.length=1
         · rw [h];rfl
         · have e1:(us.length != 1)=true:=by simpa using h
           have e2:((us.length:Int) != 1)=true:=by rw [bne_iff_ne];omega
           rw [e1,e2]
       have HB:=Lib.hid hB
       clear hB
       go_upto_region 16 with (fail)
       go_cut [122] (fun u wx=>u=.bool Bd∧W2=wx)
       case first =>
         have hB:=HB.out
         clear HB HR HS IH HB2 hs2
         rcases bool_or (us.length != 1) with q0 | q0
         · rw [q0] at hB hl1
           subst hB
           go_wp2
           go_meet
           exact ⟨rfl,rfl⟩
         rw [q0] at hl1
         rcases bool_or (decide (lo < 0)) with q1 | q1
         · rw [q0,q1] at hB
           subst hB
           go_wp2
           go_meet
           exact ⟨rfl,rfl⟩
         rcases bool_or (decide (255 < lo)) with q2 | q2
         · rw [q0,q1,q2] at hB
           subst hB
           go_wp2
           go_meet
           exact ⟨rfl,rfl⟩
         rcases bool_or (decide (hi < -1)) with q3 | q3
         · rw [q0,q1,q2,q3] at hB
           subst hB
           go_wp2
           go_meet
           exact ⟨rfl,rfl⟩
         rcases bool_or (decide (255 < hi)) with q4 | q4
         · rw [q0,q1,q2,q3,q4] at hB
           subst hB
           go_wp2
           go_meet
           exact ⟨rfl,rfl⟩
         rcases bool_or (decide (0 ≤ hi)) with q5 | q5 <;> rcases bool_or (decide (hi < lo)) with q6 | q6 <;> rcases bool_or (lo != 0) with q7 | q7 <;> cases br <;> (
           rw [q0,q1,q2,q3,q4,q5,q6,q7] at hB
           subst hB
           go_wp2
           go_meet
           exact ⟨rfl,rfl⟩)
       case rest =>
         obtain ⟨rfl,rfl⟩:=hcut
         clear HB hl1
         cases Bd with
         | true =>
           have hr:=HR.out
           rw [Bool.not_true,Bool.false_and] at hr
           subst hr
           go_wp2
           go_ret
           exact ⟨rfl,HB2.out⟩
         | false =>
           have hr:=HR.out
           rw [Bool.not_false,Bool.true_and] at hr
           have HR:=Lib.hid hr
           clear hr
           go_wp2
           clear d0 d1 d2 d3 d4 d5 d6 d7 d8 d9
           go_loopw [5] (fun iv wr=>∃ m:Nat,iv=.int .i64 m∧m ≤ us.length∧Hid (Tr.formS (us.take m)=true)∧Hid (Below w.heap.size w wr)∧w.heap.size < wr.heap.size∧Hid (wr.cell? ⟨w.heap.size,5,none⟩=some (.slice p us.length cap))) (fun iv _=>us.length - (intOf iv).toNat)
           case atStart=>exact ⟨0,rfl,Nat.zero_le _,Lib.hid rfl,HB2,hs2,Lib.hid z5⟩
           case round =>
             obtain ⟨m,rfl,hm,HT,HB,hsz,Z0⟩:=hrel
             clear z5
             have wm:IntKind.i64.wrap ((m:Int)+1)=(m:Int)+1:=IntWalk.i64_in _ (by have:=HLen.out;omega)
             by_cases hlt:m < us.length
             · obtain ⟨x,hx⟩:∃ x,us[m]? = some x:=⟨_,List.getElem?_eq_getElem hlt⟩
               obtain ⟨b1,o1,s1,rfl,-,t1,sub1⟩:=HS.out.get hx
               obtain ⟨d0,d1,d2,d3,d4,d5,d6,d7,d8,d9⟩:=t1.keep (HB.out.block _ t1.lt)
               have hmem:=List.mem_of_getElem? hx
               have HC:=Lib.hid (IH.out x hmem wr B (.agg (x.cells s1)) ⟨_,rfl,sub1.later HB.out⟩)
               have hst:=Tr.formS_take us m x hx
               rw [HT.out,Bool.true_and] at hst
               have HST:=Lib.hid hst
               have z5:=Z0.out
               clear t1 sub1 hmem hx hst
               unfold Tr.cells at HC
               go_wp2_with fail
               refine HC.out.mono ?_
               rintro e w2 ⟨rfl,hb2⟩
               have HB2:=Lib.hid (HB.out.trans (hb2.mono HB.out.size));have Y2:=Lib.hid ((hb2.cell (p:=⟨w.heap.size,5,none⟩) hsz).trans z5)
               have hsz2:w.heap.size < w2.heap.size:=Nat.lt_of_lt_of_le hsz hb2.size
               clear d0 d1 d2 d3 d4 d5 d6 d7 d8 d9 z5 hb2 HC
               cases hxf:x.formB with
               | false =>
                 rw [hxf] at HST
                 have hr:=HR.out
                 rw [Tr.formS_no HST.out] at hr
                 subst hr
                 clear hxf
                 go_wp2
                 go_ret
                 exact ⟨rfl,HB2.out⟩
               | true =>
                 rw [hxf] at HST
                 clear hxf
                 go_wp2
                 exact ⟨⟨m+1,by go_num,by omega,HST,HB2,hsz2,Y2⟩,by simp [intOf];omega⟩
             · obtain rfl:m=us.length:=by omega
               rw [List.take_length] at *
               have hr:=HR.out
               rw [HT.out] at hr
               subst hr
               go_wp2
               go_ret
               exact ⟨rfl,HB.out⟩
     have n8:(k == 8)=false:=by simpa using kk8
     rw [if_neg (by omega),if_neg kk7,if_neg kk8] at hB
     have hl0:((us.length:Int) != 0)=(us.length != 0):=by
       by_cases h:us.length=0
       · rw [h];rfl
       · have e1:(us.length != 0)=true:=by simpa using h
         have e2:((us.length:Int) != 0)=true:=by rw [bne_iff_ne];omega
         rw [e1,e2]
     cases Bd with
     | true =>
       have hr:=HR.out
       rw [Bool.not_true,Bool.false_and] at hr
       subst hr
       rw [hB] at hl0
       clear kk5 kk6 kk7 kk8
       go_wp2
       go_ret
       exact ⟨rfl,HB2.out⟩
     | false =>
       have hr:=HR.out
       rw [Bool.not_false,Bool.true_and] at hr
       have HR:=Lib.hid hr
       clear hr
       rw [hB] at hl0
       clear kk5 kk6 kk7 kk8
       go_wp2
       clear d0 d1 d2 d3 d4 d5 d6 d7 d8 d9
       go_loopw [5] (fun iv wr=>∃ m:Nat,iv=.int .i64 m∧m ≤ us.length∧Hid (Tr.formS (us.take m)=true)∧Hid (Below w.heap.size w wr)∧w.heap.size < wr.heap.size∧Hid (wr.cell? ⟨w.heap.size,5,none⟩=some (.slice p us.length cap))) (fun iv _=>us.length - (intOf iv).toNat)
       case atStart=>exact ⟨0,rfl,Nat.zero_le _,Lib.hid rfl,HB2,hs2,Lib.hid z5⟩
       case round =>
         obtain ⟨m,rfl,hm,HT,HB,hsz,Z0⟩:=hrel
         clear z5
         have wm:IntKind.i64.wrap ((m:Int)+1)=(m:Int)+1:=IntWalk.i64_in _ (by have:=HLen.out;omega)
         by_cases hlt:m < us.length
         · obtain ⟨x,hx⟩:∃ x,us[m]? = some x:=⟨_,List.getElem?_eq_getElem hlt⟩
           obtain ⟨b1,o1,s1,rfl,-,t1,sub1⟩:=HS.out.get hx
           obtain ⟨d0,d1,d2,d3,d4,d5,d6,d7,d8,d9⟩:=t1.keep (HB.out.block _ t1.lt)
           have hmem:=List.mem_of_getElem? hx
           have HC:=Lib.hid (IH.out x hmem wr B (.agg (x.cells s1)) ⟨_,rfl,sub1.later HB.out⟩)
           have hst:=Tr.formS_take us m x hx
           rw [HT.out,Bool.true_and] at hst
           have HST:=Lib.hid hst
           have z5:=Z0.out
           clear t1 sub1 hmem hx hst
           unfold Tr.cells at HC
           go_wp2_with fail
           refine HC.out.mono ?_
           rintro e w2 ⟨rfl,hb2⟩
           have HB2:=Lib.hid (HB.out.trans (hb2.mono HB.out.size));have Y2:=Lib.hid ((hb2.cell (p:=⟨w.heap.size,5,none⟩) hsz).trans z5)
           have hsz2:w.heap.size < w2.heap.size:=Nat.lt_of_lt_of_le hsz hb2.size
           clear d0 d1 d2 d3 d4 d5 d6 d7 d8 d9 z5 hb2 HC
           cases hxf:x.formB with
           | false =>
             rw [hxf] at HST
             have hr:=HR.out
             rw [Tr.formS_no HST.out] at hr
             subst hr
             clear hxf
             go_wp2
             go_ret
             exact ⟨rfl,HB2.out⟩
           | true =>
             rw [hxf] at HST
             clear hxf
             go_wp2
             exact ⟨⟨m+1,by go_num,by omega,HST,HB2,hsz2,Y2⟩,by simp [intOf];omega⟩
         · obtain rfl:m=us.length:=by omega
           rw [List.take_length] at *
           have hr:=HR.out
           rw [HT.out] at hr
           subst hr
           go_wp2
           go_ret
           exact ⟨rfl,HB.out⟩
theorem refform_any:∀ t:Tr,∀ (w:World) (B:Nat→Prop) (v:Value),NodeV w B v t→Calls Tryd.prog 75 #[v] w fun e w'=>e=.returned (.bool t.formB)∧Below w.heap.size w w':=by
 intro t
 induction t using Tr.rec_subs with
 | h t ih =>
   intro w B v hv
   obtain ⟨s,rfl,hs⟩:=hv
   obtain ⟨p,cap,rfl,hlen⟩:=hs.slice
   have h:=refform_step t.kind t.w0 t.w1 t.w2 t.w3 t.subs t.num t.least t.most t.bare p cap t.usedT.w0 t.usedT.w1 t.usedT.w2 t.usedT.w3 t.usedT.num t.usedT.least t.usedT.most t.usedT.bare w B (Lib.hid (fun w=>refused_any t _ ⟨p,t.subs.length,cap,rfl⟩ w)) (Lib.hid hs) hlen (Lib.hid (fun x hx w B v hv=>ih x hx w B v hv))
   rw [Tr.formB_eq,Tr.fieldsB_ref]
   exact h
end Go.Proofs.YtnaoiglbjkjogaaDoor
namespace Go.Proofs.YtnaoiglbjkjogaaDoor
open Go.RowKit
theorem only_any (v:Nat) (hv:v < 256) (w:World):Calls Tryd.prog 74 #[.int .u8 (v:Int)] w fun e w'=>e=.returned (.agg #[.int .u64 (Oc.U (Oc.mk (fun x=>x == v) 0)),.int .u64 (Oc.U (Oc.mk (fun x=>x == v) 1)),.int .u64 (Oc.U (Oc.mk (fun x=>x == v) 2)),.int .u64 (Oc.U (Oc.mk (fun x=>x == v) 3))])∧Below w.heap.size w w':=by
 have ht:∀ j,(fun x=>x == v) j=((fun _=>false) j || j == v):=fun j=>by simp
 have e:∀ k,Oc.mk (fun x=>x == v) k=if v / 64=k then 1#64 <<< (v % 64) else 0#64:=by
   intro k
   by_cases h:v / 64=k
   · rw [if_pos h,Oc.mk_turn ht h,Oc.mk_none,BitVec.zero_or]
   · rw [if_neg h,Oc.mk_same ht h,Oc.mk_none]
 rw [e 0,e 1,e 2,e 3]
 clear e ht
 have hq:v / 64=0 ∨ v / 64=1 ∨ v / 64=2 ∨ v / 64=3:=by omega
 rcases hq with hq | hq | hq | hq
 all_goals
   rw [hq]
   simp (config:={ decide:=true }) only [if_true,if_false]
   have z:=u0
   go_enter Tryd.func74,Tryd.ntmps74
   go_wp2
   go_returns
   refine ⟨?_,by go_grown⟩
   rw [Oc.shlBit,z]
theorem treetext_any (s:ByteArray) (hs:s.size ≤ 1000000) (w:World):Calls Tryd.prog 44 #[.string s] w (OwnEnd (.several 5 (s.data.toList.map fun c=>Tr.bytes (fun x=>x == c.toNat))) w):=by
 obtain ⟨ts,hts⟩:∃ ts,(s.data.toList.map fun c=>Tr.bytes (fun x=>x == c.toNat))=ts:=⟨_,rfl⟩
 have hl:ts.length=s.size:=by rw [← hts];simp
 obtain ⟨CS,hCS,hmk⟩:=make_nodes ts.length (by omega)
 have HTS:=Lib.hid hts;have HCS:=Lib.hid hCS
 rw [hts]
 rw [hl] at hmk
 clear hts hCS
 have HO:=Lib.hid only_any;have HBY:=Lib.hid bytes_any;have HSQ:=Lib.hid seq_any
 go_enter Tryd.func44,Tryd.ntmps44
 go_wp2
 go_loopw [10] (fun iv wr=>∃ m:Nat,iv=.int .i64 m∧m ≤ ts.length∧Hid (Below w.heap.size w wr)∧w.heap.size+1 < wr.heap.size∧Hid (∃ C:Array Value,wr.heap[w.heap.size+1]? = some (.cells C 37)∧C.size=ts.length * 10)∧Hid (CopiedTo wr (w.heap.size+1) ts m)∧Hid (wr.heap[w.heap.size]? = some (.cells noNode 37))) (fun iv _=>ts.length - (intOf iv).toNat)
 case atStart=>exact ⟨0,rfl,Nat.zero_le _,Lib.hid (by go_grown),by simp,Lib.hid ⟨CS,(two_new _ _ _).2,HCS.out⟩,Lib.hid (CopiedTo.zero _ _ _),Lib.hid (two_new _ _ _).1⟩
 case round =>
   obtain ⟨m,rfl,hm,HB,hsz,HC,HD,Z0⟩:=hrel
   have wm:IntKind.i64.wrap ((m:Int)+1)=(m:Int)+1:=IntWalk.i64_in _ (by omega)
   by_cases hlt:m < ts.length
   · have hsm:m < s.size:=by omega
     have hx:ts[m]? = some (Tr.bytes (fun x=>x == s[m].toNat)):=by
       have:s.data.toList[m]? = some s[m]:=by
         rw [List.getElem?_eq_getElem (by simpa using hsm)];rfl
       rw [← HTS.out,List.getElem?_map,this];rfl
     have hd1:decide ((m:Int) < s.size)=true:=by simp;omega
     have hd1':decide (m < s.size)=true:=by simpa using hsm
     have hc:=s[m].toNat_lt
     have HX:=Lib.hid hx
     clear hx
     go_wp2_with fail
     generalize s[m].toNat=n at *
     refine (HO.out n hc wr).mono ?_
     rintro e w1 ⟨rfl,hb1⟩
     generalize hP:(fun x=>x == n)=P at *
     have HB1:=Lib.hid hb1
     clear hb1 hP
     go_wp2_with fail
     refine (HBY.out P w1).mono ?_
     rintro e w2 ⟨s2,F2,rfl,ho2,hF2,hb2⟩
     obtain ⟨p2,c2,rfl,hl2⟩:=ho2.slice
     have hb12:Below wr.heap.size wr w2:=HB1.out.trans (hb2.mono HB1.out.size)
     obtain ⟨C,hC1,hC2⟩:=HC.out
     have hC3:=keep_blk hb12 hC1
     have hth:w2.there (w.heap.size+1) (m * 10) 10:=there_row hC3 (by omega)
     have HTH:=Lib.hid hth
     generalize hxt:Tr.bytes P=x at *
     have HST:=Lib.hid (HD.out.step HX.out hb12 hsz ho2 (fun b hb=>Nat.le_trans HB1.out.size (hF2 b hb)) hth)
     have HB2:=Lib.hid (HB.out.trans (hb12.mono HB.out.size))
     have HC4:Hid (∃ C:Array Value,(w2.setCells (w.heap.size+1) (m * 10) (x.cells (.slice p2 x.subs.length c2)).toList).heap[w.heap.size+1]? = some (.cells C 37)∧C.size=ts.length * 10):=Lib.hid (row_setCells hC3 hC2)
     have Z4:Hid ((w2.setCells (w.heap.size+1) (m * 10) (x.cells (.slice p2 x.subs.length c2)).toList).heap[w.heap.size]? = some (.cells noNode 37)):=Lib.hid (by rw [heap_setCells_other (by omega)];exact keep_blk hb12 Z0.out)
     have hs2:w.heap.size+1 < w2.heap.size:=Nat.lt_of_lt_of_le hsz hb12.size
     clear hb2 hb12 ho2 hF2 hC1 hC2 hC3 hth hxt HBY HO
     go_wp2_with (first
       | (refine wpList_store_mid rfl 37 (.tmp 20) (.tmp 19) rfl (w.heap.size+1) (m * 10) (x.cells (.slice p2 x.subs.length c2)) rfl rfl HTH.out (by kernel_rfl) (nodeC_all _ _ _ _) ?_;generalize hw3:World.setCells w2 _ _ _=w3;have HW3:=Lib.hid hw3;clear hw3)
       | fail)
     rw [← HW3.out]
     exact ⟨⟨m+1,by go_num,by omega,Lib.hid (setCells_below HB2.out (by omega) _ _),by rw [size_setCells];exact hs2,HC4,HST,Z4⟩,by simp [intOf];omega⟩
   · obtain rfl:m=ts.length:=by omega
     obtain ⟨C,hC1,-⟩:=HC.out
     obtain ⟨F,hF,hF2⟩:=HD.out.owned (by omega) ⟨C,_,hC1⟩ ts.length
     have hcall:=HSQ.out ts wr (fun b=>b ∈ F) _ hF.trees
     rw [hl] at hcall
     have HCALL:=Lib.hid hcall
     clear hcall hC1 HC HD hF2
     go_wp2_with fail
     refine HCALL.out.mono ?_
     rintro e w2 ⟨s2,F2,rfl,ho2,hF2',hb2⟩
     obtain ⟨p2,c2,rfl,hl2⟩:=ho2.slice
     have HO2:=Lib.hid ho2;have HF2:=Lib.hid hF2'
     have Y0:=Lib.hid (keep_blk hb2 Z0.out)
     have HB2:=Lib.hid (HB.out.trans (hb2.mono HB.out.size))
     generalize Tr.several 5 ts=t at *
     clear ho2 hF2' hb2 HCALL
     unfold Tr.cells
     go_wp2_with (first
       | (refine wpList_store_row rfl 37 (.tmp 2) (.tmp 23) rfl w.heap.size #[.int .i64 t.kind,.int .u64 (Oc.U t.w0),.int .u64 (Oc.U t.w1),.int .u64 (Oc.U t.w2),.int .u64 (Oc.U t.w3),.slice p2 t.subs.length c2,.int .i64 t.num,.int .i64 t.least,.int .i64 t.most,.bool t.bare] rfl rfl 37 _ Y0.out (by kernel_rfl) rfl (by simp [Value.oneCell']) ?_)
       | fail)
     refine bodyPost_ret (results_cell_row rfl _ _ w.heap.size 37 #[.int .i64 t.kind,.int .u64 (Oc.U t.w0),.int .u64 (Oc.U t.w1),.int .u64 (Oc.U t.w2),.int .u64 (Oc.U t.w3),.slice p2 t.subs.length c2,.int .i64 t.num,.int .i64 t.least,.int .i64 t.most,.bool t.bare] (0,0) _ rfl (heap_setRow Y0.out) Tryd.underlying37 rfl (by kernel_rfl)) rfl ⟨.slice p2 t.subs.length c2,F2,rfl, ?_, ?_, ?_⟩
     · exact HO2.out.keep fun b hb=>by have:=HF2.out b hb;rw [heap_setRow_other _ _ _ (by omega)]
     · intro b hb;have:=HF2.out b hb;omega
     · exact below_setRow HB2.out (Nat.le_refl _) _
end Go.Proofs.YtnaoiglbjkjogaaDoor
namespace Go.Proofs.YtnaoiglbjkjogaaDoor
open Go.RowKit
namespace Tr
mutual
def ndT:Tr→Nat
 | .node _ _ _ _ _ s _ _ _ _=>1+ndS s
def ndS:List Tr→Nat
 | []=>0
 | t :: l=>ndT t+ndS l
end
theorem ndT_eq (t:Tr):t.ndT=1+ndS t.subs:=by cases t;rw [ndT];rfl
mutual
def leftT:Tr→Int→Int
 | .node _ _ _ _ _ s _ _ _ _,m=>leftS s (m - 1)
def leftS:List Tr→Int→Int
 | [],m=>m
 | t :: l,m=>if 0 ≤ m then leftS l (leftT t m) else m
end
theorem leftT_eq (t:Tr) (m:Int):t.leftT m=leftS t.subs (m - 1):=by cases t;rw [leftT];rfl
theorem leftS_neg (l:List Tr) {m:Int} (h:m < 0):leftS l m=m:=by
 cases l with
 | nil=>rfl
 | cons t l=>rw [leftS,if_neg (by omega)]
theorem leftS_spec:∀ (l:List Tr),(∀ t,t ∈ l→∀ m,0 ≤ m→t.leftT m ≤ m∧-1 ≤ t.leftT m∧(0 ≤ t.leftT m→t.leftT m=m - t.ndT)∧((t.ndT:Int) ≤ m→0 ≤ t.leftT m))→∀ m,-1 ≤ m→leftS l m ≤ m∧-1 ≤ leftS l m∧(0 ≤ leftS l m→leftS l m=m - ndS l)∧(0 ≤ m→(ndS l:Int) ≤ m→0 ≤ leftS l m)
 | [],_,m,hm=>by rw [leftS,ndS];exact ⟨Int.le_refl _,hm,fun _=>by omega,fun h _=>h⟩
 | t :: l,ih,m,hm=>by
   rw [leftS,ndS]
   split
   · rename_i h0
     obtain ⟨h1,h2,h3,h4⟩:=ih t List.mem_cons_self m h0
     obtain ⟨k1,k2,k3,k4⟩:=leftS_spec l (fun u hu=>ih u (List.mem_cons_of_mem _ hu)) (t.leftT m) h2
     refine ⟨by omega,k2,fun h=>?_,fun _ h=>?_⟩
     · have:=h3 (by omega)
       have:=k3 h
       omega
     · have a:=h4 (by omega)
       have b:=h3 a
       exact k4 a (by omega)
   · rename_i h0
     exact ⟨Int.le_refl _,hm,fun h=>absurd h h0,fun h=>absurd h h0⟩
theorem leftT_spec:∀ (t:Tr) (m:Int),0 ≤ m→t.leftT m ≤ m∧-1 ≤ t.leftT m∧(0 ≤ t.leftT m→t.leftT m=m - t.ndT)∧((t.ndT:Int) ≤ m→0 ≤ t.leftT m):=by
 intro t
 induction t using Tr.rec_subs with
 | h t ih =>
   intro m hm
   rw [leftT_eq,ndT_eq]
   obtain ⟨k1,k2,k3,k4⟩:=leftS_spec t.subs (fun u hu=>ih u hu) (m - 1) (by omega)
   exact ⟨by omega,k2,fun h=>by have:=k3 h;omega,fun h=>k4 (by omega) (by omega)⟩
end Tr
theorem numleft_any:∀ t:Tr,∀ m0:Nat,m0 ≤ 1000000→∀ (w:World) (B:Nat→Prop) (v:Value),NodeV w B v t→Calls Tryd.prog 56 #[v,.int .i64 m0] w fun e w'=>e=.returned (.int .i64 (t.leftT m0))∧Below w.heap.size w w':=by
 intro t
 induction t using Tr.rec_subs with
 | h t ih =>
   intro m0 hm0 w B v hv
   obtain ⟨s,rfl,hs⟩:=hv
   obtain ⟨p,cap,rfl,hlen⟩:=hs.slice
   have hsp:=Tr.leftS_spec t.subs (fun u _=>Tr.leftT_spec u)
   rw [Tr.leftT_eq]
   generalize hts:t.subs=ts at *
   have IH:=Lib.hid ih;have HS:=Lib.hid hs;have HSP:=Lib.hid hsp
   clear ih hs hts hsp
   unfold Tr.cells at *
   obtain ⟨R,hR⟩:∃ R,Tr.leftS ts ((m0:Int) - 1)=R:=⟨_,rfl⟩
   rw [hR]
   have HR:=Lib.hid hR
   clear hR
   have w0:IntKind.i64.wrap ((m0:Int) - 1)=(m0:Int) - 1:=IntWalk.i64_in _ (by omega)
   have Z0:=Lib.hid (heap_alloc_new w (.cells #[.int .i64 t.kind,.int .u64 (Oc.U t.w0),.int .u64 (Oc.U t.w1),.int .u64 (Oc.U t.w2),.int .u64 (Oc.U t.w3),.slice p ts.length cap,.int .i64 t.num,.int .i64 t.least,.int .i64 t.most,.bool t.bare] 37))
   have HW:=Lib.hid (show Below w.heap.size w (w.alloc (.cells #[.int .i64 t.kind,.int .u64 (Oc.U t.w0),.int .u64 (Oc.U t.w1),.int .u64 (Oc.U t.w2),.int .u64 (Oc.U t.w3),.slice p ts.length cap,.int .i64 t.num,.int .i64 t.least,.int .i64 t.most,.bool t.bare] 37)) from (Below.refl _ _).alloc (Nat.le_refl _) _)
   go_enter Tryd.func56,Tryd.ntmps56
   go_wp2
   generalize w.alloc (.cells #[.int .i64 t.kind,.int .u64 (Oc.U t.w0),.int .u64 (Oc.U t.w1),.int .u64 (Oc.U t.w2),.int .u64 (Oc.U t.w3),.slice p ts.length cap,.int .i64 t.num,.int .i64 t.least,.int .i64 t.most,.bool t.bare] 37)=W0 at *
   go_loopw [1,5] (fun mv iv wr=>∃ (i:Nat) (m:Int),iv=.int .i64 i∧mv=.int .i64 m∧i ≤ ts.length∧-1 ≤ m∧m ≤ 1000000∧Hid (Tr.leftS (ts.drop i) m=R)∧Hid (Below W0.heap.size W0 wr)) (fun _ iv _=>ts.length - (intOf iv).toNat)
   case atStart=>exact ⟨0,(m0:Int) - 1,rfl,rfl,Nat.zero_le _,by omega,by omega,by rw [List.drop_zero];exact HR,Lib.hid (Below.refl _ _)⟩
   case round =>
     obtain ⟨i,m,rfl,rfl,hi,hm1,hm2,HL,HB⟩:=hrel
     have wi:IntKind.i64.wrap ((i:Int)+1)=(i:Int)+1:=IntWalk.i64_in _ (by omega)
     have HBW:=Lib.hid (HW.out.trans (HB.out.mono HW.out.size))
     have Z1:=Lib.hid (keep_blk (HB.out.mono (Nat.le_refl _)) Z0.out)
     obtain ⟨d0,d1,d2,d3,d4,d5,d6,d7,d8,d9⟩:=allTen Z1.out
     by_cases hlt:i < ts.length
     · by_cases hmz:0 ≤ m
       · obtain ⟨mn,rfl⟩:∃ mn:Nat,m=mn:=⟨m.toNat,by omega⟩
         have gm:decide ((0:Int) ≤ (mn:Int))=true:=by simp
         obtain ⟨x,hx⟩:∃ x,ts[i]? = some x:=⟨_,List.getElem?_eq_getElem hlt⟩
         obtain ⟨b1,o1,s1,rfl,-,t1,sub1⟩:=HS.out.get hx
         obtain ⟨e0,e1,e2,e3,e4,e5,e6,e7,e8,e9⟩:=t1.keep (HBW.out.block _ t1.lt)
         have hmem:=List.mem_of_getElem? hx
         obtain ⟨p1,c1,rfl,hl1⟩:=sub1.slice
         have HC:=Lib.hid (IH.out x hmem mn (by omega) wr B (.agg (x.cells (.slice p1 x.subs.length c1))) ⟨_,rfl,sub1.later HBW.out⟩)
         have hdr:ts.drop i=x :: ts.drop (i+1):=by
           rw [List.drop_eq_getElem_cons hlt,(List.getElem?_eq_some_iff.1 hx).2]
         have hl:=HL.out
         rw [hdr,Tr.leftS,if_pos (by omega)] at hl
         have HL2:=Lib.hid hl
         obtain ⟨k1,k2,-,-⟩:=Tr.leftT_spec x mn (by omega)
         clear t1 sub1 hmem hx hdr hl HL
         unfold Tr.cells at HC
         go_wp2_with fail
         refine HC.out.mono ?_
         rintro e w2 ⟨rfl,hb2⟩
         have HB2:=Lib.hid (HB.out.trans (hb2.mono HB.out.size))
         generalize x.leftT mn=mm at *
         clear e0 e1 e2 e3 e4 e5 e6 e7 e8 e9 hb2 HC d0 d1 d2 d3 d4 d5 d6 d7 d8 d9
         go_wp2
         exact ⟨⟨i+1,mm,by go_num,rfl,by omega,k2,by omega,HL2,HB2⟩,by simp [intOf];omega⟩
       · have gm:decide ((0:Int) ≤ m)=false:=by simp;omega
         have hl:=HL.out
         rw [Tr.leftS_neg _ (by omega)] at hl
         have HL2:=Lib.hid hl
         clear hl HL hmz
         go_wp2
         go_ret
         exact ⟨ret_int HL2.out,HBW.out⟩
     · obtain rfl:i=ts.length:=by omega
       have hl:=HL.out
       rw [List.drop_length,Tr.leftS] at hl
       have HL2:=Lib.hid hl
       clear hl HL
       go_wp2
       go_ret
       exact ⟨ret_int HL2.out,HBW.out⟩
theorem few_any (t:Tr) (m:Nat) (hm:m ≤ 1000000) (w:World) (B:Nat→Prop) (v:Value) (hv:NodeV w B v t) :
   Calls Tryd.prog 28 #[v,.int .i64 m] w fun e w'=>e=.returned (.bool (decide (t.ndT ≤ m)))∧Below w.heap.size w w':=by
 obtain ⟨s,rfl,hs⟩:=hv
 have H1:=Lib.hid (fun w' (hb:Below w.heap.size w w')=>numleft_any t m hm w' B (.agg (t.cells s)) ⟨s,rfl,TreesAt.later (w':=w') hs hb⟩)
 obtain ⟨p,cap,rfl,hlen⟩:=hs.slice
 have hsp:=Tr.leftT_spec t m (by omega)
 have hdec:decide ((0:Int) ≤ t.leftT m)=decide (t.ndT ≤ m):=by
   by_cases h:t.ndT ≤ m
   · rw [decide_eq_true h,decide_eq_true (hsp.2.2.2 (by omega))]
   · rw [decide_eq_false h,decide_eq_false (fun h2=>h (by have:=hsp.2.2.1 h2;omega))]
 have HD:=Lib.hid hdec
 have Z0:=Lib.hid (heap_alloc_new w (.cells (t.cells (.slice p t.subs.length cap)) 37))
 have HW:=Lib.hid (show Below w.heap.size w (w.alloc (.cells (t.cells (.slice p t.subs.length cap)) 37)) from (Below.refl _ _).alloc (Nat.le_refl _) _)
 clear hs hsp hdec
 unfold Tr.cells at *
 go_enter Tryd.func28,Tryd.ntmps28
 go_wp2_with (first
   | (refine wpList_load_row rfl 37 (.tmp 2) rfl w.heap.size rfl 37 _ (0,0) _ Z0.out Tryd.underlying37 rfl (by kernel_rfl) ?_)
   | fail)
 refine (H1.out _ HW.out).mono ?_
 rintro e w1 ⟨rfl,hb1⟩
 have HB1:=Lib.hid (HW.out.trans (hb1.mono HW.out.size))
 clear hb1
 generalize t.leftT m=mm at *
 go_wp2
 go_ret
 exact ⟨ret_bool HD.out,HB1.out⟩
end Go.Proofs.YtnaoiglbjkjogaaDoor
namespace Go.Proofs.YtnaoiglbjkjogaaDoor
open Go.RowKit
def livesX:Sc:=Sc.new ⟨#[97,97,98]⟩ 0 0
def livesT:Tr:=.rep 0 (-1) (.bytes fun x=>x == 97)
theorem lives_list:Re.up (Tr.tabT livesX livesT 0).getLsbD 64 0=[0,1,2]:=by decide +kernel
theorem lives_code:Re.code livesT livesX.t.size [0]=0:=by decide +kernel
theorem lives_dp:livesT.dpT ≤ 1000000:=by decide +kernel
theorem relivesT_any (A:Nat→Addr) (w:World) (hM:ReMemT A w):Calls Tryd.prog 18 #[] w fun e w'=>e=.returned (.bool true)∧Below w.heap.size w w':=by
 have HM:=Lib.hid hM
 have HT:=Lib.hid (show ∀ w,Calls Tryd.prog 44 #[.string ⟨#[97]⟩] w (OwnEnd (.bytes fun x=>x == 97) w) from fun w=>treetext_any ⟨#[97]⟩ (by decide) w)
 clear hM
 go_enter Tryd.func18,Tryd.ntmps18
 go_wp2_with fail
 refine (scnew_any ⟨#[97,97,98]⟩ 0 0 w).mono ?_
 rintro e w1 ⟨rfl,hx,hb1,-⟩
 have HX:=Lib.hid (show ScAt w1 w.heap.size livesX from hx);have HB1:=Lib.hid hb1
 clear hx hb1
 go_wp2_with fail
 refine (HT.out w1).mono ?_
 rintro e w2 ⟨s2,F2,rfl,ho,-,hb2⟩
 have HV2:=Lib.hid (show NodeV w2 (fun b=>b ∈ F2) (.agg ((Tr.bytes fun x=>x == 97).cells s2)) (.bytes fun x=>x == 97) from ⟨s2,rfl,ho.trees⟩)
 have HB2:=Lib.hid (HB1.out.trans (hb2.mono HB1.out.size));have HX2:=Lib.hid (HX.out.below hb2)
 clear ho hb2 HB1 HX HT
 generalize (Tr.bytes fun x=>x == 97).cells s2=C2 at *
 go_wp2_with fail
 refine (rep_any (.bytes fun x=>x == 97) 0 (-1) w2 _ _ HV2.out).mono ?_
 rintro e w3 ⟨s3,F3,rfl,ho,-,hb3⟩
 have HV3:=Lib.hid (show NodeV w3 (fun b=>b ∈ F3) (.agg (livesT.cells s3)) livesT from ⟨s3,rfl,ho.trees⟩)
 have HB3:=Lib.hid (HB2.out.trans (hb3.mono HB2.out.size));have HX3:=Lib.hid (HX2.out.below hb3)
 clear ho hb3 HB2 HX2 HV2
 have hcc:(Tr.rep 0 (-1) (Tr.bytes fun x=>x == 97)).cells s3=livesT.cells s3:=rfl
 rw [hcc]
 clear hcc
 generalize livesT.cells s3=C3 at *
 go_wp2_with fail
 refine (reendsT_any A livesT lives_dp livesX w.heap.size 0 w3 (HM.out.below HB3.out) HX3.out _ _ HV3.out).mono ?_
 intro e w4 he
 obtain ⟨v4,rfl,hr,hb4⟩:=he.yes lives_code
 rw [show (0:Int).toNat=0 from rfl,lives_list] at hr
 have HB4:=Lib.hid (HB3.out.trans (hb4.mono HB3.out.size));have HR4:=Lib.hid hr.ints
 clear hr hb4 he HB3 HX3 HV3
 have hlit:(w4.alloc (.cells #[.int .i64 0,.int .i64 1,.int .i64 2] 3)).heap[w4.heap.size]? = some (.cells #[.int .i64 0,.int .i64 1,.int .i64 2] 3):=heap_alloc_new _ _
 have HL:=Lib.hid (show IntsAt (w4.alloc (.cells #[.int .i64 0,.int .i64 1,.int .i64 2] 3)) (.slice (some ⟨w4.heap.size,0,none⟩) 3 3) [0,1,2] from ⟨some ⟨w4.heap.size,0,none⟩,3,rfl,fun i k hi=>by
   refine ⟨w4.heap.size,0,rfl,by simp, ?_⟩
   unfold World.cell?
   rw [hlit,Nat.zero_add]
   match i,hi with
   | 0,hi=>simp at hi;subst hi;rfl
   | 1,hi=>simp at hi;subst hi;rfl
   | 2,hi=>simp at hi;subst hi;rfl⟩)
 have HB5:=Lib.hid (HB4.out.alloc HB4.out.size (.cells #[.int .i64 0,.int .i64 1,.int .i64 2] 3))
 have HR5:=Lib.hid (HR4.out.below ((Below.refl w4.heap.size w4).alloc (Nat.le_refl _) (.cells #[.int .i64 0,.int .i64 1,.int .i64 2] 3)))
 clear hlit HB4 HR4
 go_wp2_with fail
 refine (sameints_any [0,1,2] [0,1,2] (by decide) (by decide) _ _ _ HR5.out HL.out).mono ?_
 rintro e w6 ⟨rfl,hb6⟩
 have HB6:=Lib.hid (HB5.out.trans (hb6.mono HB5.out.size))
 clear hb6 HB5 HR5 HL
 go_wp2
 go_ret
 exact ⟨rfl,HB6.out⟩
theorem refSizeAll (t:Tr) (w:World) (B:Nat→Prop) (v:Value) (hv:NodeV w B v t):Calls Tryd.prog 45 #[v] w (SizeEnd (if t.formB=true then t.szT else 0) w):=by
 by_cases hf:t.formB=true
 · rw [if_pos hf]
   exact refSize_any t (t.formB_iff.1 hf) w B v hv
 · rw [if_neg hf]
   have hff:t.formB=false:=by simpa using hf
   obtain ⟨s,rfl,hs⟩:=hv
   have H1:=Lib.hid (fun w' (hb:Below w.heap.size w w')=>refform_any t w' B (.agg (t.cells s)) ⟨s,rfl,TreesAt.later (w':=w') hs hb⟩)
   rw [hff] at H1
   obtain ⟨p,cap,rfl,hlen⟩:=hs.slice
   have Z0:=Lib.hid (heap_alloc_new w (.cells (t.cells (.slice p t.subs.length cap)) 37))
   clear hs hf hff
   unfold Tr.cells at *
   go_enter Tryd.func45,Tryd.ntmps45
   go_wp2_with (first
     | (refine wpList_load_row rfl 37 (.tmp 1) rfl w.heap.size rfl 37 _ (0,0) _ Z0.out Tryd.underlying37 rfl (by kernel_rfl) ?_)
     | fail)
   refine (H1.out _ ((Below.refl _ _).alloc (Nat.le_refl _) _)).mono ?_
   rintro e w1 ⟨rfl,hb1⟩
   have HB1:=Lib.hid (((Below.refl _ _).alloc (Nat.le_refl _) _).trans (hb1.mono (by simp)))
   clear hb1 Z0
   go_wp2
   go_ret
   exact ⟨rfl,HB1.out⟩
theorem relong_any (s:ByteArray) (c e0:Int) (t:Tr) (w:World) (B:Nat→Prop) (v:Value) (hv:NodeV w B v t) :
   Calls Tryd.prog 19 #[v,.agg #[.string s,.int .i64 c,.int .i64 e0]] w fun e w'=>∃ q,e=.returned (.bool q)∧(q=false→t.ndT ≤ 2500)∧Below w.heap.size w w':=by
 obtain ⟨sv,rfl,hsv⟩:=hv
 obtain ⟨p,cap,rfl,hlen⟩:=hsv.slice
 have HFW:=Lib.hid (fun w9 (hb:Below w.heap.size w w9)=>few_any t 2500 (by omega) w9 B (.agg (t.cells (.slice p t.subs.length cap))) ⟨_,rfl,hsv.later hb⟩)
 have HSZ:=Lib.hid (fun w9 (hb:Below w.heap.size w w9)=>refSizeAll t w9 B (.agg (t.cells (.slice p t.subs.length cap))) ⟨_,rfl,hsv.later hb⟩)
 clear hsv
 generalize (if t.formB=true then t.szT else 0)=Z at *
 unfold Tr.cells at *
 go_enter Tryd.func19,Tryd.ntmps19
 have hb1:Below w.heap.size w ((w.alloc (.cells #[.int .i64 t.kind,.int .u64 (Oc.U t.w0),.int .u64 (Oc.U t.w1),.int .u64 (Oc.U t.w2),.int .u64 (Oc.U t.w3),.slice p t.subs.length cap,.int .i64 t.num,.int .i64 t.least,.int .i64 t.most,.bool t.bare] 37)).alloc (.cells #[.string s,.int .i64 c,.int .i64 e0] 39)):=by go_grown
 have Y0:=Lib.hid (show ((w.alloc (.cells #[.int .i64 t.kind,.int .u64 (Oc.U t.w0),.int .u64 (Oc.U t.w1),.int .u64 (Oc.U t.w2),.int .u64 (Oc.U t.w3),.slice p t.subs.length cap,.int .i64 t.num,.int .i64 t.least,.int .i64 t.most,.bool t.bare] 37)).alloc (.cells #[.string s,.int .i64 c,.int .i64 e0] 39)).heap[w.heap.size]? = some (.cells #[.int .i64 t.kind,.int .u64 (Oc.U t.w0),.int .u64 (Oc.U t.w1),.int .u64 (Oc.U t.w2),.int .u64 (Oc.U t.w3),.slice p t.subs.length cap,.int .i64 t.num,.int .i64 t.least,.int .i64 t.most,.bool t.bare] 37) from heap_alloc_lt (heap_alloc_new _ _))
 have Y1:=Lib.hid (show ((w.alloc (.cells #[.int .i64 t.kind,.int .u64 (Oc.U t.w0),.int .u64 (Oc.U t.w1),.int .u64 (Oc.U t.w2),.int .u64 (Oc.U t.w3),.slice p t.subs.length cap,.int .i64 t.num,.int .i64 t.least,.int .i64 t.most,.bool t.bare] 37)).alloc (.cells #[.string s,.int .i64 c,.int .i64 e0] 39)).heap[w.heap.size+1]? = some (.cells #[.string s,.int .i64 c,.int .i64 e0] 39) from new_at _ _ _ (by simp))
 have HB1:=Lib.hid hb1
 clear hb1
 go_upto_region 1 with (fail)
 generalize ((w.alloc (.cells #[.int .i64 t.kind,.int .u64 (Oc.U t.w0),.int .u64 (Oc.U t.w1),.int .u64 (Oc.U t.w2),.int .u64 (Oc.U t.w3),.slice p t.subs.length cap,.int .i64 t.num,.int .i64 t.least,.int .i64 t.most,.bool t.bare] 37)).alloc (.cells #[.string s,.int .i64 c,.int .i64 e0] 39))=W1 at *
 go_wp2_with (first
   | (refine wpList_load_row rfl 37 (.tmp 2) rfl w.heap.size rfl 37 _ (0,0) _ Y0.out Tryd.underlying37 rfl (by kernel_rfl) ?_)
   | fail)
 refine (HFW.out W1 HB1.out).mono ?_
 rintro e w2 ⟨rfl,hb2⟩
 have HB:=Lib.hid (HB1.out.trans (hb2.mono HB1.out.size));have Z0:=Lib.hid (keep_blk hb2 Y0.out);have Z1:=Lib.hid (keep_blk hb2 Y1.out)
 clear hb2 HB1 Y0 Y1 HFW
 by_cases hn:t.ndT ≤ 2500
 · have HN:=Lib.hid hn
   rw [decide_eq_true hn]
   clear hn
   have c0:w2.cell? ⟨w.heap.size+1,0,none⟩=some (.string s):=by unfold World.cell?;rw [Z1.out];rfl
   obtain ⟨n0,n1,n2,n3,n4,n5,n6,n7,n8,n9⟩:=allTen Z0.out
   by_cases h63:s.size ≤ 63
   · have d1:decide ((s.size:Int) ≤ 63)=true:=by simp;omega
     have d2:decide (s.size ≤ 63)=true:=decide_eq_true h63
     clear h63
     go_wp2_with fail
     refine (HSZ.out w2 HB.out).mono ?_
     rintro e w3 ⟨rfl,hb3⟩
     have HB3:=Lib.hid (HB.out.trans (hb3.mono HB.out.size))
     clear hb3 HB Z0 Z1 HSZ c0 n0 n1 n2 n3 n4 n5 n6 n7 n8 n9
     go_wp2
     all_goals
       go_ret
       exact ⟨_,rfl,fun _=>HN.out,HB3.out⟩
   · have d1:decide ((s.size:Int) ≤ 63)=false:=by simp;omega
     have d2:decide (s.size ≤ 63)=false:=decide_eq_false h63
     clear h63 HSZ
     go_wp2
     go_ret
     exact ⟨_,rfl,fun _=>HN.out,HB.out⟩
 · rw [decide_eq_false hn]
   clear hn
   go_wp2
   go_ret
   exact ⟨true,rfl,fun h=>absurd h (by decide),HB.out⟩
end Go.Proofs.YtnaoiglbjkjogaaDoor
namespace Go.Proofs.YtnaoiglbjkjogaaDoor
namespace Tr
theorem dpS_nd:∀ {l:List Tr},(∀ t,t ∈ l→t.dpT ≤ 2 * t.ndT)→dpS l ≤ 2 * ndS l
 | [],_=>by simp [dpS]
 | t :: l,h=>by
   have h1:=h t List.mem_cons_self
   have h2:=dpS_nd (l:=l) fun u hu=>h u (List.mem_cons_of_mem _ hu)
   rw [dpS,ndS];omega
theorem dp_nd (t:Tr):t.dpT ≤ 2 * t.ndT:=by
 induction t using Tr.rec_subs with
 | h t ih =>
   have h:=dpS_nd ih
   rw [dpT_eq,ndT_eq]
   split
   · omega
   · split <;> omega
end Tr
end Go.Proofs.YtnaoiglbjkjogaaDoor
