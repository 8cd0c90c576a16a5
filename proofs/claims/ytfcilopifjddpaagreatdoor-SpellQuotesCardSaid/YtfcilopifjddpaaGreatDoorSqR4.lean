/- Part 4 of what these proofs need. -/
import Derived.Test.YtfcilopifjddpaaGreatDoorSqR3
set_option maxRecDepth 100000
set_option maxHeartbeats 16000000
namespace Go.Proofs.YtfcilopifjddpaaGreatDoor
open Go.RowKit
theorem times_star (w0:World) (A:Nat→Addr) (w:World) (R:Nat) (s:ByteArray) (fl:Int) (i g d:Nat) (hR:RdAt w0 A w R s fl i g d) (hi:i < s.size) (hs:s.size ≤ 4294967280) (hc:bt s i=42) :
   Calls Tryz.prog 199 #[.pointer (some ⟨R,0,none⟩)] w (TmEnd A R s fl i g d (some (0,(-1),i+1)) 0 w):=by
 have hlt:=hR.lt
 have hb0:Below w.heap.size w (w.alloc (.cells #[.int .i64 0,.int .i64 0] 163)):=(Below.refl _ _).alloc (Nat.le_refl _) _
 have hR1:=hR.later hb0
 obtain ⟨c0,c1,c2,-,-⟩:=rd5 hR1.cell
 have hi0:(0:Int) ≤ i:=by omega
 have hi1:(i:Int) < s.size:=by omega
 have hx:(s[i].toNat:Int)=42:=by rw [bt_at hi,hc];rfl
 have HX:=Lib.hid hx
 have HR1:=Lib.hid hR1
 clear hR hR1 hx hc
 go_enter Tryz.func199,Tryz.ntmps199
 go_wp2
 go_quiet (fail)
 have Z0:=Lib.hid (heap_alloc_new w (.cells #[.int .i64 0,.int .i64 0] 163))
 have HR:=Lib.hid (HR1.out.later (drewN_below (Below.refl _ _) nq))
 have HB0:Hid (Below w.heap.size w ((w.alloc (.cells #[.int .i64 0,.int .i64 0] 163)).drewN nq)):=Lib.hid (drewN_below (by go_grown) nq)
 have Z1:Hid (((w.alloc (.cells #[.int .i64 0,.int .i64 0] 163)).drewN nq).heap[w.heap.size]? = some (.cells #[.int .i64 0,.int .i64 0] 163)):=Lib.hid Z0.out
 have hsW:w.heap.size < ((w.alloc (.cells #[.int .i64 0,.int .i64 0] 163)).drewN nq).heap.size:=by simp
 clear c0 c1 c2 HR1 Z0
 rw [HX.out]
 clear HX
 generalize World.drewN _ _=W at *
 obtain ⟨-,-,c2,-,-⟩:=rd5 HR.out.cell
 obtain ⟨g2,-,-⟩:=rdf HR.out.cell
 have hRne:R ≠ w.heap.size:=by omega
 have hw:IntKind.i64.wrap ((i:Int)+1)=(i:Int)+1:=IntWalk.i64_in _ (by omega)
 have Z2s:=Lib.hid (fun v=>(Below.heap_setCell W ⟨R,2,none⟩ v w.heap.size (Ne.symm hRne)).trans Z1.out)
 have HP:=Lib.hid (rd_place HR.out.cell (i+1) (v:=(i:Int)+1) (by omega))
 have HT:=Lib.hid (((Touch.of_below [R] HB0.out).setCell List.mem_cons_self 2 (.int .i64 ((i:Int)+1))))
 clear Z1 HR HB0 hi0 hi1 hi
 go_wp2_with (first
   | (refine wpList_store_row rfl 163 (.tmp 2) (.tmp 30) rfl w.heap.size #[.int .i64 0,.int .i64 (-1)] rfl rfl 163 _ (Z2s.out _) (by kernel_rfl) rfl two_one ?_)
   | fail)
 exact bodyPost_ret (results_row_1 rfl _ _ w.heap.size 163 #[.int .i64 0,.int .i64 (-1)] (0,0) _ _ rfl rfl (heap_setRow (Z2s.out _)) Tryz.underlying163 rfl (by kernel_rfl)) rfl ⟨⟨rfl,(heap_setRow_other _ _ _ hRne).trans HP.out⟩,HT.out.setRow_new (Nat.le_refl _) _⟩
theorem times_plus (w0:World) (A:Nat→Addr) (w:World) (R:Nat) (s:ByteArray) (fl:Int) (i g d:Nat) (hR:RdAt w0 A w R s fl i g d) (hi:i < s.size) (hs:s.size ≤ 4294967280) (hc:bt s i=43) :
   Calls Tryz.prog 199 #[.pointer (some ⟨R,0,none⟩)] w (TmEnd A R s fl i g d (some (1,(-1),i+1)) 0 w):=by
 have hlt:=hR.lt
 have hb0:Below w.heap.size w (w.alloc (.cells #[.int .i64 0,.int .i64 0] 163)):=(Below.refl _ _).alloc (Nat.le_refl _) _
 have hR1:=hR.later hb0
 obtain ⟨c0,c1,c2,-,-⟩:=rd5 hR1.cell
 have hi0:(0:Int) ≤ i:=by omega
 have hi1:(i:Int) < s.size:=by omega
 have hx:(s[i].toNat:Int)=43:=by rw [bt_at hi,hc];rfl
 have HX:=Lib.hid hx
 have HR1:=Lib.hid hR1
 clear hR hR1 hx hc
 go_enter Tryz.func199,Tryz.ntmps199
 go_wp2
 go_quiet (fail)
 have Z0:=Lib.hid (heap_alloc_new w (.cells #[.int .i64 0,.int .i64 0] 163))
 have HR:=Lib.hid (HR1.out.later (drewN_below (Below.refl _ _) nq))
 have HB0:Hid (Below w.heap.size w ((w.alloc (.cells #[.int .i64 0,.int .i64 0] 163)).drewN nq)):=Lib.hid (drewN_below (by go_grown) nq)
 have Z1:Hid (((w.alloc (.cells #[.int .i64 0,.int .i64 0] 163)).drewN nq).heap[w.heap.size]? = some (.cells #[.int .i64 0,.int .i64 0] 163)):=Lib.hid Z0.out
 have hsW:w.heap.size < ((w.alloc (.cells #[.int .i64 0,.int .i64 0] 163)).drewN nq).heap.size:=by simp
 clear c0 c1 c2 HR1 Z0
 rw [HX.out]
 clear HX
 generalize World.drewN _ _=W at *
 obtain ⟨-,-,c2,-,-⟩:=rd5 HR.out.cell
 obtain ⟨g2,-,-⟩:=rdf HR.out.cell
 have hRne:R ≠ w.heap.size:=by omega
 have hw:IntKind.i64.wrap ((i:Int)+1)=(i:Int)+1:=IntWalk.i64_in _ (by omega)
 have Z2s:=Lib.hid (fun v=>(Below.heap_setCell W ⟨R,2,none⟩ v w.heap.size (Ne.symm hRne)).trans Z1.out)
 have HP:=Lib.hid (rd_place HR.out.cell (i+1) (v:=(i:Int)+1) (by omega))
 have HT:=Lib.hid (((Touch.of_below [R] HB0.out).setCell List.mem_cons_self 2 (.int .i64 ((i:Int)+1))))
 clear Z1 HR HB0 hi0 hi1 hi
 go_wp2_with (first
   | (refine wpList_store_row rfl 163 (.tmp 2) (.tmp 33) rfl w.heap.size #[.int .i64 1,.int .i64 (-1)] rfl rfl 163 _ (Z2s.out _) (by kernel_rfl) rfl two_one ?_)
   | fail)
 exact bodyPost_ret (results_row_1 rfl _ _ w.heap.size 163 #[.int .i64 1,.int .i64 (-1)] (0,0) _ _ rfl rfl (heap_setRow (Z2s.out _)) Tryz.underlying163 rfl (by kernel_rfl)) rfl ⟨⟨rfl,(heap_setRow_other _ _ _ hRne).trans HP.out⟩,HT.out.setRow_new (Nat.le_refl _) _⟩
theorem times_maybe (w0:World) (A:Nat→Addr) (w:World) (R:Nat) (s:ByteArray) (fl:Int) (i g d:Nat) (hR:RdAt w0 A w R s fl i g d) (hi:i < s.size) (hs:s.size ≤ 4294967280) (hc:bt s i=63) :
   Calls Tryz.prog 199 #[.pointer (some ⟨R,0,none⟩)] w (TmEnd A R s fl i g d (some (0,1,i+1)) 0 w):=by
 have hlt:=hR.lt
 have hb0:Below w.heap.size w (w.alloc (.cells #[.int .i64 0,.int .i64 0] 163)):=(Below.refl _ _).alloc (Nat.le_refl _) _
 have hR1:=hR.later hb0
 obtain ⟨c0,c1,c2,-,-⟩:=rd5 hR1.cell
 have hi0:(0:Int) ≤ i:=by omega
 have hi1:(i:Int) < s.size:=by omega
 have hx:(s[i].toNat:Int)=63:=by rw [bt_at hi,hc];rfl
 have HX:=Lib.hid hx
 have HR1:=Lib.hid hR1
 clear hR hR1 hx hc
 go_enter Tryz.func199,Tryz.ntmps199
 go_wp2
 go_quiet (fail)
 have Z0:=Lib.hid (heap_alloc_new w (.cells #[.int .i64 0,.int .i64 0] 163))
 have HR:=Lib.hid (HR1.out.later (drewN_below (Below.refl _ _) nq))
 have HB0:Hid (Below w.heap.size w ((w.alloc (.cells #[.int .i64 0,.int .i64 0] 163)).drewN nq)):=Lib.hid (drewN_below (by go_grown) nq)
 have Z1:Hid (((w.alloc (.cells #[.int .i64 0,.int .i64 0] 163)).drewN nq).heap[w.heap.size]? = some (.cells #[.int .i64 0,.int .i64 0] 163)):=Lib.hid Z0.out
 have hsW:w.heap.size < ((w.alloc (.cells #[.int .i64 0,.int .i64 0] 163)).drewN nq).heap.size:=by simp
 clear c0 c1 c2 HR1 Z0
 rw [HX.out]
 clear HX
 generalize World.drewN _ _=W at *
 obtain ⟨-,-,c2,-,-⟩:=rd5 HR.out.cell
 obtain ⟨g2,-,-⟩:=rdf HR.out.cell
 have hRne:R ≠ w.heap.size:=by omega
 have hw:IntKind.i64.wrap ((i:Int)+1)=(i:Int)+1:=IntWalk.i64_in _ (by omega)
 have Z2s:=Lib.hid (fun v=>(Below.heap_setCell W ⟨R,2,none⟩ v w.heap.size (Ne.symm hRne)).trans Z1.out)
 have HP:=Lib.hid (rd_place HR.out.cell (i+1) (v:=(i:Int)+1) (by omega))
 have HT:=Lib.hid (((Touch.of_below [R] HB0.out).setCell List.mem_cons_self 2 (.int .i64 ((i:Int)+1))))
 clear Z1 HR HB0 hi0 hi1 hi
 go_wp2_with (first
   | (refine wpList_store_row rfl 163 (.tmp 2) (.tmp 34) rfl w.heap.size #[.int .i64 0,.int .i64 1] rfl rfl 163 _ (Z2s.out _) (by kernel_rfl) rfl two_one ?_)
   | fail)
 exact bodyPost_ret (results_row_1 rfl _ _ w.heap.size 163 #[.int .i64 0,.int .i64 1] (0,0) _ _ rfl rfl (heap_setRow (Z2s.out _)) Tryz.underlying163 rfl (by kernel_rfl)) rfl ⟨⟨rfl,(heap_setRow_other _ _ _ hRne).trans HP.out⟩,HT.out.setRow_new (Nat.le_refl _) _⟩
theorem times_brace_ok (w0:World) (A:Nat→Addr) (w:World) (R:Nat) (s:ByteArray) (fl:Int) (i g d:Nat) (hR:RdAt w0 A w R s fl i g d) (hi:i < s.size) (hc:bt s i=123) (a b:Int) (j:Nat) (HC:∀ w,RdAt w0 A w R s fl i g d→Calls Tryz.prog 210 #[.pointer (some ⟨R,0,none⟩)] w (TmEnd A R s fl i g d (some (a,b,j)) 0 w)) :
   Calls Tryz.prog 199 #[.pointer (some ⟨R,0,none⟩)] w (TmEnd A R s fl i g d (some (a,b,j)) 0 w):=by
 have HC:=Lib.hid HC
 have hlt:=hR.lt
 have hb0:Below w.heap.size w (w.alloc (.cells #[.int .i64 0,.int .i64 0] 163)):=(Below.refl _ _).alloc (Nat.le_refl _) _
 have hR1:=hR.later hb0
 obtain ⟨c0,c1,c2,-,-⟩:=rd5 hR1.cell
 have hi0:(0:Int) ≤ i:=by omega
 have hi1:(i:Int) < s.size:=by omega
 have hx:(s[i].toNat:Int)=123:=by rw [bt_at hi,hc];rfl
 have HX:=Lib.hid hx
 have HR1:=Lib.hid hR1
 clear hR hR1 hx hc
 go_enter Tryz.func199,Tryz.ntmps199
 go_wp2
 go_quiet (fail)
 have Z0:=Lib.hid (heap_alloc_new w (.cells #[.int .i64 0,.int .i64 0] 163))
 have HR:=Lib.hid (HR1.out.later (drewN_below (Below.refl _ _) nq))
 have HB0:Hid (Below w.heap.size w ((w.alloc (.cells #[.int .i64 0,.int .i64 0] 163)).drewN nq)):=Lib.hid (drewN_below (by go_grown) nq)
 have Z1:Hid (((w.alloc (.cells #[.int .i64 0,.int .i64 0] 163)).drewN nq).heap[w.heap.size]? = some (.cells #[.int .i64 0,.int .i64 0] 163)):=Lib.hid Z0.out
 have hsW:w.heap.size < ((w.alloc (.cells #[.int .i64 0,.int .i64 0] 163)).drewN nq).heap.size:=by simp
 clear c0 c1 c2 HR1 Z0
 rw [HX.out]
 clear HX
 generalize World.drewN _ _=W at *
 obtain ⟨-,-,c2,-,-⟩:=rd5 HR.out.cell
 obtain ⟨g2,-,-⟩:=rdf HR.out.cell
 have hRne:R ≠ w.heap.size:=by omega
 go_wp2_with fail
 refine (HC.out _ HR.out).mono ?_
 intro e w2 he
 obtain ⟨rfl,hr2,ht2⟩:=he.ok rfl
 have Z2:=Lib.hid ((ht2.block w.heap.size hsW (by simp;omega)).trans Z1.out)
 have HT:=Lib.hid ((Touch.of_below [R] HB0.out).trans ht2)
 clear ht2 he
 have HP:=Lib.hid hr2
 clear hr2
 go_wp2_with (first
   | (refine wpList_store_row rfl 163 (.tmp 2) (.tmp 18) rfl w.heap.size #[.int .i64 a,.int .i64 b] rfl rfl 163 _ Z2.out (by kernel_rfl) rfl two_one ?_)
   | fail)
 exact bodyPost_ret (results_row_1 rfl _ _ w.heap.size 163 #[.int .i64 a,.int .i64 b] (0,0) _ _ rfl rfl (heap_setRow Z2.out) Tryz.underlying163 rfl (by kernel_rfl)) rfl ⟨⟨rfl,(heap_setRow_other _ _ _ hRne).trans HP.out⟩,HT.out.setRow_new (Nat.le_refl _) _⟩
theorem times_brace_err (w0:World) (A:Nat→Addr) (w:World) (R:Nat) (s:ByteArray) (fl:Int) (i g d:Nat) (hR:RdAt w0 A w R s fl i g d) (hi:i < s.size) (hc:bt s i=123) (c:Nat) (HC:∀ w,RdAt w0 A w R s fl i g d→Calls Tryz.prog 210 #[.pointer (some ⟨R,0,none⟩)] w (TmEnd A R s fl i g d none c w)) :
   Calls Tryz.prog 199 #[.pointer (some ⟨R,0,none⟩)] w (TmEnd A R s fl i g d none c w):=by
 have HC:=Lib.hid HC
 have hlt:=hR.lt
 have hb0:Below w.heap.size w (w.alloc (.cells #[.int .i64 0,.int .i64 0] 163)):=(Below.refl _ _).alloc (Nat.le_refl _) _
 have hR1:=hR.later hb0
 obtain ⟨c0,c1,c2,-,-⟩:=rd5 hR1.cell
 have hi0:(0:Int) ≤ i:=by omega
 have hi1:(i:Int) < s.size:=by omega
 have hx:(s[i].toNat:Int)=123:=by rw [bt_at hi,hc];rfl
 have HX:=Lib.hid hx
 have HR1:=Lib.hid hR1
 clear hR hR1 hx hc
 go_enter Tryz.func199,Tryz.ntmps199
 go_wp2
 go_quiet (fail)
 have Z0:=Lib.hid (heap_alloc_new w (.cells #[.int .i64 0,.int .i64 0] 163))
 have HR:=Lib.hid (HR1.out.later (drewN_below (Below.refl _ _) nq))
 have HB0:Hid (Below w.heap.size w ((w.alloc (.cells #[.int .i64 0,.int .i64 0] 163)).drewN nq)):=Lib.hid (drewN_below (by go_grown) nq)
 have Z1:Hid (((w.alloc (.cells #[.int .i64 0,.int .i64 0] 163)).drewN nq).heap[w.heap.size]? = some (.cells #[.int .i64 0,.int .i64 0] 163)):=Lib.hid Z0.out
 have hsW:w.heap.size < ((w.alloc (.cells #[.int .i64 0,.int .i64 0] 163)).drewN nq).heap.size:=by simp
 clear c0 c1 c2 HR1 Z0
 rw [HX.out]
 clear HX
 generalize World.drewN _ _=W at *
 obtain ⟨-,-,c2,-,-⟩:=rd5 HR.out.cell
 obtain ⟨g2,-,-⟩:=rdf HR.out.cell
 have hRne:R ≠ w.heap.size:=by omega
 go_wp2_with fail
 refine (HC.out _ HR.out).mono ?_
 intro e w2 he
 obtain ⟨v,rfl,hv,ht2⟩:=he.err rfl
 have HV:=Lib.hid hv
 have Z2:=Lib.hid ((ht2.block w.heap.size hsW (by simp;omega)).trans Z1.out)
 have HT:=Lib.hid ((Touch.of_below [R] HB0.out).trans ht2)
 clear ht2 he
 clear hv
 go_wp2_with (first
   | (refine wpList_store_row rfl 163 (.tmp 2) (.tmp 18) rfl w.heap.size #[.int .i64 0,.int .i64 0] rfl rfl 163 _ Z2.out (by kernel_rfl) rfl two_one ?_)
   | fail)
 exact bodyPost_ret (results_row_1 rfl _ _ w.heap.size 163 #[.int .i64 0,.int .i64 0] (0,0) _ _ rfl rfl (heap_setRow Z2.out) Tryz.underlying163 rfl (by kernel_rfl)) rfl ⟨⟨_,rfl,by exact (HV.out.setRow hsW _).down (Nat.le_of_lt hsW)⟩,by exact HT.out.setRow_new (Nat.le_refl _) _⟩
theorem times_braced_none (w0:World) (A:Nat→Addr) (w:World) (R:Nat) (s:ByteArray) (hs:s.size ≤ 4294967280) (fl:Int) (i g d:Nat) (hR:RdAt w0 A w R s fl i g d) (hi:i < s.size) (hc:bt s i=123) (hf:Ep.find (bt s) 125 (s.size - (i+1)) (i+1)=none) :
   Calls Tryz.prog 199 #[.pointer (some ⟨R,0,none⟩)] w (TmEnd A R s fl i g d none 3 w) :=
 times_brace_err w0 A w R s fl i g d hR hi hc 3 fun w hR=>braced_open w0 A w R s hs fl i g d hR hi hf
theorem times_braced_bad (w0:World) (A:Nat→Addr) (w:World) (R:Nat) (s:ByteArray) (hs:s.size ≤ 4294967280) (fl:Int) (i g d:Nat) (hR:RdAt w0 A w R s fl i g d) (hi:i < s.size) (hc:bt s i=123) (e:Nat) (hf:Ep.find (bt s) 125 (s.size - (i+1)) (i+1)=some e) (hn:Ep.counts (bt s) (i+1) e=none) :
   Calls Tryz.prog 199 #[.pointer (some ⟨R,0,none⟩)] w (TmEnd A R s fl i g d none 4 w):=by
 obtain ⟨k,rfl⟩:∃ k,e=i+1+k:=⟨e - (i+1),by have:=(Ep.find_some hf).1;omega⟩
 exact times_brace_err w0 A w R s fl i g d hR hi hc 4 fun w hR=>braced_bad w0 A w R s hs fl i g d hR hi k hf hn
theorem times_braced_ok (w0:World) (A:Nat→Addr) (w:World) (R:Nat) (s:ByteArray) (hs:s.size ≤ 4294967280) (fl:Int) (i g d:Nat) (hR:RdAt w0 A w R s fl i g d) (hi:i < s.size) (hc:bt s i=123) (e:Nat) (hf:Ep.find (bt s) 125 (s.size - (i+1)) (i+1)=some e) (a b:Int) (hn:Ep.counts (bt s) (i+1) e=some (a,b)) :
   Calls Tryz.prog 199 #[.pointer (some ⟨R,0,none⟩)] w (TmEnd A R s fl i g d (some (a,b,e+1)) 0 w):=by
 obtain ⟨k,rfl⟩:∃ k,e=i+1+k:=⟨e - (i+1),by have:=(Ep.find_some hf).1;omega⟩
 exact times_brace_ok w0 A w R s fl i g d hR hi hc a b _ fun w hR=>braced_ok w0 A w R s hs fl i g d hR hi k hf a b hn
end Go.Proofs.YtfcilopifjddpaaGreatDoor
namespace Go.Proofs.YtfcilopifjddpaaGreatDoor
open Go.RowKit
theorem punct_has (n:Nat) (hn:n < 256) (b:Bool) (hb:Cl.cls 8 n=b) (w:World) :
   Calls Tryz.prog 172 #[(.agg #[.int .u64 (Oc.U (Cl.cw 8 0)),.int .u64 (Oc.U (Cl.cw 8 1)),.int .u64 (Oc.U (Cl.cw 8 2)),.int .u64 (Oc.U (Cl.cw 8 3))]),.int .u8 n] w fun e w'=>e=.returned (.bool b)∧Below w.heap.size w w':=by
 refine (has_any (Cl.cw 8 0) (Cl.cw 8 1) (Cl.cw 8 2) (Cl.cw 8 3) n hn w).mono ?_
 rintro e w' ⟨rfl,h⟩
 refine ⟨ret_bool ?_,h⟩
 rw [← hb]
 exact Oc.mem_mk (Cl.cls 8) n hn
theorem set_cells {w:World} {b:Nat} {x0 x1 x2 x3:Value} {t:TypeId} (h:w.heap[b]? = some (.cells #[x0,x1,x2,x3] t)):w.cell? ⟨b,0,none⟩=some x0∧w.cell? ⟨b,1,none⟩=some x1∧w.cell? ⟨b,2,none⟩=some x2∧w.cell? ⟨b,3,none⟩=some x3:=by
 simp [World.cell?,h]
theorem ptdot_no (fl:Int) (hnl:nlB fl=false) (w:World) :
   Calls Tryz.prog 161 #[.int .i64 fl] w fun e w'=>e=.returned (.agg ((Ep.dot false).cells (.slice none 0 0)))∧Below w.heap.size w w':=by
 have hb4:=bit4 fl
 rw [hnl] at hb4
 have hb0:Below w.heap.size w (w.alloc (.cells noNode 28)):=(Below.refl _ _).alloc (Nat.le_refl _) _
 have Z4:=Lib.hid (heap_alloc_new w (.cells noNode 28))
 have HB4:=Lib.hid hb0
 have hn:=fun w=>not_p (fun _=>false) w
 simp only [Oc.mk_none,u0] at hn
 have HN:=Lib.hid hn
 have Z5:=Lib.hid Z4.out;have HB5:=Lib.hid HB4.out
 clear hnl hb0 hn Z4 HB4
 go_enter Tryz.func161,Tryz.ntmps161
 go_wp2_with fail
 refine (HN.out _).mono ?_
 rintro e w4 ⟨rfl,hb4'⟩
 have Z6:=Lib.hid (keep_blk hb4' Z5.out);have HB6:=Lib.hid (HB5.out.trans (hb4'.mono HB5.out.size))
 clear hb4' HB5 Z5
 go_wp2_with fail
 refine (bytes_is _ _ _ _ _).mono ?_
 rintro e w5 ⟨rfl,hb5⟩
 have Z9:=Lib.hid (keep_blk hb5 Z6.out);have HB9:=Lib.hid (HB6.out.trans (hb5.mono HB6.out.size))
 clear hb5 HB6 Z6
 go_wp2_with (first
   | (refine wpList_store_row rfl 28 (.tmp 2) (.tmp 12) rfl w.heap.size #[.int .i64 2,.int .u64 (Oc.U (Oc.mk (fun x=>!false) 0)),.int .u64 (Oc.U (Oc.mk (fun x=>!false) 1)),.int .u64 (Oc.U (Oc.mk (fun x=>!false) 2)),.int .u64 (Oc.U (Oc.mk (fun x=>!false) 3)),.slice none 0 0,.int .i64 0,.int .i64 0,.int .i64 0,.bool false] rfl rfl 28 _ Z9.out (by kernel_rfl) rfl (by simp [Value.oneCell']) ?_)
   | fail)
 exact bodyPost_ret (results_cell_row rfl _ _ w.heap.size 28 #[.int .i64 2,.int .u64 (Oc.U (Oc.mk (fun x=>!false) 0)),.int .u64 (Oc.U (Oc.mk (fun x=>!false) 1)),.int .u64 (Oc.U (Oc.mk (fun x=>!false) 2)),.int .u64 (Oc.U (Oc.mk (fun x=>!false) 3)),.slice none 0 0,.int .i64 0,.int .i64 0,.int .i64 0,.bool false] (0,0) _ rfl (heap_setRow Z9.out) Tryz.underlying28 rfl (by kernel_rfl)) rfl ⟨rfl,below_setRow HB9.out (Nat.le_refl _) _⟩
theorem ptdot_nl (fl:Int) (hnl:nlB fl=true) (w:World) :
   Calls Tryz.prog 161 #[.int .i64 fl] w fun e w'=>e=.returned (.agg ((Ep.dot true).cells (.slice none 0 0)))∧Below w.heap.size w w':=by
 have hb4:=bit4 fl
 rw [hnl] at hb4
 have hb0:Below w.heap.size w (w.alloc (.cells noNode 28)):=(Below.refl _ _).alloc (Nat.le_refl _) _
 have Z4:=Lib.hid (heap_alloc_new w (.cells noNode 28))
 have HB4:=Lib.hid hb0
 have HN:=Lib.hid (fun w=>not_p (fun b=>b == 10) w)
 clear hnl hb0
 go_enter Tryz.func161,Tryz.ntmps161
 go_wp2_with fail
 have hsz:(w.alloc (.cells noNode 28)).heap.size=w.heap.size+1:=by simp
 generalize World.alloc w _=W at *
 refine (of_p 10 (by omega) 10 rfl W (w.heap.size+1) hsz _).mono ?_
 rintro e w3 ⟨rfl,hb3⟩
 have hbA:Below W.heap.size W w3:=((Below.refl W.heap.size W).alloc (Nat.le_refl _) _).trans (hb3.mono (by simp))
 have Z5:=Lib.hid (keep_blk hbA Z4.out);have HB5:=Lib.hid (HB4.out.trans (hbA.mono HB4.out.size))
 clear hb3 hbA HB4 Z4
 go_wp2_with fail
 refine (HN.out _).mono ?_
 rintro e w4 ⟨rfl,hb4'⟩
 have Z6:=Lib.hid (keep_blk hb4' Z5.out);have HB6:=Lib.hid (HB5.out.trans (hb4'.mono HB5.out.size))
 clear hb4' HB5 Z5
 go_wp2_with fail
 refine (bytes_is _ _ _ _ _).mono ?_
 rintro e w5 ⟨rfl,hb5⟩
 have Z9:=Lib.hid (keep_blk hb5 Z6.out);have HB9:=Lib.hid (HB6.out.trans (hb5.mono HB6.out.size))
 clear hb5 HB6 Z6
 go_wp2_with (first
   | (refine wpList_store_row rfl 28 (.tmp 2) (.tmp 9) rfl w.heap.size #[.int .i64 2,.int .u64 (Oc.U (Oc.mk (fun x=>!(x == 10)) 0)),.int .u64 (Oc.U (Oc.mk (fun x=>!(x == 10)) 1)),.int .u64 (Oc.U (Oc.mk (fun x=>!(x == 10)) 2)),.int .u64 (Oc.U (Oc.mk (fun x=>!(x == 10)) 3)),.slice none 0 0,.int .i64 0,.int .i64 0,.int .i64 0,.bool false] rfl rfl 28 _ Z9.out (by kernel_rfl) rfl (by simp [Value.oneCell']) ?_)
   | fail)
 exact bodyPost_ret (results_cell_row rfl _ _ w.heap.size 28 #[.int .i64 2,.int .u64 (Oc.U (Oc.mk (fun x=>!(x == 10)) 0)),.int .u64 (Oc.U (Oc.mk (fun x=>!(x == 10)) 1)),.int .u64 (Oc.U (Oc.mk (fun x=>!(x == 10)) 2)),.int .u64 (Oc.U (Oc.mk (fun x=>!(x == 10)) 3)),.slice none 0 0,.int .i64 0,.int .i64 0,.int .i64 0,.bool false] (0,0) _ rfl (heap_setRow Z9.out) Tryz.underlying28 rfl (by kernel_rfl)) rfl ⟨rfl,below_setRow HB9.out (Nat.le_refl _) _⟩
theorem ptdot_any (fl:Int) (w:World):Calls Tryz.prog 161 #[.int .i64 fl] w fun e w'=>e=.returned (.agg ((Ep.dot (nlB fl)).cells (.slice none 0 0)))∧Below w.heap.size w w':=by
 cases hnl:nlB fl with
 | true=>exact ptdot_nl fl hnl w
 | false=>exact ptdot_no fl hnl w
theorem ptplain_no (b:Nat) (hbb:b < 256) (fl:Int) (hic:icB fl=false) (w:World) :
   Calls Tryz.prog 132 #[.int .u8 (b:Int),.int .i64 fl] w fun e w'=>e=.returned (.agg ((Ep.one false b).cells (.slice none 0 0)))∧Below w.heap.size w w':=by
 have hb2:=bit2 fl
 rw [hic] at hb2
 have hb0:Below w.heap.size w (w.alloc (.cells noNode 28)):=(Below.refl _ _).alloc (Nat.le_refl _) _
 have Z4:=Lib.hid (heap_alloc_new w (.cells noNode 28))
 have HB4:=Lib.hid hb0
 clear hic hb0
 go_enter Tryz.func132,Tryz.ntmps132
 go_wp2_with fail
 have hsz:(w.alloc (.cells noNode 28)).heap.size=w.heap.size+1:=by simp
 generalize World.alloc w _=W at *
 refine (of_p b hbb (b:Int) rfl W (w.heap.size+1) hsz _).mono ?_
 rintro e w3 ⟨rfl,hb3⟩
 have hbA:Below W.heap.size W (w3.alloc (.cells #[.int .u64 (Oc.U (Oc.mk (fun x=>x == b) 0)),.int .u64 (Oc.U (Oc.mk (fun x=>x == b) 1)),.int .u64 (Oc.U (Oc.mk (fun x=>x == b) 2)),.int .u64 (Oc.U (Oc.mk (fun x=>x == b) 3))] 25)):=(((Below.refl W.heap.size W).alloc (Nat.le_refl _) _).trans (hb3.mono (by simp))).alloc (by have:=hb3.size;simp at this;omega) _
 have Z5:=Lib.hid (keep_blk hbA Z4.out);have HB5:=Lib.hid (HB4.out.trans (hbA.mono HB4.out.size))
 have S5:=Lib.hid (heap_alloc_new w3 (.cells #[.int .u64 (Oc.U (Oc.mk (fun x=>x == b) 0)),.int .u64 (Oc.U (Oc.mk (fun x=>x == b) 1)),.int .u64 (Oc.U (Oc.mk (fun x=>x == b) 2)),.int .u64 (Oc.U (Oc.mk (fun x=>x == b) 3))] 25))
 have hgw:w3.heap.size ≠ w.heap.size:=by have:=hb3.size;simp at this;omega
 have hgw':w.heap.size ≤ w3.heap.size:=by have:=hb3.size;simp at this;omega
 clear hb3 hbA HB4 Z4
 have Z6:=Lib.hid Z5.out;have HB6:=Lib.hid HB5.out
 clear Z5 HB5
 go_wp2_with (first
   | (refine wpList_load_row rfl 25 (.tmp 5) rfl w3.heap.size rfl 25 _ (0,0) _ S5.out Tryz.underlying25 rfl (by kernel_rfl) ?_)
   | fail)
 refine (bytes_is _ _ _ _ _).mono ?_
 rintro e w5 ⟨rfl,hb5⟩
 have Z9:=Lib.hid (keep_blk hb5 Z6.out);have HB9:=Lib.hid (HB6.out.trans (hb5.mono HB6.out.size))
 clear hb5 HB6 Z6
 go_wp2_with (first
   | (refine wpList_store_row rfl 28 (.tmp 4) (.tmp 15) rfl w.heap.size #[.int .i64 2,.int .u64 (Oc.U (Oc.mk (fun x=>x == b) 0)),.int .u64 (Oc.U (Oc.mk (fun x=>x == b) 1)),.int .u64 (Oc.U (Oc.mk (fun x=>x == b) 2)),.int .u64 (Oc.U (Oc.mk (fun x=>x == b) 3)),.slice none 0 0,.int .i64 0,.int .i64 0,.int .i64 0,.bool false] rfl rfl 28 _ Z9.out (by kernel_rfl) rfl (by simp [Value.oneCell']) ?_)
   | fail)
 exact bodyPost_ret (results_cell_row rfl _ _ w.heap.size 28 #[.int .i64 2,.int .u64 (Oc.U (Oc.mk (fun x=>x == b) 0)),.int .u64 (Oc.U (Oc.mk (fun x=>x == b) 1)),.int .u64 (Oc.U (Oc.mk (fun x=>x == b) 2)),.int .u64 (Oc.U (Oc.mk (fun x=>x == b) 3)),.slice none 0 0,.int .i64 0,.int .i64 0,.int .i64 0,.bool false] (0,0) _ rfl (heap_setRow Z9.out) Tryz.underlying28 rfl (by kernel_rfl)) rfl ⟨rfl,below_setRow HB9.out (Nat.le_refl _) _⟩
theorem ptplain_ic (b:Nat) (hbb:b < 256) (fl:Int) (hic:icB fl=true) (w:World) :
   Calls Tryz.prog 132 #[.int .u8 (b:Int),.int .i64 fl] w fun e w'=>e=.returned (.agg ((Ep.one true b).cells (.slice none 0 0)))∧Below w.heap.size w w':=by
 have hb2:=bit2 fl
 rw [hic] at hb2
 have hb0:Below w.heap.size w (w.alloc (.cells noNode 28)):=(Below.refl _ _).alloc (Nat.le_refl _) _
 have Z4:=Lib.hid (heap_alloc_new w (.cells noNode 28))
 have HB4:=Lib.hid hb0
 clear hic hb0
 go_enter Tryz.func132,Tryz.ntmps132
 go_wp2_with fail
 have hsz:(w.alloc (.cells noNode 28)).heap.size=w.heap.size+1:=by simp
 generalize World.alloc w _=W at *
 refine (of_p b hbb (b:Int) rfl W (w.heap.size+1) hsz _).mono ?_
 rintro e w3 ⟨rfl,hb3⟩
 have hbA:Below W.heap.size W (w3.alloc (.cells #[.int .u64 (Oc.U (Oc.mk (fun x=>x == b) 0)),.int .u64 (Oc.U (Oc.mk (fun x=>x == b) 1)),.int .u64 (Oc.U (Oc.mk (fun x=>x == b) 2)),.int .u64 (Oc.U (Oc.mk (fun x=>x == b) 3))] 25)):=(((Below.refl W.heap.size W).alloc (Nat.le_refl _) _).trans (hb3.mono (by simp))).alloc (by have:=hb3.size;simp at this;omega) _
 have Z5:=Lib.hid (keep_blk hbA Z4.out);have HB5:=Lib.hid (HB4.out.trans (hbA.mono HB4.out.size))
 have S5:=Lib.hid (heap_alloc_new w3 (.cells #[.int .u64 (Oc.U (Oc.mk (fun x=>x == b) 0)),.int .u64 (Oc.U (Oc.mk (fun x=>x == b) 1)),.int .u64 (Oc.U (Oc.mk (fun x=>x == b) 2)),.int .u64 (Oc.U (Oc.mk (fun x=>x == b) 3))] 25))
 have hgw:w3.heap.size ≠ w.heap.size:=by have:=hb3.size;simp at this;omega
 have hgw':w.heap.size ≤ w3.heap.size:=by have:=hb3.size;simp at this;omega
 clear hb3 hbA HB4 Z4
 go_wp2_with (first
   | (refine wpList_load_row rfl 25 (.tmp 5) rfl w3.heap.size rfl 25 _ (0,0) _ S5.out Tryz.underlying25 rfl (by kernel_rfl) ?_)
   | fail)
 generalize World.alloc w3 _=W3 at *
 refine (fold_p _ _).mono ?_
 rintro e w4 ⟨rfl,hb4⟩
 have Z6:=Lib.hid ((heap_setRow_other w4 w3.heap.size #[.int .u64 (Oc.U (Oc.mk (Cl.fold (fun x=>x == b)) 0)),.int .u64 (Oc.U (Oc.mk (Cl.fold (fun x=>x == b)) 1)),.int .u64 (Oc.U (Oc.mk (Cl.fold (fun x=>x == b)) 2)),.int .u64 (Oc.U (Oc.mk (Cl.fold (fun x=>x == b)) 3))] (Ne.symm hgw)).trans (keep_blk hb4 Z5.out))
 have S4:=Lib.hid (keep_blk hb4 S5.out)
 have S6:=Lib.hid (heap_setRow (cs:=#[.int .u64 (Oc.U (Oc.mk (Cl.fold (fun x=>x == b)) 0)),.int .u64 (Oc.U (Oc.mk (Cl.fold (fun x=>x == b)) 1)),.int .u64 (Oc.U (Oc.mk (Cl.fold (fun x=>x == b)) 2)),.int .u64 (Oc.U (Oc.mk (Cl.fold (fun x=>x == b)) 3))]) (keep_blk hb4 S5.out))
 have HB6:=Lib.hid (below_setRow (HB5.out.trans (hb4.mono HB5.out.size)) hgw' #[.int .u64 (Oc.U (Oc.mk (Cl.fold (fun x=>x == b)) 0)),.int .u64 (Oc.U (Oc.mk (Cl.fold (fun x=>x == b)) 1)),.int .u64 (Oc.U (Oc.mk (Cl.fold (fun x=>x == b)) 2)),.int .u64 (Oc.U (Oc.mk (Cl.fold (fun x=>x == b)) 3))])
 clear hb4 HB5 Z5 S5
 go_wp2_with (first
   | (refine wpList_store_row rfl 25 (.tmp 5) (.tmp 13) rfl w3.heap.size #[.int .u64 (Oc.U (Oc.mk (Cl.fold (fun x=>x == b)) 0)),.int .u64 (Oc.U (Oc.mk (Cl.fold (fun x=>x == b)) 1)),.int .u64 (Oc.U (Oc.mk (Cl.fold (fun x=>x == b)) 2)),.int .u64 (Oc.U (Oc.mk (Cl.fold (fun x=>x == b)) 3))] rfl rfl 25 _ S4.out (by kernel_rfl) rfl setC_one ?_)
   | (refine wpList_load_row rfl 25 (.tmp 5) rfl w3.heap.size rfl 25 _ (0,0) _ S6.out Tryz.underlying25 rfl (by kernel_rfl) ?_)
   | fail)
 refine (bytes_is _ _ _ _ _).mono ?_
 rintro e w5 ⟨rfl,hb5⟩
 have Z9:=Lib.hid (keep_blk hb5 Z6.out);have HB9:=Lib.hid (HB6.out.trans (hb5.mono HB6.out.size))
 clear hb5 HB6 Z6
 go_wp2_with (first
   | (refine wpList_store_row rfl 28 (.tmp 4) (.tmp 15) rfl w.heap.size #[.int .i64 2,.int .u64 (Oc.U (Oc.mk (Cl.fold (fun x=>x == b)) 0)),.int .u64 (Oc.U (Oc.mk (Cl.fold (fun x=>x == b)) 1)),.int .u64 (Oc.U (Oc.mk (Cl.fold (fun x=>x == b)) 2)),.int .u64 (Oc.U (Oc.mk (Cl.fold (fun x=>x == b)) 3)),.slice none 0 0,.int .i64 0,.int .i64 0,.int .i64 0,.bool false] rfl rfl 28 _ Z9.out (by kernel_rfl) rfl (by simp [Value.oneCell']) ?_)
   | fail)
 exact bodyPost_ret (results_cell_row rfl _ _ w.heap.size 28 #[.int .i64 2,.int .u64 (Oc.U (Oc.mk (Cl.fold (fun x=>x == b)) 0)),.int .u64 (Oc.U (Oc.mk (Cl.fold (fun x=>x == b)) 1)),.int .u64 (Oc.U (Oc.mk (Cl.fold (fun x=>x == b)) 2)),.int .u64 (Oc.U (Oc.mk (Cl.fold (fun x=>x == b)) 3)),.slice none 0 0,.int .i64 0,.int .i64 0,.int .i64 0,.bool false] (0,0) _ rfl (heap_setRow Z9.out) Tryz.underlying28 rfl (by kernel_rfl)) rfl ⟨rfl,below_setRow HB9.out (Nat.le_refl _) _⟩
theorem ptplain_any (b:Nat) (hbb:b < 256) (fl:Int) (w:World):Calls Tryz.prog 132 #[.int .u8 (b:Int),.int .i64 fl] w fun e w'=>e=.returned (.agg ((Ep.one (icB fl) b).cells (.slice none 0 0)))∧Below w.heap.size w w':=by
 cases hic:icB fl with
 | true=>exact ptplain_ic b hbb fl hic w
 | false=>exact ptplain_no b hbb fl hic w
theorem ptpunct_any (n:Nat) (hn:n < 256) (b:Bool) (hb:Cl.cls 8 n=b) (w:World) :
   Calls Tryz.prog 184 #[.int .u8 (n:Int)] w fun e w'=>e=.returned (.bool b)∧Below w.heap.size w w':=by
 have HK:=Lib.hid (known 8 (by omega)).1
 have HH:=Lib.hid (punct_has n hn b hb)
 clear hb
 go_enter Tryz.func184,Tryz.ntmps184
 go_wp2_with fail
 refine (HK.out _).mono ?_
 rintro e w1 ⟨rfl,hb1⟩
 have HB:=Lib.hid (hb1.alloc hb1.size (.cells #[.int .u64 (Oc.U (Cl.cw 8 0)),.int .u64 (Oc.U (Cl.cw 8 1)),.int .u64 (Oc.U (Cl.cw 8 2)),.int .u64 (Oc.U (Cl.cw 8 3))] 25))
 obtain ⟨d0,d1,d2,d3⟩:=set_cells (heap_alloc_new w1 (.cells #[.int .u64 (Oc.U (Cl.cw 8 0)),.int .u64 (Oc.U (Cl.cw 8 1)),.int .u64 (Oc.U (Cl.cw 8 2)),.int .u64 (Oc.U (Cl.cw 8 3))] 25))
 clear hb1
 go_wp2_with fail
 refine (HH.out _).mono ?_
 rintro e w2 ⟨rfl,hb2⟩
 have HB2:=Lib.hid (HB.out.trans (hb2.mono HB.out.size))
 clear hb2 d0 d1 d2 d3 HB
 go_wp2
 go_ret
 exact ⟨rfl,HB2.out⟩
end Go.Proofs.YtfcilopifjddpaaGreatDoor
namespace Go.Proofs.YtfcilopifjddpaaGreatDoor
open Go.RowKit
def NewAt (N:Nat) (w:World) (v:Value) (b:Bool) (old new:Array Value) (ty:TypeId):Prop:=∃ g,N ≤ g∧v=.pointer (some ⟨g,0,none⟩)∧w.heap[g]? = some (.cells (bif b then new else old) ty)
theorem NewAt.below {N:Nat} {w w':World} {v:Value} {b:Bool} {old new:Array Value} {ty:TypeId} (h:NewAt N w v b old new ty) (hb:Below w.heap.size w w'):NewAt N w' v b old new ty:=by
 obtain ⟨g,h1,h2,h3⟩:=h;exact ⟨g,h1,h2,keep_blk hb h3⟩
theorem NewAt.before {N:Nat} {w:World} {v:Value} {b:Bool} {old new:Array Value} {ty:TypeId} (h:NewAt N w v b old new ty) (hb:b=false):∃ g,N ≤ g∧v=.pointer (some ⟨g,0,none⟩)∧w.heap[g]? = some (.cells old ty):=by
 subst hb;exact h
theorem NewAt.new {N:Nat} {w:World} {b:Bool} {old new:Array Value} {ty:TypeId} (hN:N ≤ w.heap.size) (hb:b=false):NewAt N (w.alloc (.cells old ty)) (.pointer (some ⟨w.heap.size,0,none⟩)) b old new ty:=by
 subst hb;exact ⟨_,hN,rfl,heap_alloc_new _ _⟩
theorem ErrOne.setRow_new {A:Nat→Addr} {B:Nat} {w:World} {v:Value} {c:Nat} {n:Int} (h:ErrOne A B w v c n) {g:Nat} {t:TypeId} (hz:w.heap[g]? = some (.cells #[.int .u64 0,.int .u64 0,.int .u64 0,.int .u64 0] t)) (cs:Array Value):ErrOne A B (w.setRow g cs) v c n:=by
 obtain ⟨k,p,hk,hc,hv,hp,c0,c1⟩:=h
 have hne:p ≠ g:=by
   rintro rfl
   simp [World.cell?,hz] at c0
 exact ⟨k,p,hk,hc,hv,hp,(cell_setRow_other cs hne).trans c0,(cell_setRow_other cs hne).trans c1⟩
def AtEnd (R:Nat) (s:ByteArray) (fl:Int) (g d:Nat) (t:Tr) (j:Nat) (w:World) (e:Ending) (w':World):Prop :=
 e=.returned (.agg (t.cells (.slice none 0 0)))∧w'.heap[R]? = some (.cells (rdC s fl j g d) 85)∧Touch [R] w w'
theorem plain_any (w0:World) (A:Nat→Addr) (w:World) (R:Nat) (s:ByteArray) (hs:s.size ≤ 4294967280) (fl:Int) (i g d:Nat) (hR:RdAt w0 A w R s fl i g d) (hi:i < s.size) :
   Calls Tryz.prog 198 #[.pointer (some ⟨R,0,none⟩)] w (AtEnd R s fl g d (Ep.one (icB fl) (bt s i)) (i+1) w):=by
 have hlt:=hR.lt
 have hb0:Below w.heap.size w (w.alloc (.cells noNode 28)):=(Below.refl _ _).alloc (Nat.le_refl _) _
 have hR1:=hR.later hb0
 have hi0:(0:Int) ≤ i:=by omega
 have hi1:(i:Int) < s.size:=by omega
 have hx:Value.int .u8 (s[i].toNat:Int)=Value.int .u8 ((bt s i:Nat):Int):=by rw [bt_at hi]
 have hbt:bt s i < 256:=(bt_txt s).1 i hi
 have HR1:=Lib.hid hR1
 have Z1:=Lib.hid (heap_alloc_new w (.cells noNode 28))
 have HB1:=Lib.hid hb0
 have HX:=Lib.hid hx
 have hRw:R ≠ w.heap.size:=by omega
 have hw:IntKind.i64.wrap ((i:Int)+1)=(i:Int)+1:=IntWalk.i64_in _ (by omega)
 obtain ⟨c0,-,c2,-,-⟩:=rd5 hR1.cell
 clear hR hR1 hb0 hx
 go_enter Tryz.func198,Tryz.ntmps198
 go_wp2
 go_quiet (fail)
 simp only [HX.out]
 have HR2:Hid (RdAt w0 A ((w.alloc (.cells noNode 28)).drewN nq) R s fl i g d):=Lib.hid (HR1.out.later (drewN_below (Below.refl _ _) nq))
 have Z2:Hid (((w.alloc (.cells noNode 28)).drewN nq).heap[w.heap.size]? = some (.cells noNode 28)):=Lib.hid Z1.out
 have HB2:Hid (Below w.heap.size w ((w.alloc (.cells noNode 28)).drewN nq)):=Lib.hid (drewN_below HB1.out nq)
 clear hi hi0 hi1 HX c0 c2 HR1 Z1 HB1
 generalize World.drewN _ nq=W at *
 obtain ⟨-,c1,c2,-,-⟩:=rd5 HR2.out.cell
 obtain ⟨f2,-,-⟩:=rdf HR2.out.cell
 have HP:=Lib.hid (rd_place HR2.out.cell (i+1) (v:=(i:Int)+1) (by omega))
 have HT:=Lib.hid ((Touch.of_below [R] HB2.out).setCell List.mem_cons_self 2 (.int .i64 ((i:Int)+1)))
 have Z4:=Lib.hid ((Below.heap_setCell W ⟨R,2,none⟩ (.int .i64 ((i:Int)+1)) w.heap.size (Ne.symm hRw)).trans Z2.out)
 clear HR2 HB2 Z2
 go_wp2_with fail
 refine (ptplain_any (bt s i) hbt fl _).mono ?_
 rintro e w5 ⟨rfl,hb5⟩
 have HP5:=Lib.hid (keep_blk hb5 HP.out);have HT5:=Lib.hid (HT.out.later hb5);have Z5:=Lib.hid (keep_blk hb5 Z4.out)
 clear c1 c2 f2 hb5 HP HT Z4
 generalize Ep.one (icB fl) (bt s i)=T at *
 unfold Tr.cells
 go_wp2_with (first
   | (refine wpList_store_row rfl 28 (.tmp 2) (.tmp 25) rfl w.heap.size #[.int .i64 T.kind,.int .u64 (Oc.U T.w0),.int .u64 (Oc.U T.w1),.int .u64 (Oc.U T.w2),.int .u64 (Oc.U T.w3),.slice none 0 0,.int .i64 T.num,.int .i64 T.least,.int .i64 T.most,.bool T.bare] rfl rfl 28 _ Z5.out (by kernel_rfl) rfl (by simp [Value.oneCell']) ?_)
   | fail)
 exact bodyPost_ret (results_cell_row rfl _ _ w.heap.size 28 #[.int .i64 T.kind,.int .u64 (Oc.U T.w0),.int .u64 (Oc.U T.w1),.int .u64 (Oc.U T.w2),.int .u64 (Oc.U T.w3),.slice none 0 0,.int .i64 T.num,.int .i64 T.least,.int .i64 T.most,.bool T.bare] (0,0) _ rfl (heap_setRow Z5.out) Tryz.underlying28 rfl (by kernel_rfl)) rfl ⟨rfl,(heap_setRow_other _ _ _ hRw).trans HP5.out,HT5.out.setRow_new (Nat.le_refl _) _⟩
end Go.Proofs.YtfcilopifjddpaaGreatDoor
namespace Go.Proofs.YtfcilopifjddpaaGreatDoor
open Go.RowKit
theorem place_alloc {w:World} {R:Nat} {s:ByteArray} {fl:Int} {i g d:Nat} (hr:w.heap[R]? = some (.cells (rdC s fl i g d) 85)) (j:Nat) {v:Int} (hv:v=(j:Int)) (o:Obj) :
   ((w.setCell ⟨R,2,none⟩ (.int .i64 v)).alloc o).heap[R]? = some (.cells (rdC s fl j g d) 85)∧Touch [R] w ((w.setCell ⟨R,2,none⟩ (.int .i64 v)).alloc o)∧((w.setCell ⟨R,2,none⟩ (.int .i64 v)).alloc o).heap[w.heap.size]? = some o:=by
 have h1:=rd_place hr j hv
 refine ⟨heap_alloc_lt h1,((Touch.refl [R] w).setCell List.mem_cons_self 2 _).later ((Below.refl _ _).alloc (Nat.le_refl _) _), ?_⟩
 have:=heap_alloc_new (w.setCell ⟨R,2,none⟩ (.int .i64 v)) o
 simpa using this
theorem dot_any (w0:World) (A:Nat→Addr) (w:World) (R:Nat) (s:ByteArray) (hs:s.size ≤ 4294967280) (fl:Int) (i g d:Nat) (hR:RdAt w0 A w R s fl i g d) (hi:i < s.size) :
   Calls Tryz.prog 197 #[.pointer (some ⟨R,0,none⟩)] w (AtEnd R s fl g d (Ep.dot (nlB fl)) (i+1) w):=by
 have hlt:=hR.lt
 have hb0:Below w.heap.size w (w.alloc (.cells noNode 28)):=(Below.refl _ _).alloc (Nat.le_refl _) _
 have hR1:=hR.later hb0
 have hw:IntKind.i64.wrap ((i:Int)+1)=(i:Int)+1:=IntWalk.i64_in _ (by omega)
 have hRw:R ≠ w.heap.size:=by omega
 obtain ⟨-,-,c2,-,-⟩:=rd5 hR1.cell
 obtain ⟨f2,-,-⟩:=rdf hR1.cell
 obtain ⟨hP,hT,hZ⟩:=place_alloc hR.cell (i+1) (v:=(i:Int)+1) (by omega) (.cells noNode 28)
 obtain ⟨-,c1,-,-,-⟩:=rd5 hP
 have HP:=Lib.hid hP;have HT:=Lib.hid hT;have Z4:=Lib.hid hZ
 clear hT hZ hR hb0 hR1 hP
 go_enter Tryz.func197,Tryz.ntmps197
 go_wp2_with fail
 refine (ptdot_any fl _).mono ?_
 rintro e w5 ⟨rfl,hb5⟩
 have HP5:=Lib.hid (keep_blk hb5 HP.out);have HT5:=Lib.hid (HT.out.later hb5);have Z5:=Lib.hid (keep_blk hb5 Z4.out)
 clear c1 c2 f2 hb5 HP HT Z4
 generalize Ep.dot (nlB fl)=T at *
 unfold Tr.cells
 go_wp2_with (first
   | (refine wpList_store_row rfl 28 (.tmp 2) (.tmp 14) rfl w.heap.size #[.int .i64 T.kind,.int .u64 (Oc.U T.w0),.int .u64 (Oc.U T.w1),.int .u64 (Oc.U T.w2),.int .u64 (Oc.U T.w3),.slice none 0 0,.int .i64 T.num,.int .i64 T.least,.int .i64 T.most,.bool T.bare] rfl rfl 28 _ Z5.out (by kernel_rfl) rfl (by simp [Value.oneCell']) ?_)
   | fail)
 exact bodyPost_ret (results_cell_row rfl _ _ w.heap.size 28 #[.int .i64 T.kind,.int .u64 (Oc.U T.w0),.int .u64 (Oc.U T.w1),.int .u64 (Oc.U T.w2),.int .u64 (Oc.U T.w3),.slice none 0 0,.int .i64 T.num,.int .i64 T.least,.int .i64 T.most,.bool T.bare] (0,0) _ rfl (heap_setRow Z5.out) Tryz.underlying28 rfl (by kernel_rfl)) rfl ⟨rfl,(heap_setRow_other _ _ _ hRw).trans HP5.out,HT5.out.setRow_new (Nat.le_refl _) _⟩
end Go.Proofs.YtfcilopifjddpaaGreatDoor
namespace Go.Proofs.YtfcilopifjddpaaGreatDoor
open Go.RowKit
theorem escaped_end (w0:World) (A:Nat→Addr) (w:World) (R:Nat) (s:ByteArray) (hs:s.size ≤ 4294967280) (fl:Int) (i g d:Nat) (hR:RdAt w0 A w R s fl i g d) (hi:i+1=s.size) :
   Calls Tryz.prog 196 #[.pointer (some ⟨R,0,none⟩)] w (NdEnd A R s fl d (.err 8 i) w):=by
 have hlt:=hR.lt
 have hb0:Below w.heap.size w (w.alloc (.cells noNode 28)):=(Below.refl _ _).alloc (Nat.le_refl _) _
 have HR1:=Lib.hid (hR.later hb0)
 have Z1:=Lib.hid (heap_alloc_new w (.cells noNode 28))
 have HB1:=Lib.hid hb0
 have hs1:w.heap.size < (w.alloc (.cells noNode 28)).heap.size:=by simp
 have hw:IntKind.i64.wrap ((i:Int)+1)=(i:Int)+1:=IntWalk.i64_in _ (by omega)
 have he:((i:Int)+1 == (s.size:Int))=true:=by simp;omega
 have hRw:R ≠ w.heap.size:=by omega
 have ce:(w.alloc (.cells noNode 28)).cell? ⟨7,0,none⟩=some (.iface 232 (.pointer (some (A 7)))):=(HR1.out.now.errs 7 (by omega)).1
 obtain ⟨c0,-,c2,-,-⟩:=rd5 HR1.out.cell
 clear hR hb0
 go_enter Tryz.func196,Tryz.ntmps196
 go_wp2_with fail
 generalize World.alloc _ _=W at *
 have HR3:=Lib.hid HR1.out
 have Z3:=Lib.hid Z1.out
 have HB3:=Lib.hid HB1.out
 have hs3:=hs1
 clear HR1 Z1 HB1 hs1 c0 c2
 refine (fails_any w0 A 7 (by omega) W R s fl i g d HR3.out).mono ?_
 intro e w4 he4
 obtain ⟨v,rfl,hv,ht⟩:=he4.err rfl
 have HV:=Lib.hid hv
 have Z4:=Lib.hid ((ht.block w.heap.size hs3 (by simp;omega)).trans Z3.out)
 have HT4:=Lib.hid ((Touch.of_below [R] HB3.out).trans ht)
 clear ht hv he4 ce
 go_wp2_with (first
   | (refine wpList_store_row rfl 28 (.tmp 2) (.tmp 30) rfl w.heap.size noNode rfl rfl 28 _ Z4.out (by kernel_rfl) rfl (by simp [Value.oneCell']) ?_)
   | fail)
 exact bodyPost_ret (results_row_1 rfl _ _ w.heap.size 28 noNode (0,0) _ _ rfl rfl (heap_setRow Z4.out) Tryz.underlying28 rfl (by kernel_rfl)) rfl ⟨⟨_,rfl,by exact (HV.out.setRow hs3 noNode).down (Nat.le_of_lt hs3)⟩,by exact HT4.out.setRow_new (Nat.le_refl _) _⟩
theorem escaped_no (w0:World) (A:Nat→Addr) (w:World) (R:Nat) (s:ByteArray) (hs:s.size ≤ 4294967280) (fl:Int) (i g d:Nat) (hR:RdAt w0 A w R s fl i g d) (hi:i+1 < s.size) (hp:Cl.cls 8 (bt s (i+1))=false) :
   Calls Tryz.prog 196 #[.pointer (some ⟨R,0,none⟩)] w (NdEnd A R s fl d (.err 8 i) w):=by
 have hlt:=hR.lt
 have hb0:Below w.heap.size w (w.alloc (.cells noNode 28)):=(Below.refl _ _).alloc (Nat.le_refl _) _
 have HR1:=Lib.hid (hR.later hb0)
 have Z1:=Lib.hid (heap_alloc_new w (.cells noNode 28))
 have HB1:=Lib.hid hb0
 have hs1:w.heap.size < (w.alloc (.cells noNode 28)).heap.size:=by simp
 have hw:IntKind.i64.wrap ((i:Int)+1)=(i:Int)+1:=IntWalk.i64_in _ (by omega)
 have he:((i:Int)+1 == (s.size:Int))=false:=by simp;omega
 have hRw:R ≠ w.heap.size:=by omega
 have hi0:(0:Int) ≤ (i:Int)+1:=by omega
 have hi1:(i:Int)+1 < s.size:=by omega
 have hbt:bt s (i+1) < 256:=(bt_txt s).1 _ hi
 have HPU:Hid (∀ m:Nat,m=bt s (i+1)→∀ w,Calls Tryz.prog 184 #[.int .u8 (m:Int)] w fun e w'=>e=.returned (.bool false)∧Below w.heap.size w w'):=Lib.hid (fun m hm=>ptpunct_any m (by omega) _ (by rw [hm];exact hp))
 clear hp
 obtain ⟨c0,-,c2,-,-⟩:=rd5 HR1.out.cell
 clear hR hb0
 go_enter Tryz.func196,Tryz.ntmps196
 go_wp2_with fail
 generalize World.alloc _ _=W at *
 refine (HPU.out _ (bt_at hi) _).mono ?_
 rintro e w9 ⟨rfl,hb⟩
 have HR3:=Lib.hid (HR1.out.later hb)
 have Z3:=Lib.hid (keep_blk hb Z1.out)
 have HB3:=Lib.hid (HB1.out.trans (hb.mono HB1.out.size))
 have hs3:w.heap.size < w9.heap.size:=Nat.lt_of_lt_of_le hs1 hb.size
 clear hb HR1 Z1 HB1 c0 c2 hs1
 have ce:w9.cell? ⟨7,0,none⟩=some (.iface 232 (.pointer (some (A 7)))):=(HR3.out.now.errs 7 (by omega)).1
 go_wp2_with fail
 refine (fails_any w0 A 7 (by omega) w9 R s fl i g d HR3.out).mono ?_
 intro e w4 he4
 obtain ⟨v,rfl,hv,ht⟩:=he4.err rfl
 have HV:=Lib.hid hv
 have Z4:=Lib.hid ((ht.block w.heap.size hs3 (by simp;omega)).trans Z3.out)
 have HT4:=Lib.hid ((Touch.of_below [R] HB3.out).trans ht)
 clear ht hv he4 ce
 go_wp2_with (first
   | (refine wpList_store_row rfl 28 (.tmp 2) (.tmp 30) rfl w.heap.size noNode rfl rfl 28 _ Z4.out (by kernel_rfl) rfl (by simp [Value.oneCell']) ?_)
   | fail)
 exact bodyPost_ret (results_row_1 rfl _ _ w.heap.size 28 noNode (0,0) _ _ rfl rfl (heap_setRow Z4.out) Tryz.underlying28 rfl (by kernel_rfl)) rfl ⟨⟨_,rfl,by exact (HV.out.setRow hs3 noNode).down (Nat.le_of_lt hs3)⟩,by exact HT4.out.setRow_new (Nat.le_refl _) _⟩
theorem escaped_ok (w0:World) (A:Nat→Addr) (w:World) (R:Nat) (s:ByteArray) (hs:s.size ≤ 4294967280) (fl:Int) (i g d:Nat) (hR:RdAt w0 A w R s fl i g d) (hi:i+1 < s.size) (hp:Cl.cls 8 (bt s (i+1))=true) :
   Calls Tryz.prog 196 #[.pointer (some ⟨R,0,none⟩)] w (NdEnd A R s fl d (.ok (Ep.one (icB fl) (bt s (i+1))) (i+2) g) w):=by
 have hlt:=hR.lt
 have hb0:Below w.heap.size w (w.alloc (.cells noNode 28)):=(Below.refl _ _).alloc (Nat.le_refl _) _
 have HR1:=Lib.hid (hR.later hb0)
 have Z1:=Lib.hid (heap_alloc_new w (.cells noNode 28))
 have HB1:=Lib.hid hb0
 have hs1:w.heap.size < (w.alloc (.cells noNode 28)).heap.size:=by simp
 have hw:IntKind.i64.wrap ((i:Int)+1)=(i:Int)+1:=IntWalk.i64_in _ (by omega)
 have he:((i:Int)+1 == (s.size:Int))=false:=by simp;omega
 have hRw:R ≠ w.heap.size:=by omega
 have hi0:(0:Int) ≤ (i:Int)+1:=by omega
 have hi1:(i:Int)+1 < s.size:=by omega
 have hbt:bt s (i+1) < 256:=(bt_txt s).1 _ hi
 have HPU:Hid (∀ m:Nat,m=bt s (i+1)→∀ w,Calls Tryz.prog 184 #[.int .u8 (m:Int)] w fun e w'=>e=.returned (.bool true)∧Below w.heap.size w w'):=Lib.hid (fun m hm=>ptpunct_any m (by omega) _ (by rw [hm];exact hp))
 clear hp
 obtain ⟨c0,-,c2,-,-⟩:=rd5 HR1.out.cell
 clear hR hb0
 go_enter Tryz.func196,Tryz.ntmps196
 go_wp2_with fail
 generalize World.alloc _ _=W at *
 refine (HPU.out _ (bt_at hi) _).mono ?_
 rintro e w9 ⟨rfl,hb⟩
 have HR3:=Lib.hid (HR1.out.later hb)
 have Z3:=Lib.hid (keep_blk hb Z1.out)
 have HB3:=Lib.hid (HB1.out.trans (hb.mono HB1.out.size))
 have hs3:w.heap.size < w9.heap.size:=Nat.lt_of_lt_of_le hs1 hb.size
 clear hb HR1 Z1 HB1 c0 c2 hs1
 obtain ⟨-,-,c2,-,-⟩:=rd5 HR3.out.cell
 obtain ⟨f2,-,-⟩:=rdf HR3.out.cell
 have hP:=rd_place HR3.out.cell (i+1) (v:=(i:Int)+1) (by omega)
 have hT:=(Touch.refl [R] w9).setCell List.mem_cons_self 2 (.int .i64 ((i:Int)+1))
 have HR4:=Lib.hid (HR3.out.next hT hP)
 have Z4:=Lib.hid ((Below.heap_setCell w9 ⟨R,2,none⟩ (.int .i64 ((i:Int)+1)) w.heap.size (Ne.symm hRw)).trans Z3.out)
 have HT4:=Lib.hid ((Touch.of_below [R] HB3.out).trans hT)
 clear hP hT HB3 Z3 HR3
 go_wp2_with fail
 have hs4:w.heap.size < (w9.setCell ⟨R,2,none⟩ (.int .i64 ((i:Int)+1))).heap.size:=by simpa using hs3
 generalize World.setCell w9 _ _=W4 at *
 refine (plain_any w0 A W4 R s hs fl (i+1) g d HR4.out hi).mono ?_
 rintro e w5 ⟨rfl,hr5,ht5⟩
 have Z5:=Lib.hid ((ht5.block w.heap.size hs4 (by simp;omega)).trans Z4.out)
 have HT5:=Lib.hid (HT4.out.trans ht5)
 have HR5:=Lib.hid hr5
 clear ht5 hr5 c2 f2
 have HTS:Hid ((Ep.one (icB fl) (bt s (i+1))).subs=[]):=Lib.hid rfl
 generalize Ep.one (icB fl) (bt s (i+1))=T at *
 unfold Tr.cells
 go_wp2_with (first
   | (refine wpList_store_row rfl 28 (.tmp 2) (.tmp 37) rfl w.heap.size #[.int .i64 T.kind,.int .u64 (Oc.U T.w0),.int .u64 (Oc.U T.w1),.int .u64 (Oc.U T.w2),.int .u64 (Oc.U T.w3),.slice none 0 0,.int .i64 T.num,.int .i64 T.least,.int .i64 T.most,.bool T.bare] rfl rfl 28 _ Z5.out (by kernel_rfl) rfl (by simp [Value.oneCell']) ?_)
   | fail)
 refine bodyPost_ret (results_row_1 rfl _ _ w.heap.size 28 #[.int .i64 T.kind,.int .u64 (Oc.U T.w0),.int .u64 (Oc.U T.w1),.int .u64 (Oc.U T.w2),.int .u64 (Oc.U T.w3),.slice none 0 0,.int .i64 T.num,.int .i64 T.least,.int .i64 T.most,.bool T.bare] (0,0) _ _ rfl rfl (heap_setRow Z5.out) Tryz.underlying28 rfl (by kernel_rfl)) rfl ⟨⟨.slice none 0 0,[],rfl, ?_,fun b hb=>(by cases hb),(heap_setRow_other _ _ _ hRw).trans HR5.out⟩,HT5.out.setRow_new (Nat.le_refl _) _⟩
 rw [HTS.out];exact .nil _ _
theorem bracketed_ok (w0:World) (A:Nat→Addr) (w:World) (R:Nat) (s:ByteArray) (hs:s.size ≤ 4294967280) (fl:Int) (i g d:Nat) (hR:RdAt w0 A w R s fl i g d) (hi:bt s i=91) (P:Nat→Bool) (j:Nat) (hw:Br.whole (bt s) s.size i (icB fl) (nlB fl)=.ok P j) :
   Calls Tryz.prog 195 #[.pointer (some ⟨R,0,none⟩)] w (NdEnd A R s fl d (.ok (.bytes P) j g) w):=by
 have hlt:=hR.lt
 have hb0:Below w.heap.size w (w.alloc (.cells noNode 28)):=(Below.refl _ _).alloc (Nat.le_refl _) _
 have HR1:=Lib.hid (hR.later hb0)
 have Z1:=Lib.hid (heap_alloc_new w (.cells noNode 28))
 have HB1:=Lib.hid hb0
 have hs1:w.heap.size < (w.alloc (.cells noNode 28)).heap.size:=by simp
 have HC:=Lib.hid (fun w hE=>whole_does A s hs i hi fl w hE)
 rw [hw] at HC
 clear hR hb0 hw hi
 go_enter Tryz.func195,Tryz.ntmps195
 go_wp2_with fail
 generalize World.alloc _ _=W at *
 refine Ri.wp_region_frame (by kernel_rfl) (by kernel_rfl) (by kernel_rfl) (by kernel_rfl)
   (fun L v w'=>Below W.heap.size W w'∧(L 18=true→L 17=true)∧(L 0=true→v 0=.pointer (some ⟨R,0,none⟩))∧(L 1=true→v 1=.pointer (some ⟨R,0,none⟩))∧(L 2=true→v 2=.pointer (some ⟨R,0,none⟩))∧(L 3=true→v 3=.string s)∧(L 4=true→v 4=.pointer (some ⟨R,0,none⟩))∧(L 5=true→v 5=.pointer (some ⟨R,0,none⟩))∧(L 6=true→v 6=.pointer (some ⟨R,2,none⟩))∧(L 7=true→v 7=.int .i64 i)∧(L 8=true→v 8=.pointer (some ⟨R,0,none⟩))∧(L 9=true→v 9=.pointer (some ⟨R,0,none⟩))∧(L 10=true→v 10=.pointer (some ⟨R,1,none⟩))∧(L 11=true→v 11=.int .i64 fl)∧(L 12=true→v 12=.tuple #[.agg #[.int .u64 (Oc.U (Oc.mk (P) 0)),.int .u64 (Oc.U (Oc.mk (P) 1)),.int .u64 (Oc.U (Oc.mk (P) 2)),.int .u64 (Oc.U (Oc.mk (P) 3))],.int .i64 j,.nilIface])∧(L 13=true→v 13=.tuple #[.agg #[.int .u64 (Oc.U (Oc.mk (P) 0)),.int .u64 (Oc.U (Oc.mk (P) 1)),.int .u64 (Oc.U (Oc.mk (P) 2)),.int .u64 (Oc.U (Oc.mk (P) 3))],.int .i64 j,.nilIface])∧(L 14=true→v 14=.agg #[.int .u64 (Oc.U (Oc.mk (P) 0)),.int .u64 (Oc.U (Oc.mk (P) 1)),.int .u64 (Oc.U (Oc.mk (P) 2)),.int .u64 (Oc.U (Oc.mk (P) 3))])∧(L 15=true→v 15=.int .i64 j)∧(L 16=true→v 16=.nilIface)∧(L 17=true→NewAt W.heap.size w' (v 17) (L 18) #[.int .u64 0,.int .u64 0,.int .u64 0,.int .u64 0] #[.int .u64 (Oc.U (Oc.mk (P) 0)),.int .u64 (Oc.U (Oc.mk (P) 1)),.int .u64 (Oc.U (Oc.mk (P) 2)),.int .u64 (Oc.U (Oc.mk (P) 3))] 25)∧(L 19=true→v 19=.int .i64 j)∧(L 20=true→v 20=.nilIface))
   ?_ ?_ ?_
 · exact ⟨(Below.refl _ _).drew,by simp,by simp,by simp,by simp,by simp,by simp,by simp,by simp,by simp,by simp,by simp,by simp,by simp,by simp,by simp,by simp,by simp,by simp,by simp,by simp,by simp⟩
 · intro i hi9 L v w9 xa hI hL hd hv ho
   have hi':i=0 ∨ i=1 ∨ i=2 ∨ i=3 ∨ i=4 ∨ i=5 ∨ i=6 ∨ i=7 ∨ i=8 ∨ i=9 ∨ i=10 ∨ i=11 ∨ i=12 ∨ i=13 ∨ i=14 ∨ i=15 ∨ i=16 ∨ i=17 ∨ i=18 ∨ i=19 ∨ i=20:=by simp at hi9;omega
   obtain ⟨hb,qd,q0,q1,q2,q3,q4,q5,q6,q7,q8,q9,q10,q11,q12,q13,q14,q15,q16,q17,q19,q20⟩:=hI
   rcases hi' with rfl | rfl | rfl | rfl | rfl | rfl | rfl | rfl | rfl | rfl | rfl | rfl | rfl | rfl | rfl | rfl | rfl | rfl | rfl | rfl | rfl
   · have e0:xa.tmps.getD 0 undef=.pointer (some ⟨R,0,none⟩):=ho 0 (by kernel_rfl)
     refine Ri.step_plain rfl rfl (fun K' hK=>?_)
     go_simp
     exact hK _ _ ⟨_,_,rfl,rfl,hb,qd,fun _=>rfl,q1,q2,q3,q4,q5,q6,q7,q8,q9,q10,q11,q12,q13,q14,q15,q16,q17,q19,q20⟩
   · have l0:L 0=true:=by have:=hd _ rfl;simp [Region.binds] at this;simp [this]
     have f0:=(hv 0 8 rfl l0).trans (q0 l0)
     refine Ri.step_plain rfl rfl (fun K' hK=>?_)
     go_simp
     exact hK _ _ ⟨_,_,rfl,rfl,hb,qd,q0,fun _=>rfl,q2,q3,q4,q5,q6,q7,q8,q9,q10,q11,q12,q13,q14,q15,q16,q17,q19,q20⟩
   · have l0:L 1=true:=by have:=hd _ rfl;simp [Region.binds] at this;simp [this]
     have f1:=(hv 1 9 rfl l0).trans (q1 l0)
     refine Ri.step_plain rfl rfl (fun K' hK=>?_)
     go_simp
     exact hK _ _ ⟨_,_,rfl,rfl,hb,qd,q0,q1,fun _=>rfl,q3,q4,q5,q6,q7,q8,q9,q10,q11,q12,q13,q14,q15,q16,q17,q19,q20⟩
   · have l0:L 2=true:=by have:=hd _ rfl;simp [Region.binds] at this;simp [this]
     have f2:=(hv 2 10 rfl l0).trans (q2 l0)
     refine Ri.step_plain rfl rfl (fun K' hK=>?_)
     obtain ⟨k0,_⟩:=rd5 (keep_blk hb HR1.out.cell)
     go_simp
     exact hK _ _ ⟨_,_,rfl,rfl,hb,qd,q0,q1,q2,fun _=>rfl,q4,q5,q6,q7,q8,q9,q10,q11,q12,q13,q14,q15,q16,q17,q19,q20⟩
   · have e0:xa.tmps.getD 0 undef=.pointer (some ⟨R,0,none⟩):=ho 0 (by kernel_rfl)
     refine Ri.step_plain rfl rfl (fun K' hK=>?_)
     go_simp
     exact hK _ _ ⟨_,_,rfl,rfl,hb,qd,q0,q1,q2,q3,fun _=>rfl,q5,q6,q7,q8,q9,q10,q11,q12,q13,q14,q15,q16,q17,q19,q20⟩
   · have l0:L 4=true:=by have:=hd _ rfl;simp [Region.binds] at this;simp [this]
     have f4:=(hv 4 12 rfl l0).trans (q4 l0)
     refine Ri.step_plain rfl rfl (fun K' hK=>?_)
     go_simp
     exact hK _ _ ⟨_,_,rfl,rfl,hb,qd,q0,q1,q2,q3,q4,fun _=>rfl,q6,q7,q8,q9,q10,q11,q12,q13,q14,q15,q16,q17,q19,q20⟩
   · have l0:L 5=true:=by have:=hd _ rfl;simp [Region.binds] at this;simp [this]
     have f5:=(hv 5 13 rfl l0).trans (q5 l0)
     refine Ri.step_plain rfl rfl (fun K' hK=>?_)
     go_simp
     exact hK _ _ ⟨_,_,rfl,rfl,hb,qd,q0,q1,q2,q3,q4,q5,fun _=>rfl,q7,q8,q9,q10,q11,q12,q13,q14,q15,q16,q17,q19,q20⟩
   · have l0:L 6=true:=by have:=hd _ rfl;simp [Region.binds] at this;simp [this]
     have f6:=(hv 6 14 rfl l0).trans (q6 l0)
     refine Ri.step_plain rfl rfl (fun K' hK=>?_)
     obtain ⟨_,_,k2,_,_⟩:=rd5 (keep_blk hb HR1.out.cell)
     go_simp
     exact hK _ _ ⟨_,_,rfl,rfl,hb,qd,q0,q1,q2,q3,q4,q5,q6,fun _=>rfl,q8,q9,q10,q11,q12,q13,q14,q15,q16,q17,q19,q20⟩
   · have e0:xa.tmps.getD 0 undef=.pointer (some ⟨R,0,none⟩):=ho 0 (by kernel_rfl)
     refine Ri.step_plain rfl rfl (fun K' hK=>?_)
     go_simp
     exact hK _ _ ⟨_,_,rfl,rfl,hb,qd,q0,q1,q2,q3,q4,q5,q6,q7,fun _=>rfl,q9,q10,q11,q12,q13,q14,q15,q16,q17,q19,q20⟩
   · have l0:L 8=true:=by have:=hd _ rfl;simp [Region.binds] at this;simp [this]
     have f8:=(hv 8 16 rfl l0).trans (q8 l0)
     refine Ri.step_plain rfl rfl (fun K' hK=>?_)
     go_simp
     exact hK _ _ ⟨_,_,rfl,rfl,hb,qd,q0,q1,q2,q3,q4,q5,q6,q7,q8,fun _=>rfl,q10,q11,q12,q13,q14,q15,q16,q17,q19,q20⟩
   · have l0:L 9=true:=by have:=hd _ rfl;simp [Region.binds] at this;simp [this]
     have f9:=(hv 9 17 rfl l0).trans (q9 l0)
     refine Ri.step_plain rfl rfl (fun K' hK=>?_)
     go_simp
     exact hK _ _ ⟨_,_,rfl,rfl,hb,qd,q0,q1,q2,q3,q4,q5,q6,q7,q8,q9,fun _=>rfl,q11,q12,q13,q14,q15,q16,q17,q19,q20⟩
   · have l0:L 10=true:=by have:=hd _ rfl;simp [Region.binds] at this;simp [this]
     have f10:=(hv 10 18 rfl l0).trans (q10 l0)
     refine Ri.step_plain rfl rfl (fun K' hK=>?_)
     obtain ⟨_,k1,_,_,_⟩:=rd5 (keep_blk hb HR1.out.cell)
     go_simp
     exact hK _ _ ⟨_,_,rfl,rfl,hb,qd,q0,q1,q2,q3,q4,q5,q6,q7,q8,q9,q10,fun _=>rfl,q12,q13,q14,q15,q16,q17,q19,q20⟩
   · have l0:L 3=true∧L 7=true∧L 11=true:=by have:=hd _ rfl;simp [Region.binds] at this;simp [this]
     have f3:=(hv 3 11 rfl l0.1).trans (q3 l0.1)
     have f7:=(hv 7 15 rfl l0.2.1).trans (q7 l0.2.1)
     have f11:=(hv 11 19 rfl l0.2.2).trans (q11 l0.2.2)
     refine Ri.step_plain rfl rfl (fun K' hK=>?_)
     go_simp
     refine (HC.out _ ((HR1.out.now).below hb)).mono ?_
     rintro e w8 ⟨rfl,hb8⟩
     exact hK _ _ ⟨_,_,rfl,rfl,hb.trans (hb8.mono hb.size),qd,q0,q1,q2,q3,q4,q5,q6,q7,q8,q9,q10,q11,fun _=>rfl,q13,q14,q15,q16,(fun l=>(q17 l).below hb8),q19,q20⟩
   · have l0:L 12=true:=by have:=hd _ rfl;simp [Region.binds] at this;simp [this]
     have f12:=(hv 12 20 rfl l0).trans (q12 l0)
     refine Ri.step_plain rfl rfl (fun K' hK=>?_)
     go_simp
     exact hK _ _ ⟨_,_,rfl,rfl,hb,qd,q0,q1,q2,q3,q4,q5,q6,q7,q8,q9,q10,q11,q12,fun _=>rfl,q14,q15,q16,q17,q19,q20⟩
   · have l0:L 13=true:=by have:=hd _ rfl;simp [Region.binds] at this;simp [this]
     have f13:=(hv 13 7 rfl l0).trans (q13 l0)
     refine Ri.step_plain rfl rfl (fun K' hK=>?_)
     go_simp
     exact hK _ _ ⟨_,_,rfl,rfl,hb,qd,q0,q1,q2,q3,q4,q5,q6,q7,q8,q9,q10,q11,q12,q13,fun _=>rfl,q15,q16,q17,q19,q20⟩
   · have l0:L 13=true:=by have:=hd _ rfl;simp [Region.binds] at this;simp [this]
     have f13:=(hv 13 7 rfl l0).trans (q13 l0)
     refine Ri.step_plain rfl rfl (fun K' hK=>?_)
     go_simp
     exact hK _ _ ⟨_,_,rfl,rfl,hb,qd,q0,q1,q2,q3,q4,q5,q6,q7,q8,q9,q10,q11,q12,q13,q14,fun _=>rfl,q16,q17,q19,q20⟩
   · have l0:L 13=true:=by have:=hd _ rfl;simp [Region.binds] at this;simp [this]
     have f13:=(hv 13 7 rfl l0).trans (q13 l0)
     refine Ri.step_plain rfl rfl (fun K' hK=>?_)
     go_simp
     exact hK _ _ ⟨_,_,rfl,rfl,hb,qd,q0,q1,q2,q3,q4,q5,q6,q7,q8,q9,q10,q11,q12,q13,q14,q15,fun _=>rfl,q17,q19,q20⟩
   · refine Ri.step_plain rfl rfl (fun K' hK=>?_)
     have hl9:L 18=false:=by cases h:L 18 with | false=>rfl | true=>rw [qd h] at hL;cases hL
     go_simp
     exact hK _ _ ⟨_,_,rfl,rfl,hb.alloc hb.size _,(fun l=>rfl),q0,q1,q2,q3,q4,q5,q6,q7,q8,q9,q10,q11,q12,q13,q14,q15,q16,(fun _=>NewAt.new hb.size hl9),q19,q20⟩
   · have l0:L 17=true∧L 14=true:=by have:=hd _ rfl;simp [Region.binds] at this;simp [this]
     have f17:=hv 17 4 rfl l0.1
     have f14:=(hv 14 21 rfl l0.2).trans (q14 l0.2)
     refine Ri.step_plain rfl rfl (fun K' hK=>?_)
     obtain ⟨g9,hg9,hv9,hzg⟩:=(q17 l0.1).before hL
     refine wp_store_row _ _ _ rfl g9 #[.int .u64 (Oc.U (Oc.mk (P) 0)),.int .u64 (Oc.U (Oc.mk (P) 1)),.int .u64 (Oc.U (Oc.mk (P) 2)),.int .u64 (Oc.U (Oc.mk (P) 3))] (f17.trans hv9) f14 25 _ hzg (by kernel_rfl) (by kernel_rfl) setC_one ?_
     exact hK _ _ ⟨_,undef,rfl,rfl,below_setRow hb hg9 _,(fun _=>l0.1),q0,q1,q2,q3,q4,q5,q6,q7,q8,q9,q10,q11,q12,q13,q14,q15,q16,(fun _=>⟨g9,hg9,hv9,heap_setRow hzg⟩),q19,q20⟩
   · have l0:L 15=true:=by have:=hd _ rfl;simp [Region.binds] at this;simp [this]
     have f15:=(hv 15 22 rfl l0).trans (q15 l0)
     refine Ri.step_plain rfl rfl (fun K' hK=>?_)
     go_simp
     exact hK _ _ ⟨_,_,rfl,rfl,hb,qd,q0,q1,q2,q3,q4,q5,q6,q7,q8,q9,q10,q11,q12,q13,q14,q15,q16,q17,fun _=>rfl,q20⟩
   · have l0:L 16=true:=by have:=hd _ rfl;simp [Region.binds] at this;simp [this]
     have f16:=(hv 16 23 rfl l0).trans (q16 l0)
     refine Ri.step_plain rfl rfl (fun K' hK=>?_)
     go_simp
     exact hK _ _ ⟨_,_,rfl,rfl,hb,qd,q0,q1,q2,q3,q4,q5,q6,q7,q8,q9,q10,q11,q12,q13,q14,q15,q16,q17,q19,fun _=>rfl⟩
 · rintro v w9 ⟨hb,-,-,-,-,-,-,-,-,-,-,-,-,-,-,-,-,-,-,q17,q19,q20⟩
   obtain ⟨g9,hg9,q17',hz9⟩:=q17 rfl
   have ZG:=Lib.hid hz9
   have q19':v 19=.int .i64 j:=q19 rfl
   have q20':v 20=.nilIface:=q20 rfl
   simp only [Ri.frame,List.zipIdx,List.foldl_cons,List.foldl_nil,if_true,List.setIfInBounds_toArray,List.set_cons_zero,List.set_cons_succ,Nat.reduceAdd,q19',q20',q17']
   clear q19 q19' q20 q20' q17 q17' hz9
   generalize v 0=y0;generalize v 1=y1;generalize v 2=y2;generalize v 3=y3;generalize v 4=y4;generalize v 5=y5;generalize v 6=y6;generalize v 7=y7;generalize v 8=y8;generalize v 9=y9;generalize v 10=y10;generalize v 11=y11;generalize v 12=y12;generalize v 13=y13;generalize v 14=y14;generalize v 15=y15;generalize v 16=y16
   have HR2:=Lib.hid (HR1.out.later hb)
   have Z2:=Lib.hid (keep_blk hb Z1.out)
   have HB:=Lib.hid (HB1.out.trans (hb.mono HB1.out.size))
   have hgR:g9 ≠ R:=by have:=HR1.out.lt;omega
   have hgw:g9 ≠ w.heap.size:=by omega
   have hRw:R ≠ w.heap.size:=by omega
   clear hb Z1 HB1 HR1
   obtain ⟨-,-,c2,-,-⟩:=rd5 HR2.out.cell
   obtain ⟨f2,-,-⟩:=rdf HR2.out.cell
   have HP:=Lib.hid (rd_place HR2.out.cell j (v:=(j:Int)) rfl)
   have HT:=Lib.hid (((Touch.of_below [R] HB.out).setCell List.mem_cons_self 2 (.int .i64 (j:Int))))
   have G3:=Lib.hid (fun v=>(Below.heap_setCell w9 ⟨R,2,none⟩ v g9 hgR).trans ZG.out)
   have Z4:=Lib.hid (fun v=>(Below.heap_setCell w9 ⟨R,2,none⟩ v w.heap.size (Ne.symm hRw)).trans Z2.out)
   clear HR2 HB ZG Z2
   go_wp2_with (first
     | (refine wpList_load_row rfl 25 (.tmp 4) rfl g9 rfl 25 _ (0,0) _ (G3.out _) Tryz.underlying25 rfl (by kernel_rfl) ?_)
     | fail)
   refine (bytes_is _ _ _ _ _).mono ?_
   rintro e w5 ⟨rfl,hb5⟩
   have Z5:=Lib.hid (keep_blk hb5 (Z4.out _))
   have HP5:=Lib.hid (keep_blk hb5 HP.out)
   have HT5:=Lib.hid (HT.out.later hb5)
   clear c2 f2 hb5 Z4 HP HT
   go_wp2_with (first
     | (refine wpList_store_row rfl 28 (.tmp 2) (.tmp 33) rfl w.heap.size #[.int .i64 2,.int .u64 (Oc.U (Oc.mk (P) 0)),.int .u64 (Oc.U (Oc.mk (P) 1)),.int .u64 (Oc.U (Oc.mk (P) 2)),.int .u64 (Oc.U (Oc.mk (P) 3)),.slice none 0 0,.int .i64 0,.int .i64 0,.int .i64 0,.bool false] rfl rfl 28 _ Z5.out (by kernel_rfl) rfl (by simp [Value.oneCell']) ?_)
     | fail)
   exact bodyPost_ret (results_row_1 rfl _ _ w.heap.size 28 #[.int .i64 2,.int .u64 (Oc.U (Oc.mk (P) 0)),.int .u64 (Oc.U (Oc.mk (P) 1)),.int .u64 (Oc.U (Oc.mk (P) 2)),.int .u64 (Oc.U (Oc.mk (P) 3)),.slice none 0 0,.int .i64 0,.int .i64 0,.int .i64 0,.bool false] (0,0) _ _ rfl rfl (heap_setRow Z5.out) Tryz.underlying28 rfl (by kernel_rfl)) rfl ⟨⟨.slice none 0 0,[],rfl,.nil _ _,fun b hb=>(by cases hb),(heap_setRow_other _ _ _ hRw).trans HP5.out⟩,HT5.out.setRow_new (Nat.le_refl _) _⟩
theorem bracketed_err (w0:World) (A:Nat→Addr) (w:World) (R:Nat) (s:ByteArray) (hs:s.size ≤ 4294967280) (fl:Int) (i g d:Nat) (hR:RdAt w0 A w R s fl i g d) (hi:bt s i=91) (c:Nat) (q:Int) (hw:Br.whole (bt s) s.size i (icB fl) (nlB fl)=.err c q) :
   Calls Tryz.prog 195 #[.pointer (some ⟨R,0,none⟩)] w (NdEnd A R s fl d (.err c q) w):=by
 have hlt:=hR.lt
 have hb0:Below w.heap.size w (w.alloc (.cells noNode 28)):=(Below.refl _ _).alloc (Nat.le_refl _) _
 have HR1:=Lib.hid (hR.later hb0)
 have Z1:=Lib.hid (heap_alloc_new w (.cells noNode 28))
 have HB1:=Lib.hid hb0
 have hs1:w.heap.size < (w.alloc (.cells noNode 28)).heap.size:=by simp
 have HC:=Lib.hid (fun w hE=>whole_does A s hs i hi fl w hE)
 rw [hw] at HC
 clear hR hb0 hw hi
 go_enter Tryz.func195,Tryz.ntmps195
 go_wp2_with fail
 generalize World.alloc _ _=W at *
 refine Ri.wp_region_frame (by kernel_rfl) (by kernel_rfl) (by kernel_rfl) (by kernel_rfl)
   (fun L v w'=>Below W.heap.size W w'∧(L 18=true→L 17=true)∧(L 0=true→v 0=.pointer (some ⟨R,0,none⟩))∧(L 1=true→v 1=.pointer (some ⟨R,0,none⟩))∧(L 2=true→v 2=.pointer (some ⟨R,0,none⟩))∧(L 3=true→v 3=.string s)∧(L 4=true→v 4=.pointer (some ⟨R,0,none⟩))∧(L 5=true→v 5=.pointer (some ⟨R,0,none⟩))∧(L 6=true→v 6=.pointer (some ⟨R,2,none⟩))∧(L 7=true→v 7=.int .i64 i)∧(L 8=true→v 8=.pointer (some ⟨R,0,none⟩))∧(L 9=true→v 9=.pointer (some ⟨R,0,none⟩))∧(L 10=true→v 10=.pointer (some ⟨R,1,none⟩))∧(L 11=true→v 11=.int .i64 fl)∧(L 12=true→(∃ u,(v 12)=.tuple #[.agg #[.int .u64 0,.int .u64 0,.int .u64 0,.int .u64 0],.int .i64 0,u]∧ErrOne A W.heap.size w' u c q))∧(L 13=true→(∃ u,(v 13)=.tuple #[.agg #[.int .u64 0,.int .u64 0,.int .u64 0,.int .u64 0],.int .i64 0,u]∧ErrOne A W.heap.size w' u c q))∧(L 14=true→v 14=.agg #[.int .u64 0,.int .u64 0,.int .u64 0,.int .u64 0])∧(L 15=true→v 15=.int .i64 0)∧(L 16=true→ErrOne A W.heap.size w' (v 16) c q)∧(L 17=true→NewAt W.heap.size w' (v 17) (L 18) #[.int .u64 0,.int .u64 0,.int .u64 0,.int .u64 0] #[.int .u64 0,.int .u64 0,.int .u64 0,.int .u64 0] 25)∧(L 19=true→v 19=.int .i64 0)∧(L 20=true→ErrOne A W.heap.size w' (v 20) c q))
   ?_ ?_ ?_
 · exact ⟨(Below.refl _ _).drew,by simp,by simp,by simp,by simp,by simp,by simp,by simp,by simp,by simp,by simp,by simp,by simp,by simp,by simp,by simp,by simp,by simp,by simp,by simp,by simp,by simp⟩
 · intro i hi9 L v w9 xa hI hL hd hv ho
   have hi':i=0 ∨ i=1 ∨ i=2 ∨ i=3 ∨ i=4 ∨ i=5 ∨ i=6 ∨ i=7 ∨ i=8 ∨ i=9 ∨ i=10 ∨ i=11 ∨ i=12 ∨ i=13 ∨ i=14 ∨ i=15 ∨ i=16 ∨ i=17 ∨ i=18 ∨ i=19 ∨ i=20:=by simp at hi9;omega
   obtain ⟨hb,qd,q0,q1,q2,q3,q4,q5,q6,q7,q8,q9,q10,q11,q12,q13,q14,q15,q16,q17,q19,q20⟩:=hI
   rcases hi' with rfl | rfl | rfl | rfl | rfl | rfl | rfl | rfl | rfl | rfl | rfl | rfl | rfl | rfl | rfl | rfl | rfl | rfl | rfl | rfl | rfl
   · have e0:xa.tmps.getD 0 undef=.pointer (some ⟨R,0,none⟩):=ho 0 (by kernel_rfl)
     refine Ri.step_plain rfl rfl (fun K' hK=>?_)
     go_simp
     exact hK _ _ ⟨_,_,rfl,rfl,hb,qd,fun _=>rfl,q1,q2,q3,q4,q5,q6,q7,q8,q9,q10,q11,q12,q13,q14,q15,q16,q17,q19,q20⟩
   · have l0:L 0=true:=by have:=hd _ rfl;simp [Region.binds] at this;simp [this]
     have f0:=(hv 0 8 rfl l0).trans (q0 l0)
     refine Ri.step_plain rfl rfl (fun K' hK=>?_)
     go_simp
     exact hK _ _ ⟨_,_,rfl,rfl,hb,qd,q0,fun _=>rfl,q2,q3,q4,q5,q6,q7,q8,q9,q10,q11,q12,q13,q14,q15,q16,q17,q19,q20⟩
   · have l0:L 1=true:=by have:=hd _ rfl;simp [Region.binds] at this;simp [this]
     have f1:=(hv 1 9 rfl l0).trans (q1 l0)
     refine Ri.step_plain rfl rfl (fun K' hK=>?_)
     go_simp
     exact hK _ _ ⟨_,_,rfl,rfl,hb,qd,q0,q1,fun _=>rfl,q3,q4,q5,q6,q7,q8,q9,q10,q11,q12,q13,q14,q15,q16,q17,q19,q20⟩
   · have l0:L 2=true:=by have:=hd _ rfl;simp [Region.binds] at this;simp [this]
     have f2:=(hv 2 10 rfl l0).trans (q2 l0)
     refine Ri.step_plain rfl rfl (fun K' hK=>?_)
     obtain ⟨k0,_⟩:=rd5 (keep_blk hb HR1.out.cell)
     go_simp
     exact hK _ _ ⟨_,_,rfl,rfl,hb,qd,q0,q1,q2,fun _=>rfl,q4,q5,q6,q7,q8,q9,q10,q11,q12,q13,q14,q15,q16,q17,q19,q20⟩
   · have e0:xa.tmps.getD 0 undef=.pointer (some ⟨R,0,none⟩):=ho 0 (by kernel_rfl)
     refine Ri.step_plain rfl rfl (fun K' hK=>?_)
     go_simp
     exact hK _ _ ⟨_,_,rfl,rfl,hb,qd,q0,q1,q2,q3,fun _=>rfl,q5,q6,q7,q8,q9,q10,q11,q12,q13,q14,q15,q16,q17,q19,q20⟩
   · have l0:L 4=true:=by have:=hd _ rfl;simp [Region.binds] at this;simp [this]
     have f4:=(hv 4 12 rfl l0).trans (q4 l0)
     refine Ri.step_plain rfl rfl (fun K' hK=>?_)
     go_simp
     exact hK _ _ ⟨_,_,rfl,rfl,hb,qd,q0,q1,q2,q3,q4,fun _=>rfl,q6,q7,q8,q9,q10,q11,q12,q13,q14,q15,q16,q17,q19,q20⟩
   · have l0:L 5=true:=by have:=hd _ rfl;simp [Region.binds] at this;simp [this]
     have f5:=(hv 5 13 rfl l0).trans (q5 l0)
     refine Ri.step_plain rfl rfl (fun K' hK=>?_)
     go_simp
     exact hK _ _ ⟨_,_,rfl,rfl,hb,qd,q0,q1,q2,q3,q4,q5,fun _=>rfl,q7,q8,q9,q10,q11,q12,q13,q14,q15,q16,q17,q19,q20⟩
   · have l0:L 6=true:=by have:=hd _ rfl;simp [Region.binds] at this;simp [this]
     have f6:=(hv 6 14 rfl l0).trans (q6 l0)
     refine Ri.step_plain rfl rfl (fun K' hK=>?_)
     obtain ⟨_,_,k2,_,_⟩:=rd5 (keep_blk hb HR1.out.cell)
     go_simp
     exact hK _ _ ⟨_,_,rfl,rfl,hb,qd,q0,q1,q2,q3,q4,q5,q6,fun _=>rfl,q8,q9,q10,q11,q12,q13,q14,q15,q16,q17,q19,q20⟩
   · have e0:xa.tmps.getD 0 undef=.pointer (some ⟨R,0,none⟩):=ho 0 (by kernel_rfl)
     refine Ri.step_plain rfl rfl (fun K' hK=>?_)
     go_simp
     exact hK _ _ ⟨_,_,rfl,rfl,hb,qd,q0,q1,q2,q3,q4,q5,q6,q7,fun _=>rfl,q9,q10,q11,q12,q13,q14,q15,q16,q17,q19,q20⟩
   · have l0:L 8=true:=by have:=hd _ rfl;simp [Region.binds] at this;simp [this]
     have f8:=(hv 8 16 rfl l0).trans (q8 l0)
     refine Ri.step_plain rfl rfl (fun K' hK=>?_)
     go_simp
     exact hK _ _ ⟨_,_,rfl,rfl,hb,qd,q0,q1,q2,q3,q4,q5,q6,q7,q8,fun _=>rfl,q10,q11,q12,q13,q14,q15,q16,q17,q19,q20⟩
   · have l0:L 9=true:=by have:=hd _ rfl;simp [Region.binds] at this;simp [this]
     have f9:=(hv 9 17 rfl l0).trans (q9 l0)
     refine Ri.step_plain rfl rfl (fun K' hK=>?_)
     go_simp
     exact hK _ _ ⟨_,_,rfl,rfl,hb,qd,q0,q1,q2,q3,q4,q5,q6,q7,q8,q9,fun _=>rfl,q11,q12,q13,q14,q15,q16,q17,q19,q20⟩
   · have l0:L 10=true:=by have:=hd _ rfl;simp [Region.binds] at this;simp [this]
     have f10:=(hv 10 18 rfl l0).trans (q10 l0)
     refine Ri.step_plain rfl rfl (fun K' hK=>?_)
     obtain ⟨_,k1,_,_,_⟩:=rd5 (keep_blk hb HR1.out.cell)
     go_simp
     exact hK _ _ ⟨_,_,rfl,rfl,hb,qd,q0,q1,q2,q3,q4,q5,q6,q7,q8,q9,q10,fun _=>rfl,q12,q13,q14,q15,q16,q17,q19,q20⟩
   · have l0:L 3=true∧L 7=true∧L 11=true:=by have:=hd _ rfl;simp [Region.binds] at this;simp [this]
     have f3:=(hv 3 11 rfl l0.1).trans (q3 l0.1)
     have f7:=(hv 7 15 rfl l0.2.1).trans (q7 l0.2.1)
     have f11:=(hv 11 19 rfl l0.2.2).trans (q11 l0.2.2)
     refine Ri.step_plain rfl rfl (fun K' hK=>?_)
     go_simp
     refine (HC.out _ ((HR1.out.now).below hb)).mono ?_
     rintro e w8 ⟨⟨v8,rfl,hv8⟩,hb8⟩
     exact hK _ _ ⟨_,_,rfl,rfl,hb.trans (hb8.mono hb.size),qd,q0,q1,q2,q3,q4,q5,q6,q7,q8,q9,q10,q11,fun _=>⟨_,rfl,hv8.down hb.size⟩,(fun l=>(q13 l).elim fun u h=>⟨u,h.1,h.2.below hb8⟩),q14,q15,(fun l=>(q16 l).below hb8),(fun l=>(q17 l).below hb8),q19,(fun l=>(q20 l).below hb8)⟩
   · have l0:L 12=true:=by have:=hd _ rfl;simp [Region.binds] at this;simp [this]
     obtain ⟨u9,hu9,hE9⟩:=q12 l0
     have f12:=(hv 12 20 rfl l0).trans hu9
     refine Ri.step_plain rfl rfl (fun K' hK=>?_)
     go_simp
     exact hK _ _ ⟨_,_,rfl,rfl,hb,qd,q0,q1,q2,q3,q4,q5,q6,q7,q8,q9,q10,q11,q12,fun _=>⟨_,rfl,hE9⟩,q14,q15,q16,q17,q19,q20⟩
   · have l0:L 13=true:=by have:=hd _ rfl;simp [Region.binds] at this;simp [this]
     obtain ⟨u9,hu9,hE9⟩:=q13 l0
     have f13:=(hv 13 7 rfl l0).trans hu9
     refine Ri.step_plain rfl rfl (fun K' hK=>?_)
     go_simp
     exact hK _ _ ⟨_,_,rfl,rfl,hb,qd,q0,q1,q2,q3,q4,q5,q6,q7,q8,q9,q10,q11,q12,q13,fun _=>rfl,q15,q16,q17,q19,q20⟩
   · have l0:L 13=true:=by have:=hd _ rfl;simp [Region.binds] at this;simp [this]
     obtain ⟨u9,hu9,hE9⟩:=q13 l0
     have f13:=(hv 13 7 rfl l0).trans hu9
     refine Ri.step_plain rfl rfl (fun K' hK=>?_)
     go_simp
     exact hK _ _ ⟨_,_,rfl,rfl,hb,qd,q0,q1,q2,q3,q4,q5,q6,q7,q8,q9,q10,q11,q12,q13,q14,fun _=>rfl,q16,q17,q19,q20⟩
   · have l0:L 13=true:=by have:=hd _ rfl;simp [Region.binds] at this;simp [this]
     obtain ⟨u9,hu9,hE9⟩:=q13 l0
     have f13:=(hv 13 7 rfl l0).trans hu9
     refine Ri.step_plain rfl rfl (fun K' hK=>?_)
     go_simp
     exact hK _ _ ⟨_,_,rfl,rfl,hb,qd,q0,q1,q2,q3,q4,q5,q6,q7,q8,q9,q10,q11,q12,q13,q14,q15,fun _=>hE9,q17,q19,q20⟩
   · refine Ri.step_plain rfl rfl (fun K' hK=>?_)
     have hl9:L 18=false:=by cases h:L 18 with | false=>rfl | true=>rw [qd h] at hL;cases hL
     go_simp
     exact hK _ _ ⟨_,_,rfl,rfl,hb.alloc hb.size _,(fun l=>rfl),q0,q1,q2,q3,q4,q5,q6,q7,q8,q9,q10,q11,(fun l=>(q12 l).elim fun u h=>⟨u,h.1,h.2.below ((Below.refl _ _).alloc (Nat.le_refl _) _)⟩),(fun l=>(q13 l).elim fun u h=>⟨u,h.1,h.2.below ((Below.refl _ _).alloc (Nat.le_refl _) _)⟩),q14,q15,(fun l=>(q16 l).below ((Below.refl _ _).alloc (Nat.le_refl _) _)),(fun _=>NewAt.new hb.size hl9),q19,(fun l=>(q20 l).below ((Below.refl _ _).alloc (Nat.le_refl _) _))⟩
   · have l0:L 17=true∧L 14=true:=by have:=hd _ rfl;simp [Region.binds] at this;simp [this]
     have f17:=hv 17 4 rfl l0.1
     have f14:=(hv 14 21 rfl l0.2).trans (q14 l0.2)
     refine Ri.step_plain rfl rfl (fun K' hK=>?_)
     obtain ⟨g9,hg9,hv9,hzg⟩:=(q17 l0.1).before hL
     refine wp_store_row _ _ _ rfl g9 #[.int .u64 0,.int .u64 0,.int .u64 0,.int .u64 0] (f17.trans hv9) f14 25 _ hzg (by kernel_rfl) (by kernel_rfl) noSet_one ?_
     exact hK _ _ ⟨_,undef,rfl,rfl,below_setRow hb hg9 _,(fun _=>l0.1),q0,q1,q2,q3,q4,q5,q6,q7,q8,q9,q10,q11,(fun l=>(q12 l).elim fun u h=>⟨u,h.1,h.2.setRow_new hzg _⟩),(fun l=>(q13 l).elim fun u h=>⟨u,h.1,h.2.setRow_new hzg _⟩),q14,q15,(fun l=>(q16 l).setRow_new hzg _),(fun _=>⟨g9,hg9,hv9,heap_setRow hzg⟩),q19,(fun l=>(q20 l).setRow_new hzg _)⟩
   · have l0:L 15=true:=by have:=hd _ rfl;simp [Region.binds] at this;simp [this]
     have f15:=(hv 15 22 rfl l0).trans (q15 l0)
     refine Ri.step_plain rfl rfl (fun K' hK=>?_)
     go_simp
     exact hK _ _ ⟨_,_,rfl,rfl,hb,qd,q0,q1,q2,q3,q4,q5,q6,q7,q8,q9,q10,q11,q12,q13,q14,q15,q16,q17,fun _=>rfl,q20⟩
   · have l0:L 16=true:=by have:=hd _ rfl;simp [Region.binds] at this;simp [this]
     have f16:=hv 16 23 rfl l0
     refine Ri.step_plain rfl rfl (fun K' hK=>?_)
     go_simp
     exact hK _ _ ⟨_,_,rfl,rfl,hb,qd,q0,q1,q2,q3,q4,q5,q6,q7,q8,q9,q10,q11,q12,q13,q14,q15,q16,q17,q19,fun _=>q16 l0⟩
 · rintro v w9 ⟨hb,-,-,-,-,-,-,-,-,-,-,-,-,-,-,-,-,-,-,q17,q19,q20⟩
   obtain ⟨g9,hg9,q17',hz9⟩:=q17 rfl
   have ZG:=Lib.hid hz9
   have q19':v 19=.int .i64 0:=q19 rfl
   have E20:=Lib.hid (q20 rfl)
   simp only [Ri.frame,List.zipIdx,List.foldl_cons,List.foldl_nil,if_true,List.setIfInBounds_toArray,List.set_cons_zero,List.set_cons_succ,Nat.reduceAdd,q19',q17']
   clear q19 q19' q20 q17 q17' hz9
   generalize v 0=y0;generalize v 1=y1;generalize v 2=y2;generalize v 3=y3;generalize v 4=y4;generalize v 5=y5;generalize v 6=y6;generalize v 7=y7;generalize v 8=y8;generalize v 9=y9;generalize v 10=y10;generalize v 11=y11;generalize v 12=y12;generalize v 13=y13;generalize v 14=y14;generalize v 15=y15;generalize v 16=y16;generalize v 20=y20 at *
   have HR2:=Lib.hid (HR1.out.later hb)
   have Z2:=Lib.hid (keep_blk hb Z1.out)
   have HB:=Lib.hid (HB1.out.trans (hb.mono HB1.out.size))
   have hgR:g9 ≠ R:=by have:=HR1.out.lt;omega
   have hgw:g9 ≠ w.heap.size:=by omega
   have hRw:R ≠ w.heap.size:=by omega
   clear hb Z1 HB1 HR1
   obtain ⟨x6,hx6⟩:=E20.out.iface
   subst hx6
   go_wp2_with (first
     | (refine wpList_store_row rfl 28 (.tmp 2) (.tmp 26) rfl w.heap.size noNode rfl rfl 28 _ Z2.out (by kernel_rfl) rfl (by simp [Value.oneCell']) ?_)
     | fail)
   exact bodyPost_ret (results_row_1 rfl _ _ w.heap.size 28 noNode (0,0) _ _ rfl rfl (heap_setRow Z2.out) Tryz.underlying28 rfl (by kernel_rfl)) rfl ⟨⟨_,rfl,by exact (E20.out.setRow hs1 noNode).down (Nat.le_of_lt hs1)⟩,by exact Touch.of_below _ (below_setRow HB.out (Nat.le_refl _) _)⟩
end Go.Proofs.YtfcilopifjddpaaGreatDoor
namespace Go.Proofs.YtfcilopifjddpaaGreatDoor
open Go.RowKit
def NdB (A:Nat→Addr) (R:Nat) (s:ByteArray) (fl:Int) (d:Nat) (O:Ep.Out) (B:Nat) (w:World) (e:Ending) (w':World):Prop :=
 (match O with
 | .ok t j g=>∃ v F,e=.returned (.tuple #[.agg (t.cells v),.nilIface])∧Owned w' v t.subs F∧(∀ b,b ∈ F→B ≤ b)∧w'.heap[R]? = some (.cells (rdC s fl j g d) 85)
 | .err c p=>∃ v,e=.returned (.tuple #[.agg noNode,v])∧ErrOne A B w' v c p)∧Touch [R] w w'
theorem NdB.nd {A:Nat→Addr} {R:Nat} {s:ByteArray} {fl:Int} {d:Nat} {O:Ep.Out} {w:World} {e:Ending} {w':World} (h:NdB A R s fl d O w.heap.size w e w'):NdEnd A R s fl d O w e w':=h
theorem NdEnd.b {A:Nat→Addr} {R:Nat} {s:ByteArray} {fl:Int} {d:Nat} {O:Ep.Out} {w:World} {e:Ending} {w':World} (h:NdEnd A R s fl d O w e w'):NdB A R s fl d O w.heap.size w e w':=h
theorem NdB.pass {A:Nat→Addr} {R:Nat} {s:ByteArray} {fl:Int} {d:Nat} {O:Ep.Out} {B B':Nat} {w W W':World} {e:Ending} (h:NdB A R s fl d O B W e W') (ht:Touch [R] w W) {g:Nat} (hg:g < B) (hg2:w.heap.size ≤ g) (hB:B' ≤ B) (hR:R ≠ g) (cs:Array Value):NdB A R s fl d O B' w e (W'.setRow g cs):=by
 obtain ⟨h1,h2⟩:=h
 refine ⟨?_,(ht.trans h2).setRow_new hg2 cs⟩
 cases O with
 | ok t j g' =>
   obtain ⟨v,F,e1,h3,h4,h5⟩:=h1
   exact ⟨v,F,e1,h3.keep fun b hb=>heap_setRow_other _ _ _ (by have:=h4 b hb;omega),fun b hb=>Nat.le_trans hB (h4 b hb),(heap_setRow_other _ _ _ hR).trans h5⟩
 | err c q =>
   obtain ⟨v,e1,h3⟩:=h1
   exact ⟨v,e1,(h3.setRow hg cs).down hB⟩
theorem Owned.touch {R:Nat} {w w':World} {s:Value} {ts:List Tr} {F:List Nat} {B:Nat} (h:Owned w s ts F) (hF:∀ b,b ∈ F→B ≤ b) (hR:R < B) (ht:Touch [R] w w'):Owned w' s ts F :=
 h.keep fun b hb=>ht.block b (h.lt b hb) (by have:=hF b hb;simp;omega)
theorem repeated_no (w0:World) (A:Nat→Addr) (w:World) (R:Nat) (s:ByteArray) (fl:Int) (i g d:Nat) (hR:RdAt w0 A w R s fl i g d) (t:Tr) (v:Value) (F:List Nat) (B:Nat) (ho:Owned w v t.subs F) (hF:∀ b,b ∈ F→B ≤ b) (_hRB:R < B) (_hB:B ≤ w.heap.size) (hm:[42,43,63,123].any (fun c:UInt8=>c.toNat == bt s i)=false) :
   Calls Tryz.prog 177 #[.pointer (some ⟨R,0,none⟩),.agg (t.cells v)] w (NdB A R s fl d (.ok t i g) B w):=by
 obtain ⟨p,c,rfl,hl⟩:=ho.slice
 have hlt:=hR.lt
 have hb0:Below w.heap.size w ((w.alloc (.cells (t.cells (.slice p t.subs.length c)) 28)).alloc (.cells noNode 28)):=by go_grown
 have HR1:=Lib.hid (hR.later hb0)
 have Z0:=Lib.hid (two_new w (.cells (t.cells (.slice p t.subs.length c)) 28) (.cells noNode 28)).1
 have Z1:=Lib.hid (two_new w (.cells (t.cells (.slice p t.subs.length c)) 28) (.cells noNode 28)).2
 have HB1:=Lib.hid hb0
 have HO1:=Lib.hid (ho.later hb0)
 have hs1:((w.alloc (.cells (t.cells (.slice p t.subs.length c)) 28)).alloc (.cells noNode 28)).heap.size=w.heap.size+2:=by simp
 have HF:=Lib.hid hF;have HFL:=Lib.hid ho.lt
 unfold Tr.cells at *
 clear hR hb0 ho hF
 go_enter Tryz.func177,Tryz.ntmps177
 go_wp2_with fail
 generalize World.alloc (World.alloc _ _) _=W at *
 refine (stands_any [42,43,63,123] _ w0 A W R s fl i g d HR1.out hm).mono ?_
 rintro e w1 ⟨rfl,n,rfl⟩
 have hbn:Below W.heap.size W (W.drewN n):=drewN_below (Below.refl _ _) n
 have HR2:=Lib.hid (HR1.out.later hbn)
 have Y0:Hid ((W.drewN n).heap[w.heap.size]? = some (.cells #[.int .i64 (t).kind,.int .u64 (Oc.U (t).w0),.int .u64 (Oc.U (t).w1),.int .u64 (Oc.U (t).w2),.int .u64 (Oc.U (t).w3),.slice p t.subs.length c,.int .i64 (t).num,.int .i64 (t).least,.int .i64 (t).most,.bool (t).bare] 28)):=Lib.hid Z0.out
 have Y1:Hid ((W.drewN n).heap[w.heap.size+1]? = some (.cells noNode 28)):=Lib.hid Z1.out
 have HB2:=Lib.hid (HB1.out.trans (hbn.mono HB1.out.size))
 have HO2:=Lib.hid (HO1.out.later hbn)
 have hs2:w.heap.size+1 < (W.drewN n).heap.size:=by show w.heap.size+1 < W.heap.size;omega
 clear hbn HR1 Z0 Z1 HB1 HO1 hs1
 generalize World.drewN W n=W2 at *
 go_wp2_with (first
   | (refine wpList_load_row rfl 28 (.tmp 3) rfl w.heap.size rfl 28 _ (0,0) _ Y0.out Tryz.underlying28 rfl (by kernel_rfl) ?_)
   | (refine wpList_store_row rfl 28 (.tmp 4) (.tmp 13) rfl (w.heap.size+1) #[.int .i64 (t).kind,.int .u64 (Oc.U (t).w0),.int .u64 (Oc.U (t).w1),.int .u64 (Oc.U (t).w2),.int .u64 (Oc.U (t).w3),.slice p t.subs.length c,.int .i64 (t).num,.int .i64 (t).least,.int .i64 (t).most,.bool (t).bare] rfl rfl 28 _ Y1.out (by kernel_rfl) rfl (by simp [Value.oneCell']) ?_)
   | fail)
 exact bodyPost_ret (results_row_1 rfl _ _ (w.heap.size+1) 28 #[.int .i64 (t).kind,.int .u64 (Oc.U (t).w0),.int .u64 (Oc.U (t).w1),.int .u64 (Oc.U (t).w2),.int .u64 (Oc.U (t).w3),.slice p t.subs.length c,.int .i64 (t).num,.int .i64 (t).least,.int .i64 (t).most,.bool (t).bare] (0,0) _ _ rfl rfl (heap_setRow Y1.out) Tryz.underlying28 rfl (by kernel_rfl)) rfl ⟨⟨.slice p t.subs.length c,F,rfl,HO2.out.keep fun b hb=>heap_setRow_other _ _ _ (by have:=HFL.out b hb;omega),HF.out,(heap_setRow_other _ _ _ (by omega)).trans HR2.out.cell⟩,Touch.of_below _ (below_setRow HB2.out (Nat.le_succ _) _)⟩
theorem repeated_terr (w0:World) (A:Nat→Addr) (w:World) (R:Nat) (s:ByteArray) (fl:Int) (i g d:Nat) (hR:RdAt w0 A w R s fl i g d) (t:Tr) (v:Value) (F:List Nat) (B:Nat) (ho:Owned w v t.subs F) (hF:∀ b,b ∈ F→B ≤ b) (_hRB:R < B) (hB:B ≤ w.heap.size) (hm:[42,43,63,123].any (fun c:UInt8=>c.toNat == bt s i)=true) (k:Nat) (HC:∀ w,RdAt w0 A w R s fl i g d→Calls Tryz.prog 199 #[.pointer (some ⟨R,0,none⟩)] w (TmEnd A R s fl i g d none k w)) :
   Calls Tryz.prog 177 #[.pointer (some ⟨R,0,none⟩),.agg (t.cells v)] w (NdB A R s fl d (.err k i) B w):=by
 have HC:=Lib.hid HC
 obtain ⟨p,c,rfl,hl⟩:=ho.slice
 have hlt:=hR.lt
 have hb0:Below w.heap.size w ((w.alloc (.cells (t.cells (.slice p t.subs.length c)) 28)).alloc (.cells noNode 28)):=by go_grown
 have HR1:=Lib.hid (hR.later hb0)
 have Z0:=Lib.hid (two_new w (.cells (t.cells (.slice p t.subs.length c)) 28) (.cells noNode 28)).1
 have Z1:=Lib.hid (two_new w (.cells (t.cells (.slice p t.subs.length c)) 28) (.cells noNode 28)).2
 have HB1:=Lib.hid hb0
 have HO1:=Lib.hid (ho.later hb0)
 have hs1:((w.alloc (.cells (t.cells (.slice p t.subs.length c)) 28)).alloc (.cells noNode 28)).heap.size=w.heap.size+2:=by simp
 have HF:=Lib.hid hF;have HFL:=Lib.hid ho.lt
 unfold Tr.cells at *
 clear hR hb0 ho hF
 go_enter Tryz.func177,Tryz.ntmps177
 go_wp2_with fail
 generalize World.alloc (World.alloc _ _) _=W at *
 refine (stands_any [42,43,63,123] _ w0 A W R s fl i g d HR1.out hm).mono ?_
 rintro e w1 ⟨rfl,n,rfl⟩
 have hbn:Below W.heap.size W (W.drewN n):=drewN_below (Below.refl _ _) n
 have HR2:=Lib.hid (HR1.out.later hbn)
 have Y0:Hid ((W.drewN n).heap[w.heap.size]? = some (.cells #[.int .i64 (t).kind,.int .u64 (Oc.U (t).w0),.int .u64 (Oc.U (t).w1),.int .u64 (Oc.U (t).w2),.int .u64 (Oc.U (t).w3),.slice p t.subs.length c,.int .i64 (t).num,.int .i64 (t).least,.int .i64 (t).most,.bool (t).bare] 28)):=Lib.hid Z0.out
 have Y1:Hid ((W.drewN n).heap[w.heap.size+1]? = some (.cells noNode 28)):=Lib.hid Z1.out
 have HB2:=Lib.hid (HB1.out.trans (hbn.mono HB1.out.size))
 have HO2:=Lib.hid (HO1.out.later hbn)
 have hs2:w.heap.size+1 < (W.drewN n).heap.size:=by show w.heap.size+1 < W.heap.size;omega
 clear hbn HR1 Z0 Z1 HB1 HO1 hs1
 generalize World.drewN W n=W2 at *
 obtain ⟨-,-,c2,-,-⟩:=rd5 HR2.out.cell
 go_wp2_with fail
 refine (HC.out _ HR2.out).mono ?_
 intro e w3 he
 obtain ⟨v,rfl,hv,ht3⟩:=he.err rfl
 obtain ⟨x,rfl⟩:=hv.iface
 have HV:=Lib.hid hv
 have hbA:Below w3.heap.size w3 (w3.alloc (.cells #[.int .i64 0,.int .i64 0] 163)):=(Below.refl _ _).alloc (Nat.le_refl _) _
 have Y3:=Lib.hid (keep_blk hbA ((ht3.block (w.heap.size+1) hs2 (by simp;omega)).trans Y1.out))
 have HV3:=Lib.hid (hv.later hbA)
 have HT3:=Lib.hid (((Touch.of_below [R] HB2.out).trans ht3).later hbA)
 clear hv ht3 he c2 hbA
 go_wp2_with (first
   | (refine wpList_store_row rfl 28 (.tmp 4) (.tmp 25) rfl (w.heap.size+1) noNode rfl rfl 28 _ Y3.out (by kernel_rfl) rfl (by simp [Value.oneCell']) ?_)
   | fail)
 exact bodyPost_ret (results_row_1 rfl _ _ (w.heap.size+1) 28 noNode (0,0) _ _ rfl rfl (heap_setRow Y3.out) Tryz.underlying28 rfl (by kernel_rfl)) rfl ⟨⟨_,rfl,by exact (HV3.out.setRow hs2 noNode).down (by omega)⟩,by exact HT3.out.setRow_new (Nat.le_succ _) _⟩
theorem repeated_big (w0:World) (A:Nat→Addr) (w:World) (R:Nat) (s:ByteArray) (fl:Int) (i g d:Nat) (hR:RdAt w0 A w R s fl i g d) (t:Tr) (v:Value) (F:List Nat) (B:Nat) (ho:Owned w v t.subs F) (hF:∀ b,b ∈ F→B ≤ b) (hRB:R < B) (hB:B ≤ w.heap.size) (hm:[42,43,63,123].any (fun c:UInt8=>c.toNat == bt s i)=true) (a b:Int) (j k:Nat) (HC:∀ w,RdAt w0 A w R s fl i g d→Calls Tryz.prog 199 #[.pointer (some ⟨R,0,none⟩)] w (TmEnd A R s fl i g d (some (a,b,j)) k w)) (T:Tr) (hT:Tr.rep a b t=T) (hf:T.InForm) (hbig:2000 < T.szT) :
   Calls Tryz.prog 177 #[.pointer (some ⟨R,0,none⟩),.agg (t.cells v)] w (NdB A R s fl d (.err 10 i) B w):=by
 have HC:=Lib.hid HC
 have hrep:=fun w B v hv=>rep_any t a b w B v hv
 rw [hT] at hrep
 have HREP:=Lib.hid hrep
 clear hrep hT
 obtain ⟨p,c,rfl,hl⟩:=ho.slice
 have hlt:=hR.lt
 have hb0:Below w.heap.size w ((w.alloc (.cells (t.cells (.slice p t.subs.length c)) 28)).alloc (.cells noNode 28)):=by go_grown
 have HR1:=Lib.hid (hR.later hb0)
 have Z0:=Lib.hid (two_new w (.cells (t.cells (.slice p t.subs.length c)) 28) (.cells noNode 28)).1
 have Z1:=Lib.hid (two_new w (.cells (t.cells (.slice p t.subs.length c)) 28) (.cells noNode 28)).2
 have HB1:=Lib.hid hb0
 have HO1:=Lib.hid (ho.later hb0)
 have hs1:((w.alloc (.cells (t.cells (.slice p t.subs.length c)) 28)).alloc (.cells noNode 28)).heap.size=w.heap.size+2:=by simp
 have HF:=Lib.hid hF;have HFL:=Lib.hid ho.lt
 unfold Tr.cells at *
 clear hR hb0 ho hF
 go_enter Tryz.func177,Tryz.ntmps177
 go_wp2_with fail
 generalize World.alloc (World.alloc _ _) _=W at *
 refine (stands_any [42,43,63,123] _ w0 A W R s fl i g d HR1.out hm).mono ?_
 rintro e w1 ⟨rfl,n,rfl⟩
 have hbn:Below W.heap.size W (W.drewN n):=drewN_below (Below.refl _ _) n
 have HR2:=Lib.hid (HR1.out.later hbn)
 have Y0:Hid ((W.drewN n).heap[w.heap.size]? = some (.cells #[.int .i64 (t).kind,.int .u64 (Oc.U (t).w0),.int .u64 (Oc.U (t).w1),.int .u64 (Oc.U (t).w2),.int .u64 (Oc.U (t).w3),.slice p t.subs.length c,.int .i64 (t).num,.int .i64 (t).least,.int .i64 (t).most,.bool (t).bare] 28)):=Lib.hid Z0.out
 have Y1:Hid ((W.drewN n).heap[w.heap.size+1]? = some (.cells noNode 28)):=Lib.hid Z1.out
 have HB2:=Lib.hid (HB1.out.trans (hbn.mono HB1.out.size))
 have HO2:=Lib.hid (HO1.out.later hbn)
 have hs2:w.heap.size+1 < (W.drewN n).heap.size:=by show w.heap.size+1 < W.heap.size;omega
 clear hbn HR1 Z0 Z1 HB1 HO1 hs1
 generalize World.drewN W n=W2 at *
 obtain ⟨-,-,c2,-,-⟩:=rd5 HR2.out.cell
 go_wp2_with fail
 refine (HC.out _ HR2.out).mono ?_
 intro e w3 he
 obtain ⟨rfl,hr3,ht3⟩:=he.ok rfl
 have hbA:Below w3.heap.size w3 (w3.alloc (.cells #[.int .i64 a,.int .i64 b] 163)):=(Below.refl _ _).alloc (Nat.le_refl _) _
 have V0:=Lib.hid (keep_blk hbA ((ht3.block w.heap.size (by omega) (by simp;omega)).trans Y0.out))
 have V1:=Lib.hid (keep_blk hbA ((ht3.block (w.heap.size+1) hs2 (by simp;omega)).trans Y1.out))
 have HT3:=Lib.hid (((Touch.of_below [R] HB2.out).trans ht3).later hbA)
 have HO3:=Lib.hid ((HO2.out.touch HF.out hRB ht3).later hbA)
 have HP3:=Lib.hid (keep_blk hbA hr3)
 have hs3:w.heap.size+1 < (w3.alloc (.cells #[.int .i64 a,.int .i64 b] 163)).heap.size:=Nat.lt_of_lt_of_le hs2 (Nat.le_trans ht3.size hbA.size)
 have hE3:=(HR2.out.next ht3 hr3).later hbA
 have HE3:=Lib.hid hE3
 clear hr3 ht3 he c2 hbA hE3 Y0 Y1 HB2 HO2 HR2

 go_wp2_with (first
   | (refine wpList_load_row rfl 28 (.tmp 3) rfl w.heap.size rfl 28 _ (0,0) _ V0.out Tryz.underlying28 rfl (by kernel_rfl) ?_)
   | fail)
 refine (HREP.out _ (fun b=>b ∈ F) _ ⟨_,rfl,HO3.out.trees⟩).mono ?_
 rintro e w4 ⟨s4,F4,rfl,ho4,hF4,hb4⟩
 obtain ⟨p4,c4,rfl,hl4⟩:=ho4.slice
 have hbB:Below w4.heap.size w4 (w4.alloc (.cells (T.cells (.slice p4 T.subs.length c4)) 28)):=(Below.refl _ _).alloc (Nat.le_refl _) _
 have U1:=Lib.hid (keep_blk hbB (keep_blk hb4 V1.out))
 have HT4:=Lib.hid ((HT3.out.later hb4).later hbB)
 have HP4:=Lib.hid (keep_blk hbB (keep_blk hb4 HP3.out))
 have HO4:=Lib.hid (ho4.later hbB)
 have U9:=Lib.hid (heap_alloc_new w4 (.cells (T.cells (.slice p4 T.subs.length c4)) 28))
 have hs4:w.heap.size+1 < (w4.alloc (.cells (T.cells (.slice p4 T.subs.length c4)) 28)).heap.size:=Nat.lt_of_lt_of_le hs3 (Nat.le_trans hb4.size hbB.size)
 have HE4:=Lib.hid ((HE3.out.later hb4).later hbB)
 have HF4:Hid (∀ b,b ∈ F4→w.heap.size+1 < b):=Lib.hid fun b hb=>Nat.lt_of_lt_of_le hs3 (hF4 b hb)
 clear ho4 hF4 hb4 hbB V0 V1 HT3 HO3 HP3 HE3  hs3
 have hle:=Tr.szT_le T
 have HSZ:=Lib.hid (treeSize_any T hf _ (fun b=>b ∈ F4) _ ⟨_,rfl,HO4.out.trees⟩)
 have hd:decide ((2000:Int) < T.szT)=true:=by simp;omega
 have hd':decide (2000 < T.szT)=true:=by simp;omega
 have HOL:=Lib.hid HO4.out.lt
 generalize T.szT=N at *
 clear hf hbig hle
 unfold Tr.cells at *
 go_wp2_with (first
   | (refine wpList_load_row rfl 28 (.tmp 9) rfl w4.heap.size rfl 28 _ (0,0) _ U9.out Tryz.underlying28 rfl (by kernel_rfl) ?_)
   | fail)
 refine HSZ.out.mono ?_
 rintro e w5 ⟨rfl,hb5⟩
 have X1:=Lib.hid (keep_blk hb5 U1.out)
 have X9:=Lib.hid (keep_blk hb5 U9.out)
 have HT5:=Lib.hid (HT4.out.later hb5)
 have HP5:=Lib.hid (keep_blk hb5 HP4.out)
 have HO5:=Lib.hid (HO4.out.later hb5)
 have HE5:=Lib.hid (HE4.out.later hb5)
 have hs5:w.heap.size+1 < w5.heap.size:=Nat.lt_of_lt_of_le hs4 hb5.size
 clear hb5 U1 U9 HT4 HP4 HO4 HE4 hs4 HSZ
 have ce:w5.cell? ⟨9,0,none⟩=some (.iface 232 (.pointer (some (A 9)))):=(HE5.out.now.errs 9 (by omega)).1
 go_wp2_with fail
 refine (at_err A 9 (by omega) i _).mono ?_
 rintro e w6 ⟨v6,rfl,hv6,hb6⟩
 have X1:=Lib.hid (keep_blk hb6 X1.out)
 have HT6:=Lib.hid (HT5.out.later hb6)
 have HV6:=Lib.hid hv6
 clear hb6 hv6 ce
 go_wp2_with (first
   | (refine wpList_store_row rfl 28 (.tmp 4) (.tmp 36) rfl (w.heap.size+1) noNode rfl rfl 28 _ X1.out (by kernel_rfl) rfl (by simp [Value.oneCell']) ?_)
   | fail)
 exact bodyPost_ret (results_row_1 rfl _ _ (w.heap.size+1) 28 noNode (0,0) _ _ rfl rfl (heap_setRow X1.out) Tryz.underlying28 rfl (by kernel_rfl)) rfl ⟨⟨_,rfl,by exact (HV6.out.setRow hs5 noNode).down (by omega)⟩,by exact HT6.out.setRow_new (Nat.le_succ _) _⟩
theorem repeated_ok (w0:World) (A:Nat→Addr) (w:World) (R:Nat) (s:ByteArray) (fl:Int) (i g d:Nat) (hR:RdAt w0 A w R s fl i g d) (t:Tr) (v:Value) (F:List Nat) (B:Nat) (ho:Owned w v t.subs F) (hF:∀ b,b ∈ F→B ≤ b) (hRB:R < B) (hB:B ≤ w.heap.size) (hm:[42,43,63,123].any (fun c:UInt8=>c.toNat == bt s i)=true) (a b:Int) (j k:Nat) (HC:∀ w,RdAt w0 A w R s fl i g d→Calls Tryz.prog 199 #[.pointer (some ⟨R,0,none⟩)] w (TmEnd A R s fl i g d (some (a,b,j)) k w)) (T:Tr) (hT:Tr.rep a b t=T) (hf:T.InForm) (hbig:T.szT ≤ 2000) :
   Calls Tryz.prog 177 #[.pointer (some ⟨R,0,none⟩),.agg (t.cells v)] w (NdB A R s fl d (.ok T j g) B w):=by
 have HC:=Lib.hid HC
 have hrep:=fun w B v hv=>rep_any t a b w B v hv
 rw [hT] at hrep
 have HREP:=Lib.hid hrep
 clear hrep hT
 obtain ⟨p,c,rfl,hl⟩:=ho.slice
 have hlt:=hR.lt
 have hb0:Below w.heap.size w ((w.alloc (.cells (t.cells (.slice p t.subs.length c)) 28)).alloc (.cells noNode 28)):=by go_grown
 have HR1:=Lib.hid (hR.later hb0)
 have Z0:=Lib.hid (two_new w (.cells (t.cells (.slice p t.subs.length c)) 28) (.cells noNode 28)).1
 have Z1:=Lib.hid (two_new w (.cells (t.cells (.slice p t.subs.length c)) 28) (.cells noNode 28)).2
 have HB1:=Lib.hid hb0
 have HO1:=Lib.hid (ho.later hb0)
 have hs1:((w.alloc (.cells (t.cells (.slice p t.subs.length c)) 28)).alloc (.cells noNode 28)).heap.size=w.heap.size+2:=by simp
 have HF:=Lib.hid hF;have HFL:=Lib.hid ho.lt
 unfold Tr.cells at *
 clear hR hb0 ho hF
 go_enter Tryz.func177,Tryz.ntmps177
 go_wp2_with fail
 generalize World.alloc (World.alloc _ _) _=W at *
 refine (stands_any [42,43,63,123] _ w0 A W R s fl i g d HR1.out hm).mono ?_
 rintro e w1 ⟨rfl,n,rfl⟩
 have hbn:Below W.heap.size W (W.drewN n):=drewN_below (Below.refl _ _) n
 have HR2:=Lib.hid (HR1.out.later hbn)
 have Y0:Hid ((W.drewN n).heap[w.heap.size]? = some (.cells #[.int .i64 (t).kind,.int .u64 (Oc.U (t).w0),.int .u64 (Oc.U (t).w1),.int .u64 (Oc.U (t).w2),.int .u64 (Oc.U (t).w3),.slice p t.subs.length c,.int .i64 (t).num,.int .i64 (t).least,.int .i64 (t).most,.bool (t).bare] 28)):=Lib.hid Z0.out
 have Y1:Hid ((W.drewN n).heap[w.heap.size+1]? = some (.cells noNode 28)):=Lib.hid Z1.out
 have HB2:=Lib.hid (HB1.out.trans (hbn.mono HB1.out.size))
 have HO2:=Lib.hid (HO1.out.later hbn)
 have hs2:w.heap.size+1 < (W.drewN n).heap.size:=by show w.heap.size+1 < W.heap.size;omega
 clear hbn HR1 Z0 Z1 HB1 HO1 hs1
 generalize World.drewN W n=W2 at *
 obtain ⟨-,-,c2,-,-⟩:=rd5 HR2.out.cell
 go_wp2_with fail
 refine (HC.out _ HR2.out).mono ?_
 intro e w3 he
 obtain ⟨rfl,hr3,ht3⟩:=he.ok rfl
 have hbA:Below w3.heap.size w3 (w3.alloc (.cells #[.int .i64 a,.int .i64 b] 163)):=(Below.refl _ _).alloc (Nat.le_refl _) _
 have V0:=Lib.hid (keep_blk hbA ((ht3.block w.heap.size (by omega) (by simp;omega)).trans Y0.out))
 have V1:=Lib.hid (keep_blk hbA ((ht3.block (w.heap.size+1) hs2 (by simp;omega)).trans Y1.out))
 have HT3:=Lib.hid (((Touch.of_below [R] HB2.out).trans ht3).later hbA)
 have HO3:=Lib.hid ((HO2.out.touch HF.out hRB ht3).later hbA)
 have HP3:=Lib.hid (keep_blk hbA hr3)
 have hs3:w.heap.size+1 < (w3.alloc (.cells #[.int .i64 a,.int .i64 b] 163)).heap.size:=Nat.lt_of_lt_of_le hs2 (Nat.le_trans ht3.size hbA.size)
 have hE3:=(HR2.out.next ht3 hr3).later hbA
 have HE3:=Lib.hid hE3
 clear hr3 ht3 he c2 hbA hE3 Y0 Y1 HB2 HO2 HR2

 go_wp2_with (first
   | (refine wpList_load_row rfl 28 (.tmp 3) rfl w.heap.size rfl 28 _ (0,0) _ V0.out Tryz.underlying28 rfl (by kernel_rfl) ?_)
   | fail)
 refine (HREP.out _ (fun b=>b ∈ F) _ ⟨_,rfl,HO3.out.trees⟩).mono ?_
 rintro e w4 ⟨s4,F4,rfl,ho4,hF4,hb4⟩
 obtain ⟨p4,c4,rfl,hl4⟩:=ho4.slice
 have hbB:Below w4.heap.size w4 (w4.alloc (.cells (T.cells (.slice p4 T.subs.length c4)) 28)):=(Below.refl _ _).alloc (Nat.le_refl _) _
 have U1:=Lib.hid (keep_blk hbB (keep_blk hb4 V1.out))
 have HT4:=Lib.hid ((HT3.out.later hb4).later hbB)
 have HP4:=Lib.hid (keep_blk hbB (keep_blk hb4 HP3.out))
 have HO4:=Lib.hid (ho4.later hbB)
 have U9:=Lib.hid (heap_alloc_new w4 (.cells (T.cells (.slice p4 T.subs.length c4)) 28))
 have hs4:w.heap.size+1 < (w4.alloc (.cells (T.cells (.slice p4 T.subs.length c4)) 28)).heap.size:=Nat.lt_of_lt_of_le hs3 (Nat.le_trans hb4.size hbB.size)
 have HE4:=Lib.hid ((HE3.out.later hb4).later hbB)
 have HF4:Hid (∀ b,b ∈ F4→w.heap.size+1 < b):=Lib.hid fun b hb=>Nat.lt_of_lt_of_le hs3 (hF4 b hb)
 clear ho4 hF4 hb4 hbB V0 V1 HT3 HO3 HP3 HE3  hs3
 have hle:=Tr.szT_le T
 have HSZ:=Lib.hid (treeSize_any T hf _ (fun b=>b ∈ F4) _ ⟨_,rfl,HO4.out.trees⟩)
 have hd:decide ((2000:Int) < T.szT)=false:=by simp;omega
 have hd':decide (2000 < T.szT)=false:=by simp;omega
 have HOL:=Lib.hid HO4.out.lt
 generalize T.szT=N at *
 clear hf hbig hle
 unfold Tr.cells at *
 go_wp2_with (first
   | (refine wpList_load_row rfl 28 (.tmp 9) rfl w4.heap.size rfl 28 _ (0,0) _ U9.out Tryz.underlying28 rfl (by kernel_rfl) ?_)
   | fail)
 refine HSZ.out.mono ?_
 rintro e w5 ⟨rfl,hb5⟩
 have X1:=Lib.hid (keep_blk hb5 U1.out)
 have X9:=Lib.hid (keep_blk hb5 U9.out)
 have HT5:=Lib.hid (HT4.out.later hb5)
 have HP5:=Lib.hid (keep_blk hb5 HP4.out)
 have HO5:=Lib.hid (HO4.out.later hb5)
 have HE5:=Lib.hid (HE4.out.later hb5)
 have hs5:w.heap.size+1 < w5.heap.size:=Nat.lt_of_lt_of_le hs4 hb5.size
 clear hb5 U1 U9 HT4 HP4 HO4 HE4 hs4 HSZ
 go_wp2_with (first
   | (refine wpList_load_row rfl 28 (.tmp 9) rfl w4.heap.size rfl 28 _ (0,0) _ X9.out Tryz.underlying28 rfl (by kernel_rfl) ?_)
   | (refine wpList_store_row rfl 28 (.tmp 4) (.tmp 40) rfl (w.heap.size+1) #[.int .i64 (T).kind,.int .u64 (Oc.U (T).w0),.int .u64 (Oc.U (T).w1),.int .u64 (Oc.U (T).w2),.int .u64 (Oc.U (T).w3),.slice p4 T.subs.length c4,.int .i64 (T).num,.int .i64 (T).least,.int .i64 (T).most,.bool (T).bare] rfl rfl 28 _ X1.out (by kernel_rfl) rfl (by simp [Value.oneCell']) ?_)
   | fail)
 exact bodyPost_ret (results_row_1 rfl _ _ (w.heap.size+1) 28 #[.int .i64 (T).kind,.int .u64 (Oc.U (T).w0),.int .u64 (Oc.U (T).w1),.int .u64 (Oc.U (T).w2),.int .u64 (Oc.U (T).w3),.slice p4 T.subs.length c4,.int .i64 (T).num,.int .i64 (T).least,.int .i64 (T).most,.bool (T).bare] (0,0) _ _ rfl rfl (heap_setRow X1.out) Tryz.underlying28 rfl (by kernel_rfl)) rfl ⟨⟨.slice p4 T.subs.length c4,F4,rfl,HO5.out.keep fun b hb=>heap_setRow_other _ _ _ (by have:=HF4.out b hb;omega),fun b hb=>by have:=HF4.out b hb;omega,(heap_setRow_other _ _ _ (by omega)).trans HP5.out⟩,HT5.out.setRow_new (Nat.le_succ _) _⟩
theorem repeated_counted (w0:World) (A:Nat→Addr) (w:World) (R:Nat) (s:ByteArray) (fl:Int) (i g d:Nat) (hR:RdAt w0 A w R s fl i g d) (t:Tr) (v:Value) (F:List Nat) (B:Nat) (ho:Owned w v t.subs F) (hF:∀ b,b ∈ F→B ≤ b) (hRB:R < B) (hB:B ≤ w.heap.size) (hm:[42,43,63,123].any (fun c:UInt8=>c.toNat == bt s i)=true) (a b:Int) (j k:Nat) (HC:∀ w,RdAt w0 A w R s fl i g d→Calls Tryz.prog 199 #[.pointer (some ⟨R,0,none⟩)] w (TmEnd A R s fl i g d (some (a,b,j)) k w)) (h1:0 ≤ a) (h2:a ≤ 255) (h3:b = -1 ∨ (a ≤ b∧b ≤ 255)) (ht:t.InForm) :
   Calls Tryz.prog 177 #[.pointer (some ⟨R,0,none⟩),.agg (t.cells v)] w (NdB A R s fl d (Ep.counted t a b i j g) B w):=by
 unfold Ep.counted
 by_cases hbig:2000 < (Tr.rep a b t).szT
 · rw [if_pos hbig];exact repeated_big w0 A w R s fl i g d hR t v F B ho hF hRB hB hm a b j k HC _ rfl (Ep.form_rep a b t h1 h2 h3 ht) hbig
 · rw [if_neg hbig];exact repeated_ok w0 A w R s fl i g d hR t v F B ho hF hRB hB hm a b j k HC _ rfl (Ep.form_rep a b t h1 h2 h3 ht) (by omega)
theorem repeated_any (w0:World) (A:Nat→Addr) (w:World) (R:Nat) (s:ByteArray) (hs:s.size ≤ 4294967280) (fl:Int) (i g d:Nat) (hR:RdAt w0 A w R s fl i g d) (t:Tr) (v:Value) (F:List Nat) (B:Nat) (ho:Owned w v t.subs F) (hF:∀ b,b ∈ F→B ≤ b) (hRB:R < B) (hB:B ≤ w.heap.size) (ht:t.InForm) :
   Calls Tryz.prog 177 #[.pointer (some ⟨R,0,none⟩),.agg (t.cells v)] w (NdB A R s fl d (Ep.rep (bt s) s.size t i g) B w):=by
 have mark:∀ n,(n=42 ∨ n=43 ∨ n=63 ∨ n=123)→bt s i=n→[42,43,63,123].any (fun c:UInt8=>c.toNat == bt s i)=true:=by
   intro n hn hc
   rw [hc]
   rcases hn with rfl | rfl | rfl | rfl <;> decide
 unfold Ep.rep
 by_cases h42:bt s i=42
 · rw [if_pos h42]
   have hi:=(bt_txt s).lt h42 (by omega)
   exact repeated_counted w0 A w R s fl i g d hR t v F B ho hF hRB hB (mark 42 (by omega) h42) 0 (-1) _ 0 (fun w hR=>times_star w0 A w R s fl i g d hR hi hs h42) (by omega) (by omega) (by omega) ht
 rw [if_neg h42]
 by_cases h43:bt s i=43
 · rw [if_pos h43]
   have hi:=(bt_txt s).lt h43 (by omega)
   exact repeated_counted w0 A w R s fl i g d hR t v F B ho hF hRB hB (mark 43 (by omega) h43) 1 (-1) _ 0 (fun w hR=>times_plus w0 A w R s fl i g d hR hi hs h43) (by omega) (by omega) (by omega) ht
 rw [if_neg h43]
 by_cases h63:bt s i=63
 · rw [if_pos h63]
   have hi:=(bt_txt s).lt h63 (by omega)
   exact repeated_counted w0 A w R s fl i g d hR t v F B ho hF hRB hB (mark 63 (by omega) h63) 0 1 _ 0 (fun w hR=>times_maybe w0 A w R s fl i g d hR hi hs h63) (by omega) (by omega) (by omega) ht
 rw [if_neg h63]
 by_cases h123:bt s i=123
 · rw [if_pos h123]
   have hi:=(bt_txt s).lt h123 (by omega)
   have hm:=mark 123 (by omega) h123
   cases hf:Ep.find (bt s) 125 (s.size - (i+1)) (i+1) with
   | none=>exact repeated_terr w0 A w R s fl i g d hR t v F B ho hF hRB hB hm 3 fun w hR=>times_braced_none w0 A w R s hs fl i g d hR hi h123 hf
   | some e =>
     cases hn:Ep.counts (bt s) (i+1) e with
     | none =>
       simp only [hn]
       exact repeated_terr w0 A w R s fl i g d hR t v F B ho hF hRB hB hm 4 fun w hR=>times_braced_bad w0 A w R s hs fl i g d hR hi h123 e hf hn
     | some ab =>
       obtain ⟨a,b⟩:=ab
       obtain ⟨h1,h2,h3⟩:=Ep.counts_ok hn
       simp only [hn]
       exact repeated_counted w0 A w R s fl i g d hR t v F B ho hF hRB hB hm a b _ 0 (fun w hR=>times_braced_ok w0 A w R s hs fl i g d hR hi h123 e hf a b hn) h1 h2 h3 ht
 · rw [if_neg h123]
   refine repeated_no w0 A w R s fl i g d hR t v F B ho hF hRB hB ?_
   simp only [List.any_cons,List.any_nil,Bool.or_false]
   simp only [show (42:UInt8).toNat=42 from rfl,show (43:UInt8).toNat=43 from rfl,show (63:UInt8).toNat=63 from rfl,show (123:UInt8).toNat=123 from rfl]
   simp;omega
end Go.Proofs.YtfcilopifjddpaaGreatDoor
namespace Go.Proofs.YtfcilopifjddpaaGreatDoor
open Go.RowKit
theorem atom_group_ok (w0:World) (A:Nat→Addr) (w:World) (R:Nat) (s:ByteArray) (fl:Int) (i g d:Nat) (hR:RdAt w0 A w R s fl i g d) (hi:i < s.size) (hc:bt s i=40) (t:Tr) (j g':Nat) (HC:∀ w,RdAt w0 A w R s fl i g d→Calls Tryz.prog 194 #[.pointer (some ⟨R,0,none⟩)] w (NdEnd A R s fl d (.ok t j g') w)) :
   Calls Tryz.prog 176 #[.pointer (some ⟨R,0,none⟩)] w (NdEnd A R s fl d (.ok t j g') w):=by
 have HC:=Lib.hid HC
 have hlt:=hR.lt
 have hb0:Below w.heap.size w (w.alloc (.cells noNode 28)):=(Below.refl _ _).alloc (Nat.le_refl _) _
 have hR1:=hR.later hb0
 obtain ⟨c0,c1,c2,-,-⟩:=rd5 hR1.cell
 have hi0:(0:Int) ≤ i:=by omega
 have hi1:(i:Int) < s.size:=by omega
 have HR1:=Lib.hid hR1
 have HX:Hid ((s[i].toNat:Int)=40):=Lib.hid (by rw [bt_at hi,hc];rfl)
 clear hR hR1 hc
 go_enter Tryz.func176,Tryz.ntmps176
 go_wp2
 go_quiet (fail)
 have Z0:=Lib.hid (heap_alloc_new w (.cells noNode 28))
 have HR:=Lib.hid (HR1.out.later (drewN_below (Below.refl _ _) nq))
 have HB0:Hid (Below w.heap.size w ((w.alloc (.cells noNode 28)).drewN nq)):=Lib.hid (drewN_below (by go_grown) nq)
 have Z1:Hid (((w.alloc (.cells noNode 28)).drewN nq).heap[w.heap.size]? = some (.cells noNode 28)):=Lib.hid Z0.out
 have hsW:w.heap.size < ((w.alloc (.cells noNode 28)).drewN nq).heap.size:=by simp
 clear c0 c1 c2 HR1 Z0
 rw [HX.out]
 clear HX
 generalize World.drewN _ _=W at *
 have hRne:R ≠ w.heap.size:=by omega
 go_wp2_with fail
 refine (HC.out _ HR.out).mono ?_
 intro e w2 he
 have he':=he
 obtain ⟨v,F,rfl,ho,hF,hr2,ht2⟩:=he.ok rfl
 obtain ⟨p,c,rfl,hl⟩:=ho.slice
 have HE:=Lib.hid he'
 have Z2:=Lib.hid ((ht2.block w.heap.size hsW (by simp;omega)).trans Z1.out)
 clear ho hF hr2 ht2 he he' 
 unfold Tr.cells at *
 go_wp2_with (first
   | (refine wpList_store_row rfl 28 (.tmp 2) (.tmp 17) rfl w.heap.size #[.int .i64 (t).kind,.int .u64 (Oc.U (t).w0),.int .u64 (Oc.U (t).w1),.int .u64 (Oc.U (t).w2),.int .u64 (Oc.U (t).w3),.slice p t.subs.length c,.int .i64 (t).num,.int .i64 (t).least,.int .i64 (t).most,.bool (t).bare] rfl rfl 28 _ Z2.out (by kernel_rfl) rfl (by simp [Value.oneCell']) ?_)
   | fail)
 exact bodyPost_ret (results_row_1 rfl _ _ w.heap.size 28 #[.int .i64 (t).kind,.int .u64 (Oc.U (t).w0),.int .u64 (Oc.U (t).w1),.int .u64 (Oc.U (t).w2),.int .u64 (Oc.U (t).w3),.slice p t.subs.length c,.int .i64 (t).num,.int .i64 (t).least,.int .i64 (t).most,.bool (t).bare] (0,0) _ _ rfl rfl (heap_setRow Z2.out) Tryz.underlying28 rfl (by kernel_rfl)) rfl (by exact (HE.out.b.pass (Touch.of_below [R] HB0.out) hsW (Nat.le_refl _) (Nat.le_of_lt hsW) hRne _).nd)
theorem atom_group_err (w0:World) (A:Nat→Addr) (w:World) (R:Nat) (s:ByteArray) (fl:Int) (i g d:Nat) (hR:RdAt w0 A w R s fl i g d) (hi:i < s.size) (hc:bt s i=40) (c:Nat) (q:Int) (HC:∀ w,RdAt w0 A w R s fl i g d→Calls Tryz.prog 194 #[.pointer (some ⟨R,0,none⟩)] w (NdEnd A R s fl d (.err c q) w)) :
   Calls Tryz.prog 176 #[.pointer (some ⟨R,0,none⟩)] w (NdEnd A R s fl d (.err c q) w):=by
 have HC:=Lib.hid HC
 have hlt:=hR.lt
 have hb0:Below w.heap.size w (w.alloc (.cells noNode 28)):=(Below.refl _ _).alloc (Nat.le_refl _) _
 have hR1:=hR.later hb0
 obtain ⟨c0,c1,c2,-,-⟩:=rd5 hR1.cell
 have hi0:(0:Int) ≤ i:=by omega
 have hi1:(i:Int) < s.size:=by omega
 have HR1:=Lib.hid hR1
 have HX:Hid ((s[i].toNat:Int)=40):=Lib.hid (by rw [bt_at hi,hc];rfl)
 clear hR hR1 hc
 go_enter Tryz.func176,Tryz.ntmps176
 go_wp2
 go_quiet (fail)
 have Z0:=Lib.hid (heap_alloc_new w (.cells noNode 28))
 have HR:=Lib.hid (HR1.out.later (drewN_below (Below.refl _ _) nq))
 have HB0:Hid (Below w.heap.size w ((w.alloc (.cells noNode 28)).drewN nq)):=Lib.hid (drewN_below (by go_grown) nq)
 have Z1:Hid (((w.alloc (.cells noNode 28)).drewN nq).heap[w.heap.size]? = some (.cells noNode 28)):=Lib.hid Z0.out
 have hsW:w.heap.size < ((w.alloc (.cells noNode 28)).drewN nq).heap.size:=by simp
 clear c0 c1 c2 HR1 Z0
 rw [HX.out]
 clear HX
 generalize World.drewN _ _=W at *
 have hRne:R ≠ w.heap.size:=by omega
 go_wp2_with fail
 refine (HC.out _ HR.out).mono ?_
 intro e w2 he
 have he':=he
 obtain ⟨v,rfl,hv,ht2⟩:=he.err rfl
 have HE:=Lib.hid he'
 have Z2:=Lib.hid ((ht2.block w.heap.size hsW (by simp;omega)).trans Z1.out)
 clear hv ht2 he he' 
 go_wp2_with (first
   | (refine wpList_store_row rfl 28 (.tmp 2) (.tmp 17) rfl w.heap.size noNode rfl rfl 28 _ Z2.out (by kernel_rfl) rfl (by simp [Value.oneCell']) ?_)
   | fail)
 exact bodyPost_ret (results_row_1 rfl _ _ w.heap.size 28 noNode (0,0) _ _ rfl rfl (heap_setRow Z2.out) Tryz.underlying28 rfl (by kernel_rfl)) rfl (by exact (HE.out.b.pass (Touch.of_below [R] HB0.out) hsW (Nat.le_refl _) (Nat.le_of_lt hsW) hRne _).nd)
theorem atom_bracket_ok (w0:World) (A:Nat→Addr) (w:World) (R:Nat) (s:ByteArray) (fl:Int) (i g d:Nat) (hR:RdAt w0 A w R s fl i g d) (hi:i < s.size) (hc:bt s i=91) (t:Tr) (j g':Nat) (HC:∀ w,RdAt w0 A w R s fl i g d→Calls Tryz.prog 195 #[.pointer (some ⟨R,0,none⟩)] w (NdEnd A R s fl d (.ok t j g') w)) :
   Calls Tryz.prog 176 #[.pointer (some ⟨R,0,none⟩)] w (NdEnd A R s fl d (.ok t j g') w):=by
 have HC:=Lib.hid HC
 have hlt:=hR.lt
 have hb0:Below w.heap.size w (w.alloc (.cells noNode 28)):=(Below.refl _ _).alloc (Nat.le_refl _) _
 have hR1:=hR.later hb0
 obtain ⟨c0,c1,c2,-,-⟩:=rd5 hR1.cell
 have hi0:(0:Int) ≤ i:=by omega
 have hi1:(i:Int) < s.size:=by omega
 have HR1:=Lib.hid hR1
 have HX:Hid ((s[i].toNat:Int)=91):=Lib.hid (by rw [bt_at hi,hc];rfl)
 clear hR hR1 hc
 go_enter Tryz.func176,Tryz.ntmps176
 go_wp2
 go_quiet (fail)
 have Z0:=Lib.hid (heap_alloc_new w (.cells noNode 28))
 have HR:=Lib.hid (HR1.out.later (drewN_below (Below.refl _ _) nq))
 have HB0:Hid (Below w.heap.size w ((w.alloc (.cells noNode 28)).drewN nq)):=Lib.hid (drewN_below (by go_grown) nq)
 have Z1:Hid (((w.alloc (.cells noNode 28)).drewN nq).heap[w.heap.size]? = some (.cells noNode 28)):=Lib.hid Z0.out
 have hsW:w.heap.size < ((w.alloc (.cells noNode 28)).drewN nq).heap.size:=by simp
 clear c0 c1 c2 HR1 Z0
 rw [HX.out]
 clear HX
 generalize World.drewN _ _=W at *
 have hRne:R ≠ w.heap.size:=by omega
 go_wp2_with fail
 refine (HC.out _ HR.out).mono ?_
 intro e w2 he
 have he':=he
 obtain ⟨v,F,rfl,ho,hF,hr2,ht2⟩:=he.ok rfl
 obtain ⟨p,c,rfl,hl⟩:=ho.slice
 have HE:=Lib.hid he'
 have Z2:=Lib.hid ((ht2.block w.heap.size hsW (by simp;omega)).trans Z1.out)
 clear ho hF hr2 ht2 he he' 
 unfold Tr.cells at *
 go_wp2_with (first
   | (refine wpList_store_row rfl 28 (.tmp 2) (.tmp 23) rfl w.heap.size #[.int .i64 (t).kind,.int .u64 (Oc.U (t).w0),.int .u64 (Oc.U (t).w1),.int .u64 (Oc.U (t).w2),.int .u64 (Oc.U (t).w3),.slice p t.subs.length c,.int .i64 (t).num,.int .i64 (t).least,.int .i64 (t).most,.bool (t).bare] rfl rfl 28 _ Z2.out (by kernel_rfl) rfl (by simp [Value.oneCell']) ?_)
   | fail)
 exact bodyPost_ret (results_row_1 rfl _ _ w.heap.size 28 #[.int .i64 (t).kind,.int .u64 (Oc.U (t).w0),.int .u64 (Oc.U (t).w1),.int .u64 (Oc.U (t).w2),.int .u64 (Oc.U (t).w3),.slice p t.subs.length c,.int .i64 (t).num,.int .i64 (t).least,.int .i64 (t).most,.bool (t).bare] (0,0) _ _ rfl rfl (heap_setRow Z2.out) Tryz.underlying28 rfl (by kernel_rfl)) rfl (by exact (HE.out.b.pass (Touch.of_below [R] HB0.out) hsW (Nat.le_refl _) (Nat.le_of_lt hsW) hRne _).nd)
theorem atom_bracket_err (w0:World) (A:Nat→Addr) (w:World) (R:Nat) (s:ByteArray) (fl:Int) (i g d:Nat) (hR:RdAt w0 A w R s fl i g d) (hi:i < s.size) (hc:bt s i=91) (c:Nat) (q:Int) (HC:∀ w,RdAt w0 A w R s fl i g d→Calls Tryz.prog 195 #[.pointer (some ⟨R,0,none⟩)] w (NdEnd A R s fl d (.err c q) w)) :
   Calls Tryz.prog 176 #[.pointer (some ⟨R,0,none⟩)] w (NdEnd A R s fl d (.err c q) w):=by
 have HC:=Lib.hid HC
 have hlt:=hR.lt
 have hb0:Below w.heap.size w (w.alloc (.cells noNode 28)):=(Below.refl _ _).alloc (Nat.le_refl _) _
 have hR1:=hR.later hb0
 obtain ⟨c0,c1,c2,-,-⟩:=rd5 hR1.cell
 have hi0:(0:Int) ≤ i:=by omega
 have hi1:(i:Int) < s.size:=by omega
 have HR1:=Lib.hid hR1
 have HX:Hid ((s[i].toNat:Int)=91):=Lib.hid (by rw [bt_at hi,hc];rfl)
 clear hR hR1 hc
 go_enter Tryz.func176,Tryz.ntmps176
 go_wp2
 go_quiet (fail)
 have Z0:=Lib.hid (heap_alloc_new w (.cells noNode 28))
 have HR:=Lib.hid (HR1.out.later (drewN_below (Below.refl _ _) nq))
 have HB0:Hid (Below w.heap.size w ((w.alloc (.cells noNode 28)).drewN nq)):=Lib.hid (drewN_below (by go_grown) nq)
 have Z1:Hid (((w.alloc (.cells noNode 28)).drewN nq).heap[w.heap.size]? = some (.cells noNode 28)):=Lib.hid Z0.out
 have hsW:w.heap.size < ((w.alloc (.cells noNode 28)).drewN nq).heap.size:=by simp
 clear c0 c1 c2 HR1 Z0
 rw [HX.out]
 clear HX
 generalize World.drewN _ _=W at *
 have hRne:R ≠ w.heap.size:=by omega
 go_wp2_with fail
 refine (HC.out _ HR.out).mono ?_
 intro e w2 he
 have he':=he
 obtain ⟨v,rfl,hv,ht2⟩:=he.err rfl
 have HE:=Lib.hid he'
 have Z2:=Lib.hid ((ht2.block w.heap.size hsW (by simp;omega)).trans Z1.out)
 clear hv ht2 he he' 
 go_wp2_with (first
   | (refine wpList_store_row rfl 28 (.tmp 2) (.tmp 23) rfl w.heap.size noNode rfl rfl 28 _ Z2.out (by kernel_rfl) rfl (by simp [Value.oneCell']) ?_)
   | fail)
 exact bodyPost_ret (results_row_1 rfl _ _ w.heap.size 28 noNode (0,0) _ _ rfl rfl (heap_setRow Z2.out) Tryz.underlying28 rfl (by kernel_rfl)) rfl (by exact (HE.out.b.pass (Touch.of_below [R] HB0.out) hsW (Nat.le_refl _) (Nat.le_of_lt hsW) hRne _).nd)
theorem atom_escape_ok (w0:World) (A:Nat→Addr) (w:World) (R:Nat) (s:ByteArray) (fl:Int) (i g d:Nat) (hR:RdAt w0 A w R s fl i g d) (hi:i < s.size) (hc:bt s i=92) (t:Tr) (j g':Nat) (HC:∀ w,RdAt w0 A w R s fl i g d→Calls Tryz.prog 196 #[.pointer (some ⟨R,0,none⟩)] w (NdEnd A R s fl d (.ok t j g') w)) :
   Calls Tryz.prog 176 #[.pointer (some ⟨R,0,none⟩)] w (NdEnd A R s fl d (.ok t j g') w):=by
 have HC:=Lib.hid HC
 have hlt:=hR.lt
 have hb0:Below w.heap.size w (w.alloc (.cells noNode 28)):=(Below.refl _ _).alloc (Nat.le_refl _) _
 have hR1:=hR.later hb0
 obtain ⟨c0,c1,c2,-,-⟩:=rd5 hR1.cell
 have hi0:(0:Int) ≤ i:=by omega
 have hi1:(i:Int) < s.size:=by omega
 have HR1:=Lib.hid hR1
 have HX:Hid ((s[i].toNat:Int)=92):=Lib.hid (by rw [bt_at hi,hc];rfl)
 clear hR hR1 hc
 go_enter Tryz.func176,Tryz.ntmps176
 go_wp2
 go_quiet (fail)
 have Z0:=Lib.hid (heap_alloc_new w (.cells noNode 28))
 have HR:=Lib.hid (HR1.out.later (drewN_below (Below.refl _ _) nq))
 have HB0:Hid (Below w.heap.size w ((w.alloc (.cells noNode 28)).drewN nq)):=Lib.hid (drewN_below (by go_grown) nq)
 have Z1:Hid (((w.alloc (.cells noNode 28)).drewN nq).heap[w.heap.size]? = some (.cells noNode 28)):=Lib.hid Z0.out
 have hsW:w.heap.size < ((w.alloc (.cells noNode 28)).drewN nq).heap.size:=by simp
 clear c0 c1 c2 HR1 Z0
 rw [HX.out]
 clear HX
 generalize World.drewN _ _=W at *
 have hRne:R ≠ w.heap.size:=by omega
 go_wp2_with fail
 refine (HC.out _ HR.out).mono ?_
 intro e w2 he
 have he':=he
 obtain ⟨v,F,rfl,ho,hF,hr2,ht2⟩:=he.ok rfl
 obtain ⟨p,c,rfl,hl⟩:=ho.slice
 have HE:=Lib.hid he'
 have Z2:=Lib.hid ((ht2.block w.heap.size hsW (by simp;omega)).trans Z1.out)
 clear ho hF hr2 ht2 he he' 
 unfold Tr.cells at *
 go_wp2_with (first
   | (refine wpList_store_row rfl 28 (.tmp 2) (.tmp 29) rfl w.heap.size #[.int .i64 (t).kind,.int .u64 (Oc.U (t).w0),.int .u64 (Oc.U (t).w1),.int .u64 (Oc.U (t).w2),.int .u64 (Oc.U (t).w3),.slice p t.subs.length c,.int .i64 (t).num,.int .i64 (t).least,.int .i64 (t).most,.bool (t).bare] rfl rfl 28 _ Z2.out (by kernel_rfl) rfl (by simp [Value.oneCell']) ?_)
   | fail)
 exact bodyPost_ret (results_row_1 rfl _ _ w.heap.size 28 #[.int .i64 (t).kind,.int .u64 (Oc.U (t).w0),.int .u64 (Oc.U (t).w1),.int .u64 (Oc.U (t).w2),.int .u64 (Oc.U (t).w3),.slice p t.subs.length c,.int .i64 (t).num,.int .i64 (t).least,.int .i64 (t).most,.bool (t).bare] (0,0) _ _ rfl rfl (heap_setRow Z2.out) Tryz.underlying28 rfl (by kernel_rfl)) rfl (by exact (HE.out.b.pass (Touch.of_below [R] HB0.out) hsW (Nat.le_refl _) (Nat.le_of_lt hsW) hRne _).nd)
theorem atom_escape_err (w0:World) (A:Nat→Addr) (w:World) (R:Nat) (s:ByteArray) (fl:Int) (i g d:Nat) (hR:RdAt w0 A w R s fl i g d) (hi:i < s.size) (hc:bt s i=92) (c:Nat) (q:Int) (HC:∀ w,RdAt w0 A w R s fl i g d→Calls Tryz.prog 196 #[.pointer (some ⟨R,0,none⟩)] w (NdEnd A R s fl d (.err c q) w)) :
   Calls Tryz.prog 176 #[.pointer (some ⟨R,0,none⟩)] w (NdEnd A R s fl d (.err c q) w):=by
 have HC:=Lib.hid HC
 have hlt:=hR.lt
 have hb0:Below w.heap.size w (w.alloc (.cells noNode 28)):=(Below.refl _ _).alloc (Nat.le_refl _) _
 have hR1:=hR.later hb0
 obtain ⟨c0,c1,c2,-,-⟩:=rd5 hR1.cell
 have hi0:(0:Int) ≤ i:=by omega
 have hi1:(i:Int) < s.size:=by omega
 have HR1:=Lib.hid hR1
 have HX:Hid ((s[i].toNat:Int)=92):=Lib.hid (by rw [bt_at hi,hc];rfl)
 clear hR hR1 hc
 go_enter Tryz.func176,Tryz.ntmps176
 go_wp2
 go_quiet (fail)
 have Z0:=Lib.hid (heap_alloc_new w (.cells noNode 28))
 have HR:=Lib.hid (HR1.out.later (drewN_below (Below.refl _ _) nq))
 have HB0:Hid (Below w.heap.size w ((w.alloc (.cells noNode 28)).drewN nq)):=Lib.hid (drewN_below (by go_grown) nq)
 have Z1:Hid (((w.alloc (.cells noNode 28)).drewN nq).heap[w.heap.size]? = some (.cells noNode 28)):=Lib.hid Z0.out
 have hsW:w.heap.size < ((w.alloc (.cells noNode 28)).drewN nq).heap.size:=by simp
 clear c0 c1 c2 HR1 Z0
 rw [HX.out]
 clear HX
 generalize World.drewN _ _=W at *
 have hRne:R ≠ w.heap.size:=by omega
 go_wp2_with fail
 refine (HC.out _ HR.out).mono ?_
 intro e w2 he
 have he':=he
 obtain ⟨v,rfl,hv,ht2⟩:=he.err rfl
 have HE:=Lib.hid he'
 have Z2:=Lib.hid ((ht2.block w.heap.size hsW (by simp;omega)).trans Z1.out)
 clear hv ht2 he he' 
 go_wp2_with (first
   | (refine wpList_store_row rfl 28 (.tmp 2) (.tmp 29) rfl w.heap.size noNode rfl rfl 28 _ Z2.out (by kernel_rfl) rfl (by simp [Value.oneCell']) ?_)
   | fail)
 exact bodyPost_ret (results_row_1 rfl _ _ w.heap.size 28 noNode (0,0) _ _ rfl rfl (heap_setRow Z2.out) Tryz.underlying28 rfl (by kernel_rfl)) rfl (by exact (HE.out.b.pass (Touch.of_below [R] HB0.out) hsW (Nat.le_refl _) (Nat.le_of_lt hsW) hRne _).nd)
theorem atom_dot (w0:World) (A:Nat→Addr) (w:World) (R:Nat) (s:ByteArray) (hs:s.size ≤ 4294967280) (fl:Int) (i g d:Nat) (hR:RdAt w0 A w R s fl i g d) (hi:i < s.size) (hc:bt s i=46) :
   Calls Tryz.prog 176 #[.pointer (some ⟨R,0,none⟩)] w (NdEnd A R s fl d (.ok (Ep.dot (nlB fl)) (i+1) g) w):=by
 have HC:=Lib.hid (fun w hR=>dot_any w0 A w R s hs fl i g d hR hi)
 have hlt:=hR.lt
 have hb0:Below w.heap.size w (w.alloc (.cells noNode 28)):=(Below.refl _ _).alloc (Nat.le_refl _) _
 have hR1:=hR.later hb0
 obtain ⟨c0,c1,c2,-,-⟩:=rd5 hR1.cell
 have hi0:(0:Int) ≤ i:=by omega
 have hi1:(i:Int) < s.size:=by omega
 have HR1:=Lib.hid hR1
 have HX:Hid ((s[i].toNat:Int)=46):=Lib.hid (by rw [bt_at hi,hc];rfl)
 clear hR hR1 hc
 go_enter Tryz.func176,Tryz.ntmps176
 go_wp2
 go_quiet (fail)
 have Z0:=Lib.hid (heap_alloc_new w (.cells noNode 28))
 have HR:=Lib.hid (HR1.out.later (drewN_below (Below.refl _ _) nq))
 have HB0:Hid (Below w.heap.size w ((w.alloc (.cells noNode 28)).drewN nq)):=Lib.hid (drewN_below (by go_grown) nq)
 have Z1:Hid (((w.alloc (.cells noNode 28)).drewN nq).heap[w.heap.size]? = some (.cells noNode 28)):=Lib.hid Z0.out
 have hsW:w.heap.size < ((w.alloc (.cells noNode 28)).drewN nq).heap.size:=by simp
 clear c0 c1 c2 HR1 Z0
 rw [HX.out]
 clear HX
 generalize World.drewN _ _=W at *
 have hRne:R ≠ w.heap.size:=by omega
 go_wp2_with fail
 refine (HC.out _ HR.out).mono ?_
 rintro e w2 ⟨rfl,hr2,ht2⟩
 have Z2:=Lib.hid ((ht2.block w.heap.size hsW (by simp;omega)).trans Z1.out)
 have HP:=Lib.hid hr2
 have HT:=Lib.hid ((Touch.of_below [R] HB0.out).trans ht2)
 have HTS:Hid ((Ep.dot (nlB fl)).subs=[]):=Lib.hid rfl
 generalize Ep.dot (nlB fl)=T at *
 clear hr2 ht2
 unfold Tr.cells at *
 go_wp2_with (first
   | (refine wpList_store_row rfl 28 (.tmp 2) (.tmp 34) rfl w.heap.size #[.int .i64 (T).kind,.int .u64 (Oc.U (T).w0),.int .u64 (Oc.U (T).w1),.int .u64 (Oc.U (T).w2),.int .u64 (Oc.U (T).w3),.slice none 0 0,.int .i64 (T).num,.int .i64 (T).least,.int .i64 (T).most,.bool (T).bare] rfl rfl 28 _ Z2.out (by kernel_rfl) rfl (by simp [Value.oneCell']) ?_)
   | fail)
 refine bodyPost_ret (results_row_1 rfl _ _ w.heap.size 28 #[.int .i64 (T).kind,.int .u64 (Oc.U (T).w0),.int .u64 (Oc.U (T).w1),.int .u64 (Oc.U (T).w2),.int .u64 (Oc.U (T).w3),.slice none 0 0,.int .i64 (T).num,.int .i64 (T).least,.int .i64 (T).most,.bool (T).bare] (0,0) _ _ rfl rfl (heap_setRow Z2.out) Tryz.underlying28 rfl (by kernel_rfl)) rfl ⟨⟨.slice none 0 0,[],rfl, ?_,fun b hb=>(by cases hb),(heap_setRow_other _ _ _ hRne).trans HP.out⟩,HT.out.setRow_new (Nat.le_refl _) _⟩
 rw [HTS.out];exact .nil _ _
theorem atom_plain (w0:World) (A:Nat→Addr) (w:World) (R:Nat) (s:ByteArray) (hs:s.size ≤ 4294967280) (fl:Int) (i g d:Nat) (hR:RdAt w0 A w R s fl i g d) (hi:i < s.size) (h1:bt s i ≠ 40) (h2:bt s i ≠ 91) (h3:bt s i ≠ 92) (h4:bt s i ≠ 46) :
   Calls Tryz.prog 176 #[.pointer (some ⟨R,0,none⟩)] w (NdEnd A R s fl d (.ok (Ep.one (icB fl) (bt s i)) (i+1) g) w):=by
 have HC:=Lib.hid (fun w hR=>plain_any w0 A w R s hs fl i g d hR hi)
 have g1:((s[i].toNat:Int) == 40)=false:=by rw [bt_at hi,beq_eq_false_iff_ne];omega
 have g2:((s[i].toNat:Int) == 91)=false:=by rw [bt_at hi,beq_eq_false_iff_ne];omega
 have g3:((s[i].toNat:Int) == 92)=false:=by rw [bt_at hi,beq_eq_false_iff_ne];omega
 have g4:((s[i].toNat:Int) == 46)=false:=by rw [bt_at hi,beq_eq_false_iff_ne];omega
 clear h1 h2 h3 h4
 have hlt:=hR.lt
 have hb0:Below w.heap.size w (w.alloc (.cells noNode 28)):=(Below.refl _ _).alloc (Nat.le_refl _) _
 have hR1:=hR.later hb0
 obtain ⟨c0,c1,c2,-,-⟩:=rd5 hR1.cell
 have hi0:(0:Int) ≤ i:=by omega
 have hi1:(i:Int) < s.size:=by omega
 have HR1:=Lib.hid hR1
 clear hR hR1
 go_enter Tryz.func176,Tryz.ntmps176
 go_wp2
 go_quiet (fail)
 have Z0:=Lib.hid (heap_alloc_new w (.cells noNode 28))
 have HR:=Lib.hid (HR1.out.later (drewN_below (Below.refl _ _) nq))
 have HB0:Hid (Below w.heap.size w ((w.alloc (.cells noNode 28)).drewN nq)):=Lib.hid (drewN_below (by go_grown) nq)
 have Z1:Hid (((w.alloc (.cells noNode 28)).drewN nq).heap[w.heap.size]? = some (.cells noNode 28)):=Lib.hid Z0.out
 have hsW:w.heap.size < ((w.alloc (.cells noNode 28)).drewN nq).heap.size:=by simp
 clear c0 c1 c2 HR1 Z0
 generalize World.drewN _ _=W at *
 have hRne:R ≠ w.heap.size:=by omega
 go_wp2_with fail
 refine (HC.out _ HR.out).mono ?_
 rintro e w2 ⟨rfl,hr2,ht2⟩
 have Z2:=Lib.hid ((ht2.block w.heap.size hsW (by simp;omega)).trans Z1.out)
 have HP:=Lib.hid hr2
 have HT:=Lib.hid ((Touch.of_below [R] HB0.out).trans ht2)
 have HTS:Hid ((Ep.one (icB fl) (bt s i)).subs=[]):=Lib.hid rfl
 generalize Ep.one (icB fl) (bt s i)=T at *
 clear hr2 ht2
 unfold Tr.cells at *
 go_wp2_with (first
   | (refine wpList_store_row rfl 28 (.tmp 2) (.tmp 36) rfl w.heap.size #[.int .i64 (T).kind,.int .u64 (Oc.U (T).w0),.int .u64 (Oc.U (T).w1),.int .u64 (Oc.U (T).w2),.int .u64 (Oc.U (T).w3),.slice none 0 0,.int .i64 (T).num,.int .i64 (T).least,.int .i64 (T).most,.bool (T).bare] rfl rfl 28 _ Z2.out (by kernel_rfl) rfl (by simp [Value.oneCell']) ?_)
   | fail)
 refine bodyPost_ret (results_row_1 rfl _ _ w.heap.size 28 #[.int .i64 (T).kind,.int .u64 (Oc.U (T).w0),.int .u64 (Oc.U (T).w1),.int .u64 (Oc.U (T).w2),.int .u64 (Oc.U (T).w3),.slice none 0 0,.int .i64 (T).num,.int .i64 (T).least,.int .i64 (T).most,.bool (T).bare] (0,0) _ _ rfl rfl (heap_setRow Z2.out) Tryz.underlying28 rfl (by kernel_rfl)) rfl ⟨⟨.slice none 0 0,[],rfl, ?_,fun b hb=>(by cases hb),(heap_setRow_other _ _ _ hRne).trans HP.out⟩,HT.out.setRow_new (Nat.le_refl _) _⟩
 rw [HTS.out];exact .nil _ _
theorem atom_any (w0:World) (A:Nat→Addr) (w:World) (R:Nat) (s:ByteArray) (hs:s.size ≤ 4294967280) (fl:Int) (i g d:Nat) (hR:RdAt w0 A w R s fl i g d) (hi:i < s.size) (H:Nat→Nat→Ep.Out)
   (HG:bt s i=40→∀ w,RdAt w0 A w R s fl i g d→Calls Tryz.prog 194 #[.pointer (some ⟨R,0,none⟩)] w (NdEnd A R s fl d (H i g) w)) :
   Calls Tryz.prog 176 #[.pointer (some ⟨R,0,none⟩)] w (NdEnd A R s fl d (Ep.atom (bt s) s.size (icB fl) (nlB fl) H i g) w):=by
 unfold Ep.atom
 by_cases h1:bt s i=40
 · rw [if_pos h1]
   cases hO:H i g with
   | ok t j g'=>rw [hO] at HG;exact atom_group_ok w0 A w R s fl i g d hR hi h1 t j g' (HG h1)
   | err c q=>rw [hO] at HG;exact atom_group_err w0 A w R s fl i g d hR hi h1 c q (HG h1)
 rw [if_neg h1]
 by_cases h2:bt s i=91
 · rw [if_pos h2]
   cases hw:Br.whole (bt s) s.size i (icB fl) (nlB fl) with
   | ok P j=>exact atom_bracket_ok w0 A w R s fl i g d hR hi h2 _ j g fun w hR=>bracketed_ok w0 A w R s hs fl i g d hR h2 P j hw
   | err c q=>exact atom_bracket_err w0 A w R s fl i g d hR hi h2 c q fun w hR=>bracketed_err w0 A w R s hs fl i g d hR h2 c q hw
 rw [if_neg h2]
 by_cases h3:bt s i=92
 · rw [if_pos h3]
   by_cases he:i+1 < s.size
   · cases hp:Cl.cls 8 (bt s (i+1)) with
     | true=>simp only [if_true];exact atom_escape_ok w0 A w R s fl i g d hR hi h3 _ _ g fun w hR=>escaped_ok w0 A w R s hs fl i g d hR he hp
     | false=>simp only [Bool.false_eq_true,if_false];exact atom_escape_err w0 A w R s fl i g d hR hi h3 8 i fun w hR=>escaped_no w0 A w R s hs fl i g d hR he hp
   · rw [show Cl.cls 8 (bt s (i+1))=false by rw [bt_out (by omega)];decide]
     simp only [Bool.false_eq_true,if_false]
     exact atom_escape_err w0 A w R s fl i g d hR hi h3 8 i fun w hR=>escaped_end w0 A w R s hs fl i g d hR (by omega)
 rw [if_neg h3]
 by_cases h4:bt s i=46
 · rw [if_pos h4];exact atom_dot w0 A w R s hs fl i g d hR hi h4
 · rw [if_neg h4];exact atom_plain w0 A w R s hs fl i g d hR hi h1 h2 h3 h4
theorem piece_begin (w0:World) (A:Nat→Addr) (w:World) (R:Nat) (s:ByteArray) (hs:s.size ≤ 4294967280) (fl:Int) (i g d:Nat) (hR:RdAt w0 A w R s fl i g d) (hi:i < s.size) (hc:bt s i=94) :
   Calls Tryz.prog 155 #[.pointer (some ⟨R,0,none⟩)] w (NdEnd A R s fl d (.ok (.leaf 3) (i+1) g) w):=by
 have hlt:=hR.lt
 have hb0:Below w.heap.size w (w.alloc (.cells noNode 28)):=(Below.refl _ _).alloc (Nat.le_refl _) _
 have hR1:=hR.later hb0
 obtain ⟨c0,c1,c2,-,-⟩:=rd5 hR1.cell
 have hi0:(0:Int) ≤ i:=by omega
 have hi1:(i:Int) < s.size:=by omega
 have HR1:=Lib.hid hR1
 have HX:Hid ((s[i].toNat:Int)=94):=Lib.hid (by rw [bt_at hi,hc];rfl)
 clear hR hR1 hc
 go_enter Tryz.func155,Tryz.ntmps155
 go_wp2
 go_quiet (fail)
 have Z0:=Lib.hid (heap_alloc_new w (.cells noNode 28))
 have HR:=Lib.hid (HR1.out.later (drewN_below (Below.refl _ _) nq))
 have HB0:Hid (Below w.heap.size w ((w.alloc (.cells noNode 28)).drewN nq)):=Lib.hid (drewN_below (by go_grown) nq)
 have Z1:Hid (((w.alloc (.cells noNode 28)).drewN nq).heap[w.heap.size]? = some (.cells noNode 28)):=Lib.hid Z0.out
 have hsW:w.heap.size < ((w.alloc (.cells noNode 28)).drewN nq).heap.size:=by simp
 clear c0 c1 c2 HR1 Z0
 rw [HX.out]
 clear HX
 generalize World.drewN _ _=W at *
 have hRne:R ≠ w.heap.size:=by omega
 have hw:IntKind.i64.wrap ((i:Int)+1)=(i:Int)+1:=IntWalk.i64_in _ (by omega)
 obtain ⟨-,-,c2,-,-⟩:=rd5 HR.out.cell
 obtain ⟨g2,-,-⟩:=rdf HR.out.cell
 have Z2s:=Lib.hid (fun v=>(Below.heap_setCell W ⟨R,2,none⟩ v w.heap.size (Ne.symm hRne)).trans Z1.out)
 have HP:=Lib.hid (rd_place HR.out.cell (i+1) (v:=(i:Int)+1) (by omega))
 have HT:=Lib.hid (((Touch.of_below [R] HB0.out).setCell List.mem_cons_self 2 (.int .i64 ((i:Int)+1))))
 clear Z1 HR HB0 hi0 hi1 hi
 go_wp2_with (first
   | (refine wpList_store_row rfl 28 (.tmp 2) (.tmp 24) rfl w.heap.size #[.int .i64 3,.int .u64 0,.int .u64 0,.int .u64 0,.int .u64 0,.slice none 0 0,.int .i64 0,.int .i64 0,.int .i64 0,.bool false] rfl rfl 28 _ (Z2s.out _) (by kernel_rfl) rfl (by simp [Value.oneCell']) ?_)
   | fail)
 have HL:Hid ((Tr.leaf 3).cells (.slice none 0 0)=#[.int .i64 3,.int .u64 0,.int .u64 0,.int .u64 0,.int .u64 0,.slice none 0 0,.int .i64 0,.int .i64 0,.int .i64 0,.bool false]):=Lib.hid (by simp only [Tr.leaf,Tr.cells,Tr.kind,Tr.w0,Tr.w1,Tr.w2,Tr.w3,Tr.num,Tr.least,Tr.most,Tr.bare,u0])
 refine bodyPost_ret (results_row_1 rfl _ _ w.heap.size 28 #[.int .i64 3,.int .u64 0,.int .u64 0,.int .u64 0,.int .u64 0,.slice none 0 0,.int .i64 0,.int .i64 0,.int .i64 0,.bool false] (0,0) _ _ rfl rfl (heap_setRow (Z2s.out _)) Tryz.underlying28 rfl (by kernel_rfl)) rfl ⟨⟨.slice none 0 0,[], ?_,.nil _ _,fun b hb=>(by cases hb),(heap_setRow_other _ _ _ hRne).trans HP.out⟩,HT.out.setRow_new (Nat.le_refl _) _⟩
 rw [HL.out];rfl
theorem piece_end (w0:World) (A:Nat→Addr) (w:World) (R:Nat) (s:ByteArray) (hs:s.size ≤ 4294967280) (fl:Int) (i g d:Nat) (hR:RdAt w0 A w R s fl i g d) (hi:i < s.size) (hc:bt s i=36) :
   Calls Tryz.prog 155 #[.pointer (some ⟨R,0,none⟩)] w (NdEnd A R s fl d (.ok (.leaf 4) (i+1) g) w):=by
 have hlt:=hR.lt
 have hb0:Below w.heap.size w (w.alloc (.cells noNode 28)):=(Below.refl _ _).alloc (Nat.le_refl _) _
 have hR1:=hR.later hb0
 obtain ⟨c0,c1,c2,-,-⟩:=rd5 hR1.cell
 have hi0:(0:Int) ≤ i:=by omega
 have hi1:(i:Int) < s.size:=by omega
 have HR1:=Lib.hid hR1
 have HX:Hid ((s[i].toNat:Int)=36):=Lib.hid (by rw [bt_at hi,hc];rfl)
 clear hR hR1 hc
 go_enter Tryz.func155,Tryz.ntmps155
 go_wp2
 go_quiet (fail)
 have Z0:=Lib.hid (heap_alloc_new w (.cells noNode 28))
 have HR:=Lib.hid (HR1.out.later (drewN_below (Below.refl _ _) nq))
 have HB0:Hid (Below w.heap.size w ((w.alloc (.cells noNode 28)).drewN nq)):=Lib.hid (drewN_below (by go_grown) nq)
 have Z1:Hid (((w.alloc (.cells noNode 28)).drewN nq).heap[w.heap.size]? = some (.cells noNode 28)):=Lib.hid Z0.out
 have hsW:w.heap.size < ((w.alloc (.cells noNode 28)).drewN nq).heap.size:=by simp
 clear c0 c1 c2 HR1 Z0
 rw [HX.out]
 clear HX
 generalize World.drewN _ _=W at *
 have hRne:R ≠ w.heap.size:=by omega
 have hw:IntKind.i64.wrap ((i:Int)+1)=(i:Int)+1:=IntWalk.i64_in _ (by omega)
 obtain ⟨-,-,c2,-,-⟩:=rd5 HR.out.cell
 obtain ⟨g2,-,-⟩:=rdf HR.out.cell
 have Z2s:=Lib.hid (fun v=>(Below.heap_setCell W ⟨R,2,none⟩ v w.heap.size (Ne.symm hRne)).trans Z1.out)
 have HP:=Lib.hid (rd_place HR.out.cell (i+1) (v:=(i:Int)+1) (by omega))
 have HT:=Lib.hid (((Touch.of_below [R] HB0.out).setCell List.mem_cons_self 2 (.int .i64 ((i:Int)+1))))
 clear Z1 HR HB0 hi0 hi1 hi
 go_wp2_with (first
   | (refine wpList_store_row rfl 28 (.tmp 2) (.tmp 34) rfl w.heap.size #[.int .i64 4,.int .u64 0,.int .u64 0,.int .u64 0,.int .u64 0,.slice none 0 0,.int .i64 0,.int .i64 0,.int .i64 0,.bool false] rfl rfl 28 _ (Z2s.out _) (by kernel_rfl) rfl (by simp [Value.oneCell']) ?_)
   | fail)
 have HL:Hid ((Tr.leaf 4).cells (.slice none 0 0)=#[.int .i64 4,.int .u64 0,.int .u64 0,.int .u64 0,.int .u64 0,.slice none 0 0,.int .i64 0,.int .i64 0,.int .i64 0,.bool false]):=Lib.hid (by simp only [Tr.leaf,Tr.cells,Tr.kind,Tr.w0,Tr.w1,Tr.w2,Tr.w3,Tr.num,Tr.least,Tr.most,Tr.bare,u0])
 refine bodyPost_ret (results_row_1 rfl _ _ w.heap.size 28 #[.int .i64 4,.int .u64 0,.int .u64 0,.int .u64 0,.int .u64 0,.slice none 0 0,.int .i64 0,.int .i64 0,.int .i64 0,.bool false] (0,0) _ _ rfl rfl (heap_setRow (Z2s.out _)) Tryz.underlying28 rfl (by kernel_rfl)) rfl ⟨⟨.slice none 0 0,[], ?_,.nil _ _,fun b hb=>(by cases hb),(heap_setRow_other _ _ _ hRne).trans HP.out⟩,HT.out.setRow_new (Nat.le_refl _) _⟩
 rw [HL.out];rfl
theorem piece_rep_42 (w0:World) (A:Nat→Addr) (w:World) (R:Nat) (s:ByteArray) (fl:Int) (i g d:Nat) (hR:RdAt w0 A w R s fl i g d) (hi:i < s.size) (hc:bt s i=42) :
   Calls Tryz.prog 155 #[.pointer (some ⟨R,0,none⟩)] w (NdEnd A R s fl d (.err 9 i) w):=by
 have hlt:=hR.lt
 have hb0:Below w.heap.size w (w.alloc (.cells noNode 28)):=(Below.refl _ _).alloc (Nat.le_refl _) _
 have hR1:=hR.later hb0
 obtain ⟨c0,c1,c2,-,-⟩:=rd5 hR1.cell
 have hi0:(0:Int) ≤ i:=by omega
 have hi1:(i:Int) < s.size:=by omega
 have HR1:=Lib.hid hR1
 have HX:Hid ((s[i].toNat:Int)=42):=Lib.hid (by rw [bt_at hi,hc];rfl)
 clear hR hR1 hc
 go_enter Tryz.func155,Tryz.ntmps155
 go_wp2
 go_quiet (fail)
 have Z0:=Lib.hid (heap_alloc_new w (.cells noNode 28))
 have HR:=Lib.hid (HR1.out.later (drewN_below (Below.refl _ _) nq))
 have HB0:Hid (Below w.heap.size w ((w.alloc (.cells noNode 28)).drewN nq)):=Lib.hid (drewN_below (by go_grown) nq)
 have Z1:Hid (((w.alloc (.cells noNode 28)).drewN nq).heap[w.heap.size]? = some (.cells noNode 28)):=Lib.hid Z0.out
 have hsW:w.heap.size < ((w.alloc (.cells noNode 28)).drewN nq).heap.size:=by simp
 clear c0 c1 c2 HR1 Z0
 rw [HX.out]
 clear HX
 generalize World.drewN _ _=W at *
 have hRne:R ≠ w.heap.size:=by omega
 have ce:W.cell? ⟨8,0,none⟩=some (.iface 232 (.pointer (some (A 8)))):=(HR.out.now.errs 8 (by omega)).1
 go_wp2_with fail
 refine (fails_any w0 A 8 (by omega) W R s fl i g d HR.out).mono ?_
 intro e w2 he
 have he':=he
 obtain ⟨v,rfl,hv,ht2⟩:=he.err rfl
 have HE:=Lib.hid he'
 have Z2:=Lib.hid ((ht2.block w.heap.size hsW (by simp;omega)).trans Z1.out)
 clear hv ht2 he he' ce
 go_wp2_with (first
   | (refine wpList_store_row rfl 28 (.tmp 2) (.tmp 43) rfl w.heap.size noNode rfl rfl 28 _ Z2.out (by kernel_rfl) rfl (by simp [Value.oneCell']) ?_)
   | fail)
 exact bodyPost_ret (results_row_1 rfl _ _ w.heap.size 28 noNode (0,0) _ _ rfl rfl (heap_setRow Z2.out) Tryz.underlying28 rfl (by kernel_rfl)) rfl (by exact (HE.out.b.pass (Touch.of_below [R] HB0.out) hsW (Nat.le_refl _) (Nat.le_of_lt hsW) hRne _).nd)
theorem piece_rep_43 (w0:World) (A:Nat→Addr) (w:World) (R:Nat) (s:ByteArray) (fl:Int) (i g d:Nat) (hR:RdAt w0 A w R s fl i g d) (hi:i < s.size) (hc:bt s i=43) :
   Calls Tryz.prog 155 #[.pointer (some ⟨R,0,none⟩)] w (NdEnd A R s fl d (.err 9 i) w):=by
 have hlt:=hR.lt
 have hb0:Below w.heap.size w (w.alloc (.cells noNode 28)):=(Below.refl _ _).alloc (Nat.le_refl _) _
 have hR1:=hR.later hb0
 obtain ⟨c0,c1,c2,-,-⟩:=rd5 hR1.cell
 have hi0:(0:Int) ≤ i:=by omega
 have hi1:(i:Int) < s.size:=by omega
 have HR1:=Lib.hid hR1
 have HX:Hid ((s[i].toNat:Int)=43):=Lib.hid (by rw [bt_at hi,hc];rfl)
 clear hR hR1 hc
 go_enter Tryz.func155,Tryz.ntmps155
 go_wp2
 go_quiet (fail)
 have Z0:=Lib.hid (heap_alloc_new w (.cells noNode 28))
 have HR:=Lib.hid (HR1.out.later (drewN_below (Below.refl _ _) nq))
 have HB0:Hid (Below w.heap.size w ((w.alloc (.cells noNode 28)).drewN nq)):=Lib.hid (drewN_below (by go_grown) nq)
 have Z1:Hid (((w.alloc (.cells noNode 28)).drewN nq).heap[w.heap.size]? = some (.cells noNode 28)):=Lib.hid Z0.out
 have hsW:w.heap.size < ((w.alloc (.cells noNode 28)).drewN nq).heap.size:=by simp
 clear c0 c1 c2 HR1 Z0
 rw [HX.out]
 clear HX
 generalize World.drewN _ _=W at *
 have hRne:R ≠ w.heap.size:=by omega
 have ce:W.cell? ⟨8,0,none⟩=some (.iface 232 (.pointer (some (A 8)))):=(HR.out.now.errs 8 (by omega)).1
 go_wp2_with fail
 refine (fails_any w0 A 8 (by omega) W R s fl i g d HR.out).mono ?_
 intro e w2 he
 have he':=he
 obtain ⟨v,rfl,hv,ht2⟩:=he.err rfl
 have HE:=Lib.hid he'
 have Z2:=Lib.hid ((ht2.block w.heap.size hsW (by simp;omega)).trans Z1.out)
 clear hv ht2 he he' ce
 go_wp2_with (first
   | (refine wpList_store_row rfl 28 (.tmp 2) (.tmp 43) rfl w.heap.size noNode rfl rfl 28 _ Z2.out (by kernel_rfl) rfl (by simp [Value.oneCell']) ?_)
   | fail)
 exact bodyPost_ret (results_row_1 rfl _ _ w.heap.size 28 noNode (0,0) _ _ rfl rfl (heap_setRow Z2.out) Tryz.underlying28 rfl (by kernel_rfl)) rfl (by exact (HE.out.b.pass (Touch.of_below [R] HB0.out) hsW (Nat.le_refl _) (Nat.le_of_lt hsW) hRne _).nd)
theorem piece_rep_63 (w0:World) (A:Nat→Addr) (w:World) (R:Nat) (s:ByteArray) (fl:Int) (i g d:Nat) (hR:RdAt w0 A w R s fl i g d) (hi:i < s.size) (hc:bt s i=63) :
   Calls Tryz.prog 155 #[.pointer (some ⟨R,0,none⟩)] w (NdEnd A R s fl d (.err 9 i) w):=by
 have hlt:=hR.lt
 have hb0:Below w.heap.size w (w.alloc (.cells noNode 28)):=(Below.refl _ _).alloc (Nat.le_refl _) _
 have hR1:=hR.later hb0
 obtain ⟨c0,c1,c2,-,-⟩:=rd5 hR1.cell
 have hi0:(0:Int) ≤ i:=by omega
 have hi1:(i:Int) < s.size:=by omega
 have HR1:=Lib.hid hR1
 have HX:Hid ((s[i].toNat:Int)=63):=Lib.hid (by rw [bt_at hi,hc];rfl)
 clear hR hR1 hc
 go_enter Tryz.func155,Tryz.ntmps155
 go_wp2
 go_quiet (fail)
 have Z0:=Lib.hid (heap_alloc_new w (.cells noNode 28))
 have HR:=Lib.hid (HR1.out.later (drewN_below (Below.refl _ _) nq))
 have HB0:Hid (Below w.heap.size w ((w.alloc (.cells noNode 28)).drewN nq)):=Lib.hid (drewN_below (by go_grown) nq)
 have Z1:Hid (((w.alloc (.cells noNode 28)).drewN nq).heap[w.heap.size]? = some (.cells noNode 28)):=Lib.hid Z0.out
 have hsW:w.heap.size < ((w.alloc (.cells noNode 28)).drewN nq).heap.size:=by simp
 clear c0 c1 c2 HR1 Z0
 rw [HX.out]
 clear HX
 generalize World.drewN _ _=W at *
 have hRne:R ≠ w.heap.size:=by omega
 have ce:W.cell? ⟨8,0,none⟩=some (.iface 232 (.pointer (some (A 8)))):=(HR.out.now.errs 8 (by omega)).1
 go_wp2_with fail
 refine (fails_any w0 A 8 (by omega) W R s fl i g d HR.out).mono ?_
 intro e w2 he
 have he':=he
 obtain ⟨v,rfl,hv,ht2⟩:=he.err rfl
 have HE:=Lib.hid he'
 have Z2:=Lib.hid ((ht2.block w.heap.size hsW (by simp;omega)).trans Z1.out)
 clear hv ht2 he he' ce
 go_wp2_with (first
   | (refine wpList_store_row rfl 28 (.tmp 2) (.tmp 43) rfl w.heap.size noNode rfl rfl 28 _ Z2.out (by kernel_rfl) rfl (by simp [Value.oneCell']) ?_)
   | fail)
 exact bodyPost_ret (results_row_1 rfl _ _ w.heap.size 28 noNode (0,0) _ _ rfl rfl (heap_setRow Z2.out) Tryz.underlying28 rfl (by kernel_rfl)) rfl (by exact (HE.out.b.pass (Touch.of_below [R] HB0.out) hsW (Nat.le_refl _) (Nat.le_of_lt hsW) hRne _).nd)
theorem piece_rep_123 (w0:World) (A:Nat→Addr) (w:World) (R:Nat) (s:ByteArray) (fl:Int) (i g d:Nat) (hR:RdAt w0 A w R s fl i g d) (hi:i < s.size) (hc:bt s i=123) :
   Calls Tryz.prog 155 #[.pointer (some ⟨R,0,none⟩)] w (NdEnd A R s fl d (.err 9 i) w):=by
 have hlt:=hR.lt
 have hb0:Below w.heap.size w (w.alloc (.cells noNode 28)):=(Below.refl _ _).alloc (Nat.le_refl _) _
 have hR1:=hR.later hb0
 obtain ⟨c0,c1,c2,-,-⟩:=rd5 hR1.cell
 have hi0:(0:Int) ≤ i:=by omega
 have hi1:(i:Int) < s.size:=by omega
 have HR1:=Lib.hid hR1
 have HX:Hid ((s[i].toNat:Int)=123):=Lib.hid (by rw [bt_at hi,hc];rfl)
 clear hR hR1 hc
 go_enter Tryz.func155,Tryz.ntmps155
 go_wp2
 go_quiet (fail)
 have Z0:=Lib.hid (heap_alloc_new w (.cells noNode 28))
 have HR:=Lib.hid (HR1.out.later (drewN_below (Below.refl _ _) nq))
 have HB0:Hid (Below w.heap.size w ((w.alloc (.cells noNode 28)).drewN nq)):=Lib.hid (drewN_below (by go_grown) nq)
 have Z1:Hid (((w.alloc (.cells noNode 28)).drewN nq).heap[w.heap.size]? = some (.cells noNode 28)):=Lib.hid Z0.out
 have hsW:w.heap.size < ((w.alloc (.cells noNode 28)).drewN nq).heap.size:=by simp
 clear c0 c1 c2 HR1 Z0
 rw [HX.out]
 clear HX
 generalize World.drewN _ _=W at *
 have hRne:R ≠ w.heap.size:=by omega
 have ce:W.cell? ⟨8,0,none⟩=some (.iface 232 (.pointer (some (A 8)))):=(HR.out.now.errs 8 (by omega)).1
 go_wp2_with fail
 refine (fails_any w0 A 8 (by omega) W R s fl i g d HR.out).mono ?_
 intro e w2 he
 have he':=he
 obtain ⟨v,rfl,hv,ht2⟩:=he.err rfl
 have HE:=Lib.hid he'
 have Z2:=Lib.hid ((ht2.block w.heap.size hsW (by simp;omega)).trans Z1.out)
 clear hv ht2 he he' ce
 go_wp2_with (first
   | (refine wpList_store_row rfl 28 (.tmp 2) (.tmp 43) rfl w.heap.size noNode rfl rfl 28 _ Z2.out (by kernel_rfl) rfl (by simp [Value.oneCell']) ?_)
   | fail)
 exact bodyPost_ret (results_row_1 rfl _ _ w.heap.size 28 noNode (0,0) _ _ rfl rfl (heap_setRow Z2.out) Tryz.underlying28 rfl (by kernel_rfl)) rfl (by exact (HE.out.b.pass (Touch.of_below [R] HB0.out) hsW (Nat.le_refl _) (Nat.le_of_lt hsW) hRne _).nd)
theorem piece_atom_err (w0:World) (A:Nat→Addr) (w:World) (R:Nat) (s:ByteArray) (fl:Int) (i g d:Nat) (hR:RdAt w0 A w R s fl i g d) (hi:i < s.size) (h1:bt s i ≠ 94) (h2:bt s i ≠ 36) (h3:Ep.isRep (bt s i)=false) (c:Nat) (q:Int) (HC:∀ w,RdAt w0 A w R s fl i g d→Calls Tryz.prog 176 #[.pointer (some ⟨R,0,none⟩)] w (NdEnd A R s fl d (.err c q) w)) :
   Calls Tryz.prog 155 #[.pointer (some ⟨R,0,none⟩)] w (NdEnd A R s fl d (.err c q) w):=by
 have HC:=Lib.hid HC
 have h3':=h3
 unfold Ep.isRep at h3'
 simp only [Bool.or_eq_false_iff,beq_eq_false_iff_ne] at h3'
 have g1:((s[i].toNat:Int) == 94)=false:=by rw [bt_at hi,beq_eq_false_iff_ne];omega
 have g2:((s[i].toNat:Int) == 36)=false:=by rw [bt_at hi,beq_eq_false_iff_ne];omega
 have g3:((s[i].toNat:Int) == 42)=false:=by rw [bt_at hi,beq_eq_false_iff_ne];exact fun h=>h3'.1.1.1 (by omega)
 have g4:((s[i].toNat:Int) == 43)=false:=by rw [bt_at hi,beq_eq_false_iff_ne];exact fun h=>h3'.1.1.2 (by omega)
 have g5:((s[i].toNat:Int) == 63)=false:=by rw [bt_at hi,beq_eq_false_iff_ne];exact fun h=>h3'.1.2 (by omega)
 have g6:((s[i].toNat:Int) == 123)=false:=by rw [bt_at hi,beq_eq_false_iff_ne];exact fun h=>h3'.2 (by omega)
 clear h1 h2 h3 h3'
 have hlt:=hR.lt
 have hb0:Below w.heap.size w (w.alloc (.cells noNode 28)):=(Below.refl _ _).alloc (Nat.le_refl _) _
 have hR1:=hR.later hb0
 obtain ⟨c0,c1,c2,-,-⟩:=rd5 hR1.cell
 have hi0:(0:Int) ≤ i:=by omega
 have hi1:(i:Int) < s.size:=by omega
 have HR1:=Lib.hid hR1
 clear hR hR1
 go_enter Tryz.func155,Tryz.ntmps155
 go_wp2
 go_quiet (fail)
 have Z0:=Lib.hid (heap_alloc_new w (.cells noNode 28))
 have HR:=Lib.hid (HR1.out.later (drewN_below (Below.refl _ _) nq))
 have HB0:Hid (Below w.heap.size w ((w.alloc (.cells noNode 28)).drewN nq)):=Lib.hid (drewN_below (by go_grown) nq)
 have Z1:Hid (((w.alloc (.cells noNode 28)).drewN nq).heap[w.heap.size]? = some (.cells noNode 28)):=Lib.hid Z0.out
 have hsW:w.heap.size < ((w.alloc (.cells noNode 28)).drewN nq).heap.size:=by simp
 clear c0 c1 c2 HR1 Z0
 generalize World.drewN _ _=W at *
 have hRne:R ≠ w.heap.size:=by omega
 go_wp2_with fail
 refine (HC.out _ HR.out).mono ?_
 intro e w2 he
 obtain ⟨v,rfl,hv,ht2⟩:=he.err rfl
 obtain ⟨x,rfl⟩:=hv.iface
 have hbA:Below w2.heap.size w2 (w2.alloc (.cells noNode 28)):=(Below.refl _ _).alloc (Nat.le_refl _) _
 have HV:=Lib.hid (hv.later hbA)
 have Z2:=Lib.hid (keep_blk hbA ((ht2.block w.heap.size hsW (by simp;omega)).trans Z1.out))
 have HT:=Lib.hid (((Touch.of_below [R] HB0.out).trans ht2).later hbA)
 clear hv ht2 he hbA
 go_wp2_with (first
   | (refine wpList_store_row rfl 28 (.tmp 2) (.tmp 52) rfl w.heap.size noNode rfl rfl 28 _ Z2.out (by kernel_rfl) rfl (by simp [Value.oneCell']) ?_)
   | fail)
 exact bodyPost_ret (results_row_1 rfl _ _ w.heap.size 28 noNode (0,0) _ _ rfl rfl (heap_setRow Z2.out) Tryz.underlying28 rfl (by kernel_rfl)) rfl ⟨⟨_,rfl,by exact (HV.out.setRow hsW noNode).down (Nat.le_of_lt hsW)⟩,by exact HT.out.setRow_new (Nat.le_refl _) _⟩
theorem piece_atom_ok2 (w0:World) (A:Nat→Addr) (w:World) (R:Nat) (s:ByteArray) (fl:Int) (i g d:Nat) (hR:RdAt w0 A w R s fl i g d) (hi:i < s.size) (h1:bt s i ≠ 94) (h2:bt s i ≠ 36) (h3:Ep.isRep (bt s i)=false) (t:Tr) (j g':Nat) (HC:∀ w,RdAt w0 A w R s fl i g d→Calls Tryz.prog 176 #[.pointer (some ⟨R,0,none⟩)] w (NdEnd A R s fl d (.ok t j g') w)) (t2:Tr) (j2 g2:Nat) (HD:∀ w v F B,RdAt w0 A w R s fl j g' d→Owned w v t.subs F→(∀ b,b ∈ F→B ≤ b)→R < B→B ≤ w.heap.size→Calls Tryz.prog 177 #[.pointer (some ⟨R,0,none⟩),.agg (t.cells v)] w (NdB A R s fl d (.ok t2 j2 g2) B w)) :
   Calls Tryz.prog 155 #[.pointer (some ⟨R,0,none⟩)] w (NdEnd A R s fl d (.ok t2 j2 g2) w):=by
 have HC:=Lib.hid HC;have HD:=Lib.hid HD
 have h3':=h3
 unfold Ep.isRep at h3'
 simp only [Bool.or_eq_false_iff,beq_eq_false_iff_ne] at h3'
 have g1:((s[i].toNat:Int) == 94)=false:=by rw [bt_at hi,beq_eq_false_iff_ne];omega
 have g2:((s[i].toNat:Int) == 36)=false:=by rw [bt_at hi,beq_eq_false_iff_ne];omega
 have g3:((s[i].toNat:Int) == 42)=false:=by rw [bt_at hi,beq_eq_false_iff_ne];exact fun h=>h3'.1.1.1 (by omega)
 have g4:((s[i].toNat:Int) == 43)=false:=by rw [bt_at hi,beq_eq_false_iff_ne];exact fun h=>h3'.1.1.2 (by omega)
 have g5:((s[i].toNat:Int) == 63)=false:=by rw [bt_at hi,beq_eq_false_iff_ne];exact fun h=>h3'.1.2 (by omega)
 have g6:((s[i].toNat:Int) == 123)=false:=by rw [bt_at hi,beq_eq_false_iff_ne];exact fun h=>h3'.2 (by omega)
 clear h1 h2 h3 h3'
 have hlt:=hR.lt
 have hb0:Below w.heap.size w (w.alloc (.cells noNode 28)):=(Below.refl _ _).alloc (Nat.le_refl _) _
 have hR1:=hR.later hb0
 obtain ⟨c0,c1,c2,-,-⟩:=rd5 hR1.cell
 have hi0:(0:Int) ≤ i:=by omega
 have hi1:(i:Int) < s.size:=by omega
 have HR1:=Lib.hid hR1
 clear hR hR1
 go_enter Tryz.func155,Tryz.ntmps155
 go_wp2
 go_quiet (fail)
 have Z0:=Lib.hid (heap_alloc_new w (.cells noNode 28))
 have HR:=Lib.hid (HR1.out.later (drewN_below (Below.refl _ _) nq))
 have HB0:Hid (Below w.heap.size w ((w.alloc (.cells noNode 28)).drewN nq)):=Lib.hid (drewN_below (by go_grown) nq)
 have Z1:Hid (((w.alloc (.cells noNode 28)).drewN nq).heap[w.heap.size]? = some (.cells noNode 28)):=Lib.hid Z0.out
 have hsW:w.heap.size < ((w.alloc (.cells noNode 28)).drewN nq).heap.size:=by simp
 clear c0 c1 c2 HR1 Z0
 generalize World.drewN _ _=W at *
 have hRne:R ≠ w.heap.size:=by omega
 go_wp2_with fail
 refine (HC.out _ HR.out).mono ?_
 intro e w2 he
 obtain ⟨v,F,rfl,ho,hF,hr2,ht2⟩:=he.ok rfl
 obtain ⟨p,c,rfl,hl⟩:=ho.slice
 have hbA:Below w2.heap.size w2 (w2.alloc (.cells (t.cells (.slice p t.subs.length c)) 28)):=(Below.refl _ _).alloc (Nat.le_refl _) _
 have hWW:W.heap.size ≤ (w2.alloc (.cells (t.cells (.slice p t.subs.length c)) 28)).heap.size:=Nat.le_trans ht2.size hbA.size
 have HE2:=Lib.hid ((HR.out.next ht2 hr2).later hbA)
 have HD2:=Lib.hid (HD.out _ _ F W.heap.size HE2.out (ho.later hbA) hF (by omega) hWW)
 have Y2:=Lib.hid (heap_alloc_new w2 (.cells (t.cells (.slice p t.subs.length c)) 28))
 have Z2:=Lib.hid (keep_blk hbA ((ht2.block w.heap.size hsW (by simp;omega)).trans Z1.out))
 have HT:=Lib.hid (((Touch.of_below [R] HB0.out).trans ht2).later hbA)
 have hs2:w.heap.size < (w2.alloc (.cells (t.cells (.slice p t.subs.length c)) 28)).heap.size:=Nat.lt_of_lt_of_le hsW hWW
 clear ho hF hr2 ht2 he hbA hWW
 unfold Tr.cells at *
 go_wp2_with (first
   | (refine wpList_load_row rfl 28 (.tmp 4) rfl w2.heap.size rfl 28 _ (0,0) _ Y2.out Tryz.underlying28 rfl (by kernel_rfl) ?_)
   | fail)
 refine HD2.out.mono ?_
 intro e w3 he
 have he':=he
 obtain ⟨⟨v3,F3,rfl,ho3,hF3,hr3⟩,ht3⟩:=he
 obtain ⟨p3,c3,rfl,hl3⟩:=ho3.slice
 have HE:=Lib.hid he'
 have Z3:=Lib.hid ((ht3.block w.heap.size hs2 (by simp;omega)).trans Z2.out)
 clear ho3 hF3 hr3 ht3 he'
 unfold Tr.cells at *
 go_wp2_with (first
   | (refine wpList_store_row rfl 28 (.tmp 2) (.tmp 57) rfl w.heap.size #[.int .i64 (t2).kind,.int .u64 (Oc.U (t2).w0),.int .u64 (Oc.U (t2).w1),.int .u64 (Oc.U (t2).w2),.int .u64 (Oc.U (t2).w3),.slice p3 t2.subs.length c3,.int .i64 (t2).num,.int .i64 (t2).least,.int .i64 (t2).most,.bool (t2).bare] rfl rfl 28 _ Z3.out (by kernel_rfl) rfl (by simp [Value.oneCell']) ?_)
   | fail)
 exact bodyPost_ret (results_row_1 rfl _ _ w.heap.size 28 #[.int .i64 (t2).kind,.int .u64 (Oc.U (t2).w0),.int .u64 (Oc.U (t2).w1),.int .u64 (Oc.U (t2).w2),.int .u64 (Oc.U (t2).w3),.slice p3 t2.subs.length c3,.int .i64 (t2).num,.int .i64 (t2).least,.int .i64 (t2).most,.bool (t2).bare] (0,0) _ _ rfl rfl (heap_setRow Z3.out) Tryz.underlying28 rfl (by kernel_rfl)) rfl (by exact (HE.out.pass HT.out hsW (Nat.le_refl _) (Nat.le_of_lt hsW) hRne _).nd)
theorem piece_atom_err2 (w0:World) (A:Nat→Addr) (w:World) (R:Nat) (s:ByteArray) (fl:Int) (i g d:Nat) (hR:RdAt w0 A w R s fl i g d) (hi:i < s.size) (h1:bt s i ≠ 94) (h2:bt s i ≠ 36) (h3:Ep.isRep (bt s i)=false) (t:Tr) (j g':Nat) (HC:∀ w,RdAt w0 A w R s fl i g d→Calls Tryz.prog 176 #[.pointer (some ⟨R,0,none⟩)] w (NdEnd A R s fl d (.ok t j g') w)) (c:Nat) (q:Int) (HD:∀ w v F B,RdAt w0 A w R s fl j g' d→Owned w v t.subs F→(∀ b,b ∈ F→B ≤ b)→R < B→B ≤ w.heap.size→Calls Tryz.prog 177 #[.pointer (some ⟨R,0,none⟩),.agg (t.cells v)] w (NdB A R s fl d (.err c q) B w)) :
   Calls Tryz.prog 155 #[.pointer (some ⟨R,0,none⟩)] w (NdEnd A R s fl d (.err c q) w):=by
 have HC:=Lib.hid HC;have HD:=Lib.hid HD
 have h3':=h3
 unfold Ep.isRep at h3'
 simp only [Bool.or_eq_false_iff,beq_eq_false_iff_ne] at h3'
 have g1:((s[i].toNat:Int) == 94)=false:=by rw [bt_at hi,beq_eq_false_iff_ne];omega
 have g2:((s[i].toNat:Int) == 36)=false:=by rw [bt_at hi,beq_eq_false_iff_ne];omega
 have g3:((s[i].toNat:Int) == 42)=false:=by rw [bt_at hi,beq_eq_false_iff_ne];exact fun h=>h3'.1.1.1 (by omega)
 have g4:((s[i].toNat:Int) == 43)=false:=by rw [bt_at hi,beq_eq_false_iff_ne];exact fun h=>h3'.1.1.2 (by omega)
 have g5:((s[i].toNat:Int) == 63)=false:=by rw [bt_at hi,beq_eq_false_iff_ne];exact fun h=>h3'.1.2 (by omega)
 have g6:((s[i].toNat:Int) == 123)=false:=by rw [bt_at hi,beq_eq_false_iff_ne];exact fun h=>h3'.2 (by omega)
 clear h1 h2 h3 h3'
 have hlt:=hR.lt
 have hb0:Below w.heap.size w (w.alloc (.cells noNode 28)):=(Below.refl _ _).alloc (Nat.le_refl _) _
 have hR1:=hR.later hb0
 obtain ⟨c0,c1,c2,-,-⟩:=rd5 hR1.cell
 have hi0:(0:Int) ≤ i:=by omega
 have hi1:(i:Int) < s.size:=by omega
 have HR1:=Lib.hid hR1
 clear hR hR1
 go_enter Tryz.func155,Tryz.ntmps155
 go_wp2
 go_quiet (fail)
 have Z0:=Lib.hid (heap_alloc_new w (.cells noNode 28))
 have HR:=Lib.hid (HR1.out.later (drewN_below (Below.refl _ _) nq))
 have HB0:Hid (Below w.heap.size w ((w.alloc (.cells noNode 28)).drewN nq)):=Lib.hid (drewN_below (by go_grown) nq)
 have Z1:Hid (((w.alloc (.cells noNode 28)).drewN nq).heap[w.heap.size]? = some (.cells noNode 28)):=Lib.hid Z0.out
 have hsW:w.heap.size < ((w.alloc (.cells noNode 28)).drewN nq).heap.size:=by simp
 clear c0 c1 c2 HR1 Z0
 generalize World.drewN _ _=W at *
 have hRne:R ≠ w.heap.size:=by omega
 go_wp2_with fail
 refine (HC.out _ HR.out).mono ?_
 intro e w2 he
 obtain ⟨v,F,rfl,ho,hF,hr2,ht2⟩:=he.ok rfl
 obtain ⟨p,cc,rfl,hl⟩:=ho.slice
 have hbA:Below w2.heap.size w2 (w2.alloc (.cells (t.cells (.slice p t.subs.length cc)) 28)):=(Below.refl _ _).alloc (Nat.le_refl _) _
 have hWW:W.heap.size ≤ (w2.alloc (.cells (t.cells (.slice p t.subs.length cc)) 28)).heap.size:=Nat.le_trans ht2.size hbA.size
 have HE2:=Lib.hid ((HR.out.next ht2 hr2).later hbA)
 have HD2:=Lib.hid (HD.out _ _ F W.heap.size HE2.out (ho.later hbA) hF (by omega) hWW)
 have Y2:=Lib.hid (heap_alloc_new w2 (.cells (t.cells (.slice p t.subs.length cc)) 28))
 have Z2:=Lib.hid (keep_blk hbA ((ht2.block w.heap.size hsW (by simp;omega)).trans Z1.out))
 have HT:=Lib.hid (((Touch.of_below [R] HB0.out).trans ht2).later hbA)
 have hs2:w.heap.size < (w2.alloc (.cells (t.cells (.slice p t.subs.length cc)) 28)).heap.size:=Nat.lt_of_lt_of_le hsW hWW
 clear ho hF hr2 ht2 he hbA hWW
 unfold Tr.cells at *
 go_wp2_with (first
   | (refine wpList_load_row rfl 28 (.tmp 4) rfl w2.heap.size rfl 28 _ (0,0) _ Y2.out Tryz.underlying28 rfl (by kernel_rfl) ?_)
   | fail)
 refine HD2.out.mono ?_
 intro e w3 he
 have he':=he
 obtain ⟨⟨v3,rfl,hv3⟩,ht3⟩:=he
 have HE:=Lib.hid he'
 have Z3:=Lib.hid ((ht3.block w.heap.size hs2 (by simp;omega)).trans Z2.out)
 clear hv3 ht3 he'
 go_wp2_with (first
   | (refine wpList_store_row rfl 28 (.tmp 2) (.tmp 57) rfl w.heap.size noNode rfl rfl 28 _ Z3.out (by kernel_rfl) rfl (by simp [Value.oneCell']) ?_)
   | fail)
 exact bodyPost_ret (results_row_1 rfl _ _ w.heap.size 28 noNode (0,0) _ _ rfl rfl (heap_setRow Z3.out) Tryz.underlying28 rfl (by kernel_rfl)) rfl (by exact (HE.out.pass HT.out hsW (Nat.le_refl _) (Nat.le_of_lt hsW) hRne _).nd)
theorem piece_any (w0:World) (A:Nat→Addr) (w:World) (R:Nat) (s:ByteArray) (hs:s.size ≤ 4294967280) (fl:Int) (i g d:Nat) (hR:RdAt w0 A w R s fl i g d) (hi:i < s.size) (H:Nat→Nat→Ep.Out) (hA:Ep.Ahead s.size H) (hH:Ep.Right s.size d H) (hg:2 * g ≤ i+d)
   (HG:bt s i=40→∀ w,RdAt w0 A w R s fl i g d→Calls Tryz.prog 194 #[.pointer (some ⟨R,0,none⟩)] w (NdEnd A R s fl d (H i g) w)) :
   Calls Tryz.prog 155 #[.pointer (some ⟨R,0,none⟩)] w (NdEnd A R s fl d (Ep.piece (bt s) s.size (icB fl) (nlB fl) H i g) w):=by
 have hP:∀ O,Ep.atom (bt s) s.size (icB fl) (nlB fl) H i g=O→∀ w,RdAt w0 A w R s fl i g d→Calls Tryz.prog 176 #[.pointer (some ⟨R,0,none⟩)] w (NdEnd A R s fl d O w):=fun O hO w hR=>by
   rw [← hO];exact atom_any w0 A w R s hs fl i g d hR hi H HG
 unfold Ep.piece
 by_cases h1:bt s i=94
 · rw [if_pos h1];exact piece_begin w0 A w R s hs fl i g d hR hi h1
 rw [if_neg h1]
 by_cases h2:bt s i=36
 · rw [if_pos h2];exact piece_end w0 A w R s hs fl i g d hR hi h2
 rw [if_neg h2]
 cases h3:Ep.isRep (bt s i) with
 | true =>
   simp only [if_true]
   have h3':=h3
   unfold Ep.isRep at h3'
   simp only [Bool.or_eq_true,beq_iff_eq] at h3'
   rcases h3' with ((h | h) | h) | h
   · exact piece_rep_42 w0 A w R s fl i g d hR hi h
   · exact piece_rep_43 w0 A w R s fl i g d hR hi h
   · exact piece_rep_63 w0 A w R s fl i g d hR hi h
   · exact piece_rep_123 w0 A w R s fl i g d hR hi h
 | false =>
   simp only [Bool.false_eq_true,if_false]
   cases hO:Ep.atom (bt s) s.size (icB fl) (nlB fl) H i g with
   | err c q=>exact piece_atom_err w0 A w R s fl i g d hR hi h1 h2 h3 c q (hP _ hO)
   | ok t j g' =>
     have hf:=Ep.atom_form (bt_txt s) hA hH hi hg hO
     cases hO2:Ep.rep (bt s) s.size t j g' with
     | err c q =>
       simp only [hO2]
       exact piece_atom_err2 w0 A w R s fl i g d hR hi h1 h2 h3 t j g' (hP _ hO) c q fun w v F B hR ho hF hRB hB=>by
         rw [← hO2];exact repeated_any w0 A w R s hs fl j g' d hR t v F B ho hF hRB hB hf.1
     | ok t2 j2 g2 =>
       simp only [hO2]
       exact piece_atom_ok2 w0 A w R s fl i g d hR hi h1 h2 h3 t j g' (hP _ hO) t2 j2 g2 fun w v F B hR ho hF hRB hB=>by
         rw [← hO2];exact repeated_any w0 A w R s hs fl j g' d hR t v F B ho hF hRB hB hf.1
end Go.Proofs.YtfcilopifjddpaaGreatDoor
namespace Go.Proofs.YtfcilopifjddpaaGreatDoor
open Go.RowKit
structure RowAt (w:World) (base:Nat) (v:Value) (ps:List (Tr × Value)):Prop where
 own:w.ownsRow base 28 10 v ps.length (rowOf ps)
 subs:∀ (i:Nat) (t:Tr) (s:Value),ps[i]? = some (t,s)→TreesAt w (fun b=>base ≤ b∧v.ownBlock ≠ some b) s t.subs
theorem RowAt.nil (w:World) (base:Nat):RowAt w base (.slice none 0 0) []:=⟨World.ownsRow_nil _ _ _ _,fun i t s h=>by simp at h⟩
theorem RowAt.touch {w w':World} {base:Nat} {v:Value} {ps:List (Tr × Value)} {R:Nat} (h:RowAt w base v ps) (ht:Touch [R] w w') (hR:R < base):RowAt w' base v ps:=by
 refine ⟨h.own.kept (w':=w') (row:=some R) ⟨ht.os,ht.tape,ht.output,ht.size,fun k hk hne=>ht.block k hk (by simp;exact fun e=>hne (by rw [e]))⟩ ?_,fun i t s hi=>(h.subs i t s hi).keep fun b hb hB=>ht.block b hb (by simp;omega)⟩
 cases hv:v.ownBlock with
 | none=>exact .inl rfl
 | some g=>exact .inr fun e=>by have:=(h.own.lt g hv).1;have:=Option.some.inj e;omega
theorem RowAt.later {w w':World} {base:Nat} {v:Value} {ps:List (Tr × Value)} (h:RowAt w base v ps) (hb:Below w.heap.size w w'):RowAt w' base v ps:=by
 refine ⟨h.own.kept (w':=w') (row:=none) ⟨hb.os,hb.tape,hb.output,hb.size,fun k hk _=>hb.block k hk⟩ ?_,fun i t s hi=>(h.subs i t s hi).later hb⟩
 cases hv:v.ownBlock with
 | none=>exact .inl rfl
 | some g=>exact .inr (by simp)
theorem RowAt.trees {w:World} {base:Nat} {v:Value} {ps:List (Tr × Value)} (h:RowAt w base v ps) (hn:ps.length * 96 ≤ 140737488351232):TreesAt w (fun b=>base ≤ b) v (ps.map (·.1)) :=
 trees_of_row h.own hn h.subs (fun _ hb=>hb.1) (fun g hg=>(h.own.lt g hg).1)
theorem RowAt.snoc {w w4:World} {base:Nat} {v v':Value} {ps:List (Tr × Value)} {x:Tr} {s:Value} (h:RowAt w base v ps) (hx:TreesAt w (fun b=>base ≤ b∧v.ownBlock ≠ some b) s x.subs)
   (ho:w4.ownsRow base 28 10 v' (ps.length+1) (rowOf ps ++ (x.cells s).toList)) (hg:w.grownBy w4 v.ownBlock) (hw:v'.ownBlock=v.ownBlock ∨ v'.ownBlock=some w.heap.size):RowAt w4 base v' (ps ++ [(x,s)]):=by
 refine ⟨by rw [rowOf_snoc,List.length_append];exact ho,fun i t s' hi=>?_⟩
 by_cases hip:i < ps.length
 · rw [List.getElem?_append_left hip] at hi
   exact subs_step (h.subs i t s' hi) hg hw
 · rw [List.getElem?_append_right (by omega)] at hi
   have hi0:i - ps.length=0:=by
     by_cases h0:i - ps.length=0
     · exact h0
     · rw [List.getElem?_eq_none (by simp;omega)] at hi;cases hi
   rw [hi0] at hi
   simp only [List.getElem?_cons_zero,Option.some.injEq,Prod.mk.injEq] at hi
   obtain ⟨rfl,rfl⟩:=hi
   exact subs_step hx hg hw
theorem RowAt.len {w:World} {base:Nat} {v:Value} {ps:List (Tr × Value)} (h:RowAt w base v ps):∃ q c,v=.slice q ps.length c:=by
 rcases h.own.2 with ⟨rfl,hn⟩ | ⟨g,cap,cur,rfl,-⟩
 · exact ⟨none,0,by rw [hn]⟩
 · exact ⟨_,_,rfl⟩
theorem Touch.grown {F:List Nat} {a w w':World} {row:Option Nat} (h:Touch F a w) (hg:w.grownBy w' row) (hr:∀ k,row=some k→a.heap.size ≤ k):Touch F a w' :=
 ⟨hg.os.trans h.os,hg.tape.trans h.tape,hg.output.trans h.output,Nat.le_trans h.size hg.size,fun k hk hn=>(hg.block k (Nat.lt_of_lt_of_le hk h.size) (fun e=>by have:=hr k e.symm;omega)).trans (h.block k hk hn)⟩
theorem place_of {w:World} {R:Nat} {s:ByteArray} {fl:Int} {i g d:Nat} (h:w.heap[R]? = some (.cells (rdC s fl i g d) 85)):(match w.cell? ⟨R,2,none⟩ with | some (.int _ n)=>n.toNat | _=>0)=i:=by
 rw [(rd5 h).2.2.1];simp
def placeOf (R:Nat) (w:World):Nat:=match w.cell? ⟨R,2,none⟩ with | some (.int _ n)=>n.toNat | _=>0
theorem placeOf_is {w:World} {R:Nat} {s:ByteArray} {fl:Int} {i g d:Nat} (h:w.heap[R]? = some (.cells (rdC s fl i g d) 85)):placeOf R w=i:=place_of h
theorem branch_any (w0:World) (A:Nat→Addr) (w:World) (R:Nat) (s:ByteArray) (hs:s.size ≤ 4294967280) (fl:Int) (i0 g0 d:Nat) (hR:RdAt w0 A w R s fl i0 g0 d) (hi:i0 ≤ s.size) (H:Nat→Nat→Ep.Out) (hA:Ep.Ahead s.size H) (hH:Ep.Right s.size d H) (hg:2 * g0 ≤ i0+d)
   (HG:∀ i g w,i < s.size→2 * g ≤ i+d→bt s i=40→RdAt w0 A w R s fl i g d→Calls Tryz.prog 194 #[.pointer (some ⟨R,0,none⟩)] w (NdEnd A R s fl d (H i g) w))
   (O:Ep.Out) (hO:Ep.branch (bt s) s.size (icB fl) (nlB fl) H (s.size+1) [] i0 g0=O) :
   Calls Tryz.prog 127 #[.pointer (some ⟨R,0,none⟩)] w (NdEnd A R s fl d O w):=by
 have hlt:=hR.lt
 have hb0:Below w.heap.size w (w.alloc (.cells noNode 28)):=(Below.refl _ _).alloc (Nat.le_refl _) _
 have HR1:=Lib.hid (hR.later hb0)
 have Z0:=Lib.hid (heap_alloc_new w (.cells noNode 28))
 have HB0:=Lib.hid hb0
 have HO:=Lib.hid hO;have HAA:=Lib.hid hA;have HHH:=Lib.hid hH;have HGG:=Lib.hid HG
 clear hR hb0 hO hA hH HG
 go_enter Tryz.func127,Tryz.ntmps127
 obtain ⟨ie,hi0,hz0,hz1,hz2⟩:=info_parts Tryz.infoNode
 have HI:=Lib.hid hi0;have HZ0:=Lib.hid hz0;have HZ1:=Lib.hid hz1;have HZ2:=Lib.hid hz2
 clear hi0 hz0 hz1 hz2
 go_wp2
 go_loopw [4] (fun sv wr=>∃ (k:Nat) (ps:List (Tr × Value)) (i g:Nat),s.size - i < k∧i ≤ s.size∧2 * g ≤ i+d∧ps.length ≤ i∧Hid (Ep.branch (bt s) s.size (icB fl) (nlB fl) H k (ps.map (·.1)) i g=O)∧Hid (RdAt w0 A wr R s fl i g d)∧Hid (Touch [R] w wr) ∧
   Hid (wr.heap[w.heap.size]? = some (.cells noNode 28))∧w.heap.size < wr.heap.size∧Hid (RowAt wr (w.heap.size+1) sv ps)) (fun _ wr=>s.size - placeOf R wr)
 case atStart=>exact ⟨s.size+1,[],i0,g0,by omega,hi,hg,Nat.zero_le _,HO,HR1,Lib.hid (Touch.of_below _ HB0.out),Z0,by simp,Lib.hid (RowAt.nil _ _)⟩
 case round =>
   obtain ⟨k,ps,i,g,hk,hil,hgl,hpl,HBR,HR,HT,Z,hsz,HROW⟩:=hrel
   obtain ⟨k,rfl⟩:∃ m,k=m+1:=⟨k - 1,by omega⟩
   have hbr:=HBR.out
   unfold Ep.branch at hbr
   obtain ⟨c0,c1,c2,-,-⟩:=rd5 HR.out.cell
   have HPL:=Lib.hid (placeOf_is HR.out.cell)
   have hsx:∀ n,(wr.drewN n).heap.size=wr.heap.size:=fun _=>rfl
   by_cases hend:s.size ≤ i ∨ bt s i=124 ∨ bt s i=41
   · rw [if_pos hend] at hbr
     subst hbr
     obtain ⟨q4,c4,hu4⟩:=HROW.out.len
     subst hu4
     have hcase:(s.size ≤ i) ∨ (i < s.size∧[124,41].any (fun c:UInt8=>c.toNat == bt s i)=true):=by
       rcases hend with h | h | h
       · exact .inl h
       · exact .inr ⟨(bt_txt s).lt h (by omega),by rw [h];decide⟩
       · exact .inr ⟨(bt_txt s).lt h (by omega),by rw [h];decide⟩
     clear hend
     rcases hcase with hge | ⟨hlt2,hany⟩
     · have hd:decide ((i:Int) < s.size)=false:=by simp;omega
       have hd':decide (i < s.size)=false:=by simp;omega
       go_wp2
       go_quiet (fail)
       have HROW2:=Lib.hid ((HROW.out.later (drewN_below (Below.refl _ _) nq)).trees (by omega))
       have HR2:=Lib.hid (HR.out.later (drewN_below (Below.refl _ _) nq))
       have HT2:=Lib.hid (HT.out.drewN nq)
       have Z2:Hid ((wr.drewN nq).heap[w.heap.size]? = some (.cells noNode 28)):=Lib.hid Z.out
       have hsz2:w.heap.size < (wr.drewN nq).heap.size:=hsz
       clear c0 c1 c2 HROW HR HT Z HPL HBR hsx
       generalize World.drewN _ _=W at *
       go_wp2_with fail
       have hlm:(ps.map (·.1)).length=ps.length:=List.length_map _
       rw [← hlm] at HROW2
       have hseq:=seq_any (ps.map (·.1)) W _ _ HROW2.out
       obtain ⟨T,hTE⟩:∃ T,Tr.several 5 (ps.map (·.1))=T:=⟨_,rfl⟩
       rw [hTE,hlm] at hseq
       have HTE:=Lib.hid hTE
       clear hTE hlm
       refine hseq.mono ?_
       rintro e w3 ⟨s3,F3,rfl,ho3,hF3,hb3⟩
       obtain ⟨p3,c3,rfl,hl3⟩:=ho3.slice
       have HO3:=Lib.hid ho3
       have HF3:=Lib.hid hF3
       have Z3:=Lib.hid (keep_blk hb3 Z2.out)
       have HR3:=Lib.hid (HR2.out.later hb3)
       have HT3:=Lib.hid (HT2.out.later hb3)
       have hRne:R ≠ w.heap.size:=by omega
       have hk1:∀ b,b ∈ F3→b ≠ w.heap.size:=fun b hb=>by have:=hF3 b hb;omega
       have hk2:∀ b,b ∈ F3→w.heap.size ≤ b:=fun b hb=>by have:=hF3 b hb;omega
       have HK1:=Lib.hid hk1;have HK2:=Lib.hid hk2
       clear hseq hk1 hk2 ho3 hF3 hb3 HROW2 HR2 HT2 Z2
       unfold Tr.cells
       go_wp2_with (first
           | (refine wpList_store_row rfl 28 (.tmp 2) (.tmp 36) rfl w.heap.size #[.int .i64 (T).kind,.int .u64 (Oc.U (T).w0),.int .u64 (Oc.U (T).w1),.int .u64 (Oc.U (T).w2),.int .u64 (Oc.U (T).w3),.slice p3 T.subs.length c3,.int .i64 (T).num,.int .i64 (T).least,.int .i64 (T).most,.bool (T).bare] rfl rfl 28 _ Z3.out (by kernel_rfl) rfl (by simp [Value.oneCell']) ?_)
           | fail)
       refine bodyPost_ret (results_row_1 rfl _ _ w.heap.size 28 #[.int .i64 (T).kind,.int .u64 (Oc.U (T).w0),.int .u64 (Oc.U (T).w1),.int .u64 (Oc.U (T).w2),.int .u64 (Oc.U (T).w3),.slice p3 T.subs.length c3,.int .i64 (T).num,.int .i64 (T).least,.int .i64 (T).most,.bool (T).bare] (0,0) _ _ rfl rfl (heap_setRow Z3.out) Tryz.underlying28 rfl (by kernel_rfl)) rfl ⟨⟨.slice p3 T.subs.length c3,F3, ?_, ?_,HK2.out,(heap_setRow_other _ _ _ hRne).trans HR3.out.cell⟩,HT3.out.setRow_new (Nat.le_refl _) _⟩
       · rw [HTE.out];rfl
       · rw [HTE.out];exact HO3.out.keep fun b hb=>heap_setRow_other _ _ _ (HK1.out b hb)
     · have hd:decide ((i:Int) < s.size)=true:=by simp;omega
       have hd':decide (i < s.size)=true:=by simp;omega
       have HST:=Lib.hid (fun n=>stands_any [124,41] true w0 A (wr.drewN n) R s fl i g d (HR.out.later (drewN_below (Below.refl _ _) n)) hany)
       clear hany
       go_wp2
       go_quiet ((go_at_call 128;exact Calls.quiet_of (HST.out _)))
       have HROW2:=Lib.hid ((HROW.out.later (drewN_below (Below.refl _ _) nq)).trees (by omega))
       have HR2:=Lib.hid (HR.out.later (drewN_below (Below.refl _ _) nq))
       have HT2:=Lib.hid (HT.out.drewN nq)
       have Z2:Hid ((wr.drewN nq).heap[w.heap.size]? = some (.cells noNode 28)):=Lib.hid Z.out
       have hsz2:w.heap.size < (wr.drewN nq).heap.size:=hsz
       clear c0 c1 c2 HROW HR HT Z HPL HBR hsx
       generalize World.drewN _ _=W at *
       go_wp2_with fail
       have hlm:(ps.map (·.1)).length=ps.length:=List.length_map _
       rw [← hlm] at HROW2
       have hseq:=seq_any (ps.map (·.1)) W _ _ HROW2.out
       obtain ⟨T,hTE⟩:∃ T,Tr.several 5 (ps.map (·.1))=T:=⟨_,rfl⟩
       rw [hTE,hlm] at hseq
       have HTE:=Lib.hid hTE
       clear hTE hlm
       refine hseq.mono ?_
       rintro e w3 ⟨s3,F3,rfl,ho3,hF3,hb3⟩
       obtain ⟨p3,c3,rfl,hl3⟩:=ho3.slice
       have HO3:=Lib.hid ho3
       have HF3:=Lib.hid hF3
       have Z3:=Lib.hid (keep_blk hb3 Z2.out)
       have HR3:=Lib.hid (HR2.out.later hb3)
       have HT3:=Lib.hid (HT2.out.later hb3)
       have hRne:R ≠ w.heap.size:=by omega
       have hk1:∀ b,b ∈ F3→b ≠ w.heap.size:=fun b hb=>by have:=hF3 b hb;omega
       have hk2:∀ b,b ∈ F3→w.heap.size ≤ b:=fun b hb=>by have:=hF3 b hb;omega
       have HK1:=Lib.hid hk1;have HK2:=Lib.hid hk2
       clear hseq hk1 hk2 ho3 hF3 hb3 HROW2 HR2 HT2 Z2
       unfold Tr.cells
       go_wp2_with (first
           | (refine wpList_store_row rfl 28 (.tmp 2) (.tmp 36) rfl w.heap.size #[.int .i64 (T).kind,.int .u64 (Oc.U (T).w0),.int .u64 (Oc.U (T).w1),.int .u64 (Oc.U (T).w2),.int .u64 (Oc.U (T).w3),.slice p3 T.subs.length c3,.int .i64 (T).num,.int .i64 (T).least,.int .i64 (T).most,.bool (T).bare] rfl rfl 28 _ Z3.out (by kernel_rfl) rfl (by simp [Value.oneCell']) ?_)
           | fail)
       refine bodyPost_ret (results_row_1 rfl _ _ w.heap.size 28 #[.int .i64 (T).kind,.int .u64 (Oc.U (T).w0),.int .u64 (Oc.U (T).w1),.int .u64 (Oc.U (T).w2),.int .u64 (Oc.U (T).w3),.slice p3 T.subs.length c3,.int .i64 (T).num,.int .i64 (T).least,.int .i64 (T).most,.bool (T).bare] (0,0) _ _ rfl rfl (heap_setRow Z3.out) Tryz.underlying28 rfl (by kernel_rfl)) rfl ⟨⟨.slice p3 T.subs.length c3,F3, ?_, ?_,HK2.out,(heap_setRow_other _ _ _ hRne).trans HR3.out.cell⟩,HT3.out.setRow_new (Nat.le_refl _) _⟩
       · rw [HTE.out];rfl
       · rw [HTE.out];exact HO3.out.keep fun b hb=>heap_setRow_other _ _ _ (HK1.out b hb)
   · rw [if_neg hend] at hbr
     have hlt2:i < s.size:=by omega
     have hany:[124,41].any (fun c:UInt8=>c.toNat == bt s i)=false:=by
       simp only [List.any_cons,List.any_nil,Bool.or_false]
       simp only [show (124:UInt8).toNat=124 from rfl,show (41:UInt8).toNat=41 from rfl]
       simp;omega
     have hd:decide ((i:Int) < s.size)=true:=by simp;omega
     have hd':decide (i < s.size)=true:=by simp;omega
     have HST:=Lib.hid (fun n=>stands_any [124,41] false w0 A (wr.drewN n) R s fl i g d (HR.out.later (drewN_below (Below.refl _ _) n)) hany)
     have HPC:=Lib.hid (fun w9 hR9=>piece_any w0 A w9 R s hs fl i g d hR9 hlt2 H HAA.out HHH.out hgl (fun h40 w8 hR8=>HGG.out i g w8 hlt2 hgl h40 hR8))
     have HBR2:=Lib.hid hbr
     clear hany hbr hend
     go_wp2
     go_quiet ((go_at_call 128;exact Calls.quiet_of (HST.out _)))
     have HROW2:=Lib.hid (HROW.out.later (drewN_below (Below.refl _ _) nq))
     have HR2:=Lib.hid (HR.out.later (drewN_below (Below.refl _ _) nq))
     have HT2:=Lib.hid (HT.out.drewN nq)
     have Z2:Hid ((wr.drewN nq).heap[w.heap.size]? = some (.cells noNode 28)):=Lib.hid Z.out
     have hsz2:w.heap.size < (wr.drewN nq).heap.size:=hsz
     clear c0 c1 c2 HROW HR HT Z HBR hsx HST hd hd'
     generalize World.drewN _ _=W at *
     go_wp2_with fail
     refine (HPC.out W HR2.out).mono ?_
     intro e w3 he
     cases hp:Ep.piece (bt s) s.size (icB fl) (nlB fl) H i g with
     | err c q =>
       rw [hp] at HBR2
       have hO2:=HBR2.out
       simp only at hO2
       subst hO2
       obtain ⟨v,rfl,hv,ht3⟩:=he.err hp
       obtain ⟨x,rfl⟩:=hv.iface
       have hbA:Below w3.heap.size w3 (w3.alloc (.cells noNode 28)):=(Below.refl _ _).alloc (Nat.le_refl _) _
       have HV:=Lib.hid (hv.later hbA)
       have Z3:=Lib.hid (keep_blk hbA ((ht3.block w.heap.size hsz2 (by simp;omega)).trans Z2.out))
       have HT3:=Lib.hid ((HT2.out.trans ht3).later hbA)
       clear hv ht3 he hbA hp HBR2 HPC
       go_wp2_with (first
         | (refine wpList_store_row rfl 28 (.tmp 2) (.tmp 29) rfl w.heap.size noNode rfl rfl 28 _ Z3.out (by kernel_rfl) rfl (by simp [Value.oneCell']) ?_)
         | fail)
       exact bodyPost_ret (results_row_1 rfl _ _ w.heap.size 28 noNode (0,0) _ _ rfl rfl (heap_setRow Z3.out) Tryz.underlying28 rfl (by kernel_rfl)) rfl ⟨⟨_,rfl,by exact (HV.out.setRow hsz2 noNode).down (Nat.le_of_lt hsz2)⟩,by exact HT3.out.setRow_new (Nat.le_refl _) _⟩
     | ok x j g2 =>
       rw [hp] at HBR2
       have hO2:=HBR2.out
       simp only at hO2
       obtain ⟨v,F,rfl,ho,hF,hr3,ht3⟩:=he.ok hp
       obtain ⟨p,c,rfl,hl⟩:=ho.slice
       have hnx:=Ep.piece_next (bt_txt s) HAA.out hlt2 hp
       have hfm:=Ep.piece_form (bt_txt s) HAA.out HHH.out hlt2 hgl hp
       have hbA:Below w3.heap.size w3 (w3.alloc (.cells (x.cells (.slice p x.subs.length c)) 28)):=(Below.refl _ _).alloc (Nat.le_refl _) _
       have HROW3:=Lib.hid ((HROW2.out.touch ht3 (by omega)).later hbA)
       have hown:=HROW2.out.own.lt
       have HX3:Hid (TreesAt (w3.alloc (.cells (x.cells (.slice p x.subs.length c)) 28)) (fun b=>w.heap.size+1 ≤ b∧(Value.ownBlock u4) ≠ some b) (.slice p x.subs.length c) x.subs) :=
         Lib.hid ((ho.later hbA).trees.mono fun b _ hb=>⟨by have:=hF b hb;omega,fun e=>by have:=(hown b e).2;have:=hF b hb;omega⟩)
       have Z3:=Lib.hid (keep_blk hbA ((ht3.block w.heap.size hsz2 (by simp;omega)).trans Z2.out))
       have HT3:=Lib.hid ((HT2.out.trans ht3).later hbA)
       have HR3:=Lib.hid ((HR2.out.next ht3 hr3).later hbA)
       have Y3:=Lib.hid (heap_alloc_new w3 (.cells (x.cells (.slice p x.subs.length c)) 28))
       have hsz3:w.heap.size < (w3.alloc (.cells (x.cells (.slice p x.subs.length c)) 28)).heap.size:=Nat.lt_of_lt_of_le hsz2 (Nat.le_trans ht3.size hbA.size)
       have HBR3:=Lib.hid hO2;have HNX:=Lib.hid hnx;have HFM:=Lib.hid hfm
       clear ho hF hr3 ht3 he hp hO2 HBR2 hown HROW2 HR2 HT2 Z2 hbA hnx hfm HPC
       unfold Tr.cells at Y3 ⊢
       go_upto_region 6 with (fail)
       have hw3:w3.heap.size < (w3.alloc (.cells (x.cells (.slice p x.subs.length c)) 28)).heap.size:=by simp
       unfold Tr.cells at hw3 HROW3 HX3 Z3 HT3 HR3 hsz3
       generalize World.alloc w3 _=W3 at *
       have HBC:Below W3.heap.size W3 (W3.alloc (.cells (x.cells (.slice p x.subs.length c)) 28)):=(Below.refl _ _).alloc (Nat.le_refl _) _
       have HROW4:=Lib.hid (HROW3.out.later HBC)
       have HOWN:=Lib.hid HROW4.out.own
       have HX4:=Lib.hid (HX3.out.later HBC)
       have HT4:=Lib.hid (HT3.out.later HBC)
       have HR4:=Lib.hid (HR3.out.later HBC)
       have Z4:=Lib.hid (keep_blk HBC Z3.out)
       have hsz4:w.heap.size+1 < (W3.alloc (.cells (x.cells (.slice p x.subs.length c)) 28)).heap.size:=by simp;omega
       have HNW:Hid (∀ (j:Nat) (u:Value),(x.cells (.slice p x.subs.length c)).toList[j]? = some u→(W3.alloc (.cells (x.cells (.slice p x.subs.length c)) 28)).cell? ((⟨W3.heap.size,0,none⟩:Addr).add j)=some u):=Lib.hid (fun j u hu=>by
         have ea:(⟨W3.heap.size,0,none⟩:Addr).add j=⟨W3.heap.size,j,none⟩:=by unfold Addr.add;split <;> simp_all
         rw [ea,cell_new];simpa using hu)
       have HBA:Hid (w.heap.size+1 ≤ (W3.alloc (.cells (x.cells (.slice p x.subs.length c)) 28)).heap.size):=Lib.hid (by omega)
       have hml:ps.length+1 ≤ maxLen:=by unfold maxLen;omega
       have hbyt:(ps.length+1) * 96 ≤ 140737488355328:=by omega
       have hlx:=HROW4.out.own.lt
       have HLX:=Lib.hid hlx
       clear hlx HBC
       go_wp2_with (first
         | (refine wpList_load_row rfl 28 (.tmp 5) rfl w3.heap.size rfl 28 _ (0,0) _ Y3.out Tryz.underlying28 rfl (by kernel_rfl) ?_)
         | (refine wpList_node1 rfl (.tmp 32) x p x.subs.length c rfl rfl ?_)
         | (refine wpList_append_fresh _ rfl (.tmp 31) (.tmp 33) 26 rfl (w.heap.size+1) 28 ie _ 10 96 Tryz.underlying26 HI.out HZ0.out HZ1.out HZ2.out rfl (by decide) _ _ _ rfl HOWN.out ⟨W3.heap.size,0,none⟩ 1 1 (x.cells (.slice p x.subs.length c)).toList rfl rfl HNW.out (nodeC_one _ _ _ _) (by decide) hml hbyt HBA.out ?_;intro v' w4 hown4 hgrow4 hwhere)
         | fail)
       have HG4:=Lib.hid hgrow4;have HW4:=Lib.hid hwhere;have HN4:=Lib.hid hown4
       clear hgrow4 hwhere hown4
       have hrow:∀ k,Value.ownBlock u4=some k→w.heap.size+1 ≤ k:=fun k e=>(HLX.out k e).1
       have hRb:w4.heap[R]? = some (.cells (rdC s fl j g2 d) 85):=(HG4.out.block R HR4.out.lt (fun e=>by have:=hrow R e.symm;omega)).trans HR4.out.cell
       have hZ4:w4.heap[w.heap.size]? = some (.cells noNode 28):=(HG4.out.block _ (by omega) (fun e=>by have:=hrow _ e.symm;omega)).trans Z4.out
       have hRd:RdAt w0 A w4 R s fl j g2 d:=⟨HR4.out.env,HR4.out.old,HR4.out.bel.grown HG4.out HR4.out.bel.size (fun k e=>by have:=hrow k e;have:=HR4.out.old;omega),hRb⟩
       have hnx:=HNX.out
       have hfm:=HFM.out
       refine ⟨⟨k,ps ++ [(x,.slice p x.subs.length c)],j,g2,by omega,hnx.2,hfm.2,by simp;omega,Lib.hid ?_,Lib.hid hRd,Lib.hid (HT4.out.grown HG4.out fun k e=>by have:=hrow k e;omega),Lib.hid hZ4,by have:=HG4.out.size;omega,Lib.hid (HROW4.out.snoc HX4.out HN4.out HG4.out HW4.out)⟩, ?_⟩
       · rw [List.map_append];exact HBR3.out
       · rw [placeOf_is hRb,HPL.out];omega
end Go.Proofs.YtfcilopifjddpaaGreatDoor
namespace Go.Proofs.YtfcilopifjddpaaGreatDoor
open Go.RowKit
theorem pattern_any (w0:World) (A:Nat→Addr) (w:World) (R:Nat) (s:ByteArray) (hs:s.size ≤ 4294967280) (fl:Int) (i0 g0 d:Nat) (hR:RdAt w0 A w R s fl i0 g0 d) (hi:i0 ≤ s.size) (H:Nat→Nat→Ep.Out) (hA:Ep.Ahead s.size H) (hH:Ep.Right s.size d H) (hg:2 * g0 ≤ i0+d)
   (HG:∀ i g w,i < s.size→2 * g ≤ i+d→bt s i=40→RdAt w0 A w R s fl i g d→Calls Tryz.prog 194 #[.pointer (some ⟨R,0,none⟩)] w (NdEnd A R s fl d (H i g) w))
   (O:Ep.Out) (hO:Ep.alts (bt s) s.size (icB fl) (nlB fl) H (s.size+1) [] i0 g0=O) :
   Calls Tryz.prog 89 #[.pointer (some ⟨R,0,none⟩)] w (NdEnd A R s fl d O w):=by
 have hlt:=hR.lt
 have hb0:Below w.heap.size w (w.alloc (.cells noNode 28)):=(Below.refl _ _).alloc (Nat.le_refl _) _
 have HR1:=Lib.hid (hR.later hb0)
 have Z0:=Lib.hid (heap_alloc_new w (.cells noNode 28))
 have HB0:=Lib.hid hb0
 have HO:=Lib.hid hO;have HAA:=Lib.hid hA;have HHH:=Lib.hid hH;have HGG:=Lib.hid HG
 clear hR hb0 hO hA hH HG
 go_enter Tryz.func89,Tryz.ntmps89
 obtain ⟨ie,hi0,hz0,hz1,hz2⟩:=info_parts Tryz.infoNode
 have HI:=Lib.hid hi0;have HZ0:=Lib.hid hz0;have HZ1:=Lib.hid hz1;have HZ2:=Lib.hid hz2
 clear hi0 hz0 hz1 hz2
 go_wp2
 go_loopw [4] (fun sv wr=>∃ (k:Nat) (ps:List (Tr × Value)) (i g:Nat),s.size - i < k∧i ≤ s.size∧2 * g ≤ i+d∧ps.length ≤ i∧Hid (Ep.alts (bt s) s.size (icB fl) (nlB fl) H k (ps.map (·.1)) i g=O)∧Hid (RdAt w0 A wr R s fl i g d)∧Hid (Touch [R] w wr) ∧
   Hid (wr.heap[w.heap.size]? = some (.cells noNode 28))∧w.heap.size < wr.heap.size∧Hid (RowAt wr (w.heap.size+1) sv ps)) (fun _ wr=>s.size - placeOf R wr)
 case atStart=>exact ⟨s.size+1,[],i0,g0,by omega,hi,hg,Nat.zero_le _,HO,HR1,Lib.hid (Touch.of_below _ HB0.out),Z0,by simp,Lib.hid (RowAt.nil _ _)⟩
 case round =>
   obtain ⟨k,ps,i,g,hk,hil,hgl,hpl,HBR,HR,HT,Z,hsz,HROW⟩:=hrel
   obtain ⟨k,rfl⟩:∃ m,k=m+1:=⟨k - 1,by omega⟩
   have hbr:=HBR.out
   unfold Ep.alts at hbr
   have HPL:=Lib.hid (placeOf_is HR.out.cell)
   have HPC:=Lib.hid (branch_any w0 A wr R s hs fl i g d HR.out hil H HAA.out HHH.out hgl HGG.out _ rfl)
   have HBR2:=Lib.hid hbr
   clear hbr HBR
   go_wp2_with fail
   refine HPC.out.mono ?_
   intro e w3 he
   cases hp:Ep.branch (bt s) s.size (icB fl) (nlB fl) H (s.size+1) [] i g with
   | err c q =>
     rw [hp] at HBR2
     have hO2:=HBR2.out
     simp only at hO2
     subst hO2
     obtain ⟨v,rfl,hv,ht3⟩:=he.err hp
     obtain ⟨x,rfl⟩:=hv.iface
     have hbA:Below w3.heap.size w3 (w3.alloc (.cells noNode 28)):=(Below.refl _ _).alloc (Nat.le_refl _) _
     have HV:=Lib.hid (hv.later hbA)
     have Z3:=Lib.hid (keep_blk hbA ((ht3.block w.heap.size hsz (by simp;omega)).trans Z.out))
     have HT3:=Lib.hid ((HT.out.trans ht3).later hbA)
     clear hv ht3 he hbA hp HBR2 HPC
     go_wp2_with (first
       | (refine wpList_store_row rfl 28 (.tmp 2) (.tmp 14) rfl w.heap.size noNode rfl rfl 28 _ Z3.out (by kernel_rfl) rfl (by simp [Value.oneCell']) ?_)
       | fail)
     exact bodyPost_ret (results_row_1 rfl _ _ w.heap.size 28 noNode (0,0) _ _ rfl rfl (heap_setRow Z3.out) Tryz.underlying28 rfl (by kernel_rfl)) rfl ⟨⟨_,rfl,by exact (HV.out.setRow hsz noNode).down (Nat.le_of_lt hsz)⟩,by exact HT3.out.setRow_new (Nat.le_refl _) _⟩
   | ok x j g2 =>
     rw [hp] at HBR2
     have hO2:=HBR2.out
     simp only at hO2
     obtain ⟨v,F,rfl,ho,hF,hr3,ht3⟩:=he.ok hp
     obtain ⟨p,c,rfl,hl⟩:=ho.slice
     have hnx:=Ep.branch_next (bt_txt s) HAA.out hil hp
     have hfm:=Ep.branch_form (bt_txt s) HAA.out HHH.out hil (fun u hu=>by cases hu) hgl hp
     have hbA:Below w3.heap.size w3 (w3.alloc (.cells (x.cells (.slice p x.subs.length c)) 28)):=(Below.refl _ _).alloc (Nat.le_refl _) _
     have HROW3:=Lib.hid ((HROW.out.touch ht3 (by omega)).later hbA)
     have hown:=HROW.out.own.lt
     have HX3:Hid (TreesAt (w3.alloc (.cells (x.cells (.slice p x.subs.length c)) 28)) (fun b=>w.heap.size+1 ≤ b∧(Value.ownBlock u4) ≠ some b) (.slice p x.subs.length c) x.subs) :=
       Lib.hid ((ho.later hbA).trees.mono fun b _ hb=>⟨by have:=hF b hb;omega,fun e=>by have:=(hown b e).2;have:=hF b hb;omega⟩)
     have Z3:=Lib.hid (keep_blk hbA ((ht3.block w.heap.size hsz (by simp;omega)).trans Z.out))
     have HT3:=Lib.hid ((HT.out.trans ht3).later hbA)
     have HR3:=Lib.hid ((HR.out.next ht3 hr3).later hbA)
     have Y3:=Lib.hid (heap_alloc_new w3 (.cells (x.cells (.slice p x.subs.length c)) 28))
     have hsz3:w.heap.size < (w3.alloc (.cells (x.cells (.slice p x.subs.length c)) 28)).heap.size:=Nat.lt_of_lt_of_le hsz (Nat.le_trans ht3.size hbA.size)
     have HBR3:=Lib.hid hO2;have HNX:=Lib.hid hnx;have HFM:=Lib.hid hfm.2
     clear ho hF hr3 ht3 he hp hO2 HBR2 hown HROW HR HT Z hbA hnx hfm HPC
     unfold Tr.cells at Y3 ⊢
     go_upto_region 5 with (fail)
     have hw3:w3.heap.size < (w3.alloc (.cells (x.cells (.slice p x.subs.length c)) 28)).heap.size:=by simp
     unfold Tr.cells at hw3 HROW3 HX3 Z3 HT3 HR3 hsz3
     generalize World.alloc w3 _=W3 at *
     have HBC:Below W3.heap.size W3 (W3.alloc (.cells (x.cells (.slice p x.subs.length c)) 28)):=(Below.refl _ _).alloc (Nat.le_refl _) _
     have HROW4:=Lib.hid (HROW3.out.later HBC)
     have HOWN:=Lib.hid HROW4.out.own
     have HX4:=Lib.hid (HX3.out.later HBC)
     have HT4:=Lib.hid (HT3.out.later HBC)
     have HR4:=Lib.hid (HR3.out.later HBC)
     have Z4:=Lib.hid (keep_blk HBC Z3.out)
     have hsz4:w.heap.size+1 < (W3.alloc (.cells (x.cells (.slice p x.subs.length c)) 28)).heap.size:=by simp;omega
     have HNW:Hid (∀ (j:Nat) (u:Value),(x.cells (.slice p x.subs.length c)).toList[j]? = some u→(W3.alloc (.cells (x.cells (.slice p x.subs.length c)) 28)).cell? ((⟨W3.heap.size,0,none⟩:Addr).add j)=some u):=Lib.hid (fun j u hu=>by
       have ea:(⟨W3.heap.size,0,none⟩:Addr).add j=⟨W3.heap.size,j,none⟩:=by unfold Addr.add;split <;> simp_all
       rw [ea,cell_new];simpa using hu)
     have HBA:Hid (w.heap.size+1 ≤ (W3.alloc (.cells (x.cells (.slice p x.subs.length c)) 28)).heap.size):=Lib.hid (by omega)
     have hml:ps.length+1 ≤ maxLen:=by unfold maxLen;omega
     have hbyt:(ps.length+1) * 96 ≤ 140737488355328:=by omega
     have hlx:=HROW4.out.own.lt
     have HLX:=Lib.hid hlx
     clear hlx HBC
     go_upto_region 6 with (first
       | (refine wpList_load_row rfl 28 (.tmp 5) rfl w3.heap.size rfl 28 _ (0,0) _ Y3.out Tryz.underlying28 rfl (by kernel_rfl) ?_)
       | (refine wpList_node1 rfl (.tmp 17) x p x.subs.length c rfl rfl ?_)
       | (refine wpList_append_fresh _ rfl (.tmp 16) (.tmp 18) 26 rfl (w.heap.size+1) 28 ie _ 10 96 Tryz.underlying26 HI.out HZ0.out HZ1.out HZ2.out rfl (by decide) _ _ _ rfl HOWN.out ⟨W3.heap.size,0,none⟩ 1 1 (x.cells (.slice p x.subs.length c)).toList rfl rfl HNW.out (nodeC_one _ _ _ _) (by decide) hml hbyt HBA.out ?_;intro v' w4 hown4 hgrow4 hwhere)
       | fail)
     have HG4:=Lib.hid hgrow4;have HW4:=Lib.hid hwhere;have HN4:=Lib.hid hown4
     clear hgrow4 hwhere hown4
     have hrow:∀ k,Value.ownBlock u4=some k→w.heap.size+1 ≤ k:=fun k e=>(HLX.out k e).1
     have hRb:w4.heap[R]? = some (.cells (rdC s fl j g2 d) 85):=(HG4.out.block R HR4.out.lt (fun e=>by have:=hrow R e.symm;omega)).trans HR4.out.cell
     have hZ4:w4.heap[w.heap.size]? = some (.cells noNode 28):=(HG4.out.block _ (by omega) (fun e=>by have:=hrow _ e.symm;omega)).trans Z4.out
     have HRd:Hid (RdAt w0 A w4 R s fl j g2 d):=Lib.hid ⟨HR4.out.env,HR4.out.old,HR4.out.bel.grown HG4.out HR4.out.bel.size (fun k e=>by have:=hrow k e;have:=HR4.out.old;omega),hRb⟩
     have HT5:=Lib.hid (HT4.out.grown HG4.out fun k e=>by have:=hrow k e;omega)
     have HROW5:=Lib.hid (HROW4.out.snoc HX4.out HN4.out HG4.out HW4.out)
     have Z5:=Lib.hid hZ4
     have hsz5:w.heap.size < w4.heap.size:=by have:=HG4.out.size;omega
     clear HG4 HW4 HN4 hrow hRb hZ4 HR4 HT4 HROW4 HX4 Z4 HOWN HNW HBA HLX Y3 hw3
     by_cases hbar:bt s j=124
     · have hO3:=HBR3.out
       rw [if_pos hbar] at hO3
       have HBR4:=Lib.hid hO3
       have hjl:=(bt_txt s).lt hbar (by omega)
       have HST:=Lib.hid (stands_any [124] true w0 A w4 R s fl j g2 d HRd.out (by rw [hbar];decide))
       clear hO3 HBR3
       go_wp2_with fail
       refine HST.out.mono ?_
       rintro e w5 ⟨rfl,n,rfl⟩
       have HRe:=Lib.hid (HRd.out.later (drewN_below (Below.refl _ _) n))
       have HTe:=Lib.hid (HT5.out.drewN n)
       have HROWe:=Lib.hid (HROW5.out.later (drewN_below (Below.refl _ _) n))
       have Ze:Hid ((w4.drewN n).heap[w.heap.size]? = some (.cells noNode 28)):=Lib.hid Z5.out
       have hsze:w.heap.size < (w4.drewN n).heap.size:=hsz5
       clear HRd HT5 HROW5 Z5
       generalize World.drewN _ _=W5 at *
       obtain ⟨-,-,c2,-,-⟩:=rd5 HRe.out.cell
       obtain ⟨f2,-,-⟩:=rdf HRe.out.cell
       have hw:IntKind.i64.wrap ((j:Int)+1)=(j:Int)+1:=IntWalk.i64_in _ (by omega)
       have hP:=rd_place HRe.out.cell (j+1) (v:=(j:Int)+1) (by omega)
       have HP:=Lib.hid hP
       have HRf:=Lib.hid (HRe.out.next ((Touch.refl [R] W5).setCell List.mem_cons_self 2 _) hP)
       have HTf:=Lib.hid (HTe.out.setCell List.mem_cons_self 2 (.int .i64 ((j:Int)+1)))
       have HROWf:=Lib.hid (HROWe.out.touch ((Touch.refl [R] W5).setCell List.mem_cons_self 2 (.int .i64 ((j:Int)+1))) (by omega))
       have Zf:=Lib.hid ((Below.heap_setCell W5 ⟨R,2,none⟩ (.int .i64 ((j:Int)+1)) w.heap.size (by simp;omega)).trans Ze.out)
       have hszf:w.heap.size < (W5.setCell ⟨R,2,none⟩ (.int .i64 ((j:Int)+1))).heap.size:=by simpa using hsze
       clear hP HRe HTe HROWe Ze
       go_wp2
       refine ⟨⟨k,ps ++ [(x,.slice p x.subs.length c)],j+1,g2,by have:=HNX.out;omega,by omega,by have:=HFM.out;omega,by have:=HNX.out;simp;omega,Lib.hid ?_,HRf,HTf,Zf,hszf,HROWf⟩, ?_⟩
       · rw [List.map_append];exact HBR4.out
       · rw [placeOf_is HP.out,HPL.out];have:=HNX.out;omega
     · have hO3:=HBR3.out
       rw [if_neg hbar] at hO3
       subst hO3
       have HST:=Lib.hid (stands_any [124] false w0 A w4 R s fl j g2 d HRd.out (by simp only [List.any_cons,List.any_nil,Bool.or_false,show (124:UInt8).toNat=124 from rfl];simp;omega))
       clear HBR3
       obtain ⟨q4,c4,hu4⟩:=HROW5.out.len
       subst hu4
       go_wp2_with fail
       refine HST.out.mono ?_
       rintro e w5 ⟨rfl,n,rfl⟩
       have HRe:=Lib.hid (HRd.out.later (drewN_below (Below.refl _ _) n))
       have HTe:=Lib.hid (HT5.out.drewN n)
       have hpl2:(ps ++ [(x,Value.slice p x.subs.length c)]).length * 96 ≤ 140737488351232:=by simp;omega
       have HROWe:=(HROW5.out.later (drewN_below (Below.refl _ _) n)).trees hpl2
       have Ze:Hid ((w4.drewN n).heap[w.heap.size]? = some (.cells noNode 28)):=Lib.hid Z5.out
       have hsze:w.heap.size < (w4.drewN n).heap.size:=hsz5
       have hlm:((ps ++ [(x,Value.slice p x.subs.length c)]).map (·.1)).length=(ps ++ [(x,Value.slice p x.subs.length c)]).length:=List.length_map _
       rw [← hlm] at HROWe
       generalize World.drewN _ _=W5 at *
       have hseq:=alt_any _ (by simp) W5 _ _ HROWe
       have hmm:(ps ++ [(x,Value.slice p x.subs.length c)]).map (·.1)=ps.map (·.1) ++ [x]:=by simp
       rw [hmm] at hseq
       obtain ⟨T,hTE⟩:∃ T,Tr.several 6 (ps.map (·.1) ++ [x])=T:=⟨_,rfl⟩
       rw [hTE] at hseq
       have hl2:(ps.map (·.1) ++ [x]).length=ps.length+1:=by simp
       rw [hl2] at hseq
       have HTE:=Lib.hid hTE;have HSEQ:=Lib.hid hseq
       clear hTE hseq hlm hmm HROWe hl2 HRd HT5 HROW5 Z5 hpl2
       go_wp2_with fail
       refine HSEQ.out.mono ?_
       rintro e w6 ⟨s6,F3,rfl,ho3,hF3,hb3⟩
       obtain ⟨p3,c3,rfl,hl3⟩:=ho3.slice
       have HO3:=Lib.hid ho3
       have Z6:=Lib.hid (keep_blk hb3 Ze.out)
       have HR6:=Lib.hid (HRe.out.later hb3)
       have HT6:=Lib.hid (HTe.out.later hb3)
       have hRne:R ≠ w.heap.size:=by omega
       have hk1:∀ b,b ∈ F3→b ≠ w.heap.size:=fun b hb=>by have:=hF3 b hb;omega
       have hk2:∀ b,b ∈ F3→w.heap.size ≤ b:=fun b hb=>by have:=hF3 b hb;omega
       have HK1:=Lib.hid hk1;have HK2:=Lib.hid hk2
       clear hk1 hk2 ho3 hF3 hb3 HRe HTe Ze HSEQ
       unfold Tr.cells
       go_wp2_with (first
         | (refine wpList_store_row rfl 28 (.tmp 2) (.tmp 24) rfl w.heap.size #[.int .i64 (T).kind,.int .u64 (Oc.U (T).w0),.int .u64 (Oc.U (T).w1),.int .u64 (Oc.U (T).w2),.int .u64 (Oc.U (T).w3),.slice p3 T.subs.length c3,.int .i64 (T).num,.int .i64 (T).least,.int .i64 (T).most,.bool (T).bare] rfl rfl 28 _ Z6.out (by kernel_rfl) rfl (by simp [Value.oneCell']) ?_)
         | fail)
       refine bodyPost_ret (results_row_1 rfl _ _ w.heap.size 28 #[.int .i64 (T).kind,.int .u64 (Oc.U (T).w0),.int .u64 (Oc.U (T).w1),.int .u64 (Oc.U (T).w2),.int .u64 (Oc.U (T).w3),.slice p3 T.subs.length c3,.int .i64 (T).num,.int .i64 (T).least,.int .i64 (T).most,.bool (T).bare] (0,0) _ _ rfl rfl (heap_setRow Z6.out) Tryz.underlying28 rfl (by kernel_rfl)) rfl ⟨⟨.slice p3 T.subs.length c3,F3, ?_, ?_,HK2.out,(heap_setRow_other _ _ _ hRne).trans HR6.out.cell⟩,HT6.out.setRow_new (Nat.le_refl _) _⟩
       · rw [HTE.out];rfl
       · rw [HTE.out];exact HO3.out.keep fun b hb=>heap_setRow_other _ _ _ (HK1.out b hb)
end Go.Proofs.YtfcilopifjddpaaGreatDoor
namespace Go.Proofs.YtfcilopifjddpaaGreatDoor
open Go.RowKit
theorem egroup_deep (w0:World) (A:Nat→Addr) (w:World) (R:Nat) (s:ByteArray) (_hs:s.size ≤ 4294967280) (fl:Int) (i g d:Nat) (hR:RdAt w0 A w R s fl i g d) (_hi:i < s.size) (hd:d=32) :
   Calls Tryz.prog 194 #[.pointer (some ⟨R,0,none⟩)] w (NdEnd A R s fl d (.err 11 i) w):=by
 have hlt:=hR.lt
 have hb0:Below w.heap.size w (w.alloc (.cells noNode 28)):=(Below.refl _ _).alloc (Nat.le_refl _) _
 have HR:=Lib.hid (hR.later hb0)
 have Z1:=Lib.hid (heap_alloc_new w (.cells noNode 28))
 have HB0:=Lib.hid hb0
 have hsW:w.heap.size < (w.alloc (.cells noNode 28)).heap.size:=by simp
 clear hR hb0
 go_enter Tryz.func194,Tryz.ntmps194
 go_upto_region 1 with (fail)
 generalize World.alloc _ _=W at *
 have hRne:R ≠ w.heap.size:=by omega
 obtain ⟨-,-,-,-,c4⟩:=rd5 HR.out.cell
 have ce:W.cell? ⟨10,0,none⟩=some (.iface 232 (.pointer (some (A 10)))):=(HR.out.now.errs 10 (by omega)).1
 have e4:((d:Int) == 32)=true:=by simp;omega
 clear hd
 go_wp2_with fail
 refine (fails_any w0 A 10 (by omega) W R s fl i g d HR.out).mono ?_
 intro e w2 he
 have he':=he
 obtain ⟨v,rfl,hv,ht2⟩:=he.err rfl
 have HE:=Lib.hid he'
 have Z2:=Lib.hid ((ht2.block w.heap.size hsW (by simp;omega)).trans Z1.out)
 clear hv ht2 he he' ce
 go_wp2_with (first
   | (refine wpList_store_row rfl 28 (.tmp 2) (.tmp 16) rfl w.heap.size noNode rfl rfl 28 _ Z2.out (by kernel_rfl) rfl (by simp [Value.oneCell']) ?_)
   | fail)
 exact bodyPost_ret (results_row_1 rfl _ _ w.heap.size 28 noNode (0,0) _ _ rfl rfl (heap_setRow Z2.out) Tryz.underlying28 rfl (by kernel_rfl)) rfl (by exact (HE.out.b.pass (Touch.of_below [R] HB0.out) hsW (Nat.le_refl _) (Nat.le_of_lt hsW) hRne _).nd)
theorem egroup_err (w0:World) (A:Nat→Addr) (w:World) (R:Nat) (s:ByteArray) (hs:s.size ≤ 4294967280) (fl:Int) (i g d:Nat) (hR:RdAt w0 A w R s fl i g d) (hi:i < s.size) (hd:d < 32) (hg:g ≤ 4294967280) (c:Nat) (q:Int) (HC:∀ w,RdAt w0 A w R s fl (i+1) (g+1) (d+1)→Calls Tryz.prog 89 #[.pointer (some ⟨R,0,none⟩)] w (NdEnd A R s fl (d+1) (.err c q) w)) :
   Calls Tryz.prog 194 #[.pointer (some ⟨R,0,none⟩)] w (NdEnd A R s fl d (.err c q) w):=by
 have HC:=Lib.hid HC
 have hlt:=hR.lt
 have hb0:Below w.heap.size w (w.alloc (.cells noNode 28)):=(Below.refl _ _).alloc (Nat.le_refl _) _
 have HR:=Lib.hid (hR.later hb0)
 have Z1:=Lib.hid (heap_alloc_new w (.cells noNode 28))
 have HB0:=Lib.hid hb0
 have hsW:w.heap.size < (w.alloc (.cells noNode 28)).heap.size:=by simp
 clear hR hb0
 go_enter Tryz.func194,Tryz.ntmps194
 go_upto_region 1 with (fail)
 generalize World.alloc _ _=W at *
 have hRne:R ≠ w.heap.size:=by omega
 obtain ⟨-,-,c2,c3,c4⟩:=rd5 HR.out.cell
 obtain ⟨f2,f3,f4⟩:=rdf HR.out.cell
 have e4:((d:Int) == 32)=false:=by rw [beq_eq_false_iff_ne];omega
 have wg:IntKind.i64.wrap ((g:Int)+1)=(g:Int)+1:=IntWalk.i64_in _ (by omega)
 have wd:IntKind.i64.wrap ((d:Int)+1)=(d:Int)+1:=IntWalk.i64_in _ (by omega)
 have wi:IntKind.i64.wrap ((i:Int)+1)=(i:Int)+1:=IntWalk.i64_in _ (by omega)
 go_upto_region 5 with (fail)
 have hP1:=rd_groups HR.out.cell (g+1) (v:=(g:Int)+1) (by omega)
 have HR1:=Lib.hid (HR.out.next ((Touch.refl [R] W).setCell List.mem_cons_self 3 (.int .i64 ((g:Int)+1))) hP1)
 have HT1:=Lib.hid ((Touch.of_below [R] HB0.out).setCell List.mem_cons_self 3 (.int .i64 ((g:Int)+1)))
 have Z2:=Lib.hid ((Below.heap_setCell W ⟨R,3,none⟩ (.int .i64 ((g:Int)+1)) w.heap.size (Ne.symm hRne)).trans Z1.out)
 have hs1:w.heap.size < (W.setCell ⟨R,3,none⟩ (.int .i64 ((g:Int)+1))).heap.size:=by simpa using hsW
 clear hP1 c2 c3 c4 f2 f3 f4 HB0 Z1 HR
 generalize World.setCell W _ _=W1 at *
 obtain ⟨-,-,c2,c3,c4⟩:=rd5 HR1.out.cell
 obtain ⟨f2,f3,f4⟩:=rdf HR1.out.cell
 go_upto_region 6 with (fail)
 have hP2:=rd_open HR1.out.cell (d+1) (v:=(d:Int)+1) (by omega)
 have HR2:=Lib.hid (HR1.out.next ((Touch.refl [R] W1).setCell List.mem_cons_self 4 (.int .i64 ((d:Int)+1))) hP2)
 have HT2:=Lib.hid (HT1.out.setCell List.mem_cons_self 4 (.int .i64 ((d:Int)+1)))
 have Z3:=Lib.hid ((Below.heap_setCell W1 ⟨R,4,none⟩ (.int .i64 ((d:Int)+1)) w.heap.size (Ne.symm hRne)).trans Z2.out)
 have hs2:w.heap.size < (W1.setCell ⟨R,4,none⟩ (.int .i64 ((d:Int)+1))).heap.size:=by simpa using hs1
 clear hP2 c2 c3 c4 f2 f3 f4 HT1 Z2 HR1
 generalize World.setCell W1 _ _=W2 at *
 obtain ⟨-,-,c2,c3,c4⟩:=rd5 HR2.out.cell
 obtain ⟨f2,f3,f4⟩:=rdf HR2.out.cell
 have c3':W2.cell? ⟨R,3,none⟩=some (.int .i64 ((g:Int)+1)):=c3
 clear c3
 go_upto_region 8 with (fail)
 have hP3:=rd_place HR2.out.cell (i+1) (v:=(i:Int)+1) (by omega)
 have HR3:=Lib.hid (HR2.out.next ((Touch.refl [R] W2).setCell List.mem_cons_self 2 (.int .i64 ((i:Int)+1))) hP3)
 have HT3:=Lib.hid (HT2.out.setCell List.mem_cons_self 2 (.int .i64 ((i:Int)+1)))
 have Z4:=Lib.hid ((Below.heap_setCell W2 ⟨R,2,none⟩ (.int .i64 ((i:Int)+1)) w.heap.size (Ne.symm hRne)).trans Z3.out)
 have hs3:w.heap.size < (W2.setCell ⟨R,2,none⟩ (.int .i64 ((i:Int)+1))).heap.size:=by simpa using hs2
 clear hP3 c2 c3' c4 f2 f3 f4 HT2 Z3 HR2
 generalize World.setCell W2 _ _=W3 at *
 go_wp2_with fail
 refine (HC.out W3 HR3.out).mono ?_
 intro e w4 he
 obtain ⟨v,rfl,hv,ht4⟩:=he.err rfl
 obtain ⟨x,rfl⟩:=hv.iface
 have hbA:Below w4.heap.size w4 (w4.alloc (.cells noNode 28)):=(Below.refl _ _).alloc (Nat.le_refl _) _
 have HV:=Lib.hid (hv.later hbA)
 have Z5:=Lib.hid (keep_blk hbA ((ht4.block w.heap.size hs3 (by simp;omega)).trans Z4.out))
 have HT4:=Lib.hid ((HT3.out.trans ht4).later hbA)
 clear hv ht4 he hbA
 go_wp2_with (first
   | (refine wpList_store_row rfl 28 (.tmp 2) (.tmp 54) rfl w.heap.size noNode rfl rfl 28 _ Z5.out (by kernel_rfl) rfl (by simp [Value.oneCell']) ?_)
   | fail)
 exact bodyPost_ret (results_row_1 rfl _ _ w.heap.size 28 noNode (0,0) _ _ rfl rfl (heap_setRow Z5.out) Tryz.underlying28 rfl (by kernel_rfl)) rfl ⟨⟨_,rfl,by exact (HV.out.setRow hs3 noNode).down (Nat.le_of_lt hs3)⟩,by exact HT4.out.setRow_new (Nat.le_refl _) _⟩
theorem egroup_open (w0:World) (A:Nat→Addr) (w:World) (R:Nat) (s:ByteArray) (hs:s.size ≤ 4294967280) (fl:Int) (i g d:Nat) (hR:RdAt w0 A w R s fl i g d) (hi:i < s.size) (hd:d < 32) (hg:g ≤ 4294967280) (x:Tr) (j g':Nat) (hb:bt s j ≠ 41) (HC:∀ w,RdAt w0 A w R s fl (i+1) (g+1) (d+1)→Calls Tryz.prog 89 #[.pointer (some ⟨R,0,none⟩)] w (NdEnd A R s fl (d+1) (.ok x j g') w)) :
   Calls Tryz.prog 194 #[.pointer (some ⟨R,0,none⟩)] w (NdEnd A R s fl d (.err 2 i) w):=by
 have HC:=Lib.hid HC
 have hlt:=hR.lt
 have hb0:Below w.heap.size w (w.alloc (.cells noNode 28)):=(Below.refl _ _).alloc (Nat.le_refl _) _
 have HR:=Lib.hid (hR.later hb0)
 have Z1:=Lib.hid (heap_alloc_new w (.cells noNode 28))
 have HB0:=Lib.hid hb0
 have hsW:w.heap.size < (w.alloc (.cells noNode 28)).heap.size:=by simp
 clear hR hb0
 go_enter Tryz.func194,Tryz.ntmps194
 go_upto_region 1 with (fail)
 generalize World.alloc _ _=W at *
 have hRne:R ≠ w.heap.size:=by omega
 obtain ⟨-,-,c2,c3,c4⟩:=rd5 HR.out.cell
 obtain ⟨f2,f3,f4⟩:=rdf HR.out.cell
 have e4:((d:Int) == 32)=false:=by rw [beq_eq_false_iff_ne];omega
 have wg:IntKind.i64.wrap ((g:Int)+1)=(g:Int)+1:=IntWalk.i64_in _ (by omega)
 have wd:IntKind.i64.wrap ((d:Int)+1)=(d:Int)+1:=IntWalk.i64_in _ (by omega)
 have wi:IntKind.i64.wrap ((i:Int)+1)=(i:Int)+1:=IntWalk.i64_in _ (by omega)
 go_upto_region 5 with (fail)
 have hP1:=rd_groups HR.out.cell (g+1) (v:=(g:Int)+1) (by omega)
 have HR1:=Lib.hid (HR.out.next ((Touch.refl [R] W).setCell List.mem_cons_self 3 (.int .i64 ((g:Int)+1))) hP1)
 have HT1:=Lib.hid ((Touch.of_below [R] HB0.out).setCell List.mem_cons_self 3 (.int .i64 ((g:Int)+1)))
 have Z2:=Lib.hid ((Below.heap_setCell W ⟨R,3,none⟩ (.int .i64 ((g:Int)+1)) w.heap.size (Ne.symm hRne)).trans Z1.out)
 have hs1:w.heap.size < (W.setCell ⟨R,3,none⟩ (.int .i64 ((g:Int)+1))).heap.size:=by simpa using hsW
 clear hP1 c2 c3 c4 f2 f3 f4 HB0 Z1 HR
 generalize World.setCell W _ _=W1 at *
 obtain ⟨-,-,c2,c3,c4⟩:=rd5 HR1.out.cell
 obtain ⟨f2,f3,f4⟩:=rdf HR1.out.cell
 go_upto_region 6 with (fail)
 have hP2:=rd_open HR1.out.cell (d+1) (v:=(d:Int)+1) (by omega)
 have HR2:=Lib.hid (HR1.out.next ((Touch.refl [R] W1).setCell List.mem_cons_self 4 (.int .i64 ((d:Int)+1))) hP2)
 have HT2:=Lib.hid (HT1.out.setCell List.mem_cons_self 4 (.int .i64 ((d:Int)+1)))
 have Z3:=Lib.hid ((Below.heap_setCell W1 ⟨R,4,none⟩ (.int .i64 ((d:Int)+1)) w.heap.size (Ne.symm hRne)).trans Z2.out)
 have hs2:w.heap.size < (W1.setCell ⟨R,4,none⟩ (.int .i64 ((d:Int)+1))).heap.size:=by simpa using hs1
 clear hP2 c2 c3 c4 f2 f3 f4 HT1 Z2 HR1
 generalize World.setCell W1 _ _=W2 at *
 obtain ⟨-,-,c2,c3,c4⟩:=rd5 HR2.out.cell
 obtain ⟨f2,f3,f4⟩:=rdf HR2.out.cell
 have c3':W2.cell? ⟨R,3,none⟩=some (.int .i64 ((g:Int)+1)):=c3
 clear c3
 go_upto_region 8 with (fail)
 have hP3:=rd_place HR2.out.cell (i+1) (v:=(i:Int)+1) (by omega)
 have HR3:=Lib.hid (HR2.out.next ((Touch.refl [R] W2).setCell List.mem_cons_self 2 (.int .i64 ((i:Int)+1))) hP3)
 have HT3:=Lib.hid (HT2.out.setCell List.mem_cons_self 2 (.int .i64 ((i:Int)+1)))
 have Z4:=Lib.hid ((Below.heap_setCell W2 ⟨R,2,none⟩ (.int .i64 ((i:Int)+1)) w.heap.size (Ne.symm hRne)).trans Z3.out)
 have hs3:w.heap.size < (W2.setCell ⟨R,2,none⟩ (.int .i64 ((i:Int)+1))).heap.size:=by simpa using hs2
 clear hP3 c2 c3' c4 f2 f3 f4 HT2 Z3 HR2
 generalize World.setCell W2 _ _=W3 at *
 go_wp2_with fail
 refine (HC.out W3 HR3.out).mono ?_
 intro e w4 he
 obtain ⟨v,F,rfl,ho,hF,hr4,ht4⟩:=he.ok rfl
 obtain ⟨p,c,rfl,hl⟩:=ho.slice
 have hw4:w.heap.size < w4.heap.size:=Nat.lt_of_lt_of_le hs3 ht4.size
 have hbA:Below w4.heap.size w4 (w4.alloc (.cells (x.cells (.slice p x.subs.length c)) 28)):=(Below.refl _ _).alloc (Nat.le_refl _) _
 have HO5:=Lib.hid (ho.later hbA)
 have HF5:=Lib.hid hF
 have Z5:=Lib.hid (keep_blk hbA ((ht4.block w.heap.size hs3 (by simp;omega)).trans Z4.out))
 have HT5:=Lib.hid ((HT3.out.trans ht4).later hbA)
 have HR5:=Lib.hid ((HR3.out.next ht4 hr4).later hbA)
 have Y5:=Lib.hid (heap_alloc_new w4 (.cells (x.cells (.slice p x.subs.length c)) 28))
 have hs5:w.heap.size < (w4.alloc (.cells (x.cells (.slice p x.subs.length c)) 28)).heap.size:=Nat.lt_of_lt_of_le hs3 (Nat.le_trans ht4.size hbA.size)
 have HST:=Lib.hid (stands_any [41] false w0 A _ R s fl j g' (d+1) HR5.out (by simp only [List.any_cons,List.any_nil,Bool.or_false,show (41:UInt8).toNat=41 from rfl];simp;omega))
 clear ho hF hr4 ht4 he hbA Z4 HT3 HR3
 unfold Tr.cells at *
 go_wp2_with fail
 generalize hW5:World.alloc w4 _=W5 at *
 refine HST.out.mono ?_
 rintro e w6 ⟨rfl,n,rfl⟩
 have hbn:Below W5.heap.size W5 (W5.drewN n):=drewN_below (Below.refl _ _) n
 have HR6:=Lib.hid (HR5.out.later hbn)
 have HT6:=Lib.hid (HT5.out.drewN n)
 have Z6:Hid ((W5.drewN n).heap[w.heap.size]? = some (.cells noNode 28)):=Lib.hid Z5.out
 have Y6:Hid ((W5.drewN n).heap[w4.heap.size]? = some (.cells #[.int .i64 (x).kind,.int .u64 (Oc.U (x).w0),.int .u64 (Oc.U (x).w1),.int .u64 (Oc.U (x).w2),.int .u64 (Oc.U (x).w3),.slice p x.subs.length c,.int .i64 (x).num,.int .i64 (x).least,.int .i64 (x).most,.bool (x).bare] 28)):=Lib.hid Y5.out
 have HO6:=Lib.hid (HO5.out.later hbn)
 have hs6:w.heap.size < (W5.drewN n).heap.size:=hs5
 clear hbn HR5 HT5 Z5 Y5 HO5 HST hW5 hs5
 generalize World.drewN W5 n=W6 at *
 have ce:W6.cell? ⟨1,0,none⟩=some (.iface 232 (.pointer (some (A 1)))):=(HR6.out.now.errs 1 (by omega)).1
 go_wp2_with fail
 refine (at_err A 1 (by omega) i _).mono ?_
 rintro e w7 ⟨v7,rfl,hv7,hb7⟩
 have Z7:=Lib.hid (keep_blk hb7 Z6.out)
 have HT7:=Lib.hid (HT6.out.later hb7)
 have HV7:=Lib.hid hv7
 clear hb7 hv7 ce
 go_wp2_with (first
   | (refine wpList_store_row rfl 28 (.tmp 2) (.tmp 59) rfl w.heap.size noNode rfl rfl 28 _ Z7.out (by kernel_rfl) rfl (by simp [Value.oneCell']) ?_)
   | fail)
 exact bodyPost_ret (results_row_1 rfl _ _ w.heap.size 28 noNode (0,0) _ _ rfl rfl (heap_setRow Z7.out) Tryz.underlying28 rfl (by kernel_rfl)) rfl ⟨⟨_,rfl,by exact (HV7.out.setRow hs6 noNode).down (Nat.le_of_lt hs6)⟩,by exact HT7.out.setRow_new (Nat.le_refl _) _⟩
theorem egroup_ok (w0:World) (A:Nat→Addr) (w:World) (R:Nat) (s:ByteArray) (hs:s.size ≤ 4294967280) (fl:Int) (i g d:Nat) (hR:RdAt w0 A w R s fl i g d) (hi:i < s.size) (hd:d < 32) (hg:g ≤ 4294967280) (x:Tr) (j g':Nat) (hb:bt s j=41) (HC:∀ w,RdAt w0 A w R s fl (i+1) (g+1) (d+1)→Calls Tryz.prog 89 #[.pointer (some ⟨R,0,none⟩)] w (NdEnd A R s fl (d+1) (.ok x j g') w)) :
   Calls Tryz.prog 194 #[.pointer (some ⟨R,0,none⟩)] w (NdEnd A R s fl d (.ok (.grp (g+1:Nat) x) (j+1) g') w):=by
 have hjl:=(bt_txt s).lt hb (by omega)
 have HC:=Lib.hid HC
 have hlt:=hR.lt
 have hb0:Below w.heap.size w (w.alloc (.cells noNode 28)):=(Below.refl _ _).alloc (Nat.le_refl _) _
 have HR:=Lib.hid (hR.later hb0)
 have Z1:=Lib.hid (heap_alloc_new w (.cells noNode 28))
 have HB0:=Lib.hid hb0
 have hsW:w.heap.size < (w.alloc (.cells noNode 28)).heap.size:=by simp
 clear hR hb0
 go_enter Tryz.func194,Tryz.ntmps194
 go_upto_region 1 with (fail)
 generalize World.alloc _ _=W at *
 have hRne:R ≠ w.heap.size:=by omega
 obtain ⟨-,-,c2,c3,c4⟩:=rd5 HR.out.cell
 obtain ⟨f2,f3,f4⟩:=rdf HR.out.cell
 have e4:((d:Int) == 32)=false:=by rw [beq_eq_false_iff_ne];omega
 have wg:IntKind.i64.wrap ((g:Int)+1)=(g:Int)+1:=IntWalk.i64_in _ (by omega)
 have wd:IntKind.i64.wrap ((d:Int)+1)=(d:Int)+1:=IntWalk.i64_in _ (by omega)
 have wi:IntKind.i64.wrap ((i:Int)+1)=(i:Int)+1:=IntWalk.i64_in _ (by omega)
 go_upto_region 5 with (fail)
 have hP1:=rd_groups HR.out.cell (g+1) (v:=(g:Int)+1) (by omega)
 have HR1:=Lib.hid (HR.out.next ((Touch.refl [R] W).setCell List.mem_cons_self 3 (.int .i64 ((g:Int)+1))) hP1)
 have HT1:=Lib.hid ((Touch.of_below [R] HB0.out).setCell List.mem_cons_self 3 (.int .i64 ((g:Int)+1)))
 have Z2:=Lib.hid ((Below.heap_setCell W ⟨R,3,none⟩ (.int .i64 ((g:Int)+1)) w.heap.size (Ne.symm hRne)).trans Z1.out)
 have hs1:w.heap.size < (W.setCell ⟨R,3,none⟩ (.int .i64 ((g:Int)+1))).heap.size:=by simpa using hsW
 clear hP1 c2 c3 c4 f2 f3 f4 HB0 Z1 HR
 generalize World.setCell W _ _=W1 at *
 obtain ⟨-,-,c2,c3,c4⟩:=rd5 HR1.out.cell
 obtain ⟨f2,f3,f4⟩:=rdf HR1.out.cell
 go_upto_region 6 with (fail)
 have hP2:=rd_open HR1.out.cell (d+1) (v:=(d:Int)+1) (by omega)
 have HR2:=Lib.hid (HR1.out.next ((Touch.refl [R] W1).setCell List.mem_cons_self 4 (.int .i64 ((d:Int)+1))) hP2)
 have HT2:=Lib.hid (HT1.out.setCell List.mem_cons_self 4 (.int .i64 ((d:Int)+1)))
 have Z3:=Lib.hid ((Below.heap_setCell W1 ⟨R,4,none⟩ (.int .i64 ((d:Int)+1)) w.heap.size (Ne.symm hRne)).trans Z2.out)
 have hs2:w.heap.size < (W1.setCell ⟨R,4,none⟩ (.int .i64 ((d:Int)+1))).heap.size:=by simpa using hs1
 clear hP2 c2 c3 c4 f2 f3 f4 HT1 Z2 HR1
 generalize World.setCell W1 _ _=W2 at *
 obtain ⟨-,-,c2,c3,c4⟩:=rd5 HR2.out.cell
 obtain ⟨f2,f3,f4⟩:=rdf HR2.out.cell
 have c3':W2.cell? ⟨R,3,none⟩=some (.int .i64 ((g:Int)+1)):=c3
 clear c3
 go_upto_region 8 with (fail)
 have hP3:=rd_place HR2.out.cell (i+1) (v:=(i:Int)+1) (by omega)
 have HR3:=Lib.hid (HR2.out.next ((Touch.refl [R] W2).setCell List.mem_cons_self 2 (.int .i64 ((i:Int)+1))) hP3)
 have HT3:=Lib.hid (HT2.out.setCell List.mem_cons_self 2 (.int .i64 ((i:Int)+1)))
 have Z4:=Lib.hid ((Below.heap_setCell W2 ⟨R,2,none⟩ (.int .i64 ((i:Int)+1)) w.heap.size (Ne.symm hRne)).trans Z3.out)
 have hs3:w.heap.size < (W2.setCell ⟨R,2,none⟩ (.int .i64 ((i:Int)+1))).heap.size:=by simpa using hs2
 clear hP3 c2 c3' c4 f2 f3 f4 HT2 Z3 HR2
 generalize World.setCell W2 _ _=W3 at *
 go_wp2_with fail
 refine (HC.out W3 HR3.out).mono ?_
 intro e w4 he
 obtain ⟨v,F,rfl,ho,hF,hr4,ht4⟩:=he.ok rfl
 obtain ⟨p,c,rfl,hl⟩:=ho.slice
 have hw4:w.heap.size < w4.heap.size:=Nat.lt_of_lt_of_le hs3 ht4.size
 have hbA:Below w4.heap.size w4 (w4.alloc (.cells (x.cells (.slice p x.subs.length c)) 28)):=(Below.refl _ _).alloc (Nat.le_refl _) _
 have HO5:=Lib.hid (ho.later hbA)
 have HF5:=Lib.hid hF
 have Z5:=Lib.hid (keep_blk hbA ((ht4.block w.heap.size hs3 (by simp;omega)).trans Z4.out))
 have HT5:=Lib.hid ((HT3.out.trans ht4).later hbA)
 have HR5:=Lib.hid ((HR3.out.next ht4 hr4).later hbA)
 have Y5:=Lib.hid (heap_alloc_new w4 (.cells (x.cells (.slice p x.subs.length c)) 28))
 have hs5:w.heap.size < (w4.alloc (.cells (x.cells (.slice p x.subs.length c)) 28)).heap.size:=Nat.lt_of_lt_of_le hs3 (Nat.le_trans ht4.size hbA.size)
 have HST:=Lib.hid (stands_any [41] true w0 A _ R s fl j g' (d+1) HR5.out (by rw [hb];decide))
 clear ho hF hr4 ht4 he hbA Z4 HT3 HR3
 unfold Tr.cells at *
 go_wp2_with fail
 generalize hW5:World.alloc w4 _=W5 at *
 refine HST.out.mono ?_
 rintro e w6 ⟨rfl,n,rfl⟩
 have hbn:Below W5.heap.size W5 (W5.drewN n):=drewN_below (Below.refl _ _) n
 have HR6:=Lib.hid (HR5.out.later hbn)
 have HT6:=Lib.hid (HT5.out.drewN n)
 have Z6:Hid ((W5.drewN n).heap[w.heap.size]? = some (.cells noNode 28)):=Lib.hid Z5.out
 have Y6:Hid ((W5.drewN n).heap[w4.heap.size]? = some (.cells #[.int .i64 (x).kind,.int .u64 (Oc.U (x).w0),.int .u64 (Oc.U (x).w1),.int .u64 (Oc.U (x).w2),.int .u64 (Oc.U (x).w3),.slice p x.subs.length c,.int .i64 (x).num,.int .i64 (x).least,.int .i64 (x).most,.bool (x).bare] 28)):=Lib.hid Y5.out
 have HO6:=Lib.hid (HO5.out.later hbn)
 have hs6:w.heap.size < (W5.drewN n).heap.size:=hs5
 clear hbn HR5 HT5 Z5 Y5 HO5 HST hW5 hs5
 generalize World.drewN W5 n=W6 at *
 obtain ⟨-,-,c2,c3,c4⟩:=rd5 HR6.out.cell
 obtain ⟨f2,f3,f4⟩:=rdf HR6.out.cell
 have c4':W6.cell? ⟨R,4,none⟩=some (.int .i64 ((d:Int)+1)):=c4
 have wd2:IntKind.i64.wrap ((d:Int)+1 - 1)=(d:Int):=by rw [show (d:Int)+1 - 1=d by omega];exact IntWalk.i64_in _ (by omega)
 have wj:IntKind.i64.wrap ((j:Int)+1)=(j:Int)+1:=IntWalk.i64_in _ (by omega)
 clear c4 c3 hb
 go_upto_region 14 with (fail)
 have hP7:=rd_open HR6.out.cell d (v:=(d:Int)) rfl
 have HT7:=Lib.hid (HT6.out.setCell List.mem_cons_self 4 (.int .i64 (d:Int)))
 have HR7:=Lib.hid (HR6.out.next ((Touch.refl [R] W6).setCell List.mem_cons_self 4 (.int .i64 (d:Int))) hP7)
 have Z7:=Lib.hid ((Below.heap_setCell W6 ⟨R,4,none⟩ (.int .i64 (d:Int)) w.heap.size (Ne.symm hRne)).trans Z6.out)
 have hs7:w.heap.size < (W6.setCell ⟨R,4,none⟩ (.int .i64 (d:Int))).heap.size:=by simpa using hs6
 have HO7:=Lib.hid (HO6.out.touch HF5.out (by omega) ((Touch.refl [R] W6).setCell List.mem_cons_self 4 (.int .i64 (d:Int))))
 have h4w:w4.heap.size ≠ R:=by omega
 have Y7:=Lib.hid ((Below.heap_setCell W6 ⟨R,4,none⟩ (.int .i64 (d:Int)) w4.heap.size h4w).trans Y6.out)
 clear hP7 c2 c4' f2 f3 f4 HT6 HR6 Z6 Y6 HO6 hs6
 generalize World.setCell W6 _ _=W7 at *
 obtain ⟨-,-,c2,-,-⟩:=rd5 HR7.out.cell
 obtain ⟨f2,-,-⟩:=rdf HR7.out.cell
 have hP8:=rd_place HR7.out.cell (j+1) (v:=(j:Int)+1) (by omega)
 have HP8:=Lib.hid hP8
 have HT8:=Lib.hid (HT7.out.setCell List.mem_cons_self 2 (.int .i64 ((j:Int)+1)))
 have Z8:=Lib.hid ((Below.heap_setCell W7 ⟨R,2,none⟩ (.int .i64 ((j:Int)+1)) w.heap.size (Ne.symm hRne)).trans Z7.out)
 have hs8:w.heap.size < (W7.setCell ⟨R,2,none⟩ (.int .i64 ((j:Int)+1))).heap.size:=by simpa using hs7
 have HO8:=Lib.hid (HO7.out.touch HF5.out (by omega) ((Touch.refl [R] W7).setCell List.mem_cons_self 2 (.int .i64 ((j:Int)+1))))
 have Y8:=Lib.hid ((Below.heap_setCell W7 ⟨R,2,none⟩ (.int .i64 ((j:Int)+1)) w4.heap.size h4w).trans Y7.out)
 clear hP8 HT7 HR7 Z7 HO7 Y7 hs7
 obtain ⟨T,hT⟩:∃ T,Tr.grp ((g+1:Nat):Int) x=T:=⟨_,rfl⟩
 have hT2:Tr.grp ((g:Int)+1) x=T:=by rw [← hT,Int.natCast_add];rfl
 have hgr:=fun w B v hv=>group_any x ((g:Int)+1) w B v hv
 rw [hT2] at hgr
 have HGR:=Lib.hid hgr;have HT9:=Lib.hid hT
 clear hgr hT hT2
 go_wp2_with (first
   | (refine wpList_load_row rfl 28 (.tmp 6) rfl w4.heap.size rfl 28 _ (0,0) _ Y8.out Tryz.underlying28 rfl (by kernel_rfl) ?_)
   | fail)
 refine (HGR.out _ (fun b=>b ∈ F) _ ⟨_,rfl,HO8.out.trees⟩).mono ?_
 rintro e w9 ⟨s8,F8,rfl,ho8,hF8,hb8⟩
 obtain ⟨p8,c8,rfl,hl8⟩:=ho8.slice
 have HO9:=Lib.hid ho8
 have Z9:=Lib.hid (keep_blk hb8 Z8.out)
 have HP9:=Lib.hid (keep_blk hb8 HP8.out)
 have HTT:=Lib.hid (HT8.out.later hb8)
 have hk1:∀ b,b ∈ F8→b ≠ w.heap.size:=fun b hb=>by have:=hF8 b hb;omega
 have hk2:∀ b,b ∈ F8→w.heap.size ≤ b:=fun b hb=>by have:=hF8 b hb;omega
 have HK1:=Lib.hid hk1;have HK2:=Lib.hid hk2
 clear hk1 hk2 ho8 hF8 hb8 Z8 HP8 HT8 HO8 Y8 c2 f2
 unfold Tr.cells at *
 go_wp2_with (first
   | (refine wpList_store_row rfl 28 (.tmp 2) (.tmp 79) rfl w.heap.size #[.int .i64 (T).kind,.int .u64 (Oc.U (T).w0),.int .u64 (Oc.U (T).w1),.int .u64 (Oc.U (T).w2),.int .u64 (Oc.U (T).w3),.slice p8 T.subs.length c8,.int .i64 (T).num,.int .i64 (T).least,.int .i64 (T).most,.bool (T).bare] rfl rfl 28 _ Z9.out (by kernel_rfl) rfl (by simp [Value.oneCell']) ?_)
   | fail)
 refine bodyPost_ret (results_row_1 rfl _ _ w.heap.size 28 #[.int .i64 (T).kind,.int .u64 (Oc.U (T).w0),.int .u64 (Oc.U (T).w1),.int .u64 (Oc.U (T).w2),.int .u64 (Oc.U (T).w3),.slice p8 T.subs.length c8,.int .i64 (T).num,.int .i64 (T).least,.int .i64 (T).most,.bool (T).bare] (0,0) _ _ rfl rfl (heap_setRow Z9.out) Tryz.underlying28 rfl (by kernel_rfl)) rfl ⟨⟨.slice p8 T.subs.length c8,F8, ?_, ?_,HK2.out,(heap_setRow_other _ _ _ hRne).trans HP9.out⟩,HTT.out.setRow_new (Nat.le_refl _) _⟩
 · rw [HT9.out];rfl
 · rw [HT9.out];exact HO9.out.keep fun b hb=>heap_setRow_other _ _ _ (HK1.out b hb)
theorem egroup_any (w0:World) (A:Nat→Addr) (R:Nat) (s:ByteArray) (hs:s.size ≤ 1024) (fl:Int):∀ (r d:Nat),r+d=32→∀ (i g:Nat) (w:World),i < s.size→2 * g ≤ i+d→bt s i=40→RdAt w0 A w R s fl i g d →
   Calls Tryz.prog 194 #[.pointer (some ⟨R,0,none⟩)] w (NdEnd A R s fl d (Ep.group (bt s) s.size (icB fl) (nlB fl) r i g) w):=by
 intro r
 induction r with
 | zero =>
   intro d hd i g w hi _ _ hR
   exact egroup_deep w0 A w R s (by omega) fl i g d hR hi (by omega)
 | succ r ih =>
   intro d hd i g w hi hg hc hR
   have hpat:∀ O,Ep.alts (bt s) s.size (icB fl) (nlB fl) (Ep.group (bt s) s.size (icB fl) (nlB fl) r) (s.size+1) [] (i+1) (g+1)=O→∀ w,RdAt w0 A w R s fl (i+1) (g+1) (d+1)→Calls Tryz.prog 89 #[.pointer (some ⟨R,0,none⟩)] w (NdEnd A R s fl (d+1) O w):=fun O hO w hR =>
     pattern_any w0 A w R s (by omega) fl (i+1) (g+1) (d+1) hR (by omega) _ (Ep.group_next (bt_txt s) r) (Ep.group_right (bt_txt s) hs r (d+1) (by omega)) (by omega) (fun i' g' w' hi' hg' hc' hR'=>ih (d+1) (by omega) i' g' w' hi' hg' hc' hR') O hO
   unfold Ep.group
   cases hO:Ep.alts (bt s) s.size (icB fl) (nlB fl) (Ep.group (bt s) s.size (icB fl) (nlB fl) r) (s.size+1) [] (i+1) (g+1) with
   | err c q=>exact egroup_err w0 A w R s (by omega) fl i g d hR hi (by omega) (by omega) c q (hpat _ hO)
   | ok x j g' =>
     by_cases hb:bt s j=41
     · simp only [hb,if_true]
       exact egroup_ok w0 A w R s (by omega) fl i g d hR hi (by omega) (by omega) x j g' hb (hpat _ hO)
     · simp only [hb,if_false]
       exact egroup_open w0 A w R s (by omega) fl i g d hR hi (by omega) (by omega) x j g' hb (hpat _ hO)
theorem pat_any (w0:World) (A:Nat→Addr) (w:World) (R:Nat) (s:ByteArray) (hs:s.size ≤ 1024) (fl:Int) (hR:RdAt w0 A w R s fl 0 0 0) (O:Ep.Out) (hO:Ep.pat (bt s) s.size (icB fl) (nlB fl) 32 0 0=O) :
   Calls Tryz.prog 89 #[.pointer (some ⟨R,0,none⟩)] w (NdEnd A R s fl 0 O w) :=
 pattern_any w0 A w R s (by omega) fl 0 0 0 hR (by omega) _ (Ep.group_next (bt_txt s) 32) (Ep.group_right (bt_txt s) hs 32 0 (by omega)) (by omega) (fun i g w hi hg hc hR=>egroup_any w0 A R s hs fl 32 0 (by omega) i g w hi hg hc hR) O hO
end Go.Proofs.YtfcilopifjddpaaGreatDoor
namespace Go.Proofs.YtfcilopifjddpaaGreatDoor
open Go.RowKit
theorem whole_err (w0:World) (A:Nat→Addr) (w:World) (R:Nat) (s:ByteArray) (fl:Int) (hR:RdAt w0 A w R s fl 0 0 0) (c:Nat) (q:Int) (HC:∀ w,RdAt w0 A w R s fl 0 0 0→Calls Tryz.prog 89 #[.pointer (some ⟨R,0,none⟩)] w (NdEnd A R s fl 0 (.err c q) w)) :
   Calls Tryz.prog 49 #[.pointer (some ⟨R,0,none⟩)] w (NdEnd A R s fl 0 (.err c q) w):=by
 have HC:=Lib.hid HC
 have hlt:=hR.lt
 have hb0:Below w.heap.size w (w.alloc (.cells noNode 28)):=(Below.refl _ _).alloc (Nat.le_refl _) _
 have HR:=Lib.hid (hR.later hb0)
 have Z1:=Lib.hid (heap_alloc_new w (.cells noNode 28))
 have HB0:=Lib.hid hb0
 have hsW:w.heap.size < (w.alloc (.cells noNode 28)).heap.size:=by simp
 have hRne:R ≠ w.heap.size:=by omega
 clear hR hb0
 go_enter Tryz.func49,Tryz.ntmps49
 go_wp2_with fail
 generalize World.alloc _ _=W at *
 refine (HC.out W HR.out).mono ?_
 intro e w2 he
 obtain ⟨v,rfl,hv,ht2⟩:=he.err rfl
 obtain ⟨x,rfl⟩:=hv.iface
 have hbA:Below w2.heap.size w2 (w2.alloc (.cells noNode 28)):=(Below.refl _ _).alloc (Nat.le_refl _) _
 have HV:=Lib.hid (hv.later hbA)
 have Z2:=Lib.hid (keep_blk hbA ((ht2.block w.heap.size hsW (by simp;omega)).trans Z1.out))
 have HT:=Lib.hid (((Touch.of_below [R] HB0.out).trans ht2).later hbA)
 clear hv ht2 he hbA
 go_wp2_with (first
   | (refine wpList_store_row rfl 28 (.tmp 2) (.tmp 13) rfl w.heap.size noNode rfl rfl 28 _ Z2.out (by kernel_rfl) rfl (by simp [Value.oneCell']) ?_)
   | fail)
 exact bodyPost_ret (results_row_1 rfl _ _ w.heap.size 28 noNode (0,0) _ _ rfl rfl (heap_setRow Z2.out) Tryz.underlying28 rfl (by kernel_rfl)) rfl ⟨⟨_,rfl,by exact (HV.out.setRow hsW noNode).down (Nat.le_of_lt hsW)⟩,by exact HT.out.setRow_new (Nat.le_refl _) _⟩
theorem whole_paren (w0:World) (A:Nat→Addr) (w:World) (R:Nat) (s:ByteArray) (fl:Int) (hR:RdAt w0 A w R s fl 0 0 0) (x:Tr) (j g:Nat) (hj:j < s.size) (HC:∀ w,RdAt w0 A w R s fl 0 0 0→Calls Tryz.prog 89 #[.pointer (some ⟨R,0,none⟩)] w (NdEnd A R s fl 0 (.ok x j g) w)) :
   Calls Tryz.prog 49 #[.pointer (some ⟨R,0,none⟩)] w (NdEnd A R s fl 0 (.err 2 j) w):=by
 have HC:=Lib.hid HC
 have hlt:=hR.lt
 have hb0:Below w.heap.size w (w.alloc (.cells noNode 28)):=(Below.refl _ _).alloc (Nat.le_refl _) _
 have HR:=Lib.hid (hR.later hb0)
 have Z1:=Lib.hid (heap_alloc_new w (.cells noNode 28))
 have HB0:=Lib.hid hb0
 have hsW:w.heap.size < (w.alloc (.cells noNode 28)).heap.size:=by simp
 have hRne:R ≠ w.heap.size:=by omega
 clear hR hb0
 go_enter Tryz.func49,Tryz.ntmps49
 go_wp2_with fail
 generalize World.alloc _ _=W at *
 refine (HC.out W HR.out).mono ?_
 intro e w2 he
 obtain ⟨v,F,rfl,ho,hF,hr2,ht2⟩:=he.ok rfl
 obtain ⟨p,c,rfl,hl⟩:=ho.slice
 have hbA:Below w2.heap.size w2 (w2.alloc (.cells (x.cells (.slice p x.subs.length c)) 28)):=(Below.refl _ _).alloc (Nat.le_refl _) _
 have HO3:=Lib.hid (ho.later hbA)
 have HF3:=Lib.hid hF
 have Z3:=Lib.hid (keep_blk hbA ((ht2.block w.heap.size hsW (by simp;omega)).trans Z1.out))
 have HT3:=Lib.hid (((Touch.of_below [R] HB0.out).trans ht2).later hbA)
 have HR3:=Lib.hid ((HR.out.next ht2 hr2).later hbA)
 have Y3:=Lib.hid (heap_alloc_new w2 (.cells (x.cells (.slice p x.subs.length c)) 28))
 have hs3:w.heap.size < (w2.alloc (.cells (x.cells (.slice p x.subs.length c)) 28)).heap.size:=Nat.lt_of_lt_of_le hsW (Nat.le_trans ht2.size hbA.size)
 clear ho hF hr2 ht2 he hbA HR Z1 HB0
 unfold Tr.cells at *
 go_upto_region 4 with (fail)
 generalize World.alloc w2 _=W3 at *
 obtain ⟨c0,c1,c2,-,-⟩:=rd5 HR3.out.cell
 have dj:decide ((j:Int) < s.size)=true:=by simp;omega
 have dj':decide (j < s.size)=true:=by simp;omega
 go_quiet (fail)
 have hbn:Below W3.heap.size W3 (W3.drewN nq):=drewN_below (Below.refl _ _) nq
 have HO4:=Lib.hid (HO3.out.later hbn)
 have Z4:Hid ((W3.drewN nq).heap[w.heap.size]? = some (.cells noNode 28)):=Lib.hid Z3.out
 have Y4:Hid ((W3.drewN nq).heap[w2.heap.size]? = some (.cells #[.int .i64 (x).kind,.int .u64 (Oc.U (x).w0),.int .u64 (Oc.U (x).w1),.int .u64 (Oc.U (x).w2),.int .u64 (Oc.U (x).w3),.slice p x.subs.length c,.int .i64 (x).num,.int .i64 (x).least,.int .i64 (x).most,.bool (x).bare] 28)):=Lib.hid Y3.out
 have HT4:=Lib.hid (HT3.out.drewN nq)
 have HR4:=Lib.hid (HR3.out.later hbn)
 have hs4:w.heap.size < (W3.drewN nq).heap.size:=hs3
 clear hbn HO3 Z3 Y3 HT3 HR3 hs3 c0 c1 c2
 generalize World.drewN W3 nq=W4 at *
 have HRx:=HR4
 have ce:W4.cell? ⟨1,0,none⟩=some (.iface 232 (.pointer (some (A 1)))):=(HRx.out.now.errs 1 (by omega)).1
 go_wp2_with fail
 refine (fails_any w0 A 1 (by omega) W4 R s fl j g 0 HRx.out).mono ?_
 intro e w7 he
 have he':=he
 obtain ⟨v,rfl,hv,ht7⟩:=he.err rfl
 have HE:=Lib.hid he'
 have Z7:=Lib.hid ((ht7.block w.heap.size hs4 (by simp;omega)).trans Z4.out)
 clear hv ht7 he he' ce
 go_wp2_with (first
   | (refine wpList_store_row rfl 28 (.tmp 2) (.tmp 28) rfl w.heap.size noNode rfl rfl 28 _ Z7.out (by kernel_rfl) rfl (by simp [Value.oneCell']) ?_)
   | fail)
 exact bodyPost_ret (results_row_1 rfl _ _ w.heap.size 28 noNode (0,0) _ _ rfl rfl (heap_setRow Z7.out) Tryz.underlying28 rfl (by kernel_rfl)) rfl (by exact (HE.out.b.pass HT4.out hs4 (Nat.le_refl _) (Nat.le_of_lt hs4) hRne _).nd)
theorem whole_big (w0:World) (A:Nat→Addr) (w:World) (R:Nat) (s:ByteArray) (fl:Int) (hR:RdAt w0 A w R s fl 0 0 0) (x:Tr) (j g:Nat) (hj:j=s.size) (hf:x.InForm) (hbig:2000 < x.szT) (HC:∀ w,RdAt w0 A w R s fl 0 0 0→Calls Tryz.prog 89 #[.pointer (some ⟨R,0,none⟩)] w (NdEnd A R s fl 0 (.ok x j g) w)) :
   Calls Tryz.prog 49 #[.pointer (some ⟨R,0,none⟩)] w (NdEnd A R s fl 0 (.err 10 j) w):=by
 have HC:=Lib.hid HC
 have hlt:=hR.lt
 have hb0:Below w.heap.size w (w.alloc (.cells noNode 28)):=(Below.refl _ _).alloc (Nat.le_refl _) _
 have HR:=Lib.hid (hR.later hb0)
 have Z1:=Lib.hid (heap_alloc_new w (.cells noNode 28))
 have HB0:=Lib.hid hb0
 have hsW:w.heap.size < (w.alloc (.cells noNode 28)).heap.size:=by simp
 have hRne:R ≠ w.heap.size:=by omega
 clear hR hb0
 go_enter Tryz.func49,Tryz.ntmps49
 go_wp2_with fail
 generalize World.alloc _ _=W at *
 refine (HC.out W HR.out).mono ?_
 intro e w2 he
 obtain ⟨v,F,rfl,ho,hF,hr2,ht2⟩:=he.ok rfl
 obtain ⟨p,c,rfl,hl⟩:=ho.slice
 have hbA:Below w2.heap.size w2 (w2.alloc (.cells (x.cells (.slice p x.subs.length c)) 28)):=(Below.refl _ _).alloc (Nat.le_refl _) _
 have HO3:=Lib.hid (ho.later hbA)
 have HF3:=Lib.hid hF
 have Z3:=Lib.hid (keep_blk hbA ((ht2.block w.heap.size hsW (by simp;omega)).trans Z1.out))
 have HT3:=Lib.hid (((Touch.of_below [R] HB0.out).trans ht2).later hbA)
 have HR3:=Lib.hid ((HR.out.next ht2 hr2).later hbA)
 have Y3:=Lib.hid (heap_alloc_new w2 (.cells (x.cells (.slice p x.subs.length c)) 28))
 have hs3:w.heap.size < (w2.alloc (.cells (x.cells (.slice p x.subs.length c)) 28)).heap.size:=Nat.lt_of_lt_of_le hsW (Nat.le_trans ht2.size hbA.size)
 clear ho hF hr2 ht2 he hbA HR Z1 HB0
 unfold Tr.cells at *
 go_upto_region 4 with (fail)
 generalize World.alloc w2 _=W3 at *
 obtain ⟨c0,c1,c2,-,-⟩:=rd5 HR3.out.cell
 have dj:decide ((j:Int) < s.size)=false:=by simp;omega
 have dj':decide (j < s.size)=false:=by simp;omega
 go_quiet (fail)
 have hbn:Below W3.heap.size W3 (W3.drewN nq):=drewN_below (Below.refl _ _) nq
 have HO4:=Lib.hid (HO3.out.later hbn)
 have Z4:Hid ((W3.drewN nq).heap[w.heap.size]? = some (.cells noNode 28)):=Lib.hid Z3.out
 have Y4:Hid ((W3.drewN nq).heap[w2.heap.size]? = some (.cells #[.int .i64 (x).kind,.int .u64 (Oc.U (x).w0),.int .u64 (Oc.U (x).w1),.int .u64 (Oc.U (x).w2),.int .u64 (Oc.U (x).w3),.slice p x.subs.length c,.int .i64 (x).num,.int .i64 (x).least,.int .i64 (x).most,.bool (x).bare] 28)):=Lib.hid Y3.out
 have HT4:=Lib.hid (HT3.out.drewN nq)
 have HR4:=Lib.hid (HR3.out.later hbn)
 have hs4:w.heap.size < (W3.drewN nq).heap.size:=hs3
 clear hbn HO3 Z3 Y3 HT3 HR3 hs3 c0 c1 c2
 generalize World.drewN W3 nq=W4 at *
 have HSZ:=Lib.hid (treeSize_any x hf W4 (fun b=>b ∈ F) _ ⟨_,rfl,HO4.out.trees⟩)
 have hle:=Tr.szT_le x
 have hd:decide ((2000:Int) < x.szT)=true:=by simp;omega
 have hd':decide (2000 < x.szT)=true:=by simp;omega
 generalize x.szT=N at *
 clear hf hbig hle
 unfold Tr.cells at *
 go_wp2_with (first
   | (refine wpList_load_row rfl 28 (.tmp 4) rfl w2.heap.size rfl 28 _ (0,0) _ Y4.out Tryz.underlying28 rfl (by kernel_rfl) ?_)
   | fail)
 refine HSZ.out.mono ?_
 rintro e w5 ⟨rfl,hb5⟩
 have HO5:=Lib.hid (HO4.out.later hb5)
 have Z5:=Lib.hid (keep_blk hb5 Z4.out)
 have Y5:=Lib.hid (keep_blk hb5 Y4.out)
 have HT5:=Lib.hid (HT4.out.later hb5)
 have HRx:=Lib.hid (HR4.out.later hb5)
 have hs5:w.heap.size < w5.heap.size:=Nat.lt_of_lt_of_le hs4 hb5.size
 clear hb5 HO4 Z4 Y4 HT4 HR4 HSZ
 have ce:w5.cell? ⟨9,0,none⟩=some (.iface 232 (.pointer (some (A 9)))):=(HRx.out.now.errs 9 (by omega)).1
 go_wp2_with fail
 refine (fails_any w0 A 9 (by omega) w5 R s fl j g 0 HRx.out).mono ?_
 intro e w7 he
 have he':=he
 obtain ⟨v,rfl,hv,ht7⟩:=he.err rfl
 have HE:=Lib.hid he'
 have Z7:=Lib.hid ((ht7.block w.heap.size hs5 (by simp;omega)).trans Z5.out)
 clear hv ht7 he he' ce
 go_wp2_with (first
   | (refine wpList_store_row rfl 28 (.tmp 2) (.tmp 36) rfl w.heap.size noNode rfl rfl 28 _ Z7.out (by kernel_rfl) rfl (by simp [Value.oneCell']) ?_)
   | fail)
 exact bodyPost_ret (results_row_1 rfl _ _ w.heap.size 28 noNode (0,0) _ _ rfl rfl (heap_setRow Z7.out) Tryz.underlying28 rfl (by kernel_rfl)) rfl (by exact (HE.out.b.pass HT5.out hs5 (Nat.le_refl _) (Nat.le_of_lt hs5) hRne _).nd)
theorem whole_ok (w0:World) (A:Nat→Addr) (w:World) (R:Nat) (s:ByteArray) (fl:Int) (hR:RdAt w0 A w R s fl 0 0 0) (x:Tr) (j g:Nat) (hj:j=s.size) (hf:x.InForm) (hbig:x.szT ≤ 2000) (HC:∀ w,RdAt w0 A w R s fl 0 0 0→Calls Tryz.prog 89 #[.pointer (some ⟨R,0,none⟩)] w (NdEnd A R s fl 0 (.ok x j g) w)) :
   Calls Tryz.prog 49 #[.pointer (some ⟨R,0,none⟩)] w (NdEnd A R s fl 0 (.ok x j g) w):=by
 have HC:=Lib.hid HC
 have hlt:=hR.lt
 have hb0:Below w.heap.size w (w.alloc (.cells noNode 28)):=(Below.refl _ _).alloc (Nat.le_refl _) _
 have HR:=Lib.hid (hR.later hb0)
 have Z1:=Lib.hid (heap_alloc_new w (.cells noNode 28))
 have HB0:=Lib.hid hb0
 have hsW:w.heap.size < (w.alloc (.cells noNode 28)).heap.size:=by simp
 have hRne:R ≠ w.heap.size:=by omega
 clear hR hb0
 go_enter Tryz.func49,Tryz.ntmps49
 go_wp2_with fail
 generalize World.alloc _ _=W at *
 refine (HC.out W HR.out).mono ?_
 intro e w2 he
 obtain ⟨v,F,rfl,ho,hF,hr2,ht2⟩:=he.ok rfl
 obtain ⟨p,c,rfl,hl⟩:=ho.slice
 have hbA:Below w2.heap.size w2 (w2.alloc (.cells (x.cells (.slice p x.subs.length c)) 28)):=(Below.refl _ _).alloc (Nat.le_refl _) _
 have HO3:=Lib.hid (ho.later hbA)
 have HF3:=Lib.hid hF
 have Z3:=Lib.hid (keep_blk hbA ((ht2.block w.heap.size hsW (by simp;omega)).trans Z1.out))
 have HT3:=Lib.hid (((Touch.of_below [R] HB0.out).trans ht2).later hbA)
 have HR3:=Lib.hid ((HR.out.next ht2 hr2).later hbA)
 have Y3:=Lib.hid (heap_alloc_new w2 (.cells (x.cells (.slice p x.subs.length c)) 28))
 have hs3:w.heap.size < (w2.alloc (.cells (x.cells (.slice p x.subs.length c)) 28)).heap.size:=Nat.lt_of_lt_of_le hsW (Nat.le_trans ht2.size hbA.size)
 clear ho hF hr2 ht2 he hbA HR Z1 HB0
 unfold Tr.cells at *
 go_upto_region 4 with (fail)
 generalize World.alloc w2 _=W3 at *
 obtain ⟨c0,c1,c2,-,-⟩:=rd5 HR3.out.cell
 have dj:decide ((j:Int) < s.size)=false:=by simp;omega
 have dj':decide (j < s.size)=false:=by simp;omega
 go_quiet (fail)
 have hbn:Below W3.heap.size W3 (W3.drewN nq):=drewN_below (Below.refl _ _) nq
 have HO4:=Lib.hid (HO3.out.later hbn)
 have Z4:Hid ((W3.drewN nq).heap[w.heap.size]? = some (.cells noNode 28)):=Lib.hid Z3.out
 have Y4:Hid ((W3.drewN nq).heap[w2.heap.size]? = some (.cells #[.int .i64 (x).kind,.int .u64 (Oc.U (x).w0),.int .u64 (Oc.U (x).w1),.int .u64 (Oc.U (x).w2),.int .u64 (Oc.U (x).w3),.slice p x.subs.length c,.int .i64 (x).num,.int .i64 (x).least,.int .i64 (x).most,.bool (x).bare] 28)):=Lib.hid Y3.out
 have HT4:=Lib.hid (HT3.out.drewN nq)
 have HR4:=Lib.hid (HR3.out.later hbn)
 have hs4:w.heap.size < (W3.drewN nq).heap.size:=hs3
 clear hbn HO3 Z3 Y3 HT3 HR3 hs3 c0 c1 c2
 generalize World.drewN W3 nq=W4 at *
 have HSZ:=Lib.hid (treeSize_any x hf W4 (fun b=>b ∈ F) _ ⟨_,rfl,HO4.out.trees⟩)
 have hle:=Tr.szT_le x
 have hd:decide ((2000:Int) < x.szT)=false:=by simp;omega
 have hd':decide (2000 < x.szT)=false:=by simp;omega
 generalize x.szT=N at *
 clear hf hbig hle
 unfold Tr.cells at *
 go_wp2_with (first
   | (refine wpList_load_row rfl 28 (.tmp 4) rfl w2.heap.size rfl 28 _ (0,0) _ Y4.out Tryz.underlying28 rfl (by kernel_rfl) ?_)
   | fail)
 refine HSZ.out.mono ?_
 rintro e w5 ⟨rfl,hb5⟩
 have HO5:=Lib.hid (HO4.out.later hb5)
 have Z5:=Lib.hid (keep_blk hb5 Z4.out)
 have Y5:=Lib.hid (keep_blk hb5 Y4.out)
 have HT5:=Lib.hid (HT4.out.later hb5)
 have HRx:=Lib.hid (HR4.out.later hb5)
 have hs5:w.heap.size < w5.heap.size:=Nat.lt_of_lt_of_le hs4 hb5.size
 clear hb5 HO4 Z4 Y4 HT4 HR4 HSZ
 have hk1:∀ b,b ∈ F→b ≠ w.heap.size:=fun b hb=>by have:=HF3.out b hb;omega
 have hk2:∀ b,b ∈ F→w.heap.size ≤ b:=fun b hb=>by have:=HF3.out b hb;omega
 have HK1:=Lib.hid hk1;have HK2:=Lib.hid hk2
 clear hk1 hk2
 go_wp2_with (first
   | (refine wpList_load_row rfl 28 (.tmp 4) rfl w2.heap.size rfl 28 _ (0,0) _ Y5.out Tryz.underlying28 rfl (by kernel_rfl) ?_)
   | (refine wpList_store_row rfl 28 (.tmp 2) (.tmp 38) rfl w.heap.size #[.int .i64 (x).kind,.int .u64 (Oc.U (x).w0),.int .u64 (Oc.U (x).w1),.int .u64 (Oc.U (x).w2),.int .u64 (Oc.U (x).w3),.slice p x.subs.length c,.int .i64 (x).num,.int .i64 (x).least,.int .i64 (x).most,.bool (x).bare] rfl rfl 28 _ Z5.out (by kernel_rfl) rfl (by simp [Value.oneCell']) ?_)
   | fail)
 exact bodyPost_ret (results_row_1 rfl _ _ w.heap.size 28 #[.int .i64 (x).kind,.int .u64 (Oc.U (x).w0),.int .u64 (Oc.U (x).w1),.int .u64 (Oc.U (x).w2),.int .u64 (Oc.U (x).w3),.slice p x.subs.length c,.int .i64 (x).num,.int .i64 (x).least,.int .i64 (x).most,.bool (x).bare] (0,0) _ _ rfl rfl (heap_setRow Z5.out) Tryz.underlying28 rfl (by kernel_rfl)) rfl ⟨⟨.slice p x.subs.length c,F,rfl,HO5.out.keep fun b hb=>heap_setRow_other _ _ _ (HK1.out b hb),HK2.out,(heap_setRow_other _ _ _ hRne).trans HRx.out.cell⟩,HT5.out.setRow_new (Nat.le_refl _) _⟩
theorem ewhole_any (w0:World) (A:Nat→Addr) (w:World) (R:Nat) (s:ByteArray) (hs:s.size ≤ 1024) (fl:Int) (hR:RdAt w0 A w R s fl 0 0 0) :
   Calls Tryz.prog 49 #[.pointer (some ⟨R,0,none⟩)] w (NdEnd A R s fl 0 (Ep.whole (bt s) s.size (icB fl) (nlB fl)) w):=by
 have hp:∀ O,Ep.pat (bt s) s.size (icB fl) (nlB fl) 32 0 0=O→∀ w,RdAt w0 A w R s fl 0 0 0→Calls Tryz.prog 89 #[.pointer (some ⟨R,0,none⟩)] w (NdEnd A R s fl 0 O w):=fun O hO w hR=>pat_any w0 A w R s hs fl hR O hO
 unfold Ep.whole
 cases hO:Ep.pat (bt s) s.size (icB fl) (nlB fl) 32 0 0 with
 | err c q=>exact whole_err w0 A w R s fl hR c q (hp _ hO)
 | ok x j g =>
   have hn:=Ep.alts_next (bt_txt s) (Ep.group_next (bt_txt s) 32) (by omega) hO
   have hf:=Ep.alts_form (bt_txt s) (Ep.group_next (bt_txt s) 32) (Ep.group_right (bt_txt s) hs 32 0 (by omega)) (by omega) (fun u hu=>by cases hu) (by omega) hO
   by_cases hj:j < s.size
   · simp only [hj,if_true];exact whole_paren w0 A w R s fl hR x j g hj (hp _ hO)
   · simp only [hj,if_false]
     have hjs:j=s.size:=by omega
     by_cases hb:2000 < x.szT
     · simp only [hb,if_true];rw [← hjs];exact whole_big w0 A w R s fl hR x j g hjs hf.1 hb (hp _ hO)
     · simp only [hb,if_false];exact whole_ok w0 A w R s fl hR x j g hjs hf.1 (by omega) (hp _ hO)
def PaEnd (A:Nat→Addr) (O:Ep.Out) (w:World) (e:Ending) (w':World):Prop :=
 (match O with
 | .ok t _ g=>∃ v F,e=.returned (.tuple #[.agg (t.cells v),.int .i64 g,.nilIface])∧Owned w' v t.subs F∧(∀ b,b ∈ F→w.heap.size ≤ b)
 | .err c q=>∃ v,e=.returned (.tuple #[.agg noNode,.int .i64 0,v])∧ErrOne A w.heap.size w' v c q)∧Below w.heap.size w w'
theorem PaEnd.ok {A:Nat→Addr} {O:Ep.Out} {w:World} {e:Ending} {w':World} (h:PaEnd A O w e w') {t:Tr} {j g:Nat} (hO:O=.ok t j g) :
   ∃ v F,e=.returned (.tuple #[.agg (t.cells v),.int .i64 g,.nilIface])∧Owned w' v t.subs F∧(∀ b,b ∈ F→w.heap.size ≤ b)∧Below w.heap.size w w':=by
 subst hO;obtain ⟨⟨v,F,h1,h2,h3⟩,h4⟩:=h;exact ⟨v,F,h1,h2,h3,h4⟩
theorem PaEnd.err {A:Nat→Addr} {O:Ep.Out} {w:World} {e:Ending} {w':World} (h:PaEnd A O w e w') {c:Nat} {q:Int} (hO:O=.err c q) :
   ∃ v,e=.returned (.tuple #[.agg noNode,.int .i64 0,v])∧ErrOne A w.heap.size w' v c q∧Below w.heap.size w w':=by
 subst hO;obtain ⟨⟨v,h1,h2⟩,h4⟩:=h;exact ⟨v,h1,h2,h4⟩
theorem all_oneCell_node (t:Tr) (p:Option Addr) (l c:Nat):(#[.int .i64 t.kind,.int .u64 (Oc.U t.w0),.int .u64 (Oc.U t.w1),.int .u64 (Oc.U t.w2),.int .u64 (Oc.U t.w3),.slice p l c,.int .i64 t.num,.int .i64 t.least,.int .i64 t.most,.bool t.bare]:Array Value).all (·.oneCell')=true:=nodeC_all t p l c
theorem parse_long (A:Nat→Addr) (w:World) (s:ByteArray) (fl:Int) (hE:BrEnv w A) (hl:1024 < s.size) :
   Calls Tryz.prog 23 #[.string s,.int .i64 fl] w (PaEnd A (.err 12 1024) w):=by
 have hb0:Below w.heap.size w (w.alloc (.cells noNode 28)):=(Below.refl _ _).alloc (Nat.le_refl _) _
 have hE1:=hE.below hb0
 have ce:(w.alloc (.cells noNode 28)).cell? ⟨11,0,none⟩=some (.iface 232 (.pointer (some (A 11)))):=(hE1.errs 11 (by omega)).1
 have Z1:=Lib.hid (heap_alloc_new w (.cells noNode 28))
 have HB0:=Lib.hid hb0
 have hd:decide ((1024:Int) < s.size)=true:=by simp;omega
 have hd':decide (1024 < s.size)=true:=by simp;omega
 clear hE hb0 hE1 hl
 go_enter Tryz.func23,Tryz.ntmps23
 go_wp2_with fail
 refine (at_err A 11 (by omega) 1024 _).mono ?_
 rintro e w2 ⟨v,rfl,hv,hb⟩
 have Z2:=Lib.hid (keep_blk hb Z1.out)
 have HB:=Lib.hid (HB0.out.trans (hb.mono HB0.out.size))
 have HV:=Lib.hid (hv.setRow (show w.heap.size < (w.alloc (.cells noNode 28)).heap.size by simp) noNode)
 clear hb hv ce HB0 Z1
 go_wp2_with (first
   | (refine wpList_store_row rfl 28 (.tmp 4) (.tmp 13) rfl w.heap.size noNode rfl rfl 28 _ Z2.out (by kernel_rfl) rfl (by simp [Value.oneCell']) ?_)
   | fail)
 exact bodyPost_ret (results_row_two rfl _ _ w.heap.size 28 noNode (0,0) _ _ _ rfl rfl rfl (heap_setRow Z2.out) Tryz.underlying28 rfl (by kernel_rfl)) rfl ⟨⟨_,rfl,by exact HV.out.down (by simp)⟩,by exact below_setRow HB.out (Nat.le_refl _) _⟩
theorem parse_err (A:Nat→Addr) (w:World) (s:ByteArray) (fl:Int) (hE:BrEnv w A) (hl:s.size ≤ 1024) (c:Nat) (q:Int) (HC:∀ w' R,RdAt w A w' R s fl 0 0 0→Calls Tryz.prog 49 #[.pointer (some ⟨R,0,none⟩)] w' (NdEnd A R s fl 0 (.err c q) w')) :
   Calls Tryz.prog 23 #[.string s,.int .i64 fl] w (PaEnd A (.err c q) w):=by
 have HC:=Lib.hid HC
 have hd:decide ((1024:Int) < s.size)=false:=by simp;omega
 have hd':decide (1024 < s.size)=false:=by simp;omega
 have hb0:Below w.heap.size w ((w.alloc (.cells noNode 28)).alloc (.cells (rdC s fl 0 0 0) 85)):=by go_grown
 have hz:=two_new w (.cells noNode 28) (.cells (rdC s fl 0 0 0) 85)
 have HR:=Lib.hid (RdAt.mk hE (Nat.le_succ _) hb0 hz.2)
 have Z1:=Lib.hid hz.1
 have HB0:=Lib.hid hb0
 have hs1:((w.alloc (.cells noNode 28)).alloc (.cells (rdC s fl 0 0 0) 85)).heap.size=w.heap.size+2:=by simp
 clear hE hb0 hl hz
 go_enter Tryz.func23,Tryz.ntmps23
 go_wp2_with fail
 refine (HC.out _ (w.heap.size+1) HR.out).mono ?_
 intro e w2 he
 generalize World.alloc (World.alloc _ _) _=W at *
 obtain ⟨v,rfl,hv,ht2⟩:=he.err rfl
 obtain ⟨x,rfl⟩:=hv.iface
 have hbA:Below w2.heap.size w2 (w2.alloc (.cells noNode 28)):=(Below.refl _ _).alloc (Nat.le_refl _) _
 have HV:=Lib.hid (hv.later hbA)
 have Z2:=Lib.hid (keep_blk hbA ((ht2.block w.heap.size (by omega) (by simp)).trans Z1.out))
 have hb2:Below w.heap.size w w2:=HB0.out.trans (ht2.below (fun k hk=>by rw [List.mem_singleton.1 hk];omega) HB0.out.size)
 have HB2:=Lib.hid (hb2.trans (hbA.mono hb2.size))
 have HV2:=Lib.hid ((hv.later hbA).setRow (show w.heap.size < W.heap.size by omega) noNode)
 clear hv ht2 he hbA hb2
 go_wp2_with (first
   | (refine wpList_store_row rfl 28 (.tmp 4) (.tmp 25) rfl w.heap.size noNode rfl rfl 28 _ Z2.out (by kernel_rfl) rfl (by simp [Value.oneCell']) ?_)
   | fail)
 exact bodyPost_ret (results_row_two rfl _ _ w.heap.size 28 noNode (0,0) _ _ _ rfl rfl rfl (heap_setRow Z2.out) Tryz.underlying28 rfl (by kernel_rfl)) rfl ⟨⟨_,rfl,by exact HV2.out.down (by omega)⟩,by exact below_setRow HB2.out (Nat.le_refl _) _⟩
theorem parse_ok (A:Nat→Addr) (w:World) (s:ByteArray) (fl:Int) (hE:BrEnv w A) (hl:s.size ≤ 1024) (x:Tr) (j g:Nat) (HC:∀ w' R,RdAt w A w' R s fl 0 0 0→Calls Tryz.prog 49 #[.pointer (some ⟨R,0,none⟩)] w' (NdEnd A R s fl 0 (.ok x j g) w')) :
   Calls Tryz.prog 23 #[.string s,.int .i64 fl] w (PaEnd A (.ok x j g) w):=by
 have HC:=Lib.hid HC
 have hd:decide ((1024:Int) < s.size)=false:=by simp;omega
 have hd':decide (1024 < s.size)=false:=by simp;omega
 have hb0:Below w.heap.size w ((w.alloc (.cells noNode 28)).alloc (.cells (rdC s fl 0 0 0) 85)):=by go_grown
 have hz:=two_new w (.cells noNode 28) (.cells (rdC s fl 0 0 0) 85)
 have HR:=Lib.hid (RdAt.mk hE (Nat.le_succ _) hb0 hz.2)
 have Z1:=Lib.hid hz.1
 have HB0:=Lib.hid hb0
 have hs1:((w.alloc (.cells noNode 28)).alloc (.cells (rdC s fl 0 0 0) 85)).heap.size=w.heap.size+2:=by simp
 clear hE hb0 hl hz
 go_enter Tryz.func23,Tryz.ntmps23
 go_wp2_with fail
 refine (HC.out _ (w.heap.size+1) HR.out).mono ?_
 intro e w2 he
 generalize World.alloc (World.alloc _ _) _=W at *
 obtain ⟨v,F,rfl,ho,hF,hr2,ht2⟩:=he.ok rfl
 obtain ⟨p,c,rfl,hl⟩:=ho.slice
 have hbA:Below w2.heap.size w2 (w2.alloc (.cells (x.cells (.slice p x.subs.length c)) 28)):=(Below.refl _ _).alloc (Nat.le_refl _) _
 have HO3:=Lib.hid (ho.later hbA)
 have HF3:=Lib.hid hF
 have Z3:=Lib.hid (keep_blk hbA ((ht2.block w.heap.size (by omega) (by simp)).trans Z1.out))
 have HP3:=Lib.hid (keep_blk hbA hr2)
 have Y3:=Lib.hid (heap_alloc_new w2 (.cells (x.cells (.slice p x.subs.length c)) 28))
 have hb2:Below w.heap.size w w2:=HB0.out.trans (ht2.below (fun k hk=>by rw [List.mem_singleton.1 hk];omega) HB0.out.size)
 have HB3:=Lib.hid (hb2.trans (hbA.mono hb2.size))
 have hs2:w.heap.size+2 ≤ w2.heap.size:=by have:=ht2.size;omega
 have hs3:w.heap.size < (w2.alloc (.cells (x.cells (.slice p x.subs.length c)) 28)).heap.size:=by have:=hbA.size;omega
 clear ho hF hr2 ht2 he hbA Z1 HB0 HR hb2
 unfold Tr.cells at *
 go_upto_region 7 with (fail)
 generalize World.alloc w2 _=W3 at *
 refine Ri.wp_region_frame (by kernel_rfl) (by kernel_rfl) (by kernel_rfl) (by kernel_rfl)
   (fun L v w'=>Below w.heap.size w w'∧W3.heap.size ≤ w'.heap.size∧(L 3=true→w'.heap[w.heap.size]? = some (.cells #[.int .i64 (x).kind,.int .u64 (Oc.U (x).w0),.int .u64 (Oc.U (x).w1),.int .u64 (Oc.U (x).w2),.int .u64 (Oc.U (x).w3),.slice p x.subs.length c,.int .i64 (x).num,.int .i64 (x).least,.int .i64 (x).most,.bool (x).bare] 28))∧(L 3=false→w'.heap[w.heap.size]? = some (.cells noNode 28))∧w'.heap[(w.heap.size+1)]? = some (.cells (rdC s fl j g 0) 85)∧w'.heap[w2.heap.size]? = some (.cells #[.int .i64 (x).kind,.int .u64 (Oc.U (x).w0),.int .u64 (Oc.U (x).w1),.int .u64 (Oc.U (x).w2),.int .u64 (Oc.U (x).w3),.slice p x.subs.length c,.int .i64 (x).num,.int .i64 (x).least,.int .i64 (x).most,.bool (x).bare] 28)∧(∀ k,k < W3.heap.size→k ≠ w.heap.size→w'.heap[k]? = W3.heap[k]?)∧(L 0=true→v 0=.agg #[.int .i64 (x).kind,.int .u64 (Oc.U (x).w0),.int .u64 (Oc.U (x).w1),.int .u64 (Oc.U (x).w2),.int .u64 (Oc.U (x).w3),.slice p x.subs.length c,.int .i64 (x).num,.int .i64 (x).least,.int .i64 (x).most,.bool (x).bare])∧(L 1=true→v 1=.pointer (some ⟨w.heap.size+1,3,none⟩))∧(L 2=true→v 2=.int .i64 g)∧(L 4=true→v 4=.int .i64 g)∧(L 5=true→v 5=.nilIface))
   ?_ ?_ ?_
 · exact ⟨HB3.out.drew,Nat.le_refl _,(by simp),(fun _=>Z3.out),HP3.out,Y3.out,fun _ _ _=>rfl,by simp,by simp,by simp,by simp,by simp⟩
 · intro i hi9 L v w9 xa hI hL hd hv ho
   have hi':i=0 ∨ i=1 ∨ i=2 ∨ i=3 ∨ i=4 ∨ i=5:=by simp at hi9;omega
   obtain ⟨hb,hz,qn,qo,k0,k1,kf,q0,q1,q2,q4,q5⟩:=hI
   rcases hi' with rfl | rfl | rfl | rfl | rfl | rfl
   · have e8:xa.tmps.getD 8 undef=.pointer (some ⟨w2.heap.size,0,none⟩):=ho 8 (by kernel_rfl)
     refine Ri.step_plain rfl rfl (fun K' hK=>?_)
     refine wp_load_row _ _ rfl _ e8 _ _ _ _ k1 Tryz.underlying28 rfl (by kernel_rfl) ?_
     exact hK _ _ ⟨_,_,rfl,rfl,hb,hz,qn,qo,k0,k1,kf,fun _=>rfl,q1,q2,q4,q5⟩
   · have e7:xa.tmps.getD 7 undef=.pointer (some ⟨w.heap.size+1,0,none⟩):=ho 7 (by kernel_rfl)
     refine Ri.step_plain rfl rfl (fun K' hK=>?_)
     go_simp
     exact hK _ _ ⟨_,_,rfl,rfl,hb,hz,qn,qo,k0,k1,kf,q0,fun _=>rfl,q2,q4,q5⟩
   · have l0:L 1=true:=by have:=hd _ rfl;simp [Region.binds] at this;simp [this]
     have f1:=(hv 1 28 rfl l0).trans (q1 l0)
     refine Ri.step_plain rfl rfl (fun K' hK=>?_)
     obtain ⟨_,_,_,k3,_⟩:=rd5 k0
     go_simp
     exact hK _ _ ⟨_,_,rfl,rfl,hb,hz,qn,qo,k0,k1,kf,q0,q1,fun _=>rfl,q4,q5⟩
   · have l0:L 0=true:=by have:=hd _ rfl;simp [Region.binds] at this;simp [this]
     have f0:=(hv 0 27 rfl l0).trans (q0 l0)
     have e4:xa.tmps.getD 4 undef=.pointer (some ⟨w.heap.size,0,none⟩):=ho 4 (by kernel_rfl)
     refine Ri.step_plain rfl rfl (fun K' hK=>?_)
     refine wp_store_row _ _ _ rfl w.heap.size #[.int .i64 (x).kind,.int .u64 (Oc.U (x).w0),.int .u64 (Oc.U (x).w1),.int .u64 (Oc.U (x).w2),.int .u64 (Oc.U (x).w3),.slice p x.subs.length c,.int .i64 (x).num,.int .i64 (x).least,.int .i64 (x).most,.bool (x).bare] e4 f0 28 _ (qo hL) (by kernel_rfl) (by kernel_rfl) (all_oneCell_node x p x.subs.length c) ?_
     exact hK _ _ ⟨_,undef,rfl,rfl,below_setRow hb (Nat.le_refl _) _,by simpa using hz,(fun _=>heap_setRow (qo hL)),(fun h=>by cases h),(heap_setRow_other _ _ _ (by omega)).trans k0,(heap_setRow_other _ _ _ (by omega)).trans k1,(fun k hk hn=>(heap_setRow_other _ _ _ hn).trans (kf k hk hn)),q0,q1,q2,q4,q5⟩
   · have l0:L 2=true:=by have:=hd _ rfl;simp [Region.binds] at this;simp [this]
     have f2:=(hv 2 29 rfl l0).trans (q2 l0)
     refine Ri.step_plain rfl rfl (fun K' hK=>?_)
     go_simp
     exact hK _ _ ⟨_,_,rfl,rfl,hb,hz,qn,qo,k0,k1,kf,q0,q1,q2,fun _=>rfl,q5⟩
   · refine Ri.step_plain rfl rfl (fun K' hK=>?_)
     go_simp
     exact hK _ _ ⟨_,_,rfl,rfl,hb,hz,qn,qo,k0,k1,kf,q0,q1,q2,q4,fun _=>rfl⟩
 · rintro v w9 ⟨hb,hz,qn,-,k0,k1,kf,-,-,-,q4,q5⟩
   have zN:=qn rfl;clear qn
   have q4':v 4=.int .i64 g:=q4 rfl
   have q5':v 5=.nilIface:=q5 rfl
   simp only [Ri.frame,List.zipIdx,List.foldl_cons,List.foldl_nil,if_true,List.setIfInBounds_toArray,List.set_cons_zero,List.set_cons_succ,Nat.reduceAdd,q4',q5']
   clear q4 q4' q5 q5'
   generalize v 0=y0;generalize v 1=y1;generalize v 2=y2
   have HOw:=Lib.hid (HO3.out.keep (w':=w9) fun b hb=>kf b (HO3.out.lt b hb) (by have:=HF3.out b hb;omega))
   have HK2:Hid (∀ b,b ∈ F→w.heap.size ≤ b):=Lib.hid fun b hb=>by have:=HF3.out b hb;omega
   have HBw:=Lib.hid hb
   have ZN:=Lib.hid zN
   clear hb zN kf
   go_wp2
   exact bodyPost_ret (results_row_two rfl _ _ w.heap.size 28 #[.int .i64 (x).kind,.int .u64 (Oc.U (x).w0),.int .u64 (Oc.U (x).w1),.int .u64 (Oc.U (x).w2),.int .u64 (Oc.U (x).w3),.slice p x.subs.length c,.int .i64 (x).num,.int .i64 (x).least,.int .i64 (x).most,.bool (x).bare] (0,0) _ _ _ rfl rfl rfl ZN.out Tryz.underlying28 rfl (by kernel_rfl)) rfl ⟨⟨.slice p x.subs.length c,F,by exact rfl,HOw.out,HK2.out⟩,HBw.out⟩
theorem parse_does (A:Nat→Addr) (w:World) (s:ByteArray) (fl:Int) (hE:BrEnv w A) :
   Calls Tryz.prog 23 #[.string s,.int .i64 fl] w (PaEnd A (Ep.parse (bt s) s.size (icB fl) (nlB fl)) w):=by
 unfold Ep.parse
 by_cases hl:1024 < s.size
 · rw [if_pos hl];exact parse_long A w s fl hE hl
 · rw [if_neg hl]
   have hw:∀ O,Ep.whole (bt s) s.size (icB fl) (nlB fl)=O→∀ w' R,RdAt w A w' R s fl 0 0 0→Calls Tryz.prog 49 #[.pointer (some ⟨R,0,none⟩)] w' (NdEnd A R s fl 0 O w'):=fun O hO w' R hR=>by
     rw [← hO];exact ewhole_any w A w' R s (by omega) fl hR
   cases hO:Ep.whole (bt s) s.size (icB fl) (nlB fl) with
   | err c q=>exact parse_err A w s fl hE (by omega) c q (hw _ hO)
   | ok x j g=>exact parse_ok A w s fl hE (by omega) x j g (hw _ hO)
end Go.Proofs.YtfcilopifjddpaaGreatDoor
namespace Go.Proofs.YtfcilopifjddpaaGreatDoor
open Go.RowKit
structure BqAt (w0:World) (A:Nat→Addr) (w:World) (R:Nat) (s:ByteArray) (fl:Int) (i g d:Nat):Prop where
 env:BrEnv w0 A
 old:w0.heap.size ≤ R
 bel:Below w0.heap.size w0 w
 cell:w.heap[R]? = some (.cells (rdC s fl i g d) 53)
theorem BqAt.lt {w0:World} {A:Nat→Addr} {w:World} {R:Nat} {s:ByteArray} {fl:Int} {i g d:Nat} (h:BqAt w0 A w R s fl i g d):R < w.heap.size:=(Array.getElem?_eq_some_iff.1 h.cell).1
theorem BqAt.now {w0:World} {A:Nat→Addr} {w:World} {R:Nat} {s:ByteArray} {fl:Int} {i g d:Nat} (h:BqAt w0 A w R s fl i g d):BrEnv w A:=h.env.below h.bel
theorem BqAt.next {w0:World} {A:Nat→Addr} {w w':World} {R:Nat} {s:ByteArray} {fl:Int} {i g d i' g' d':Nat} (h:BqAt w0 A w R s fl i g d) (ht:Touch [R] w w') (hc:w'.heap[R]? = some (.cells (rdC s fl i' g' d') 53)):BqAt w0 A w' R s fl i' g' d' :=
 ⟨h.env,h.old,h.bel.trans (ht.below (fun k hk=>by rw [List.mem_singleton.1 hk];exact h.old) h.bel.size),hc⟩
theorem BqAt.later {w0:World} {A:Nat→Addr} {w w':World} {R:Nat} {s:ByteArray} {fl:Int} {i g d:Nat} (h:BqAt w0 A w R s fl i g d) (hb:Below w.heap.size w w'):BqAt w0 A w' R s fl i g d :=
 h.next (Touch.of_below _ hb) (keep_blk hb h.cell)
theorem bq5 {w:World} {R:Nat} {s:ByteArray} {fl:Int} {i g d:Nat} (h:w.heap[R]? = some (.cells (rdC s fl i g d) 53)) :
   w.cell? ⟨R,0,none⟩=some (.string s)∧w.cell? ⟨R,1,none⟩=some (.int .i64 fl)∧w.cell? ⟨R,2,none⟩=some (.int .i64 i)∧w.cell? ⟨R,3,none⟩=some (.int .i64 g)∧w.cell? ⟨R,4,none⟩=some (.int .i64 d):=by
 simp [World.cell?,h]
theorem bqf {w:World} {R:Nat} {s:ByteArray} {fl:Int} {i g d:Nat} (h:w.heap[R]? = some (.cells (rdC s fl i g d) 53)):w.frozen? ⟨R,2,none⟩=false∧w.frozen? ⟨R,3,none⟩=false∧w.frozen? ⟨R,4,none⟩=false:=by
 simp [World.frozen?,h]
theorem bq_place {w:World} {R:Nat} {s:ByteArray} {fl:Int} {i g d:Nat} (h:w.heap[R]? = some (.cells (rdC s fl i g d) 53)) (j:Nat) {v:Int} (hv:v=(j:Int)):(w.setCell ⟨R,2,none⟩ (.int .i64 v)).heap[R]? = some (.cells (rdC s fl j g d) 53):=by
 subst hv;simp [World.setCell,Array.getElem?_modify,h]
theorem bq_groups {w:World} {R:Nat} {s:ByteArray} {fl:Int} {i g d:Nat} (h:w.heap[R]? = some (.cells (rdC s fl i g d) 53)) (j:Nat) {v:Int} (hv:v=(j:Int)):(w.setCell ⟨R,3,none⟩ (.int .i64 v)).heap[R]? = some (.cells (rdC s fl i j d) 53):=by
 subst hv;simp [World.setCell,Array.getElem?_modify,h]
theorem bq_open {w:World} {R:Nat} {s:ByteArray} {fl:Int} {i g d:Nat} (h:w.heap[R]? = some (.cells (rdC s fl i g d) 53)) (j:Nat) {v:Int} (hv:v=(j:Int)):(w.setCell ⟨R,4,none⟩ (.int .i64 v)).heap[R]? = some (.cells (rdC s fl i g j) 53):=by
 subst hv;simp [World.setCell,Array.getElem?_modify,h]
def Gave (A:Nat→Addr) (B:Nat) (w:World) (e:Ending) (c:Nat) (p:Int):Prop :=
 ∃ v,e=.panicked [{ v:=.iface 93 (.agg #[v]),recovered:=false }]∧ErrOne A B w v c p
def BqEnd (A:Nat→Addr) (R:Nat) (s:ByteArray) (fl:Int) (d:Nat) (O:Ep.Out) (w:World) (e:Ending) (w':World):Prop :=
 (match O with
 | .ok t j g=>∃ v F,e=.returned (.agg (t.cells v))∧Owned w' v t.subs F∧(∀ b,b ∈ F→w.heap.size ≤ b)∧w'.heap[R]? = some (.cells (rdC s fl j g d) 53)
 | .err c p=>Gave A w.heap.size w' e c p)∧Touch [R] w w'
theorem BqEnd.ok {A:Nat→Addr} {R:Nat} {s:ByteArray} {fl:Int} {d:Nat} {O:Ep.Out} {w:World} {e:Ending} {w':World} (h:BqEnd A R s fl d O w e w') {t:Tr} {j g:Nat} (hO:O=.ok t j g) :
   ∃ v F,e=.returned (.agg (t.cells v))∧Owned w' v t.subs F∧(∀ b,b ∈ F→w.heap.size ≤ b)∧w'.heap[R]? = some (.cells (rdC s fl j g d) 53)∧Touch [R] w w':=by
 subst hO;obtain ⟨⟨v,F,h1,h2,h3,h4⟩,h5⟩:=h;exact ⟨v,F,h1,h2,h3,h4,h5⟩
theorem BqEnd.err {A:Nat→Addr} {R:Nat} {s:ByteArray} {fl:Int} {d:Nat} {O:Ep.Out} {w:World} {e:Ending} {w':World} (h:BqEnd A R s fl d O w e w') {c:Nat} {p:Int} (hO:O=.err c p) :
   ∃ v,e=.panicked [{ v:=.iface 93 (.agg #[v]),recovered:=false }]∧ErrOne A w.heap.size w' v c p∧Touch [R] w w':=by
 subst hO;obtain ⟨⟨v,h1,h2⟩,h5⟩:=h;exact ⟨v,h1,h2,h5⟩
theorem BqEnd.gave {A:Nat→Addr} {R:Nat} {s:ByteArray} {fl:Int} {d:Nat} {w W w':World} {v:Value} {c:Nat} {p:Int} (hv:ErrOne A W.heap.size w' v c p) (hw:w.heap.size ≤ W.heap.size) (ht:Touch [R] w w') :
   BqEnd A R s fl d (.err c p) w (.panicked [{ v:=.iface 93 (.agg #[v]),recovered:=false }]) w':=⟨⟨v,rfl,hv.down hw⟩,ht⟩
theorem giveup_any (q:Value) (w:World) :
   Calls Tryz.prog 54 #[.iface 63 q] w fun e w'=>e=.panicked [{ v:=.iface 93 (.agg #[.iface 63 q]),recovered:=false }]∧w=w':=by
 go_enter Tryz.func54,Tryz.ntmps54
 go_wp2
 exact ⟨rfl,rfl,rfl⟩
def Pre (p:ByteArray) (s:ByteArray) (i:Nat) (b:Bool):Prop:=∀ w,Calls Tryz.prog 130 #[.string (s.extract i s.size),.string p] w fun e w'=>e=.returned (.bool b)∧w'=w
theorem pre_one (s:ByteArray) (i:Nat) (c:UInt8) (b:Bool) (hb:(bt s i == c.toNat)=b):Pre ⟨#[c]⟩ s i b:=fun w=>by
 refine (Tryz.strings_HasPrefix (s.extract i s.size) ⟨#[c]⟩ w).mono ?_
 rintro e w' ⟨rfl,rfl⟩
 refine ⟨?_,rfl⟩
 rw [← hb]
 have:=bt_ext s i 0
 rw [bt_list,Nat.add_zero] at this
 rw [← this]
 exact ret_bool (one_prefix _ c)
theorem pre_two (s:ByteArray) (i:Nat) (x y:UInt8) (b:Bool) (hb:Bp.two (bt s) x.toNat y.toNat i=b):Pre ⟨#[x,y]⟩ s i b:=fun w=>by
 refine (hasp (s.extract i s.size) x y b ?_ w).mono ?_
 · rw [← hb,bt_ext,bt_ext];rfl
 · rintro e w' ⟨h1,h2⟩;exact ⟨h1,h2.symm⟩
theorem bqstands_any (p:ByteArray) (b:Bool) (w0:World) (A:Nat→Addr) (w:World) (R:Nat) (s:ByteArray) (_hs:s.size ≤ 4294967280) (fl:Int) (i g d:Nat) (hR:BqAt w0 A w R s fl i g d) (hi:i ≤ s.size) (hp:Pre p s i b) :
   Calls Tryz.prog 93 #[.pointer (some ⟨R,0,none⟩),.string p] w fun e w'=>e=.returned (.bool b)∧∃ n,w'=w.drewN n:=by
 obtain ⟨c0,c1,c2,-,-⟩:=bq5 hR.cell
 have HI:Hid (∀ w,Calls Tryz.prog 130 #[.string (s.extract i s.size),.string p] w fun e w'=>e=.returned (.bool b)∧w'=w):=Lib.hid hp
 have hi0:(0:Int) ≤ i:=by omega
 have hi1:(i:Int) ≤ s.size:=by omega
 clear hR hp
 go_enter Tryz.func93,Tryz.ntmps93
 go_wp2
 go_quiet ((go_at_call 130;exact Calls.quiet_of_same (HI.out _)))
 go_wp2
 go_ret
 exact ⟨rfl,_,rfl⟩
theorem bqtakes_no (p:ByteArray) (w0:World) (A:Nat→Addr) (w:World) (R:Nat) (s:ByteArray) (hs:s.size ≤ 4294967280) (fl:Int) (i g d:Nat) (hR:BqAt w0 A w R s fl i g d) (hi:i ≤ s.size) (hp:Pre p s i false) :
   Calls Tryz.prog 92 #[.pointer (some ⟨R,0,none⟩),.string p] w fun e w'=>e=.returned (.bool false)∧∃ n,w'=w.drewN n:=by
 have HS:=Lib.hid (bqstands_any p false w0 A w R s hs fl i g d hR hi hp)
 clear hR hp
 go_enter Tryz.func92,Tryz.ntmps92
 go_wp2_with fail
 refine HS.out.mono ?_
 rintro e w1 ⟨rfl,n,rfl⟩
 go_wp2
 go_ret
 exact ⟨rfl,_,rfl⟩
theorem bqtakes_yes (p:ByteArray) (k:Nat) (hk:p.size=k) (w0:World) (A:Nat→Addr) (w:World) (R:Nat) (s:ByteArray) (hs:s.size ≤ 4294967280) (fl:Int) (i g d:Nat) (hR:BqAt w0 A w R s fl i g d) (hi:i+k ≤ s.size) (hp:Pre p s i true) :
   Calls Tryz.prog 92 #[.pointer (some ⟨R,0,none⟩),.string p] w fun e w'=>e=.returned (.bool true)∧w'.heap[R]? = some (.cells (rdC s fl (i+k) g d) 53)∧Touch [R] w w':=by
 have HS:=Lib.hid (bqstands_any p true w0 A w R s hs fl i g d hR (by omega) hp)
 have HR:=Lib.hid hR
 have hw:IntKind.i64.wrap ((i:Int)+p.size)=(i:Int)+p.size:=IntWalk.i64_in _ (by omega)
 have h1:(i:Int)+p.size ≤ 4294967280:=by omega
 have hv:(i:Int)+p.size=((i+k:Nat):Int):=by omega
 have HV:=Lib.hid hv
 clear hR hp hk hv
 go_enter Tryz.func92,Tryz.ntmps92
 go_wp2_with fail
 refine HS.out.mono ?_
 rintro e w1 ⟨rfl,n,rfl⟩
 have HR1:Hid (BqAt w0 A (w.drewN n) R s fl i g d):=Lib.hid (HR.out.later (drewN_below (Below.refl _ _) n))
 have HT1:Hid (Touch [R] w (w.drewN n)):=Lib.hid ((Touch.refl [R] w).drewN n)
 clear HR HS
 generalize World.drewN w n=W at *
 obtain ⟨-,-,c2,-,-⟩:=bq5 HR1.out.cell
 obtain ⟨f2,-,-⟩:=bqf HR1.out.cell
 go_wp2
 go_ret
 exact ⟨rfl,bq_place HR1.out.cell (i+k) HV.out,HT1.out.setCell List.mem_cons_self 2 _⟩
theorem bqfails_any (w0:World) (A:Nat→Addr) (k:Nat) (hk:k < 21) (w:World) (R:Nat) (s:ByteArray) (fl:Int) (i g d:Nat) (hR:BqAt w0 A w R s fl i g d) :
   Calls Tryz.prog 56 #[.pointer (some ⟨R,0,none⟩),.iface 232 (.pointer (some (A k)))] w (BqEnd A R s fl d (.err (k+1) i) w):=by
 obtain ⟨c0,c1,c2,-,-⟩:=bq5 hR.cell
 clear hR
 go_enter Tryz.func56,Tryz.ntmps56
 go_wp2_with fail
 refine (at_err A k hk i _).mono ?_
 rintro e w1 ⟨v,rfl,hv,hb⟩
 obtain ⟨q,rfl⟩:=hv.iface
 have HG:=Lib.hid (BqEnd.gave (R:=R) (s:=s) (fl:=fl) (d:=d) hv (Nat.le_refl _) (Touch.of_below _ hb))
 clear hb hv c0 c1 c2
 go_wp2_with fail
 refine (giveup_any q _).mono ?_
 rintro e w2 ⟨rfl,rfl⟩
 go_wp2
 exact ⟨rfl,HG.out⟩
def BqPl (R:Nat) (s:ByteArray) (fl:Int) (g d:Nat) (t:Tr) (j:Nat) (w:World) (e:Ending) (w':World):Prop :=
 e=.returned (.agg (t.cells (.slice none 0 0)))∧w'.heap[R]? = some (.cells (rdC s fl j g d) 53)∧Touch [R] w w'
theorem bqplain_any (w0:World) (A:Nat→Addr) (w:World) (R:Nat) (s:ByteArray) (hs:s.size ≤ 4294967280) (fl:Int) (i g d:Nat) (hR:BqAt w0 A w R s fl i g d) (hi:i < s.size) :
   Calls Tryz.prog 95 #[.pointer (some ⟨R,0,none⟩)] w (BqPl R s fl g d (Ep.one (icB fl) (bt s i)) (i+1) w):=by
 have hlt:=hR.lt
 have hb0:Below w.heap.size w (w.alloc (.cells noNode 28)):=(Below.refl _ _).alloc (Nat.le_refl _) _
 have hR1:=hR.later hb0
 have hi0:(0:Int) ≤ i:=by omega
 have hi1:(i:Int) < s.size:=by omega
 have hx:Value.int .u8 (s[i].toNat:Int)=Value.int .u8 ((bt s i:Nat):Int):=by rw [bt_at hi]
 have hbt:bt s i < 256:=(bt_txt s).1 i hi
 have HR1:=Lib.hid hR1
 have Z1:=Lib.hid (heap_alloc_new w (.cells noNode 28))
 have HB1:=Lib.hid hb0
 have HX:=Lib.hid hx
 have hRw:R ≠ w.heap.size:=by omega
 have hw:IntKind.i64.wrap ((i:Int)+1)=(i:Int)+1:=IntWalk.i64_in _ (by omega)
 obtain ⟨c0,-,c2,-,-⟩:=bq5 hR1.cell
 clear hR hR1 hb0 hx
 go_enter Tryz.func95,Tryz.ntmps95
 go_wp2
 go_quiet (fail)
 simp only [HX.out]
 have HR2:Hid (BqAt w0 A ((w.alloc (.cells noNode 28)).drewN nq) R s fl i g d):=Lib.hid (HR1.out.later (drewN_below (Below.refl _ _) nq))
 have Z2:Hid (((w.alloc (.cells noNode 28)).drewN nq).heap[w.heap.size]? = some (.cells noNode 28)):=Lib.hid Z1.out
 have HB2:Hid (Below w.heap.size w ((w.alloc (.cells noNode 28)).drewN nq)):=Lib.hid (drewN_below HB1.out nq)
 clear hi hi0 hi1 HX c0 c2 HR1 Z1 HB1
 generalize World.drewN _ nq=W at *
 obtain ⟨-,c1,c2,-,-⟩:=bq5 HR2.out.cell
 obtain ⟨f2,-,-⟩:=bqf HR2.out.cell
 have HP:=Lib.hid (bq_place HR2.out.cell (i+1) (v:=(i:Int)+1) (by omega))
 have HT:=Lib.hid ((Touch.of_below [R] HB2.out).setCell List.mem_cons_self 2 (.int .i64 ((i:Int)+1)))
 have Z4:=Lib.hid ((Below.heap_setCell W ⟨R,2,none⟩ (.int .i64 ((i:Int)+1)) w.heap.size (Ne.symm hRw)).trans Z2.out)
 clear HR2 HB2 Z2
 go_wp2_with fail
 refine (ptplain_any (bt s i) hbt fl _).mono ?_
 rintro e w5 ⟨rfl,hb5⟩
 have HP5:=Lib.hid (keep_blk hb5 HP.out);have HT5:=Lib.hid (HT.out.later hb5);have Z5:=Lib.hid (keep_blk hb5 Z4.out)
 clear c1 c2 f2 hb5 HP HT Z4
 generalize Ep.one (icB fl) (bt s i)=T at *
 unfold Tr.cells
 go_wp2_with (first
   | (refine wpList_store_row rfl 28 (.tmp 2) (.tmp 25) rfl w.heap.size #[.int .i64 T.kind,.int .u64 (Oc.U T.w0),.int .u64 (Oc.U T.w1),.int .u64 (Oc.U T.w2),.int .u64 (Oc.U T.w3),.slice none 0 0,.int .i64 T.num,.int .i64 T.least,.int .i64 T.most,.bool T.bare] rfl rfl 28 _ Z5.out (by kernel_rfl) rfl (by simp [Value.oneCell']) ?_)
   | fail)
 exact bodyPost_ret (results_cell_row rfl _ _ w.heap.size 28 #[.int .i64 T.kind,.int .u64 (Oc.U T.w0),.int .u64 (Oc.U T.w1),.int .u64 (Oc.U T.w2),.int .u64 (Oc.U T.w3),.slice none 0 0,.int .i64 T.num,.int .i64 T.least,.int .i64 T.most,.bool T.bare] (0,0) _ rfl (heap_setRow Z5.out) Tryz.underlying28 rfl (by kernel_rfl)) rfl ⟨rfl,(heap_setRow_other _ _ _ hRw).trans HP5.out,HT5.out.setRow_new (Nat.le_refl _) _⟩
end Go.Proofs.YtfcilopifjddpaaGreatDoor
