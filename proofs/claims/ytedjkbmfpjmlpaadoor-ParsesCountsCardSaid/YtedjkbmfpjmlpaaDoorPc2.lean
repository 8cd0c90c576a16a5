/- Part 2 of what these proofs need. -/
import Derived.Test.YtedjkbmfpjmlpaaDoorPc1
set_option maxRecDepth 100000
set_option maxHeartbeats 16000000
namespace Go.Proofs.YtedjkbmfpjmlpaaDoor
open Go.RowKit
namespace Ps
def byteT (B:Nat→Bool):T:=fun i j=>if j=i+1∧B i=true then 1 else 0
def sgF (lo:Nat) (B:Nat→Bool) (k:Nat):T:=fun c d=>if c < k then rel lo (byteT B) c d else 0
theorem sgF_low (lo:Nat) (B:Nat→Bool) (k:Nat):Low (sgF lo B k):=fun c d=>by unfold sgF;split;exact sat_le _;omega
theorem sgF_yes {lo:Nat} {B:Nat→Bool} {k:Nat} (h:B (lo+k)=true):putF (sgF lo B k) k (k+1) (min (sgF lo B k k (k+1)+1) 1000000)=sgF lo B (k+1):=by
 funext c d
 unfold putF sgF
 by_cases h1:c=k∧d=k+1
 · obtain ⟨rfl,rfl⟩:=h1
   rw [if_pos ⟨rfl,rfl⟩,if_neg (Nat.lt_irrefl _),if_pos (Nat.lt_succ_self _)]
   unfold rel byteT
   rw [if_pos ⟨by omega,h⟩]
   rfl
 · rw [if_neg h1]
   by_cases h2:c < k
   · rw [if_pos h2,if_pos (show c < k+1 by omega)]
   · rw [if_neg h2]
     by_cases h3:c < k+1
     · rw [if_pos h3]
       unfold rel byteT
       rw [if_neg (by rintro ⟨e,-⟩;omega)];rfl
     · rw [if_neg h3]
theorem sgF_no {lo:Nat} {B:Nat→Bool} {k:Nat} (h:B (lo+k)=false):sgF lo B k=sgF lo B (k+1):=by
 funext c d
 unfold sgF
 by_cases h2:c < k
 · rw [if_pos h2,if_pos (show c < k+1 by omega)]
 · rw [if_neg h2]
   by_cases h3:c < k+1
   · rw [if_pos h3]
     unfold rel byteT
     rw [if_neg (by rintro ⟨-,e⟩;rw [show c=k by omega,h] at e;cases e)];rfl
   · rw [if_neg h3]
end Ps
theorem pssingle_any (x:Sc) (b:Nat) (a0 a1 a2 a3:BitVec 64) (lo m:Nat) (hlo:lo+m ≤ 1000) (hn:lo+m ≤ x.t.size) (w:World) (hx:ScAt w b x) :
   Calls Tryd.prog 147 #[.agg #[.pointer (some ⟨b,0,none⟩),.int .i64 (lo:Int),.int .i64 ((lo:Int)+(m:Int))],(.agg #[.int .u64 (Oc.U a0),.int .u64 (Oc.U a1),.int .u64 (Oc.U a2),.int .u64 (Oc.U a3)])] w (PsNew lo m (Ps.byteT fun i=>Oc.mem a0 a1 a2 a3 (cb x.t i)) w):=by
 have HX:=Lib.hid hx
 clear hx
 obtain ⟨P,hP⟩:∃ P,P=fun i=>Oc.mem a0 a1 a2 a3 (cb x.t i):=⟨_,rfl⟩
 rw [← hP]
 have WNx:=Lib.hid (news3 w (.cells #[.pointer (some ⟨b,0,none⟩),.int .i64 (lo:Int),.int .i64 ((lo:Int)+(m:Int))] 166) (.cells #[.int .u64 (Oc.U a0),.int .u64 (Oc.U a1),.int .u64 (Oc.U a2),.int .u64 (Oc.U a3)] 24) (.cells #[.int .i64 0,.int .i64 0,.slice none 0 0] 127))
 have HB:=Lib.hid (show Below w.heap.size w (((w.alloc (.cells #[.pointer (some ⟨b,0,none⟩),.int .i64 (lo:Int),.int .i64 ((lo:Int)+(m:Int))] 166)).alloc (.cells #[.int .u64 (Oc.U a0),.int .u64 (Oc.U a1),.int .u64 (Oc.U a2),.int .u64 (Oc.U a3)] 24)).alloc (.cells #[.int .i64 0,.int .i64 0,.slice none 0 0] 127)) from by go_grown)
 go_enter Tryd.func147,Tryd.ntmps147
 go_upto_region 1 with (fail)
 generalize (((w.alloc (.cells #[.pointer (some ⟨b,0,none⟩),.int .i64 (lo:Int),.int .i64 ((lo:Int)+(m:Int))] 166)).alloc (.cells #[.int .u64 (Oc.U a0),.int .u64 (Oc.U a1),.int .u64 (Oc.U a2),.int .u64 (Oc.U a3)] 24)).alloc (.cells #[.int .i64 0,.int .i64 0,.slice none 0 0] 127))=W0 at *
 have Y0:=Lib.hid WNx.out.1
 have Y1:=Lib.hid WNx.out.2.1
 have Y2:=Lib.hid WNx.out.2.2
 clear WNx
 go_wp2_with (first
   | (refine wpList_load_row rfl 166 (.tmp 2) rfl (w.heap.size) rfl 166 _ (0,0) _ Y0.out Tryd.underlying166 rfl (by kernel_rfl) ?_)
   | fail)
 refine (pstable_any (.pointer (some ⟨b,0,none⟩)) lo m hlo W0).mono ?_
 rintro e w1 ⟨g,rfl,hg,htab,hb1⟩
 have HG:=Lib.hid (show w.heap.size ≤ g∧g < w1.heap.size∧W0.heap.size ≤ g from ⟨Nat.le_trans HB.out.size hg,htab.lt,hg⟩)
 have HTB:=Lib.hid htab
 unfold Ps.tabV
 go_upto_region 2 with (first
   | (refine wpList_store_row rfl 127 (.tmp 5) (.tmp 10) rfl (w1.heap.size) #[.int .i64 (lo:Int),.int .i64 ((lo:Int)+(m:Int)),.slice (some ⟨g,0,none⟩) ((m+1) * (m+1)) ((m+1) * (m+1))] rfl rfl 127 _ (heap_alloc_new _ _) (by kernel_rfl) rfl (by simp [Value.oneCell']) ?_)
   | fail)
 have hbL:Below w1.heap.size w1 (World.setRow (w1.alloc (.cells #[.int .i64 0,.int .i64 0,.slice none 0 0] 127)) w1.heap.size #[.int .i64 (lo:Int),.int .i64 ((lo:Int)+(m:Int)),.slice (some ⟨g,0,none⟩) ((m+1) * (m+1)) ((m+1) * (m+1))]):=below_setRow ((Below.refl _ _).alloc (Nat.le_refl _) _) (Nat.le_refl _) _
 have YL:=Lib.hid (show (World.setRow (w1.alloc (.cells #[.int .i64 0,.int .i64 0,.slice none 0 0] 127)) w1.heap.size #[.int .i64 (lo:Int),.int .i64 ((lo:Int)+(m:Int)),.slice (some ⟨g,0,none⟩) ((m+1) * (m+1)) ((m+1) * (m+1))]).heap[w1.heap.size]? = some (.cells #[.int .i64 (lo:Int),.int .i64 ((lo:Int)+(m:Int)),.slice (some ⟨g,0,none⟩) ((m+1) * (m+1)) ((m+1) * (m+1))] 127) from heap_setRow (heap_alloc_new _ _))
 have HBL:=Lib.hid ((HB.out.trans (hb1.mono HB.out.size)).trans (hbL.mono (by have:=HB.out.size;have:=hb1.size;omega)))
 have HB0L:=Lib.hid (hb1.trans (hbL.mono hb1.size))
 have HTL:=Lib.hid (HTB.out.later hbL)
 have X0:=Lib.hid (keep_blk (hb1.trans (hbL.mono hb1.size)) Y0.out)
 have X1:=Lib.hid (keep_blk (hb1.trans (hbL.mono hb1.size)) Y1.out)
 have X2:=Lib.hid (keep_blk (hb1.trans (hbL.mono hb1.size)) Y2.out)
 clear hb1 hbL htab hg HTB HB
 generalize (World.setRow (w1.alloc (.cells #[.int .i64 0,.int .i64 0,.slice none 0 0] 127)) w1.heap.size #[.int .i64 (lo:Int),.int .i64 ((lo:Int)+(m:Int)),.slice (some ⟨g,0,none⟩) ((m+1) * (m+1)) ((m+1) * (m+1))])=w2 at *
 obtain ⟨lb,hlb⟩:∃ lb,lb=w1.heap.size:=⟨_,rfl⟩
 rw [← hlb] at YL HG ⊢
 clear hlb
 try simp only [Act.put]
 have HRB:=Lib.hid (show g ≠ w.heap.size+1+1 from by have:=HG.out;have:=(Array.getElem?_eq_some_iff.1 Y2.out).1;omega)
 have HLB:=Lib.hid (show g ≠ lb∧g ≠ w.heap.size∧g ≠ w.heap.size+1∧g ≠ b from ⟨by have:=HG.out;omega,by have:=HG.out;have:=(Array.getElem?_eq_some_iff.1 Y2.out).1;omega,by have:=HG.out;have:=(Array.getElem?_eq_some_iff.1 Y2.out).1;omega,by have:=HG.out;have:=(Array.getElem?_eq_some_iff.1 HX.out).1;omega⟩)
 have TL:=Lib.hid (show TabAtP w2 g m (Ps.sgF lo P 0) from HTL.out.same fun c d _ _=>rfl)
 have HX2:=Lib.hid (HX.out.below HBL.out)
 clear HTL Y0 Y1 Y2 HB0L HX
 obtain ⟨u0,u1,u2⟩:=three_cellsT X0.out
 go_wp2_with fail
 clear u0 u1 u2
 go_loopw [6,7,8] (fun iv _ _ wr=>∃ k:Nat,iv=.int .i64 ((lo:Int)+(k:Int))∧k ≤ m∧Hid (TabAtP wr g m (Ps.sgF lo P k))∧Hid (wr.heap[w.heap.size]? = some (.cells #[.pointer (some ⟨b,0,none⟩),.int .i64 (lo:Int),.int .i64 ((lo:Int)+(m:Int))] 166))∧Hid (wr.heap[w.heap.size+1]? = some (.cells #[.int .u64 (Oc.U a0),.int .u64 (Oc.U a1),.int .u64 (Oc.U a2),.int .u64 (Oc.U a3)] 24))∧Hid (wr.heap[w.heap.size+1+1]? = some (.cells #[.int .i64 0,.int .i64 0,.slice none 0 0] 127))∧Hid (wr.heap[lb]? = some (.cells #[.int .i64 (lo:Int),.int .i64 ((lo:Int)+(m:Int)),.slice (some ⟨g,0,none⟩) ((m+1) * (m+1)) ((m+1) * (m+1))] 127))∧Hid (ScAt wr b x)∧Hid (Below w.heap.size w wr)) (fun iv _ _ _=>lo+m+1 - (intOf iv).toNat)
 case atStart=>exact ⟨0,by simp,Nat.zero_le _,TL,X0,X1,X2,YL,HX2,HBL⟩
 case round =>
   obtain ⟨k,rfl,hk,T1,Z0,Z1,ZR,ZL,HX,HBE⟩:=hrel
   clear TL X0 X1 X2 YL HBL HX2
   have wk:IntKind.i64.wrap ((lo:Int)+(k:Int)+1)=(lo:Int)+((k+1:Nat):Int):=by rw [IntWalk.i64_in _ (by omega)];omega
   obtain ⟨u0,u1,u2⟩:=three_cellsT Z0.out
   by_cases hlt:k < m
   · have hle:(lo:Int)+(k:Int) < (lo:Int)+(m:Int):=by omega
     have hle2:(k:Int) < (m:Int):=by omega
     have hin:x.inn ((lo:Int)+(k:Int))=true:=by unfold Sc.inn;rw [Bool.and_eq_true,decide_eq_true_eq,decide_eq_true_eq];omega
     have hby:x.byt ((lo:Int)+(k:Int))=((cb x.t (lo+k):Nat):Int):=by unfold Sc.byt;rw [if_pos hin,show ((lo:Int)+(k:Int)).toNat=lo+k by omega]
     have HBY:=Lib.hid (fun w9 (h:ScAt w9 b x)=>scbyte_any x b ((lo:Int)+(k:Int)) w9 h)
     rw [hin,hby] at HBY
     have HHAS:=Lib.hid (fun w9=>has_any a0 a1 a2 a3 (cb x.t (lo+k)) (cb_lt (by omega)) w9)
     have hPk:Oc.mem a0 a1 a2 a3 (cb x.t (lo+k))=P (lo+k):=by rw [hP]
     rw [hPk] at HHAS
     generalize hz:cb x.t (lo+k)=z at *
     clear hin hby hPk hz
     cases hPv:P (lo+k) with
     | true =>
       rw [hPv] at HHAS
       have HAD:=Lib.hid (fun w9 (hb:Below wr.heap.size wr w9)=>by
         have h:=psadd_any g lo m k (k+1) 1 hlo (by omega) (by omega) (Ps.sgF lo P k) (Ps.sgF_low lo P k k (k+1)) (by omega) w9 (T1.out.later hb)
         rw [Ps.sgF_yes hPv] at h;exact h)
       unfold Ps.tabV at HAD
       rw [show (((1:Nat):Int))=1 from rfl,show (lo:Int)+((k+1:Nat):Int)=(lo:Int)+(k:Int)+1 by omega] at HAD
       have wk2:IntKind.i64.wrap ((lo:Int)+(k:Int)+1)=(lo:Int)+(k:Int)+1:=IntWalk.i64_in _ (by omega)
       clear wk
       obtain ⟨y0,y1,y2,y3,-,-,-,-⟩:=four Z1.out
       go_wp2_with fail
       refine (HBY.out wr HX.out).mono ?_
       rintro e w5 ⟨rfl,rfl⟩
       go_wp2_with fail
       refine (HHAS.out _).mono ?_
       rintro e w5 ⟨rfl,hb5⟩
       have Z05:=Lib.hid (keep_blk hb5 Z0.out);have Z15:=Lib.hid (keep_blk hb5 Z1.out);have ZR5:=Lib.hid (keep_blk hb5 ZR.out);have ZL5:=Lib.hid (keep_blk hb5 ZL.out);have HB5:=Lib.hid (HBE.out.trans (hb5.mono HBE.out.size));have HX5:=Lib.hid (HX.out.below hb5)
       have HADC:=Lib.hid (HAD.out w5 hb5)
       clear hb5 HAD HBY HHAS u0 u1 u2 y0 y1 y2 y3
       go_wp2_with (first
         | (refine wpList_load_row rfl 127 (.tmp 5) rfl (lb) rfl 127 _ (0,0) _ ZL5.out Tryd.underlying127 rfl (by kernel_rfl) ?_)
         | fail)
       refine HADC.out.mono ?_
       rintro e w6 ⟨rfl,t6,o6⟩
       have T6:=Lib.hid t6
       have Z06:=Lib.hid (blk_touch Z05.out o6 (by have:=HLB.out;omega));have Z16:=Lib.hid (blk_touch Z15.out o6 (by have:=HLB.out;omega));have ZR6:=Lib.hid (blk_touch ZR5.out o6 (by have:=HRB.out;omega));have ZL6:=Lib.hid (blk_touch ZL5.out o6 (by have:=HLB.out;omega))
       have HX6:=Lib.hid (show ScAt w6 b x from blk_touch HX5.out o6 (by have:=HLB.out;omega))
       have HB6:=Lib.hid (HB5.out.trans (o6.below (B:=w.heap.size) (by intro i hi;have:=HG.out;simp at hi;omega) HB5.out.size))
       clear t6 o6 HADC
       go_wp2
       exact ⟨⟨k+1,by simp;omega,by omega,T6,Z06,Z16,ZR6,ZL6,HX6,HB6⟩,by simp [intOf];omega⟩
     | false =>
       rw [hPv] at HHAS
       have TN:=Lib.hid (show TabAtP wr g m (Ps.sgF lo P (k+1)) from by rw [← Ps.sgF_no hPv];exact T1.out)
       obtain ⟨y0,y1,y2,y3,-,-,-,-⟩:=four Z1.out
       go_wp2_with fail
       refine (HBY.out wr HX.out).mono ?_
       rintro e w5 ⟨rfl,rfl⟩
       go_wp2_with fail
       refine (HHAS.out _).mono ?_
       rintro e w5 ⟨rfl,hb5⟩
       have T5:=Lib.hid (TN.out.later hb5)
       have Z05:=Lib.hid (keep_blk hb5 Z0.out);have Z15:=Lib.hid (keep_blk hb5 Z1.out);have ZR5:=Lib.hid (keep_blk hb5 ZR.out);have ZL5:=Lib.hid (keep_blk hb5 ZL.out);have HB5:=Lib.hid (HBE.out.trans (hb5.mono HBE.out.size));have HX5:=Lib.hid (HX.out.below hb5)
       clear hb5 HBY HHAS u0 u1 u2 y0 y1 y2 y3
       go_wp2
       exact ⟨⟨k+1,by simp,by omega,T5,Z05,Z15,ZR5,ZL5,HX5,HB5⟩,by simp [intOf];omega⟩
   · obtain rfl:k=m:=by omega
     have hle:¬ ((lo:Int)+(k:Int) < (lo:Int)+(k:Int)):=by omega
     have TE:=Lib.hid (show TabAtP wr g k (Ps.rel lo (Ps.byteT P)) from T1.out.same fun c d hc hd=>by
       unfold Ps.sgF
       by_cases h:c < k
       · rw [if_pos h]
       · rw [if_neg h];unfold Ps.rel Ps.byteT;rw [if_neg (by rintro ⟨e,-⟩;omega)];rfl)
     clear T1
     go_wp2_with (first
       | (refine wpList_load_row rfl 127 (.tmp 5) rfl (lb) rfl 127 _ (0,0) _ ZL.out Tryd.underlying127 rfl (by kernel_rfl) ?_)
       | (refine wpList_store_row rfl 127 (.tmp 4) (.tmp 34) rfl (w.heap.size+1+1) #[.int .i64 (lo:Int),.int .i64 ((lo:Int)+(k:Int)),.slice (some ⟨g,0,none⟩) ((k+1) * (k+1)) ((k+1) * (k+1))] rfl rfl 127 _ ZR.out (by kernel_rfl) rfl (by simp [Value.oneCell']) ?_)
       | fail)
     refine bodyPost_ret (results_cell_row rfl _ _ (w.heap.size+1+1) 127 #[.int .i64 (lo:Int),.int .i64 ((lo:Int)+(k:Int)),.slice (some ⟨g,0,none⟩) ((k+1) * (k+1)) ((k+1) * (k+1))] (0,0) _ rfl (heap_setRow ZR.out) Tryd.underlying127 rfl (by kernel_rfl)) rfl ⟨g,rfl,HG.out.1, ?_, ?_⟩
     · unfold TabAtP;rw [heap_setRow_other _ _ _ (by have:=HRB.out;omega)];exact (by first | exact TE.out | (subst hP;exact TE.out))
     · exact below_setRow HBE.out (by omega) _
end Go.Proofs.YtedjkbmfpjmlpaaDoor
namespace Go.Proofs.YtedjkbmfpjmlpaaDoor
open Go.RowKit
namespace Ri
variable {P:Program} {ops:Array Oper} {Q:Exit→Act→World→Prop}
def Fa (K:Nat→World→Value→Prop) (W:World) (L:Nat→Bool) (v:Nat→Value) (w:World):Prop:=Below W.heap.size W w∧∀ k,L k=true→K k w (v k)
theorem Fa.step {K:Nat→World→Value→Prop} (hK:∀ k w v w',K k w v→Below w.heap.size w w'→K k w' v) {W:World} {L:Nat→Bool} {v:Nat→Value} {w w':World} {i:Nat} {u:Value} (h:Fa K W L v w) (hb:Below w.heap.size w w') (hu:K i w' u):Fa K W (up L i true) (up v i u) w':=by
 refine ⟨h.1.trans (hb.mono h.1.size),fun k hk=>?_⟩
 by_cases e:k=i
 · subst e;rw [up_same];exact hu
 · rw [up_other _ _ _ _ e] at hk ⊢
   exact hK k w _ w' (h.2 k hk) hb
def waits (ops:Array Oper) (last:Nat):Bool:=(List.range last).all fun k=>match ops[last]? with
 | some o=>o.after.any fun e=>Region.binds .any e && e.on == k
 | none=>false
theorem wp_region_last {id:Nat} {a:Act} {w:World} (hm:P.follows .mixedOrders=true) (hb:backward ops=true) (hap:apart ops=true) (hsz0:(ops.toList.all fun o=>o.dst.all fun d=>decide (d < a.tmps.size))=true)
   (last:Nat) (hn:ops.size=last+1) (hw:waits ops last=true) (K:Nat→World→Value→Prop) (Fin:(Nat→Value)→World→Prop)
   (hK:∀ k w v w',K k w v→Below w.heap.size w w'→K k w' v)
   (step:∀ i,i < last→∀ L v w' (a':Act),Fa K w L v w'→L i=false→(∀ o,ops[i]? = some o→∀ e ∈ o.after,Region.binds .any e=true→L e.on=true) →
     (∀ j d:Nat,(ops[j]?).bind (·.dst)=some d→L j=true→a'.tmps.getD d undef=v j)→(∀ d,ops.toList.all (fun o=>o.dst != some d)=true→a'.tmps.getD d undef=a.tmps.getD d undef) →
     wpOp P ops Q i (fun b w''=>∃ (o:Oper) (u:Value),ops[i]? = some o∧b=a'.put o.dst u∧Below w'.heap.size w' w''∧K i w'' u) a' w')
   (put:∀ L v w' (a':Act),Fa K w L v w'→(∀ k,k < last→L k=true) →
     (∀ j d:Nat,(ops[j]?).bind (·.dst)=some d→L j=true→a'.tmps.getD d undef=v j)→(∀ d,ops.toList.all (fun o=>o.dst != some d)=true→a'.tmps.getD d undef=a.tmps.getD d undef) →
     wpOp P ops Q last (fun b w''=>∃ (o:Oper) (u:Value),ops[last]? = some o∧b=a'.put o.dst u∧Fin (up v last u) w'') a' w')
   (fin:∀ v w',Fin v w'→Q .normal (frame ops a (fun _=>true) v) w'):(Code.region id ops true).wp P Q a w:=by
 refine wp_region_frame hm hb hap hsz0 (fun L v w'=>(L last=false→Fa K w L v w')∧(L last=true→Fin v w'∧∀ k,k < last→L k=true)) ⟨fun _=>⟨(Below.refl _ _).drew,fun k h=>by cases h⟩,fun h=>by cases h⟩ ?_ ?_
 · intro i hi L v w' a' hI hL hd hv ho
   rw [hn] at hi
   by_cases e:i=last
   · subst e
     have hall:∀ k,k < i→L k=true:=fun k hk=>by
       unfold waits at hw
       have h1:=List.all_eq_true.1 hw k (List.mem_range.2 hk)
       cases ho9:ops[i]? with
       | none=>rw [ho9] at h1;cases h1
       | some o =>
         rw [ho9] at h1
         obtain ⟨e,he,h2⟩:=Array.any_eq_true'.1 h1
         rw [Bool.and_eq_true,beq_iff_eq] at h2
         rw [← h2.2]
         exact hd o ho9 e he h2.1
     refine wpOp_mono ?_ (put L v w' a' (hI.1 hL) hall hv ho)
     rintro b w'' ⟨o,u,h1,h2,h3⟩
     refine ⟨o,u,h1,h2,fun h=>(by rw [up_same] at h;cases h),fun _=>⟨h3,fun k hk=>?_⟩⟩
     rw [up_other _ _ _ _ (by omega)];exact hall k hk
   · have hl:L last=false:=by
       cases h:L last with
       | false=>rfl
       | true=>have:=(hI.2 h).2 i (by omega);rw [hL] at this;cases this
     refine wpOp_mono ?_ (step i (by omega) L v w' a' (hI.1 hl) hL hd hv ho)
     rintro b w'' ⟨o,u,h1,h2,h3,h4⟩
     refine ⟨o,u,h1,h2,fun _=>(hI.1 hl).step hK h3 h4,fun h=>?_⟩
     rw [up_other _ _ _ _ (Ne.symm e),hl] at h
     cases h
 · intro v w' hI
   exact fin v w' (hI.2 (by rw [hn];simp)).1
theorem wp_region_facts {id:Nat} {a:Act} {w:World} (hm:P.follows .mixedOrders=true) (hb:backward ops=true) (hap:apart ops=true) (hsz0:(ops.toList.all fun o=>o.dst.all fun d=>decide (d < a.tmps.size))=true)
   (n:Nat) (hn:ops.size=n) (K:Nat→World→Value→Prop)
   (hK:∀ k w v w',K k w v→Below w.heap.size w w'→K k w' v)
   (step:∀ i,i < n→∀ L v w' (a':Act),Fa K w L v w'→L i=false→(∀ o,ops[i]? = some o→∀ e ∈ o.after,Region.binds .any e=true→L e.on=true) →
     (∀ j d:Nat,(ops[j]?).bind (·.dst)=some d→L j=true→a'.tmps.getD d undef=v j)→(∀ d,ops.toList.all (fun o=>o.dst != some d)=true→a'.tmps.getD d undef=a.tmps.getD d undef) →
     wpOp P ops Q i (fun b w''=>∃ (o:Oper) (u:Value),ops[i]? = some o∧b=a'.put o.dst u∧Below w'.heap.size w' w''∧K i w'' u) a' w')
   (fin:∀ v w',Below w.heap.size w w'→(∀ k,k < n→K k w' (v k))→Q .normal (frame ops a (fun _=>true) v) w'):(Code.region id ops true).wp P Q a w:=by
 refine wp_region_frame hm hb hap hsz0 (fun L v w'=>Fa K w L v w') ⟨(Below.refl _ _).drew,fun k h=>by cases h⟩ ?_ ?_
 · intro i hi L v w' a' hI hL hd hv ho
   refine wpOp_mono ?_ (step i (by rw [← hn];exact hi) L v w' a' hI hL hd hv ho)
   rintro b w'' ⟨o,u,h1,h2,h3,h4⟩
   exact ⟨o,u,h1,h2,hI.step hK h3 h4⟩
 · intro v w' hI
   exact fin v w' hI.1 fun k hk=>hI.2 k (by rw [hn];simpa using hk)
end Ri
end Go.Proofs.YtedjkbmfpjmlpaaDoor
namespace Go.Proofs.YtedjkbmfpjmlpaaDoor
open Go.RowKit
theorem tt_ne_i32:(127:TypeId)=21→False:=by decide
def PsT (lo m:Nat) (f:Ps.T) (b0:Nat) (w:World) (v:Value):Prop:=∃ g,v=Ps.tabV g lo m∧b0 ≤ g∧TabAtP w g m (Ps.rel lo f)
theorem PsT.below {lo m b0:Nat} {f:Ps.T} {w w':World} {v:Value} (h:PsT lo m f b0 w v) (hb:Below w.heap.size w w'):PsT lo m f b0 w' v:=by
 obtain ⟨g,e,hg,ht⟩:=h;exact ⟨g,e,hg,ht.later hb⟩
def PsZ (b0:Nat) (w:World) (v:Value):Prop:=∃ b,v=.pointer (some ⟨b,0,none⟩)∧b0 ≤ b∧w.heap[b]? = some (.cells #[.int .i64 0,.int .i64 0,.slice none 0 0] 127)
theorem PsZ.below {b0:Nat} {w w':World} {v:Value} (h:PsZ b0 w v) (hb:Below w.heap.size w w'):PsZ b0 w' v:=by
 obtain ⟨b,e,hg,ht⟩:=h;exact ⟨b,e,hg,keep_blk hb ht⟩
theorem setRow_touch {w w1:World} {b:Nat} (h:Touch [b] w w1) (cs:Array Value):Touch [b] w (w1.setRow b cs):=by
 refine ⟨h.os,h.tape,h.output,by simpa [World.setRow] using h.size,fun k hk hn=>?_⟩
 rw [heap_setRow_other _ _ _ (by simpa using hn)]
 exact h.block k hk hn
def rsCell (lo m:Nat) (o:Option Nat) (j:Nat):Value:=match o with
 | some g=>if j=0 then .int .i64 (lo:Int) else if j=1 then .int .i64 ((lo:Int)+(m:Int)) else .slice (some ⟨g,0,none⟩) ((m+1) * (m+1)) ((m+1) * (m+1))
 | none=>if j=0 then .int .i64 0 else if j=1 then .int .i64 0 else .slice none 0 0
def rsRow (n lo m:Nat) (V:Nat→Option Nat):Array Value:=Array.ofFn (n:=n * 3) fun i=>rsCell lo m (V (i.val / 3)) (i.val % 3)
theorem rsRow_size (n lo m:Nat) (V:Nat→Option Nat):(rsRow n lo m V).size=n * 3:=by simp [rsRow]
theorem rsRow_get {n lo m:Nat} (V:Nat→Option Nat) {d j:Nat} (hd:d < n) (hj:j < 3):(rsRow n lo m V)[d * 3+j]? = some (rsCell lo m (V d) j):=by
 unfold rsRow
 rw [Array.getElem?_eq_getElem (by simp;omega)]
 simp only [Array.getElem_ofFn]
 rw [show (d * 3+j) / 3=d by omega,show (d * 3+j) % 3=j by omega]
def rsUp (V:Nat→Option Nat) (d g:Nat):Nat→Option Nat:=fun k=>if k=d then some g else V k
theorem rsRow_put {n lo m:Nat} (V:Nat→Option Nat) {d g:Nat} (hd:d < n):(((rsRow n lo m V).setIfInBounds (d * 3) (.int .i64 (lo:Int))).setIfInBounds (d * 3+1) (.int .i64 ((lo:Int)+(m:Int)))).setIfInBounds (d * 3+2) (.slice (some ⟨g,0,none⟩) ((m+1) * (m+1)) ((m+1) * (m+1)))=rsRow n lo m (rsUp V d g):=by
 apply Array.ext_getElem?
 intro i
 by_cases hi:i < n * 3
 · obtain ⟨c,j,hc,hj,rfl⟩:∃ c j,c < n∧j < 3∧i=c * 3+j:=⟨i / 3,i % 3,by omega,by omega,by omega⟩
   rw [rsRow_get _ hc hj]
   unfold rsUp
   by_cases e:c=d
   · subst e
     rw [if_pos rfl]
     rcases (show j=0 ∨ j=1 ∨ j=2 by omega) with rfl | rfl | rfl
     · rw [Array.getElem?_setIfInBounds_ne (by omega),Array.getElem?_setIfInBounds_ne (by omega),Nat.add_zero,Array.getElem?_setIfInBounds_self_of_lt (by rw [rsRow_size];omega)];rfl
     · rw [Array.getElem?_setIfInBounds_ne (by omega),Array.getElem?_setIfInBounds_self_of_lt (by simp [rsRow_size];omega)];rfl
     · rw [Array.getElem?_setIfInBounds_self_of_lt (by simp [rsRow_size];omega)];rfl
   · rw [if_neg e,Array.getElem?_setIfInBounds_ne (by omega),Array.getElem?_setIfInBounds_ne (by omega),Array.getElem?_setIfInBounds_ne (by omega),rsRow_get _ hc hj]
 · rw [Array.getElem?_eq_none (by simp [rsRow_size];omega),Array.getElem?_eq_none (by rw [rsRow_size];omega)]
def RsAt (w:World) (gr n lo m:Nat) (V:Nat→Option Nat) (R:Nat→Ps.T):Prop:=w.heap[gr]? = some (.cells (rsRow n lo m V) 127)∧∀ d g,d < n→V d=some g→TabAtP w g m (Ps.rel lo (R d))∧g ≠ gr
theorem RsAt.lt {w:World} {gr n lo m:Nat} {V:Nat→Option Nat} {R:Nat→Ps.T} (h:RsAt w gr n lo m V R):gr < w.heap.size:=(Array.getElem?_eq_some_iff.1 h.1).1
theorem RsAt.later {w w':World} {gr n lo m:Nat} {V:Nat→Option Nat} {R:Nat→Ps.T} (h:RsAt w gr n lo m V R) (hb:Below w.heap.size w w'):RsAt w' gr n lo m V R :=
 ⟨keep_blk hb h.1,fun d g hd hV=>⟨(h.2 d g hd hV).1.later hb,(h.2 d g hd hV).2⟩⟩
theorem RsAt.here {w:World} {gr n lo m:Nat} {V:Nat→Option Nat} {R:Nat→Ps.T} (h:RsAt w gr n lo m V R) {d:Nat} (hd:d < n) :
   w.cell? ⟨gr,d * 3,none⟩=some (rsCell lo m (V d) 0)∧w.cell? ⟨gr,d * 3+1,none⟩=some (rsCell lo m (V d) 1)∧w.cell? ⟨gr,d * 3+2,none⟩=some (rsCell lo m (V d) 2)∧w.frozen? ⟨gr,d * 3,none⟩=false∧w.frozen? ⟨gr,d * 3+1,none⟩=false∧w.frozen? ⟨gr,d * 3+2,none⟩=false:=by
 have hc:∀ j,j < 3→w.cell? ⟨gr,d * 3+j,none⟩=some (rsCell lo m (V d) j):=fun j hj=>by unfold World.cell?;rw [h.1];exact rsRow_get V hd hj
 have hf:∀ o,w.frozen? ⟨gr,o,none⟩=false:=fun o=>by unfold World.frozen?;rw [h.1];simp
 exact ⟨hc 0 (by omega),hc 1 (by omega),hc 2 (by omega),hf _,hf _,hf _⟩
theorem RsAt.cells {w:World} {gr n lo m:Nat} {V:Nat→Option Nat} {R:Nat→Ps.T} (h:RsAt w gr n lo m V R) {d g:Nat} (hd:d < n) (hV:V d=some g) :
   w.cell? ⟨gr,d * 3,none⟩=some (.int .i64 (lo:Int))∧w.cell? ⟨gr,d * 3+1,none⟩=some (.int .i64 ((lo:Int)+(m:Int)))∧w.cell? ⟨gr,d * 3+2,none⟩=some (.slice (some ⟨g,0,none⟩) ((m+1) * (m+1)) ((m+1) * (m+1)))∧True:=by
 obtain ⟨h0,h1,h2,-,-,-⟩:=h.here hd
 rw [hV] at h0 h1 h2
 exact ⟨h0,h1,h2,trivial⟩
theorem RsAt.put {w:World} {gr n lo m:Nat} {V:Nat→Option Nat} {R:Nat→Ps.T} (h:RsAt w gr n lo m V R) {d g:Nat} (hd:d < n) (hne:g ≠ gr) {f:Ps.T} (ht:TabAtP w g m (Ps.rel lo f)) (he:f=R d) :
   RsAt (((w.setCell ⟨gr,d * 3,none⟩ (.int .i64 (lo:Int))).setCell ⟨gr,d * 3+1,none⟩ (.int .i64 ((lo:Int)+(m:Int)))).setCell ⟨gr,d * 3+2,none⟩ (.slice (some ⟨g,0,none⟩) ((m+1) * (m+1)) ((m+1) * (m+1)))) gr n lo m (rsUp V d g) R:=by
 have hto:Touch [gr] w (((w.setCell ⟨gr,d * 3,none⟩ (.int .i64 (lo:Int))).setCell ⟨gr,d * 3+1,none⟩ (.int .i64 ((lo:Int)+(m:Int)))).setCell ⟨gr,d * 3+2,none⟩ (.slice (some ⟨g,0,none⟩) ((m+1) * (m+1)) ((m+1) * (m+1)))) :=
   (Touch.of_below [gr] (Below.refl w.heap.size w)).setCells (b:=gr) (by simp) (d * 3) [.int .i64 (lo:Int),.int .i64 ((lo:Int)+(m:Int)),.slice (some ⟨g,0,none⟩) ((m+1) * (m+1)) ((m+1) * (m+1))]
 refine ⟨?_,fun c g' hc hV=>?_⟩
 · simp [World.setCell,Array.getElem?_modify,h.1,rsRow_put V hd]
 · unfold rsUp at hV
   split at hV
   · rename_i e
     injection hV with hV
     subst hV e
     exact ⟨he ▸ ht.touch hto hne,hne⟩
   · exact ⟨(h.2 c g' hc hV).1.touch hto (h.2 c g' hc hV).2,(h.2 c g' hc hV).2⟩
theorem Tryd.infoTab:(Tryd.prog.info? 127).map (fun i=>(i.zero,i.size,i.bytes))=some (some (.agg #[.int .i64 0,.int .i64 0,.slice none 0 0]),3,40):=by kernel_rfl
theorem make_rs (lo m n:Nat) (hn:n ≤ 1000000) (w:World):(Instr.makeSlice 128 (.int .i64 (n:Int)) (.int .i64 (n:Int))).run Tryd.prog w=.ok (.slice (some ⟨w.heap.size,0,none⟩) n n) (w.alloc (.cells (rsRow n lo m fun _=>none) 127)):=by
 obtain ⟨ie,hi,hz0,hz1,hz2⟩:=info_parts Tryd.infoTab
 have h:=run_make (P:=Tryd.prog) w 128 127 ie _ Tryd.underlying128 hi hz0 .i64 .i64 (n:Int) (n:Int) (by omega) (Int.le_refl _) (by rw [hz2];omega) (by omega)
 simp only [Int.toNat_natCast,hz1] at h
 have e:madeCells (Value.agg #[.int .i64 0,.int .i64 0,.slice none 0 0]).cells (n * 3)=rsRow n lo m fun _=>none:=by
   apply Array.ext
   · rw [size_madeCells,rsRow_size]
   · intro i h1 h2
     rcases (show i % 3=0 ∨ i % 3=1 ∨ i % 3=2 by omega) with hm | hm | hm <;> simp [madeCells,rsRow,rsCell,Value.cells,hm]
 rw [e] at h
 exact h
theorem cellsTC {w:World} {b lo m g:Nat} (h:w.heap[b]? = some (.cells #[.int .i64 (lo:Int),.int .i64 ((lo:Int)+(m:Int)),.slice (some ⟨g,0,none⟩) ((m+1) * (m+1)) ((m+1) * (m+1))] 127)):w.cell? ⟨b,0,none⟩=some (.int .i64 (lo:Int))∧w.cell? ⟨b,1,none⟩=some (.int .i64 ((lo:Int)+(m:Int)))∧w.cell? ⟨b,2,none⟩=some (.slice (some ⟨g,0,none⟩) ((m+1) * (m+1)) ((m+1) * (m+1))):=by
 simp [World.cell?,h]
def PsRs (lo m n:Nat) (R:Nat→Ps.T) (w:World) (e:Ending) (w':World):Prop:=∃ gr V,e=.returned (.slice (some ⟨gr,0,none⟩) n n)∧w.heap.size ≤ gr∧RsAt w' gr n lo m V R∧(∀ d,d < n→∃ g,V d=some g∧w.heap.size ≤ g)∧Below w.heap.size w w'
namespace Ps
def restN (f:T) (least:Nat) (behind:T):Nat→Nat→T
 | 0,_=>behind
 | n+1,d=>if d < least then join f (restN f least behind n (d+1)) else more f (restN f least behind n (d+1))
end Ps
theorem psrounds_any (xp:Value) (lo m:Nat) (hlo:lo+m ≤ 1000) (t:Tr) (f:Ps.T) (g2 least last:Nat) (hle:t.least=least) (hla:last ≤ 1000) (hlast:(t.most = -1∧last=least) ∨ (t.most=(last:Int))) (w:World) (Bb:Nat→Prop) (v:Value) (hv:NodeV w Bb v t) (hT2:TabAtP w g2 m (Ps.rel lo f)) :
   Calls Tryd.prog 168 #[.agg #[xp,.int .i64 (lo:Int),.int .i64 ((lo:Int)+(m:Int))],Ps.tabV g2 lo m,v] w (PsRs lo m (last+1) (fun d=>Ps.restN f least (if t.most = -1 then Ps.any f else Ps.one) (last - d) d) w):=by
 obtain ⟨sv,rfl,hsv⟩:=hv
 obtain ⟨p,cap,rfl,-⟩:=hsv.slice
 clear hsv
 have HT2:=Lib.hid hT2
 clear hT2
 unfold Ps.tabV Tr.cells
 rw [hle]
 have HLST:=Lib.hid hlast
 clear hle hlast
 obtain ⟨BH,hBH⟩:∃ BH,BH=if t.most = -1 then Ps.any f else Ps.one:=⟨_,rfl⟩
 rw [← hBH]
 obtain ⟨RF,hRF⟩:∃ RF,RF=fun d=>Ps.restN f least BH (last - d) d:=⟨_,rfl⟩
 rw [← hRF]
 have HBH:=Lib.hid hBH
 have HR0:=Lib.hid (show RF last=BH from by rw [hRF];show Ps.restN f least BH (last - last) last=BH;rw [Nat.sub_self,Ps.restN])
 have HRC:=Lib.hid (show ∀ c,c < last→(c < least→Ps.join f (RF (c+1))=RF c)∧(¬ c < least→Ps.more f (RF (c+1))=RF c) from fun c hc=>by
   have e:RF c=Ps.restN f least BH (last - c) c:=by rw [hRF]
   have e1:RF (c+1)=Ps.restN f least BH (last - (c+1)) (c+1):=by rw [hRF]
   rw [e,e1,show last - c=(last - (c+1))+1 by omega,Ps.restN]
   exact ⟨fun h=>by rw [if_pos h],fun h=>by rw [if_neg h]⟩)
 clear hBH hRF
 have WNx:=Lib.hid (news3 w (.cells #[xp,.int .i64 (lo:Int),.int .i64 ((lo:Int)+(m:Int))] 166) (.cells #[.int .i64 (lo:Int),.int .i64 ((lo:Int)+(m:Int)),.slice (some ⟨g2,0,none⟩) ((m+1) * (m+1)) ((m+1) * (m+1))] 127) (.cells #[.int .i64 t.kind,.int .u64 (Oc.U t.w0),.int .u64 (Oc.U t.w1),.int .u64 (Oc.U t.w2),.int .u64 (Oc.U t.w3),.slice p t.subs.length cap,.int .i64 t.num,.int .i64 (least:Int),.int .i64 t.most,.bool t.bare] 37))
 have HB:=Lib.hid (show Below w.heap.size w (((w.alloc (.cells #[xp,.int .i64 (lo:Int),.int .i64 ((lo:Int)+(m:Int))] 166)).alloc (.cells #[.int .i64 (lo:Int),.int .i64 ((lo:Int)+(m:Int)),.slice (some ⟨g2,0,none⟩) ((m+1) * (m+1)) ((m+1) * (m+1))] 127)).alloc (.cells #[.int .i64 t.kind,.int .u64 (Oc.U t.w0),.int .u64 (Oc.U t.w1),.int .u64 (Oc.U t.w2),.int .u64 (Oc.U t.w3),.slice p t.subs.length cap,.int .i64 t.num,.int .i64 (least:Int),.int .i64 t.most,.bool t.bare] 37)) from by go_grown)
 go_enter Tryd.func168,Tryd.ntmps168
 go_upto_region 1 with (fail)
 generalize ((w.alloc (.cells #[xp,.int .i64 (lo:Int),.int .i64 ((lo:Int)+(m:Int))] 166)).alloc (.cells #[.int .i64 (lo:Int),.int .i64 ((lo:Int)+(m:Int)),.slice (some ⟨g2,0,none⟩) ((m+1) * (m+1)) ((m+1) * (m+1))] 127)).alloc (.cells #[.int .i64 t.kind,.int .u64 (Oc.U t.w0),.int .u64 (Oc.U t.w1),.int .u64 (Oc.U t.w2),.int .u64 (Oc.U t.w3),.slice p t.subs.length cap,.int .i64 t.num,.int .i64 (least:Int),.int .i64 t.most,.bool t.bare] 37)=W0 at *
 have Y0:=Lib.hid WNx.out.1;have Y1:=Lib.hid WNx.out.2.1;have Y2:=Lib.hid WNx.out.2.2
 have HL0:=Lib.hid (show w.heap.size+1+1 < W0.heap.size from (Array.getElem?_eq_some_iff.1 Y2.out).1)
 clear WNx
 go_wp2_with fail
 refine Ri.wp_region_last (by kernel_rfl) (by kernel_rfl) (by kernel_rfl) (by kernel_rfl) 6 (by kernel_rfl) (by kernel_rfl) (fun kk ww vv=>match kk with | 0=>vv=.pointer (some ⟨w.heap.size+1+1,8,none⟩) | 1=>vv=.int .i64 t.most | 2=>vv=.agg #[xp,.int .i64 (lo:Int),.int .i64 ((lo:Int)+(m:Int))] | 3=>PsT lo m Ps.one W0.heap.size ww vv | 4=>PsZ W0.heap.size ww vv | 5=>vv=.int .i64 t.most | _=>True) (fun vv ww=>∃ b g,(vv 4)=.pointer (some ⟨b,0,none⟩)∧W0.heap.size ≤ b∧W0.heap.size ≤ g∧ww.heap[b]? = some (.cells #[.int .i64 (lo:Int),.int .i64 ((lo:Int)+(m:Int)),.slice (some ⟨g,0,none⟩) ((m+1) * (m+1)) ((m+1) * (m+1))] 127)∧TabAtP ww g m (Ps.rel lo Ps.one)∧Below W0.heap.size W0 ww∧(vv 5)=.int .i64 t.most) (fun kk ww vv w8 h hb=>by
       match kk,h with
       | 0,h=>exact h
       | 1,h=>exact h
       | 2,h=>exact h
       | 3,h=>exact h.below hb
       | 4,h=>exact h.below hb
       | 5,h=>exact h
       | _+6,_=>trivial) ?_ ?_ ?_
 · intro i hi9 L v w9 xa hF9 hL hd hv ho
   obtain ⟨hb,hk⟩:=hF9
   have hi':i=0 ∨ i=1 ∨ i=2 ∨ i=3 ∨ i=4 ∨ i=5:=by omega
   rcases hi' with rfl | rfl | rfl | rfl | rfl | rfl
   · have e5:xa.tmps.getD 5 undef=.pointer (some ⟨w.heap.size+1+1,0,none⟩):=ho 5 (by kernel_rfl)
     refine Ri.step_plain rfl rfl (fun K' hK'=>?_)
     go_simp
     exact hK' _ _ ⟨_,_,rfl,rfl,(Below.refl _ _),rfl⟩
   · have j0:L 0=true:=by have:=hd _ rfl;simp [Region.binds] at this;simp [this]
     have f0:=(hv 0 11 rfl j0).trans (hk 0 j0)
     refine Ri.step_plain rfl rfl (fun K' hK'=>?_)
     obtain ⟨n0,n1,n2,n3,n4,n5,n6,n7,n8,n9⟩:=allTen (keep_blk hb Y2.out)
     go_simp
     exact hK' _ _ ⟨_,_,rfl,rfl,(Below.refl _ _),rfl⟩
   · have e3:xa.tmps.getD 3 undef=.pointer (some ⟨w.heap.size,0,none⟩):=ho 3 (by kernel_rfl)
     refine Ri.step_plain rfl rfl (fun K' hK'=>?_)
     refine wp_load_row _ _ rfl _ e3 _ _ _ _ (keep_blk hb Y0.out) Tryd.underlying166 rfl (by kernel_rfl) ?_
     exact hK' _ _ ⟨_,_,rfl,rfl,Below.refl _ _,rfl⟩
   · have j2:L 2=true:=by have:=hd _ rfl;simp [Region.binds] at this;simp [this]
     have f2:=(hv 2 13 rfl j2).trans (hk 2 j2)
     refine Ri.step_plain rfl rfl (fun K' hK'=>?_)
     go_simp
     refine (psempty_any 152 #[] (fun _=>true) xp lo m hlo w9 (fun _ _=>by rfl) (fun k _ wx _=>by simpa using pseverywhere_any _ wx)).mono ?_
     rintro e w8 ⟨g8,rfl,hg8,ht8,hb8⟩
     exact hK' _ _ ⟨_,_,rfl,rfl,hb8,⟨g8,rfl,Nat.le_trans hb.size hg8,Ps.oneAt_true ▸ ht8⟩⟩
   · refine Ri.step_plain rfl rfl (fun K' hK'=>?_)
     go_simp
     have hba:=(Below.refl w9.heap.size w9).alloc (Nat.le_refl _) (.cells #[.int .i64 0,.int .i64 0,.slice none 0 0] 127)
     exact hK' _ _ ⟨_,_,rfl,rfl,hba,⟨w9.heap.size,rfl,hb.size,heap_alloc_new _ _⟩⟩
   · have j1:L 1=true:=by have:=hd _ rfl;simp [Region.binds] at this;simp [this]
     have f1:=(hv 1 12 rfl j1).trans (hk 1 j1)
     refine Ri.step_plain rfl rfl (fun K' hK'=>?_)
     go_simp
     exact hK' _ _ ⟨_,_,rfl,rfl,(Below.refl _ _),rfl⟩
 · intro L v w9 xa hF9 hall hv ho
   obtain ⟨hb,hk⟩:=hF9
   have f0:=(hv 0 11 rfl (hall 0 (by omega))).trans (hk 0 (hall 0 (by omega)))
   have f1:=(hv 1 12 rfl (hall 1 (by omega))).trans (hk 1 (hall 1 (by omega)))
   have f2:=(hv 2 13 rfl (hall 2 (by omega))).trans (hk 2 (hall 2 (by omega)))
   have k3:PsT lo m Ps.one W0.heap.size w9 (v 3):=hk 3 (hall 3 (by omega))
   have f3:=hv 3 14 rfl (hall 3 (by omega))
   have k4:PsZ W0.heap.size w9 (v 4):=hk 4 (hall 4 (by omega))
   have f4:=hv 4 8 rfl (hall 4 (by omega))
   have f5:=(hv 5 7 rfl (hall 5 (by omega))).trans (hk 5 (hall 5 (by omega)))
   refine Ri.step_plain rfl rfl (fun K' hK'=>?_)
   obtain ⟨b8,e8,hb8,hz8⟩:=k4
   obtain ⟨g8,e14,hg8,ht8⟩:=k3
   have hne8:g8 ≠ b8:=fun e=>by have h1:=ht8;unfold TabAtP at h1;rw [e,hz8] at h1;injection h1 with h1;injection h1 with h1 h2;exact tt_ne_i32 h2
   refine wp_store_row _ _ _ rfl b8 #[.int .i64 (lo:Int),.int .i64 ((lo:Int)+(m:Int)),.slice (some ⟨g8,0,none⟩) ((m+1) * (m+1)) ((m+1) * (m+1))] (f4.trans e8) (f3.trans e14) 127 _ hz8 (by kernel_rfl) rfl (by simp [Value.oneCell']) ?_
   exact hK' _ _ ⟨_,undef,rfl,rfl,⟨b8,g8,(show Ri.up v 6 undef 4=_ from e8),hb8,hg8,heap_setRow hz8,(by unfold TabAtP;rw [heap_setRow_other _ _ _ hne8];exact ht8),below_setRow hb hb8 _,(show Ri.up v 6 undef 5=_ from hk 5 (hall 5 (by omega)))⟩⟩
 · intro v w9 hfin
   obtain ⟨bb,gb,e8,hbb,hgb,hrow,htab,hb1,e7⟩:=hfin
   simp only [Ri.frame,List.zipIdx,List.foldl_cons,List.foldl_nil,if_true,List.setIfInBounds_toArray,List.set_cons_zero,List.set_cons_succ,Nat.reduceAdd,e8,e7]
   generalize v 0=z0;generalize v 1=z1;generalize v 2=z2;generalize v 3=z3
   have HB1:=Lib.hid (HB.out.trans (hb1.mono HB.out.size))
   have YB:=Lib.hid hrow;have TB:=Lib.hid htab;have HBB:=Lib.hid (show W0.heap.size ≤ bb∧W0.heap.size ≤ gb from ⟨hbb,hgb⟩)
   have X0:=Lib.hid (keep_blk hb1 Y0.out);have X1:=Lib.hid (keep_blk hb1 Y1.out);have X2:=Lib.hid (keep_blk hb1 Y2.out)
   clear hrow htab hbb hgb hb1 Y0 Y1 Y2 HB e8 e7
   generalize w9=w1 at *
   have Y0:=X0;have Y1:=X1;have Y2:=X2
   clear X0 X1 X2
   obtain ⟨n0,n1,n2,n3,n4,n5,n6,n7,n8,n9⟩:=allTen Y2.out
   by_cases hM:t.most = -1
   case pos =>
     have hMb:(t.most == -1)=true:=by simpa using hM
     have hll:last=least:=by rcases HLST.out with h | h;exact h.2;omega
     have HT2w:=Lib.hid (HT2.out.later HB1.out)
     go_upto_region 3 with (fail)
     clear n0 n1 n2 n3 n4 n5 n6 n7 n8 n9
     go_wp2_with fail
     refine Ri.wp_region_last (by kernel_rfl) (by kernel_rfl) (by kernel_rfl) (by kernel_rfl) 6 (by kernel_rfl) (by kernel_rfl) (fun kk ww vv=>match kk with | 0=>vv=.pointer (some ⟨w.heap.size+1+1,7,none⟩) | 1=>vv=.int .i64 (least:Int) | 2=>vv=.agg #[xp,.int .i64 (lo:Int),.int .i64 ((lo:Int)+(m:Int))] | 3=>vv=.agg #[.int .i64 (lo:Int),.int .i64 ((lo:Int)+(m:Int)),.slice (some ⟨g2,0,none⟩) ((m+1) * (m+1)) ((m+1) * (m+1))] | 4=>PsT lo m (Ps.any f) w1.heap.size ww vv | 5=>vv=.int .i64 (least:Int) | _=>True) (fun vv ww=>∃ g,w1.heap.size ≤ g∧ww.heap[bb]? = some (.cells #[.int .i64 (lo:Int),.int .i64 ((lo:Int)+(m:Int)),.slice (some ⟨g,0,none⟩) ((m+1) * (m+1)) ((m+1) * (m+1))] 127)∧TabAtP ww g m (Ps.rel lo (Ps.any f))∧Touch [bb] w1 ww∧(vv 5)=.int .i64 (least:Int)) (fun kk ww vv w8 h hb=>by
             match kk,h with
             | 0,h=>exact h
             | 1,h=>exact h
             | 2,h=>exact h
             | 3,h=>exact h
             | 4,h=>exact h.below hb
             | 5,h=>exact h
             | _+6,_=>trivial) ?_ ?_ ?_
     · intro i hi9 L v w9 xa hF9 hL hd hv ho
       obtain ⟨hb,hk⟩:=hF9
       have hi':i=0 ∨ i=1 ∨ i=2 ∨ i=3 ∨ i=4 ∨ i=5:=by omega
       rcases hi' with rfl | rfl | rfl | rfl | rfl | rfl
       · have e5:xa.tmps.getD 5 undef=.pointer (some ⟨w.heap.size+1+1,0,none⟩):=ho 5 (by kernel_rfl)
         refine Ri.step_plain rfl rfl (fun K' hK'=>?_)
         go_simp
         exact hK' _ _ ⟨_,_,rfl,rfl,(Below.refl _ _),rfl⟩
       · have j0:L 0=true:=by have:=hd _ rfl;simp [Region.binds] at this;simp [this]
         have f0:=(hv 0 18 rfl j0).trans (hk 0 j0)
         refine Ri.step_plain rfl rfl (fun K' hK'=>?_)
         obtain ⟨n0,n1,n2,n3,n4,n5,n6,n7,n8,n9⟩:=allTen (keep_blk hb Y2.out)
         go_simp
         exact hK' _ _ ⟨_,_,rfl,rfl,(Below.refl _ _),rfl⟩
       · have e3:xa.tmps.getD 3 undef=.pointer (some ⟨w.heap.size,0,none⟩):=ho 3 (by kernel_rfl)
         refine Ri.step_plain rfl rfl (fun K' hK'=>?_)
         refine wp_load_row _ _ rfl _ e3 _ _ _ _ (keep_blk hb Y0.out) Tryd.underlying166 rfl (by kernel_rfl) ?_
         exact hK' _ _ ⟨_,_,rfl,rfl,Below.refl _ _,rfl⟩
       · have e4:xa.tmps.getD 4 undef=.pointer (some ⟨w.heap.size+1,0,none⟩):=ho 4 (by kernel_rfl)
         refine Ri.step_plain rfl rfl (fun K' hK'=>?_)
         refine wp_load_row _ _ rfl _ e4 _ _ _ _ (keep_blk hb Y1.out) Tryd.underlying127 rfl (by kernel_rfl) ?_
         exact hK' _ _ ⟨_,_,rfl,rfl,Below.refl _ _,rfl⟩
       · obtain ⟨j2,j3⟩:L 2=true∧L 3=true:=by have:=hd _ rfl;simp [Region.binds] at this;simp [this]
         have f2:=(hv 2 20 rfl j2).trans (hk 2 j2)
         have f3:=(hv 3 21 rfl j3).trans (hk 3 j3)
         refine Ri.step_plain rfl rfl (fun K' hK'=>?_)
         go_simp
         refine (psanyRounds_any xp g2 lo m hlo f w9 (HT2w.out.later hb)).mono ?_
         rintro e w8 ⟨g8,rfl,hg8,ht8,hb8⟩
         exact hK' _ _ ⟨_,_,rfl,rfl,hb8,⟨g8,rfl,Nat.le_trans hb.size hg8,ht8⟩⟩
       · have j1:L 1=true:=by have:=hd _ rfl;simp [Region.binds] at this;simp [this]
         have f1:=(hv 1 19 rfl j1).trans (hk 1 j1)
         refine Ri.step_plain rfl rfl (fun K' hK'=>?_)
         go_simp
         exact hK' _ _ ⟨_,_,rfl,rfl,(Below.refl _ _),rfl⟩
     · intro L v w9 xa hF9 hall hv ho
       obtain ⟨hb,hk⟩:=hF9
       have f0:=(hv 0 18 rfl (hall 0 (by omega))).trans (hk 0 (hall 0 (by omega)))
       have f1:=(hv 1 19 rfl (hall 1 (by omega))).trans (hk 1 (hall 1 (by omega)))
       have f2:=(hv 2 20 rfl (hall 2 (by omega))).trans (hk 2 (hall 2 (by omega)))
       have f3:=(hv 3 21 rfl (hall 3 (by omega))).trans (hk 3 (hall 3 (by omega)))
       have k4:PsT lo m (Ps.any f) w1.heap.size w9 (v 4):=hk 4 (hall 4 (by omega))
       have f4:=hv 4 22 rfl (hall 4 (by omega))
       have f5:=(hv 5 7 rfl (hall 5 (by omega))).trans (hk 5 (hall 5 (by omega)))
       have e8:xa.tmps.getD 8 undef=.pointer (some ⟨bb,0,none⟩):=ho 8 (by kernel_rfl)
       refine Ri.step_plain rfl rfl (fun K' hK'=>?_)
       obtain ⟨g8,e22,hg8,ht8⟩:=k4
       have hzb:=keep_blk hb YB.out
       have hne8:g8 ≠ bb:=fun e=>by have h1:=ht8;unfold TabAtP at h1;rw [e,hzb] at h1;injection h1 with h1;injection h1 with h1 h2;exact tt_ne_i32 h2
       refine wp_store_row _ _ _ rfl bb #[.int .i64 (lo:Int),.int .i64 ((lo:Int)+(m:Int)),.slice (some ⟨g8,0,none⟩) ((m+1) * (m+1)) ((m+1) * (m+1))] e8 (f4.trans e22) 127 _ hzb (by kernel_rfl) rfl (by simp [Value.oneCell']) ?_
       exact hK' _ _ ⟨_,undef,rfl,rfl,⟨g8,hg8,heap_setRow hzb,(by unfold TabAtP;rw [heap_setRow_other _ _ _ hne8];exact ht8),setRow_touch (Touch.of_below [bb] hb) _,(show Ri.up v 6 undef 5=_ from hk 5 (hall 5 (by omega)))⟩⟩
     · intro v w9 hfin
       obtain ⟨gb,hgb,hrow,htab,hto,e7⟩:=hfin
       rw [← hll] at e7
       simp only [Ri.frame,List.zipIdx,List.foldl_cons,List.foldl_nil,if_true,List.setIfInBounds_toArray,List.set_cons_zero,List.set_cons_succ,Nat.reduceAdd,e7]
       generalize v 0=z0;generalize v 1=z1;generalize v 2=z2;generalize v 3=z3;generalize v 4=z4
       have HBT:=Lib.hid (HB1.out.trans (hto.below (B:=w.heap.size) (by intro k hk;have:=HBB.out.1;have:=HB1.out.size;have:=HL0.out;simp at hk;omega) HB1.out.size))
       have YB2:=Lib.hid hrow;have TB2:=Lib.hid htab
       have X0:=Lib.hid (blk_touch Y0.out hto (by have:=HBB.out.1;have:=HL0.out;omega));have X1:=Lib.hid (blk_touch Y1.out hto (by have:=HBB.out.1;have:=HL0.out;omega));have X2:=Lib.hid (blk_touch Y2.out hto (by have:=HBB.out.1;have:=HL0.out;omega))
       have HTR:=Lib.hid (HT2.out.later HBT.out)
       have hBH:Ps.any f=BH:=by rw [HBH.out,if_pos hM]
       rw [hBH] at TB2
       have HGB0:=Lib.hid (show w.heap.size ≤ gb from Nat.le_trans HB1.out.size hgb)
       clear hrow htab hgb hto Y0 Y1 Y2 YB TB HB1 HBB e7 hMb hBH HT2 HT2w hll hM
       have HG9:=Lib.hid (show w.heap.size+1+1 < w9.heap.size from (Array.getElem?_eq_some_iff.1 X2.out).1)
       have HGB:=Lib.hid (show bb < w9.heap.size from (Array.getElem?_eq_some_iff.1 YB2.out).1)
       have HGT:=Lib.hid TB2.out.lt
       obtain ⟨w10,hw10⟩:∃ w10,w10=w9.alloc (.cells (rsRow (last+1) lo m fun _=>none) 127):=⟨_,rfl⟩
       obtain ⟨gr,hgr⟩:∃ gr,gr=w9.heap.size:=⟨_,rfl⟩
       have hms:(Instr.makeSlice 128 (.int .i64 ((last:Int)+1)) (.int .i64 ((last:Int)+1))).run Tryd.prog w9=.ok (.slice (some ⟨gr,0,none⟩) (last+1) (last+1)) w10:=by
         have h:=make_rs lo m (last+1) (by omega) w9
         rw [show ((last+1:Nat):Int)=(last:Int)+1 by omega] at h
         rw [hw10,hgr]
         exact h
       have hrs0:RsAt w10 gr (last+1) lo m (fun _=>none) RF:=⟨by rw [hgr,hw10];exact heap_alloc_new _ _,fun d g _ h=>by cases h⟩
       have hba:Below w9.heap.size w9 w10:=by rw [hw10];exact (Below.refl w9.heap.size w9).alloc (Nat.le_refl _) _
       have h5:=keep_blk hba YB2.out
       have HGR:=Lib.hid (show gr=w9.heap.size from hgr)
       clear hw10 hgr
       go_upto_region 5 with (fail)
       clear hms
       obtain ⟨d0,d1,d2⟩:=cellsTC h5
       obtain ⟨c0,c1,c2,u0,u1,u2⟩:=hrs0.here (d:=last) (by omega)
       go_wp2_with fail
       clear d0 d1 d2 c0 c1 c2 u0 u1 u2
       have HRS:=Lib.hid (hrs0.put (d:=last) (g:=gb) (by omega) (by have:=HGT.out;have:=HGR.out;omega) (TB2.out.later hba) HR0.out.symm)
       have hto:Touch [gr] w10 (((w10.setCell ⟨gr,last * 3,none⟩ (.int .i64 (lo:Int))).setCell ⟨gr,last * 3+1,none⟩ (.int .i64 ((lo:Int)+(m:Int)))).setCell ⟨gr,last * 3+2,none⟩ (.slice (some ⟨gb,0,none⟩) ((m+1) * (m+1)) ((m+1) * (m+1)))):=(Touch.of_below [gr] (Below.refl w10.heap.size w10)).setCells (b:=gr) (by simp) (last * 3) [.int .i64 (lo:Int),.int .i64 ((lo:Int)+(m:Int)),.slice (some ⟨gb,0,none⟩) ((m+1) * (m+1)) ((m+1) * (m+1))]
       generalize ((w10.setCell ⟨gr,last * 3,none⟩ (.int .i64 (lo:Int))).setCell ⟨gr,last * 3+1,none⟩ (.int .i64 ((lo:Int)+(m:Int)))).setCell ⟨gr,last * 3+2,none⟩ (.slice (some ⟨gb,0,none⟩) ((m+1) * (m+1)) ((m+1) * (m+1)))=w11 at *
       have HGW:=Lib.hid (show w.heap.size ≤ gr∧w.heap.size+1+1 < gr∧g2 ≠ gr from by have:=HG9.out;have:=HGR.out;have:=HTR.out.lt;omega)
       have P0:=Lib.hid (blk_touch (keep_blk hba X0.out) hto (by have:=HGW.out;omega));have P1:=Lib.hid (blk_touch (keep_blk hba X1.out) hto (by have:=HGW.out;omega));have P2:=Lib.hid (blk_touch (keep_blk hba X2.out) hto (by have:=HGW.out;omega))
       have HT2L:=Lib.hid ((HTR.out.later hba).touch hto HGW.out.2.2)
       have HBL:=Lib.hid ((HBT.out.trans (hba.mono HBT.out.size)).trans (hto.below (B:=w.heap.size) (by intro i hi;have:=HGW.out;simp at hi;omega) (HBT.out.trans (hba.mono HBT.out.size)).size))
       clear hrs0 hto hba h5 X0 X1 X2 YB2 TB2 HTR HBT HG9 HGB HGT HGR HR0
       go_loopw [10] (fun iv wr=>∃ (k:Nat) (z:Int) (V9:Nat→Option Nat),iv=.int .i64 z∧k ≤ last∧Hid (z=(k:Int) - 1)∧Hid (RsAt wr gr (last+1) lo m V9 RF)∧Hid (∀ d,k ≤ d→d < last+1→∃ g,V9 d=some g∧w.heap.size ≤ g)∧Hid (wr.heap[w.heap.size]? = some (.cells #[xp,.int .i64 (lo:Int),.int .i64 ((lo:Int)+(m:Int))] 166))∧Hid (wr.heap[w.heap.size+1]? = some (.cells #[.int .i64 (lo:Int),.int .i64 ((lo:Int)+(m:Int)),.slice (some ⟨g2,0,none⟩) ((m+1) * (m+1)) ((m+1) * (m+1))] 127))∧Hid (wr.heap[w.heap.size+1+1]? = some (.cells #[.int .i64 t.kind,.int .u64 (Oc.U t.w0),.int .u64 (Oc.U t.w1),.int .u64 (Oc.U t.w2),.int .u64 (Oc.U t.w3),.slice p t.subs.length cap,.int .i64 t.num,.int .i64 (least:Int),.int .i64 t.most,.bool t.bare] 37))∧Hid (TabAtP wr g2 m (Ps.rel lo f))∧Hid (Below w.heap.size w wr)) (fun iv _=>(intOf iv+1).toNat)
       case atStart=>exact ⟨last,(last:Int) - 1,_,by simp,Nat.le_refl _,Lib.hid rfl,HRS,Lib.hid (fun d h1 h2=>⟨gb,by unfold rsUp;rw [if_pos (by omega)],HGB0.out⟩),P0,P1,P2,HT2L,HBL⟩
       case round =>
         clear HRS P0 P1 P2 HT2L HBL
         obtain ⟨k,z,V9,rfl,hk,HZ,RSC,HSO,Z0,Z1,Z2,HT2r,HBE⟩:=hrel
         cases k with
         | succ c =>
           obtain rfl:z=(c:Int):=by have:=HZ.out;omega
           have gz:decide ((0:Int) ≤ (c:Int))=true:=by simp
           obtain ⟨g9,hV9,-⟩:=HSO.out (c+1) (by omega) (by omega)
           have HV9:=Lib.hid hV9
           have T9:=Lib.hid (RSC.out.2 (c+1) g9 (by omega) hV9).1
           clear hV9 HZ
           obtain ⟨n0,n1,n2,n3,n4,n5,n6,n7,n8,n9⟩:=allTen Z2.out
           by_cases hcl:c < least
           case pos =>
             have hci:(c:Int) < (least:Int):=by omega
             have HRJ:=Lib.hid ((HRC.out c (by omega)).1 hcl)
             go_upto_region 10 with (fail)
             clear n0 n1 n2 n3 n4 n5 n6 n7 n8 n9
             go_wp2_with fail
             have wc1:IntKind.i64.wrap ((c:Int)+1)=(c:Int)+1:=IntWalk.i64_in _ (by omega)
             have hlc:c < last:=by omega
             have hl0:(0:Int) ≤ (c:Int)+1:=by omega
             have hl2:(c:Int) < (last:Int)+1:=by omega
             refine Ri.wp_region_last (by kernel_rfl) (by kernel_rfl) (by kernel_rfl) (by kernel_rfl) 11 (by kernel_rfl) (by kernel_rfl) (fun kk ww vv=>match kk with | 0=>vv=.slice (some ⟨gr,0,none⟩) (last+1) (last+1) | 1=>vv=.int .i64 (c:Int) | 2=>vv=.agg #[xp,.int .i64 (lo:Int),.int .i64 ((lo:Int)+(m:Int))] | 3=>vv=.agg #[.int .i64 (lo:Int),.int .i64 ((lo:Int)+(m:Int)),.slice (some ⟨g2,0,none⟩) ((m+1) * (m+1)) ((m+1) * (m+1))] | 4=>vv=.slice (some ⟨gr,0,none⟩) (last+1) (last+1) | 5=>vv=.int .i64 (c:Int) | 6=>vv=.int .i64 ((c:Int)+1) | 7=>vv=.pointer (some ⟨gr,(c+1) * 3,none⟩) | 8=>vv=.agg #[.int .i64 (lo:Int),.int .i64 ((lo:Int)+(m:Int)),.slice (some ⟨g9,0,none⟩) ((m+1) * (m+1)) ((m+1) * (m+1))] | 9=>PsT lo m (Ps.join f (RF (c+1))) wr.heap.size ww vv | 10=>vv=.pointer (some ⟨gr,c * 3,none⟩) | _=>True) (fun vv ww=>∃ g,RsAt ww gr (last+1) lo m (rsUp V9 c g) RF∧Touch [gr] wr ww∧wr.heap.size ≤ g) (fun kk ww vv w8 h hb=>by
                             match kk,h with
                             | 0,h=>exact h
                             | 1,h=>exact h
                             | 2,h=>exact h
                             | 3,h=>exact h
                             | 4,h=>exact h
                             | 5,h=>exact h
                             | 6,h=>exact h
                             | 7,h=>exact h
                             | 8,h=>exact h
                             | 9,h=>exact h.below hb
                             | 10,h=>exact h
                             | _+11,_=>trivial) ?_ ?_ ?_
             · intro i hi9 L v w9 xa hF9 hL hd hv ho
               obtain ⟨hb,hk⟩:=hF9
               have hi':i=0 ∨ i=1 ∨ i=2 ∨ i=3 ∨ i=4 ∨ i=5 ∨ i=6 ∨ i=7 ∨ i=8 ∨ i=9 ∨ i=10:=by omega
               rcases hi' with rfl | rfl | rfl | rfl | rfl | rfl | rfl | rfl | rfl | rfl | rfl
               · have e9:xa.tmps.getD 9 undef=.slice (some ⟨gr,0,none⟩) (last+1) (last+1):=ho 9 (by kernel_rfl)
                 refine Ri.step_plain rfl rfl (fun K' hK'=>?_)
                 go_simp
                 exact hK' _ _ ⟨_,_,rfl,rfl,(Below.refl _ _),rfl⟩
               · have e10:xa.tmps.getD 10 undef=.int .i64 (c:Int):=ho 10 (by kernel_rfl)
                 refine Ri.step_plain rfl rfl (fun K' hK'=>?_)
                 go_simp
                 exact hK' _ _ ⟨_,_,rfl,rfl,(Below.refl _ _),rfl⟩
               · have e3:xa.tmps.getD 3 undef=.pointer (some ⟨w.heap.size,0,none⟩):=ho 3 (by kernel_rfl)
                 refine Ri.step_plain rfl rfl (fun K' hK'=>?_)
                 refine wp_load_row _ _ rfl _ e3 _ _ _ _ (keep_blk hb Z0.out) Tryd.underlying166 rfl (by kernel_rfl) ?_
                 exact hK' _ _ ⟨_,_,rfl,rfl,Below.refl _ _,rfl⟩
               · have e4:xa.tmps.getD 4 undef=.pointer (some ⟨w.heap.size+1,0,none⟩):=ho 4 (by kernel_rfl)
                 refine Ri.step_plain rfl rfl (fun K' hK'=>?_)
                 refine wp_load_row _ _ rfl _ e4 _ _ _ _ (keep_blk hb Z1.out) Tryd.underlying127 rfl (by kernel_rfl) ?_
                 exact hK' _ _ ⟨_,_,rfl,rfl,Below.refl _ _,rfl⟩
               · have e9:xa.tmps.getD 9 undef=.slice (some ⟨gr,0,none⟩) (last+1) (last+1):=ho 9 (by kernel_rfl)
                 refine Ri.step_plain rfl rfl (fun K' hK'=>?_)
                 go_simp
                 exact hK' _ _ ⟨_,_,rfl,rfl,(Below.refl _ _),rfl⟩
               · have e10:xa.tmps.getD 10 undef=.int .i64 (c:Int):=ho 10 (by kernel_rfl)
                 refine Ri.step_plain rfl rfl (fun K' hK'=>?_)
                 go_simp
                 exact hK' _ _ ⟨_,_,rfl,rfl,(Below.refl _ _),rfl⟩
               · have j5:L 5=true:=by have:=hd _ rfl;simp [Region.binds] at this;simp [this]
                 have f5:=(hv 5 45 rfl j5).trans (hk 5 j5)
                 refine Ri.step_plain rfl rfl (fun K' hK'=>?_)
                 go_simp
                 exact hK' _ _ ⟨_,_,rfl,rfl,(Below.refl _ _),rfl⟩
               · obtain ⟨j4,j6⟩:L 4=true∧L 6=true:=by have:=hd _ rfl;simp [Region.binds] at this;simp [this]
                 have f4:=(hv 4 44 rfl j4).trans (hk 4 j4)
                 have f6:=(hv 6 46 rfl j6).trans (hk 6 j6)
                 refine Ri.step_plain rfl rfl (fun K' hK'=>?_)
                 go_simp
                 exact hK' _ _ ⟨_,_,rfl,rfl,(Below.refl _ _),rfl⟩
               · have j7:L 7=true:=by have:=hd _ rfl;simp [Region.binds] at this;simp [this]
                 have f7:=(hv 7 47 rfl j7).trans (hk 7 j7)
                 refine Ri.step_plain rfl rfl (fun K' hK'=>?_)
                 obtain ⟨c0,c1,c2,-⟩:=(RSC.out.later hb).cells (d:=c+1) (by omega) HV9.out
                 go_simp
                 exact hK' _ _ ⟨_,_,rfl,rfl,(Below.refl _ _),rfl⟩
               · obtain ⟨j2,j3,j8⟩:L 2=true∧L 3=true∧L 8=true:=by have:=hd _ rfl;simp [Region.binds] at this;simp [this]
                 have f2:=(hv 2 42 rfl j2).trans (hk 2 j2)
                 have f3:=(hv 3 43 rfl j3).trans (hk 3 j3)
                 have f8:=(hv 8 48 rfl j8).trans (hk 8 j8)
                 refine Ri.step_plain rfl rfl (fun K' hK'=>?_)
                 go_simp
                 refine (psjoined_any xp g2 g9 lo m hlo f (RF (c+1)) w9 (HT2r.out.later hb) (T9.out.later hb)).mono ?_
                 rintro e w8 ⟨g8,rfl,hg8,ht8,hb8⟩
                 exact hK' _ _ ⟨_,_,rfl,rfl,hb8,⟨g8,rfl,Nat.le_trans hb.size hg8,ht8⟩⟩
               · obtain ⟨j0,j1⟩:L 0=true∧L 1=true:=by have:=hd _ rfl;simp [Region.binds] at this;simp [this]
                 have f0:=(hv 0 40 rfl j0).trans (hk 0 j0)
                 have f1:=(hv 1 41 rfl j1).trans (hk 1 j1)
                 refine Ri.step_plain rfl rfl (fun K' hK'=>?_)
                 go_simp
                 exact hK' _ _ ⟨_,_,rfl,rfl,(Below.refl _ _),rfl⟩
             · intro L v w9 xa hF9 hall hv ho
               obtain ⟨hb,hk⟩:=hF9
               have f0:=(hv 0 40 rfl (hall 0 (by omega))).trans (hk 0 (hall 0 (by omega)))
               have f1:=(hv 1 41 rfl (hall 1 (by omega))).trans (hk 1 (hall 1 (by omega)))
               have f2:=(hv 2 42 rfl (hall 2 (by omega))).trans (hk 2 (hall 2 (by omega)))
               have f3:=(hv 3 43 rfl (hall 3 (by omega))).trans (hk 3 (hall 3 (by omega)))
               have f4:=(hv 4 44 rfl (hall 4 (by omega))).trans (hk 4 (hall 4 (by omega)))
               have f5:=(hv 5 45 rfl (hall 5 (by omega))).trans (hk 5 (hall 5 (by omega)))
               have f6:=(hv 6 46 rfl (hall 6 (by omega))).trans (hk 6 (hall 6 (by omega)))
               have f7:=(hv 7 47 rfl (hall 7 (by omega))).trans (hk 7 (hall 7 (by omega)))
               have f8:=(hv 8 48 rfl (hall 8 (by omega))).trans (hk 8 (hall 8 (by omega)))
               have k9:PsT lo m (Ps.join f (RF (c+1))) wr.heap.size w9 (v 9):=hk 9 (hall 9 (by omega))
               have f9:=hv 9 49 rfl (hall 9 (by omega))
               have f10:=(hv 10 50 rfl (hall 10 (by omega))).trans (hk 10 (hall 10 (by omega)))
               refine Ri.step_plain rfl rfl (fun K' hK'=>?_)
               obtain ⟨g8,e8,hg8,ht8⟩:=k9
               unfold Ps.tabV at e8
               replace f9:=f9.trans e8
               have hrs:=RSC.out.later hb
               obtain ⟨c0,c1,c2,z0,z1,z2⟩:=hrs.here (d:=c) (by omega)
               clear e8
               go_simp
               exact hK' _ _ ⟨_,undef,rfl,rfl,⟨g8,hrs.put (by omega) (by have:=RSC.out.lt;omega) ht8 HRJ.out,(Touch.of_below [gr] hb).setCells (b:=gr) (by simp) (c * 3) [.int .i64 (lo:Int),.int .i64 ((lo:Int)+(m:Int)),.slice (some ⟨g8,0,none⟩) ((m+1) * (m+1)) ((m+1) * (m+1))],hg8⟩⟩
             · intro v w9 hfin
               obtain ⟨g8,hrs8,hto8,hg8⟩:=hfin
               simp only [Ri.frame,List.zipIdx,List.foldl_cons,List.foldl_nil,if_true,List.setIfInBounds_toArray,List.set_cons_zero,List.set_cons_succ,Nat.reduceAdd]
               generalize v 0=z0;generalize v 1=z1;generalize v 2=z2;generalize v 3=z3;generalize v 4=z4;generalize v 5=z5;generalize v 6=z6;generalize v 7=z7;generalize v 8=z8;generalize v 9=z9;generalize v 10=z10
               have RS8:=Lib.hid hrs8
               have A0:=Lib.hid (blk_touch Z0.out hto8 (by have:=HGW.out;omega));have A1:=Lib.hid (blk_touch Z1.out hto8 (by have:=HGW.out;omega));have A2:=Lib.hid (blk_touch Z2.out hto8 (by have:=HGW.out;omega))
               have HT8:=Lib.hid (HT2r.out.touch hto8 HGW.out.2.2)
               have HB8:=Lib.hid (HBE.out.trans (hto8.below (B:=w.heap.size) (by intro i hi;have:=HGW.out;simp at hi;omega) HBE.out.size))
               have wj:IntKind.i64.wrap ((c:Int) - 1)=(c:Int) - 1:=IntWalk.i64_in _ (by omega)
               have HS8:=Lib.hid (show ∀ d,c ≤ d→d < last+1→∃ g,rsUp V9 c g8 d=some g∧w.heap.size ≤ g from fun d h1 h2=>by
                 unfold rsUp
                 by_cases e:d=c
                 · rw [if_pos e];exact ⟨g8,rfl,Nat.le_trans HBE.out.size hg8⟩
                 · rw [if_neg e];exact HSO.out d (by omega) h2)
               clear wc1 hlc hl0 hl2 hrs8 hto8 hg8 Z0 Z1 Z2 HT2r HBE RSC HSO T9 HV9 HRJ
               go_wp2
               exact ⟨⟨c,(c:Int) - 1,rsUp V9 c g8,by simp,by omega,Lib.hid rfl,RS8,HS8,A0,A1,A2,HT8,HB8⟩,by simp [intOf]⟩
           case neg =>
             have hci:¬ (c:Int) < (least:Int):=by omega
             have HRJ:=Lib.hid ((HRC.out c (by omega)).2 hcl)
             go_upto_region 11 with (fail)
             clear n0 n1 n2 n3 n4 n5 n6 n7 n8 n9
             go_wp2_with fail
             have wc1:IntKind.i64.wrap ((c:Int)+1)=(c:Int)+1:=IntWalk.i64_in _ (by omega)
             have hlc:c < last:=by omega
             have hl0:(0:Int) ≤ (c:Int)+1:=by omega
             have hl2:(c:Int) < (last:Int)+1:=by omega
             refine Ri.wp_region_last (by kernel_rfl) (by kernel_rfl) (by kernel_rfl) (by kernel_rfl) 11 (by kernel_rfl) (by kernel_rfl) (fun kk ww vv=>match kk with | 0=>vv=.slice (some ⟨gr,0,none⟩) (last+1) (last+1) | 1=>vv=.int .i64 (c:Int) | 2=>vv=.agg #[xp,.int .i64 (lo:Int),.int .i64 ((lo:Int)+(m:Int))] | 3=>vv=.agg #[.int .i64 (lo:Int),.int .i64 ((lo:Int)+(m:Int)),.slice (some ⟨g2,0,none⟩) ((m+1) * (m+1)) ((m+1) * (m+1))] | 4=>vv=.slice (some ⟨gr,0,none⟩) (last+1) (last+1) | 5=>vv=.int .i64 (c:Int) | 6=>vv=.int .i64 ((c:Int)+1) | 7=>vv=.pointer (some ⟨gr,(c+1) * 3,none⟩) | 8=>vv=.agg #[.int .i64 (lo:Int),.int .i64 ((lo:Int)+(m:Int)),.slice (some ⟨g9,0,none⟩) ((m+1) * (m+1)) ((m+1) * (m+1))] | 9=>PsT lo m (Ps.more f (RF (c+1))) wr.heap.size ww vv | 10=>vv=.pointer (some ⟨gr,c * 3,none⟩) | _=>True) (fun vv ww=>∃ g,RsAt ww gr (last+1) lo m (rsUp V9 c g) RF∧Touch [gr] wr ww∧wr.heap.size ≤ g) (fun kk ww vv w8 h hb=>by
                             match kk,h with
                             | 0,h=>exact h
                             | 1,h=>exact h
                             | 2,h=>exact h
                             | 3,h=>exact h
                             | 4,h=>exact h
                             | 5,h=>exact h
                             | 6,h=>exact h
                             | 7,h=>exact h
                             | 8,h=>exact h
                             | 9,h=>exact h.below hb
                             | 10,h=>exact h
                             | _+11,_=>trivial) ?_ ?_ ?_
             · intro i hi9 L v w9 xa hF9 hL hd hv ho
               obtain ⟨hb,hk⟩:=hF9
               have hi':i=0 ∨ i=1 ∨ i=2 ∨ i=3 ∨ i=4 ∨ i=5 ∨ i=6 ∨ i=7 ∨ i=8 ∨ i=9 ∨ i=10:=by omega
               rcases hi' with rfl | rfl | rfl | rfl | rfl | rfl | rfl | rfl | rfl | rfl | rfl
               · have e9:xa.tmps.getD 9 undef=.slice (some ⟨gr,0,none⟩) (last+1) (last+1):=ho 9 (by kernel_rfl)
                 refine Ri.step_plain rfl rfl (fun K' hK'=>?_)
                 go_simp
                 exact hK' _ _ ⟨_,_,rfl,rfl,(Below.refl _ _),rfl⟩
               · have e10:xa.tmps.getD 10 undef=.int .i64 (c:Int):=ho 10 (by kernel_rfl)
                 refine Ri.step_plain rfl rfl (fun K' hK'=>?_)
                 go_simp
                 exact hK' _ _ ⟨_,_,rfl,rfl,(Below.refl _ _),rfl⟩
               · have e3:xa.tmps.getD 3 undef=.pointer (some ⟨w.heap.size,0,none⟩):=ho 3 (by kernel_rfl)
                 refine Ri.step_plain rfl rfl (fun K' hK'=>?_)
                 refine wp_load_row _ _ rfl _ e3 _ _ _ _ (keep_blk hb Z0.out) Tryd.underlying166 rfl (by kernel_rfl) ?_
                 exact hK' _ _ ⟨_,_,rfl,rfl,Below.refl _ _,rfl⟩
               · have e4:xa.tmps.getD 4 undef=.pointer (some ⟨w.heap.size+1,0,none⟩):=ho 4 (by kernel_rfl)
                 refine Ri.step_plain rfl rfl (fun K' hK'=>?_)
                 refine wp_load_row _ _ rfl _ e4 _ _ _ _ (keep_blk hb Z1.out) Tryd.underlying127 rfl (by kernel_rfl) ?_
                 exact hK' _ _ ⟨_,_,rfl,rfl,Below.refl _ _,rfl⟩
               · have e9:xa.tmps.getD 9 undef=.slice (some ⟨gr,0,none⟩) (last+1) (last+1):=ho 9 (by kernel_rfl)
                 refine Ri.step_plain rfl rfl (fun K' hK'=>?_)
                 go_simp
                 exact hK' _ _ ⟨_,_,rfl,rfl,(Below.refl _ _),rfl⟩
               · have e10:xa.tmps.getD 10 undef=.int .i64 (c:Int):=ho 10 (by kernel_rfl)
                 refine Ri.step_plain rfl rfl (fun K' hK'=>?_)
                 go_simp
                 exact hK' _ _ ⟨_,_,rfl,rfl,(Below.refl _ _),rfl⟩
               · have j5:L 5=true:=by have:=hd _ rfl;simp [Region.binds] at this;simp [this]
                 have f5:=(hv 5 56 rfl j5).trans (hk 5 j5)
                 refine Ri.step_plain rfl rfl (fun K' hK'=>?_)
                 go_simp
                 exact hK' _ _ ⟨_,_,rfl,rfl,(Below.refl _ _),rfl⟩
               · obtain ⟨j4,j6⟩:L 4=true∧L 6=true:=by have:=hd _ rfl;simp [Region.binds] at this;simp [this]
                 have f4:=(hv 4 55 rfl j4).trans (hk 4 j4)
                 have f6:=(hv 6 57 rfl j6).trans (hk 6 j6)
                 refine Ri.step_plain rfl rfl (fun K' hK'=>?_)
                 go_simp
                 exact hK' _ _ ⟨_,_,rfl,rfl,(Below.refl _ _),rfl⟩
               · have j7:L 7=true:=by have:=hd _ rfl;simp [Region.binds] at this;simp [this]
                 have f7:=(hv 7 58 rfl j7).trans (hk 7 j7)
                 refine Ri.step_plain rfl rfl (fun K' hK'=>?_)
                 obtain ⟨c0,c1,c2,-⟩:=(RSC.out.later hb).cells (d:=c+1) (by omega) HV9.out
                 go_simp
                 exact hK' _ _ ⟨_,_,rfl,rfl,(Below.refl _ _),rfl⟩
               · obtain ⟨j2,j3,j8⟩:L 2=true∧L 3=true∧L 8=true:=by have:=hd _ rfl;simp [Region.binds] at this;simp [this]
                 have f2:=(hv 2 53 rfl j2).trans (hk 2 j2)
                 have f3:=(hv 3 54 rfl j3).trans (hk 3 j3)
                 have f8:=(hv 8 59 rfl j8).trans (hk 8 j8)
                 refine Ri.step_plain rfl rfl (fun K' hK'=>?_)
                 go_simp
                 refine (psoneMore_any xp g2 g9 lo m hlo f (RF (c+1)) w9 (HT2r.out.later hb) (T9.out.later hb)).mono ?_
                 rintro e w8 ⟨g8,rfl,hg8,ht8,hb8⟩
                 exact hK' _ _ ⟨_,_,rfl,rfl,hb8,⟨g8,rfl,Nat.le_trans hb.size hg8,ht8⟩⟩
               · obtain ⟨j0,j1⟩:L 0=true∧L 1=true:=by have:=hd _ rfl;simp [Region.binds] at this;simp [this]
                 have f0:=(hv 0 51 rfl j0).trans (hk 0 j0)
                 have f1:=(hv 1 52 rfl j1).trans (hk 1 j1)
                 refine Ri.step_plain rfl rfl (fun K' hK'=>?_)
                 go_simp
                 exact hK' _ _ ⟨_,_,rfl,rfl,(Below.refl _ _),rfl⟩
             · intro L v w9 xa hF9 hall hv ho
               obtain ⟨hb,hk⟩:=hF9
               have f0:=(hv 0 51 rfl (hall 0 (by omega))).trans (hk 0 (hall 0 (by omega)))
               have f1:=(hv 1 52 rfl (hall 1 (by omega))).trans (hk 1 (hall 1 (by omega)))
               have f2:=(hv 2 53 rfl (hall 2 (by omega))).trans (hk 2 (hall 2 (by omega)))
               have f3:=(hv 3 54 rfl (hall 3 (by omega))).trans (hk 3 (hall 3 (by omega)))
               have f4:=(hv 4 55 rfl (hall 4 (by omega))).trans (hk 4 (hall 4 (by omega)))
               have f5:=(hv 5 56 rfl (hall 5 (by omega))).trans (hk 5 (hall 5 (by omega)))
               have f6:=(hv 6 57 rfl (hall 6 (by omega))).trans (hk 6 (hall 6 (by omega)))
               have f7:=(hv 7 58 rfl (hall 7 (by omega))).trans (hk 7 (hall 7 (by omega)))
               have f8:=(hv 8 59 rfl (hall 8 (by omega))).trans (hk 8 (hall 8 (by omega)))
               have k9:PsT lo m (Ps.more f (RF (c+1))) wr.heap.size w9 (v 9):=hk 9 (hall 9 (by omega))
               have f9:=hv 9 60 rfl (hall 9 (by omega))
               have f10:=(hv 10 61 rfl (hall 10 (by omega))).trans (hk 10 (hall 10 (by omega)))
               refine Ri.step_plain rfl rfl (fun K' hK'=>?_)
               obtain ⟨g8,e8,hg8,ht8⟩:=k9
               unfold Ps.tabV at e8
               replace f9:=f9.trans e8
               have hrs:=RSC.out.later hb
               obtain ⟨c0,c1,c2,z0,z1,z2⟩:=hrs.here (d:=c) (by omega)
               clear e8
               go_simp
               exact hK' _ _ ⟨_,undef,rfl,rfl,⟨g8,hrs.put (by omega) (by have:=RSC.out.lt;omega) ht8 HRJ.out,(Touch.of_below [gr] hb).setCells (b:=gr) (by simp) (c * 3) [.int .i64 (lo:Int),.int .i64 ((lo:Int)+(m:Int)),.slice (some ⟨g8,0,none⟩) ((m+1) * (m+1)) ((m+1) * (m+1))],hg8⟩⟩
             · intro v w9 hfin
               obtain ⟨g8,hrs8,hto8,hg8⟩:=hfin
               simp only [Ri.frame,List.zipIdx,List.foldl_cons,List.foldl_nil,if_true,List.setIfInBounds_toArray,List.set_cons_zero,List.set_cons_succ,Nat.reduceAdd]
               generalize v 0=z0;generalize v 1=z1;generalize v 2=z2;generalize v 3=z3;generalize v 4=z4;generalize v 5=z5;generalize v 6=z6;generalize v 7=z7;generalize v 8=z8;generalize v 9=z9;generalize v 10=z10
               have RS8:=Lib.hid hrs8
               have A0:=Lib.hid (blk_touch Z0.out hto8 (by have:=HGW.out;omega));have A1:=Lib.hid (blk_touch Z1.out hto8 (by have:=HGW.out;omega));have A2:=Lib.hid (blk_touch Z2.out hto8 (by have:=HGW.out;omega))
               have HT8:=Lib.hid (HT2r.out.touch hto8 HGW.out.2.2)
               have HB8:=Lib.hid (HBE.out.trans (hto8.below (B:=w.heap.size) (by intro i hi;have:=HGW.out;simp at hi;omega) HBE.out.size))
               have wj:IntKind.i64.wrap ((c:Int) - 1)=(c:Int) - 1:=IntWalk.i64_in _ (by omega)
               have HS8:=Lib.hid (show ∀ d,c ≤ d→d < last+1→∃ g,rsUp V9 c g8 d=some g∧w.heap.size ≤ g from fun d h1 h2=>by
                 unfold rsUp
                 by_cases e:d=c
                 · rw [if_pos e];exact ⟨g8,rfl,Nat.le_trans HBE.out.size hg8⟩
                 · rw [if_neg e];exact HSO.out d (by omega) h2)
               clear wc1 hlc hl0 hl2 hrs8 hto8 hg8 Z0 Z1 Z2 HT2r HBE RSC HSO T9 HV9 HRJ
               go_wp2
               exact ⟨⟨c,(c:Int) - 1,rsUp V9 c g8,by simp,by omega,Lib.hid rfl,RS8,HS8,A0,A1,A2,HT8,HB8⟩,by simp [intOf]⟩
         | zero =>
           obtain rfl:z = -1:=by have:=HZ.out;omega
           go_wp2
           go_ret
           exact ⟨gr,V9,rfl,HGW.out.1,RSC.out,fun d h=>HSO.out d (Nat.zero_le _) h,HBE.out⟩
   case neg =>
     have hMb:(t.most == -1)=false:=by simpa using hM
     have hml:t.most=(last:Int):=by rcases HLST.out with h | h;exact absurd h.1 hM;exact h
     rw [hml] at hMb ⊢
     clear n0 n1 n2 n3 n4 n5 n6 n7 n8 n9
     obtain ⟨w9,hw9⟩:∃ w9,w9=w1:=⟨_,rfl⟩
     rw [← hw9] at HB1 Y0 Y1 Y2 YB TB ⊢
     clear hw9 w1
     obtain ⟨n0,n1,n2,n3,n4,n5,n6,n7,n8,n9⟩:=allTen Y2.out
     go_upto_region 4 with (fail)
     clear n0 n1 n2 n3 n4 n5 n6 n7 n8 n9
     have HBT:=HB1
     have YB2:=YB;have TB2:=TB;have X0:=Y0;have X1:=Y1;have X2:=Y2
     have HTR:=Lib.hid (HT2.out.later HBT.out)
     have hBH:Ps.one=BH:=by rw [HBH.out,if_neg hM]
     rw [hBH] at TB2
     have HGB0:=Lib.hid (show w.heap.size ≤ gb from by have:=HBB.out.2;have:=HL0.out;omega)
     clear Y0 Y1 Y2 YB TB HB1 HBB hMb hBH HT2 hM hml
     have HG9:=Lib.hid (show w.heap.size+1+1 < w9.heap.size from (Array.getElem?_eq_some_iff.1 X2.out).1)
     have HGB:=Lib.hid (show bb < w9.heap.size from (Array.getElem?_eq_some_iff.1 YB2.out).1)
     have HGT:=Lib.hid TB2.out.lt
     obtain ⟨w10,hw10⟩:∃ w10,w10=w9.alloc (.cells (rsRow (last+1) lo m fun _=>none) 127):=⟨_,rfl⟩
     obtain ⟨gr,hgr⟩:∃ gr,gr=w9.heap.size:=⟨_,rfl⟩
     have hms:(Instr.makeSlice 128 (.int .i64 ((last:Int)+1)) (.int .i64 ((last:Int)+1))).run Tryd.prog w9=.ok (.slice (some ⟨gr,0,none⟩) (last+1) (last+1)) w10:=by
       have h:=make_rs lo m (last+1) (by omega) w9
       rw [show ((last+1:Nat):Int)=(last:Int)+1 by omega] at h
       rw [hw10,hgr]
       exact h
     have hrs0:RsAt w10 gr (last+1) lo m (fun _=>none) RF:=⟨by rw [hgr,hw10];exact heap_alloc_new _ _,fun d g _ h=>by cases h⟩
     have hba:Below w9.heap.size w9 w10:=by rw [hw10];exact (Below.refl w9.heap.size w9).alloc (Nat.le_refl _) _
     have h5:=keep_blk hba YB2.out
     have HGR:=Lib.hid (show gr=w9.heap.size from hgr)
     clear hw10 hgr
     go_upto_region 5 with (fail)
     clear hms
     obtain ⟨d0,d1,d2⟩:=cellsTC h5
     obtain ⟨c0,c1,c2,u0,u1,u2⟩:=hrs0.here (d:=last) (by omega)
     go_wp2_with fail
     clear d0 d1 d2 c0 c1 c2 u0 u1 u2
     have HRS:=Lib.hid (hrs0.put (d:=last) (g:=gb) (by omega) (by have:=HGT.out;have:=HGR.out;omega) (TB2.out.later hba) HR0.out.symm)
     have hto:Touch [gr] w10 (((w10.setCell ⟨gr,last * 3,none⟩ (.int .i64 (lo:Int))).setCell ⟨gr,last * 3+1,none⟩ (.int .i64 ((lo:Int)+(m:Int)))).setCell ⟨gr,last * 3+2,none⟩ (.slice (some ⟨gb,0,none⟩) ((m+1) * (m+1)) ((m+1) * (m+1)))):=(Touch.of_below [gr] (Below.refl w10.heap.size w10)).setCells (b:=gr) (by simp) (last * 3) [.int .i64 (lo:Int),.int .i64 ((lo:Int)+(m:Int)),.slice (some ⟨gb,0,none⟩) ((m+1) * (m+1)) ((m+1) * (m+1))]
     generalize ((w10.setCell ⟨gr,last * 3,none⟩ (.int .i64 (lo:Int))).setCell ⟨gr,last * 3+1,none⟩ (.int .i64 ((lo:Int)+(m:Int)))).setCell ⟨gr,last * 3+2,none⟩ (.slice (some ⟨gb,0,none⟩) ((m+1) * (m+1)) ((m+1) * (m+1)))=w11 at *
     have HGW:=Lib.hid (show w.heap.size ≤ gr∧w.heap.size+1+1 < gr∧g2 ≠ gr from by have:=HG9.out;have:=HGR.out;have:=HTR.out.lt;omega)
     have P0:=Lib.hid (blk_touch (keep_blk hba X0.out) hto (by have:=HGW.out;omega));have P1:=Lib.hid (blk_touch (keep_blk hba X1.out) hto (by have:=HGW.out;omega));have P2:=Lib.hid (blk_touch (keep_blk hba X2.out) hto (by have:=HGW.out;omega))
     have HT2L:=Lib.hid ((HTR.out.later hba).touch hto HGW.out.2.2)
     have HBL:=Lib.hid ((HBT.out.trans (hba.mono HBT.out.size)).trans (hto.below (B:=w.heap.size) (by intro i hi;have:=HGW.out;simp at hi;omega) (HBT.out.trans (hba.mono HBT.out.size)).size))
     clear hrs0 hto hba h5 X0 X1 X2 YB2 TB2 HTR HBT HG9 HGB HGT HGR HR0
     go_loopw [10] (fun iv wr=>∃ (k:Nat) (z:Int) (V9:Nat→Option Nat),iv=.int .i64 z∧k ≤ last∧Hid (z=(k:Int) - 1)∧Hid (RsAt wr gr (last+1) lo m V9 RF)∧Hid (∀ d,k ≤ d→d < last+1→∃ g,V9 d=some g∧w.heap.size ≤ g)∧Hid (wr.heap[w.heap.size]? = some (.cells #[xp,.int .i64 (lo:Int),.int .i64 ((lo:Int)+(m:Int))] 166))∧Hid (wr.heap[w.heap.size+1]? = some (.cells #[.int .i64 (lo:Int),.int .i64 ((lo:Int)+(m:Int)),.slice (some ⟨g2,0,none⟩) ((m+1) * (m+1)) ((m+1) * (m+1))] 127))∧Hid (wr.heap[w.heap.size+1+1]? = some (.cells #[.int .i64 t.kind,.int .u64 (Oc.U t.w0),.int .u64 (Oc.U t.w1),.int .u64 (Oc.U t.w2),.int .u64 (Oc.U t.w3),.slice p t.subs.length cap,.int .i64 t.num,.int .i64 (least:Int),.int .i64 t.most,.bool t.bare] 37))∧Hid (TabAtP wr g2 m (Ps.rel lo f))∧Hid (Below w.heap.size w wr)) (fun iv _=>(intOf iv+1).toNat)
     case atStart=>exact ⟨last,(last:Int) - 1,_,by simp,Nat.le_refl _,Lib.hid rfl,HRS,Lib.hid (fun d h1 h2=>⟨gb,by unfold rsUp;rw [if_pos (by omega)],HGB0.out⟩),P0,P1,P2,HT2L,HBL⟩
     case round =>
       clear HRS P0 P1 P2 HT2L HBL
       obtain ⟨k,z,V9,rfl,hk,HZ,RSC,HSO,Z0,Z1,Z2,HT2r,HBE⟩:=hrel
       cases k with
       | succ c =>
         obtain rfl:z=(c:Int):=by have:=HZ.out;omega
         have gz:decide ((0:Int) ≤ (c:Int))=true:=by simp
         obtain ⟨g9,hV9,-⟩:=HSO.out (c+1) (by omega) (by omega)
         have HV9:=Lib.hid hV9
         have T9:=Lib.hid (RSC.out.2 (c+1) g9 (by omega) hV9).1
         clear hV9 HZ
         obtain ⟨n0,n1,n2,n3,n4,n5,n6,n7,n8,n9⟩:=allTen Z2.out
         by_cases hcl:c < least
         case pos =>
           have hci:(c:Int) < (least:Int):=by omega
           have HRJ:=Lib.hid ((HRC.out c (by omega)).1 hcl)
           go_upto_region 10 with (fail)
           clear n0 n1 n2 n3 n4 n5 n6 n7 n8 n9
           go_wp2_with fail
           have wc1:IntKind.i64.wrap ((c:Int)+1)=(c:Int)+1:=IntWalk.i64_in _ (by omega)
           have hlc:c < last:=by omega
           have hl0:(0:Int) ≤ (c:Int)+1:=by omega
           have hl2:(c:Int) < (last:Int)+1:=by omega
           refine Ri.wp_region_last (by kernel_rfl) (by kernel_rfl) (by kernel_rfl) (by kernel_rfl) 11 (by kernel_rfl) (by kernel_rfl) (fun kk ww vv=>match kk with | 0=>vv=.slice (some ⟨gr,0,none⟩) (last+1) (last+1) | 1=>vv=.int .i64 (c:Int) | 2=>vv=.agg #[xp,.int .i64 (lo:Int),.int .i64 ((lo:Int)+(m:Int))] | 3=>vv=.agg #[.int .i64 (lo:Int),.int .i64 ((lo:Int)+(m:Int)),.slice (some ⟨g2,0,none⟩) ((m+1) * (m+1)) ((m+1) * (m+1))] | 4=>vv=.slice (some ⟨gr,0,none⟩) (last+1) (last+1) | 5=>vv=.int .i64 (c:Int) | 6=>vv=.int .i64 ((c:Int)+1) | 7=>vv=.pointer (some ⟨gr,(c+1) * 3,none⟩) | 8=>vv=.agg #[.int .i64 (lo:Int),.int .i64 ((lo:Int)+(m:Int)),.slice (some ⟨g9,0,none⟩) ((m+1) * (m+1)) ((m+1) * (m+1))] | 9=>PsT lo m (Ps.join f (RF (c+1))) wr.heap.size ww vv | 10=>vv=.pointer (some ⟨gr,c * 3,none⟩) | _=>True) (fun vv ww=>∃ g,RsAt ww gr (last+1) lo m (rsUp V9 c g) RF∧Touch [gr] wr ww∧wr.heap.size ≤ g) (fun kk ww vv w8 h hb=>by
                           match kk,h with
                           | 0,h=>exact h
                           | 1,h=>exact h
                           | 2,h=>exact h
                           | 3,h=>exact h
                           | 4,h=>exact h
                           | 5,h=>exact h
                           | 6,h=>exact h
                           | 7,h=>exact h
                           | 8,h=>exact h
                           | 9,h=>exact h.below hb
                           | 10,h=>exact h
                           | _+11,_=>trivial) ?_ ?_ ?_
           · intro i hi9 L v w9 xa hF9 hL hd hv ho
             obtain ⟨hb,hk⟩:=hF9
             have hi':i=0 ∨ i=1 ∨ i=2 ∨ i=3 ∨ i=4 ∨ i=5 ∨ i=6 ∨ i=7 ∨ i=8 ∨ i=9 ∨ i=10:=by omega
             rcases hi' with rfl | rfl | rfl | rfl | rfl | rfl | rfl | rfl | rfl | rfl | rfl
             · have e9:xa.tmps.getD 9 undef=.slice (some ⟨gr,0,none⟩) (last+1) (last+1):=ho 9 (by kernel_rfl)
               refine Ri.step_plain rfl rfl (fun K' hK'=>?_)
               go_simp
               exact hK' _ _ ⟨_,_,rfl,rfl,(Below.refl _ _),rfl⟩
             · have e10:xa.tmps.getD 10 undef=.int .i64 (c:Int):=ho 10 (by kernel_rfl)
               refine Ri.step_plain rfl rfl (fun K' hK'=>?_)
               go_simp
               exact hK' _ _ ⟨_,_,rfl,rfl,(Below.refl _ _),rfl⟩
             · have e3:xa.tmps.getD 3 undef=.pointer (some ⟨w.heap.size,0,none⟩):=ho 3 (by kernel_rfl)
               refine Ri.step_plain rfl rfl (fun K' hK'=>?_)
               refine wp_load_row _ _ rfl _ e3 _ _ _ _ (keep_blk hb Z0.out) Tryd.underlying166 rfl (by kernel_rfl) ?_
               exact hK' _ _ ⟨_,_,rfl,rfl,Below.refl _ _,rfl⟩
             · have e4:xa.tmps.getD 4 undef=.pointer (some ⟨w.heap.size+1,0,none⟩):=ho 4 (by kernel_rfl)
               refine Ri.step_plain rfl rfl (fun K' hK'=>?_)
               refine wp_load_row _ _ rfl _ e4 _ _ _ _ (keep_blk hb Z1.out) Tryd.underlying127 rfl (by kernel_rfl) ?_
               exact hK' _ _ ⟨_,_,rfl,rfl,Below.refl _ _,rfl⟩
             · have e9:xa.tmps.getD 9 undef=.slice (some ⟨gr,0,none⟩) (last+1) (last+1):=ho 9 (by kernel_rfl)
               refine Ri.step_plain rfl rfl (fun K' hK'=>?_)
               go_simp
               exact hK' _ _ ⟨_,_,rfl,rfl,(Below.refl _ _),rfl⟩
             · have e10:xa.tmps.getD 10 undef=.int .i64 (c:Int):=ho 10 (by kernel_rfl)
               refine Ri.step_plain rfl rfl (fun K' hK'=>?_)
               go_simp
               exact hK' _ _ ⟨_,_,rfl,rfl,(Below.refl _ _),rfl⟩
             · have j5:L 5=true:=by have:=hd _ rfl;simp [Region.binds] at this;simp [this]
               have f5:=(hv 5 45 rfl j5).trans (hk 5 j5)
               refine Ri.step_plain rfl rfl (fun K' hK'=>?_)
               go_simp
               exact hK' _ _ ⟨_,_,rfl,rfl,(Below.refl _ _),rfl⟩
             · obtain ⟨j4,j6⟩:L 4=true∧L 6=true:=by have:=hd _ rfl;simp [Region.binds] at this;simp [this]
               have f4:=(hv 4 44 rfl j4).trans (hk 4 j4)
               have f6:=(hv 6 46 rfl j6).trans (hk 6 j6)
               refine Ri.step_plain rfl rfl (fun K' hK'=>?_)
               go_simp
               exact hK' _ _ ⟨_,_,rfl,rfl,(Below.refl _ _),rfl⟩
             · have j7:L 7=true:=by have:=hd _ rfl;simp [Region.binds] at this;simp [this]
               have f7:=(hv 7 47 rfl j7).trans (hk 7 j7)
               refine Ri.step_plain rfl rfl (fun K' hK'=>?_)
               obtain ⟨c0,c1,c2,-⟩:=(RSC.out.later hb).cells (d:=c+1) (by omega) HV9.out
               go_simp
               exact hK' _ _ ⟨_,_,rfl,rfl,(Below.refl _ _),rfl⟩
             · obtain ⟨j2,j3,j8⟩:L 2=true∧L 3=true∧L 8=true:=by have:=hd _ rfl;simp [Region.binds] at this;simp [this]
               have f2:=(hv 2 42 rfl j2).trans (hk 2 j2)
               have f3:=(hv 3 43 rfl j3).trans (hk 3 j3)
               have f8:=(hv 8 48 rfl j8).trans (hk 8 j8)
               refine Ri.step_plain rfl rfl (fun K' hK'=>?_)
               go_simp
               refine (psjoined_any xp g2 g9 lo m hlo f (RF (c+1)) w9 (HT2r.out.later hb) (T9.out.later hb)).mono ?_
               rintro e w8 ⟨g8,rfl,hg8,ht8,hb8⟩
               exact hK' _ _ ⟨_,_,rfl,rfl,hb8,⟨g8,rfl,Nat.le_trans hb.size hg8,ht8⟩⟩
             · obtain ⟨j0,j1⟩:L 0=true∧L 1=true:=by have:=hd _ rfl;simp [Region.binds] at this;simp [this]
               have f0:=(hv 0 40 rfl j0).trans (hk 0 j0)
               have f1:=(hv 1 41 rfl j1).trans (hk 1 j1)
               refine Ri.step_plain rfl rfl (fun K' hK'=>?_)
               go_simp
               exact hK' _ _ ⟨_,_,rfl,rfl,(Below.refl _ _),rfl⟩
           · intro L v w9 xa hF9 hall hv ho
             obtain ⟨hb,hk⟩:=hF9
             have f0:=(hv 0 40 rfl (hall 0 (by omega))).trans (hk 0 (hall 0 (by omega)))
             have f1:=(hv 1 41 rfl (hall 1 (by omega))).trans (hk 1 (hall 1 (by omega)))
             have f2:=(hv 2 42 rfl (hall 2 (by omega))).trans (hk 2 (hall 2 (by omega)))
             have f3:=(hv 3 43 rfl (hall 3 (by omega))).trans (hk 3 (hall 3 (by omega)))
             have f4:=(hv 4 44 rfl (hall 4 (by omega))).trans (hk 4 (hall 4 (by omega)))
             have f5:=(hv 5 45 rfl (hall 5 (by omega))).trans (hk 5 (hall 5 (by omega)))
             have f6:=(hv 6 46 rfl (hall 6 (by omega))).trans (hk 6 (hall 6 (by omega)))
             have f7:=(hv 7 47 rfl (hall 7 (by omega))).trans (hk 7 (hall 7 (by omega)))
             have f8:=(hv 8 48 rfl (hall 8 (by omega))).trans (hk 8 (hall 8 (by omega)))
             have k9:PsT lo m (Ps.join f (RF (c+1))) wr.heap.size w9 (v 9):=hk 9 (hall 9 (by omega))
             have f9:=hv 9 49 rfl (hall 9 (by omega))
             have f10:=(hv 10 50 rfl (hall 10 (by omega))).trans (hk 10 (hall 10 (by omega)))
             refine Ri.step_plain rfl rfl (fun K' hK'=>?_)
             obtain ⟨g8,e8,hg8,ht8⟩:=k9
             unfold Ps.tabV at e8
             replace f9:=f9.trans e8
             have hrs:=RSC.out.later hb
             obtain ⟨c0,c1,c2,z0,z1,z2⟩:=hrs.here (d:=c) (by omega)
             clear e8
             go_simp
             exact hK' _ _ ⟨_,undef,rfl,rfl,⟨g8,hrs.put (by omega) (by have:=RSC.out.lt;omega) ht8 HRJ.out,(Touch.of_below [gr] hb).setCells (b:=gr) (by simp) (c * 3) [.int .i64 (lo:Int),.int .i64 ((lo:Int)+(m:Int)),.slice (some ⟨g8,0,none⟩) ((m+1) * (m+1)) ((m+1) * (m+1))],hg8⟩⟩
           · intro v w9 hfin
             obtain ⟨g8,hrs8,hto8,hg8⟩:=hfin
             simp only [Ri.frame,List.zipIdx,List.foldl_cons,List.foldl_nil,if_true,List.setIfInBounds_toArray,List.set_cons_zero,List.set_cons_succ,Nat.reduceAdd]
             generalize v 0=z0;generalize v 1=z1;generalize v 2=z2;generalize v 3=z3;generalize v 4=z4;generalize v 5=z5;generalize v 6=z6;generalize v 7=z7;generalize v 8=z8;generalize v 9=z9;generalize v 10=z10
             have RS8:=Lib.hid hrs8
             have A0:=Lib.hid (blk_touch Z0.out hto8 (by have:=HGW.out;omega));have A1:=Lib.hid (blk_touch Z1.out hto8 (by have:=HGW.out;omega));have A2:=Lib.hid (blk_touch Z2.out hto8 (by have:=HGW.out;omega))
             have HT8:=Lib.hid (HT2r.out.touch hto8 HGW.out.2.2)
             have HB8:=Lib.hid (HBE.out.trans (hto8.below (B:=w.heap.size) (by intro i hi;have:=HGW.out;simp at hi;omega) HBE.out.size))
             have wj:IntKind.i64.wrap ((c:Int) - 1)=(c:Int) - 1:=IntWalk.i64_in _ (by omega)
             have HS8:=Lib.hid (show ∀ d,c ≤ d→d < last+1→∃ g,rsUp V9 c g8 d=some g∧w.heap.size ≤ g from fun d h1 h2=>by
               unfold rsUp
               by_cases e:d=c
               · rw [if_pos e];exact ⟨g8,rfl,Nat.le_trans HBE.out.size hg8⟩
               · rw [if_neg e];exact HSO.out d (by omega) h2)
             clear wc1 hlc hl0 hl2 hrs8 hto8 hg8 Z0 Z1 Z2 HT2r HBE RSC HSO T9 HV9 HRJ
             go_wp2
             exact ⟨⟨c,(c:Int) - 1,rsUp V9 c g8,by simp,by omega,Lib.hid rfl,RS8,HS8,A0,A1,A2,HT8,HB8⟩,by simp [intOf]⟩
         case neg =>
           have hci:¬ (c:Int) < (least:Int):=by omega
           have HRJ:=Lib.hid ((HRC.out c (by omega)).2 hcl)
           go_upto_region 11 with (fail)
           clear n0 n1 n2 n3 n4 n5 n6 n7 n8 n9
           go_wp2_with fail
           have wc1:IntKind.i64.wrap ((c:Int)+1)=(c:Int)+1:=IntWalk.i64_in _ (by omega)
           have hlc:c < last:=by omega
           have hl0:(0:Int) ≤ (c:Int)+1:=by omega
           have hl2:(c:Int) < (last:Int)+1:=by omega
           refine Ri.wp_region_last (by kernel_rfl) (by kernel_rfl) (by kernel_rfl) (by kernel_rfl) 11 (by kernel_rfl) (by kernel_rfl) (fun kk ww vv=>match kk with | 0=>vv=.slice (some ⟨gr,0,none⟩) (last+1) (last+1) | 1=>vv=.int .i64 (c:Int) | 2=>vv=.agg #[xp,.int .i64 (lo:Int),.int .i64 ((lo:Int)+(m:Int))] | 3=>vv=.agg #[.int .i64 (lo:Int),.int .i64 ((lo:Int)+(m:Int)),.slice (some ⟨g2,0,none⟩) ((m+1) * (m+1)) ((m+1) * (m+1))] | 4=>vv=.slice (some ⟨gr,0,none⟩) (last+1) (last+1) | 5=>vv=.int .i64 (c:Int) | 6=>vv=.int .i64 ((c:Int)+1) | 7=>vv=.pointer (some ⟨gr,(c+1) * 3,none⟩) | 8=>vv=.agg #[.int .i64 (lo:Int),.int .i64 ((lo:Int)+(m:Int)),.slice (some ⟨g9,0,none⟩) ((m+1) * (m+1)) ((m+1) * (m+1))] | 9=>PsT lo m (Ps.more f (RF (c+1))) wr.heap.size ww vv | 10=>vv=.pointer (some ⟨gr,c * 3,none⟩) | _=>True) (fun vv ww=>∃ g,RsAt ww gr (last+1) lo m (rsUp V9 c g) RF∧Touch [gr] wr ww∧wr.heap.size ≤ g) (fun kk ww vv w8 h hb=>by
                           match kk,h with
                           | 0,h=>exact h
                           | 1,h=>exact h
                           | 2,h=>exact h
                           | 3,h=>exact h
                           | 4,h=>exact h
                           | 5,h=>exact h
                           | 6,h=>exact h
                           | 7,h=>exact h
                           | 8,h=>exact h
                           | 9,h=>exact h.below hb
                           | 10,h=>exact h
                           | _+11,_=>trivial) ?_ ?_ ?_
           · intro i hi9 L v w9 xa hF9 hL hd hv ho
             obtain ⟨hb,hk⟩:=hF9
             have hi':i=0 ∨ i=1 ∨ i=2 ∨ i=3 ∨ i=4 ∨ i=5 ∨ i=6 ∨ i=7 ∨ i=8 ∨ i=9 ∨ i=10:=by omega
             rcases hi' with rfl | rfl | rfl | rfl | rfl | rfl | rfl | rfl | rfl | rfl | rfl
             · have e9:xa.tmps.getD 9 undef=.slice (some ⟨gr,0,none⟩) (last+1) (last+1):=ho 9 (by kernel_rfl)
               refine Ri.step_plain rfl rfl (fun K' hK'=>?_)
               go_simp
               exact hK' _ _ ⟨_,_,rfl,rfl,(Below.refl _ _),rfl⟩
             · have e10:xa.tmps.getD 10 undef=.int .i64 (c:Int):=ho 10 (by kernel_rfl)
               refine Ri.step_plain rfl rfl (fun K' hK'=>?_)
               go_simp
               exact hK' _ _ ⟨_,_,rfl,rfl,(Below.refl _ _),rfl⟩
             · have e3:xa.tmps.getD 3 undef=.pointer (some ⟨w.heap.size,0,none⟩):=ho 3 (by kernel_rfl)
               refine Ri.step_plain rfl rfl (fun K' hK'=>?_)
               refine wp_load_row _ _ rfl _ e3 _ _ _ _ (keep_blk hb Z0.out) Tryd.underlying166 rfl (by kernel_rfl) ?_
               exact hK' _ _ ⟨_,_,rfl,rfl,Below.refl _ _,rfl⟩
             · have e4:xa.tmps.getD 4 undef=.pointer (some ⟨w.heap.size+1,0,none⟩):=ho 4 (by kernel_rfl)
               refine Ri.step_plain rfl rfl (fun K' hK'=>?_)
               refine wp_load_row _ _ rfl _ e4 _ _ _ _ (keep_blk hb Z1.out) Tryd.underlying127 rfl (by kernel_rfl) ?_
               exact hK' _ _ ⟨_,_,rfl,rfl,Below.refl _ _,rfl⟩
             · have e9:xa.tmps.getD 9 undef=.slice (some ⟨gr,0,none⟩) (last+1) (last+1):=ho 9 (by kernel_rfl)
               refine Ri.step_plain rfl rfl (fun K' hK'=>?_)
               go_simp
               exact hK' _ _ ⟨_,_,rfl,rfl,(Below.refl _ _),rfl⟩
             · have e10:xa.tmps.getD 10 undef=.int .i64 (c:Int):=ho 10 (by kernel_rfl)
               refine Ri.step_plain rfl rfl (fun K' hK'=>?_)
               go_simp
               exact hK' _ _ ⟨_,_,rfl,rfl,(Below.refl _ _),rfl⟩
             · have j5:L 5=true:=by have:=hd _ rfl;simp [Region.binds] at this;simp [this]
               have f5:=(hv 5 56 rfl j5).trans (hk 5 j5)
               refine Ri.step_plain rfl rfl (fun K' hK'=>?_)
               go_simp
               exact hK' _ _ ⟨_,_,rfl,rfl,(Below.refl _ _),rfl⟩
             · obtain ⟨j4,j6⟩:L 4=true∧L 6=true:=by have:=hd _ rfl;simp [Region.binds] at this;simp [this]
               have f4:=(hv 4 55 rfl j4).trans (hk 4 j4)
               have f6:=(hv 6 57 rfl j6).trans (hk 6 j6)
               refine Ri.step_plain rfl rfl (fun K' hK'=>?_)
               go_simp
               exact hK' _ _ ⟨_,_,rfl,rfl,(Below.refl _ _),rfl⟩
             · have j7:L 7=true:=by have:=hd _ rfl;simp [Region.binds] at this;simp [this]
               have f7:=(hv 7 58 rfl j7).trans (hk 7 j7)
               refine Ri.step_plain rfl rfl (fun K' hK'=>?_)
               obtain ⟨c0,c1,c2,-⟩:=(RSC.out.later hb).cells (d:=c+1) (by omega) HV9.out
               go_simp
               exact hK' _ _ ⟨_,_,rfl,rfl,(Below.refl _ _),rfl⟩
             · obtain ⟨j2,j3,j8⟩:L 2=true∧L 3=true∧L 8=true:=by have:=hd _ rfl;simp [Region.binds] at this;simp [this]
               have f2:=(hv 2 53 rfl j2).trans (hk 2 j2)
               have f3:=(hv 3 54 rfl j3).trans (hk 3 j3)
               have f8:=(hv 8 59 rfl j8).trans (hk 8 j8)
               refine Ri.step_plain rfl rfl (fun K' hK'=>?_)
               go_simp
               refine (psoneMore_any xp g2 g9 lo m hlo f (RF (c+1)) w9 (HT2r.out.later hb) (T9.out.later hb)).mono ?_
               rintro e w8 ⟨g8,rfl,hg8,ht8,hb8⟩
               exact hK' _ _ ⟨_,_,rfl,rfl,hb8,⟨g8,rfl,Nat.le_trans hb.size hg8,ht8⟩⟩
             · obtain ⟨j0,j1⟩:L 0=true∧L 1=true:=by have:=hd _ rfl;simp [Region.binds] at this;simp [this]
               have f0:=(hv 0 51 rfl j0).trans (hk 0 j0)
               have f1:=(hv 1 52 rfl j1).trans (hk 1 j1)
               refine Ri.step_plain rfl rfl (fun K' hK'=>?_)
               go_simp
               exact hK' _ _ ⟨_,_,rfl,rfl,(Below.refl _ _),rfl⟩
           · intro L v w9 xa hF9 hall hv ho
             obtain ⟨hb,hk⟩:=hF9
             have f0:=(hv 0 51 rfl (hall 0 (by omega))).trans (hk 0 (hall 0 (by omega)))
             have f1:=(hv 1 52 rfl (hall 1 (by omega))).trans (hk 1 (hall 1 (by omega)))
             have f2:=(hv 2 53 rfl (hall 2 (by omega))).trans (hk 2 (hall 2 (by omega)))
             have f3:=(hv 3 54 rfl (hall 3 (by omega))).trans (hk 3 (hall 3 (by omega)))
             have f4:=(hv 4 55 rfl (hall 4 (by omega))).trans (hk 4 (hall 4 (by omega)))
             have f5:=(hv 5 56 rfl (hall 5 (by omega))).trans (hk 5 (hall 5 (by omega)))
             have f6:=(hv 6 57 rfl (hall 6 (by omega))).trans (hk 6 (hall 6 (by omega)))
             have f7:=(hv 7 58 rfl (hall 7 (by omega))).trans (hk 7 (hall 7 (by omega)))
             have f8:=(hv 8 59 rfl (hall 8 (by omega))).trans (hk 8 (hall 8 (by omega)))
             have k9:PsT lo m (Ps.more f (RF (c+1))) wr.heap.size w9 (v 9):=hk 9 (hall 9 (by omega))
             have f9:=hv 9 60 rfl (hall 9 (by omega))
             have f10:=(hv 10 61 rfl (hall 10 (by omega))).trans (hk 10 (hall 10 (by omega)))
             refine Ri.step_plain rfl rfl (fun K' hK'=>?_)
             obtain ⟨g8,e8,hg8,ht8⟩:=k9
             unfold Ps.tabV at e8
             replace f9:=f9.trans e8
             have hrs:=RSC.out.later hb
             obtain ⟨c0,c1,c2,z0,z1,z2⟩:=hrs.here (d:=c) (by omega)
             clear e8
             go_simp
             exact hK' _ _ ⟨_,undef,rfl,rfl,⟨g8,hrs.put (by omega) (by have:=RSC.out.lt;omega) ht8 HRJ.out,(Touch.of_below [gr] hb).setCells (b:=gr) (by simp) (c * 3) [.int .i64 (lo:Int),.int .i64 ((lo:Int)+(m:Int)),.slice (some ⟨g8,0,none⟩) ((m+1) * (m+1)) ((m+1) * (m+1))],hg8⟩⟩
           · intro v w9 hfin
             obtain ⟨g8,hrs8,hto8,hg8⟩:=hfin
             simp only [Ri.frame,List.zipIdx,List.foldl_cons,List.foldl_nil,if_true,List.setIfInBounds_toArray,List.set_cons_zero,List.set_cons_succ,Nat.reduceAdd]
             generalize v 0=z0;generalize v 1=z1;generalize v 2=z2;generalize v 3=z3;generalize v 4=z4;generalize v 5=z5;generalize v 6=z6;generalize v 7=z7;generalize v 8=z8;generalize v 9=z9;generalize v 10=z10
             have RS8:=Lib.hid hrs8
             have A0:=Lib.hid (blk_touch Z0.out hto8 (by have:=HGW.out;omega));have A1:=Lib.hid (blk_touch Z1.out hto8 (by have:=HGW.out;omega));have A2:=Lib.hid (blk_touch Z2.out hto8 (by have:=HGW.out;omega))
             have HT8:=Lib.hid (HT2r.out.touch hto8 HGW.out.2.2)
             have HB8:=Lib.hid (HBE.out.trans (hto8.below (B:=w.heap.size) (by intro i hi;have:=HGW.out;simp at hi;omega) HBE.out.size))
             have wj:IntKind.i64.wrap ((c:Int) - 1)=(c:Int) - 1:=IntWalk.i64_in _ (by omega)
             have HS8:=Lib.hid (show ∀ d,c ≤ d→d < last+1→∃ g,rsUp V9 c g8 d=some g∧w.heap.size ≤ g from fun d h1 h2=>by
               unfold rsUp
               by_cases e:d=c
               · rw [if_pos e];exact ⟨g8,rfl,Nat.le_trans HBE.out.size hg8⟩
               · rw [if_neg e];exact HSO.out d (by omega) h2)
             clear wc1 hlc hl0 hl2 hrs8 hto8 hg8 Z0 Z1 Z2 HT2r HBE RSC HSO T9 HV9 HRJ
             go_wp2
             exact ⟨⟨c,(c:Int) - 1,rsUp V9 c g8,by simp,by omega,Lib.hid rfl,RS8,HS8,A0,A1,A2,HT8,HB8⟩,by simp [intOf]⟩
       | zero =>
         obtain rfl:z = -1:=by have:=HZ.out;omega
         go_wp2
         go_ret
         exact ⟨gr,V9,rfl,HGW.out.1,RSC.out,fun d h=>HSO.out d (Nat.zero_le _) h,HBE.out⟩
end Go.Proofs.YtedjkbmfpjmlpaaDoor
namespace Go.Proofs.YtedjkbmfpjmlpaaDoor
open Go.RowKit
namespace Ps
def none':T:=fun _ _=>0
def alt (f g:T):T:=fun i j=>f i j+g i j
def emptyOf (f:T):T:=fun i j=>if i=j then f i j else 0
def lastN (lo hi:Int):Nat:=if hi = -1 then lo.toNat else hi.toNat
def rep (f:T) (lo hi:Int) (d:Nat):T:=restN f lo.toNat (if hi = -1 then any f else one) (lastN lo hi - d) d
end Ps
namespace Tr
mutual
def wy (x:Sc):Tr→Ps.T
 | .node k a b c d s _ lo hi br =>
   if k=2 then Ps.byteT fun i=>Oc.mem a b c d (cb x.t i)
   else if k=3 then Ps.oneAt fun i=>x.beg i
   else if k=4 then Ps.oneAt fun i=>x.fin i
   else if k=5 then wySeq x s
   else if k=6 then wyAlt x s
   else if k=7 then wyAlt x s
   else if k=8 then (if hi=0 then Ps.one else if lo=0∧br=false then Ps.alt (Ps.rep (wyHead x s) lo hi 0) (Ps.emptyOf (wyHead x s)) else Ps.rep (wyHead x s) lo hi 0)
   else Ps.one
def wySeq (x:Sc):List Tr→Ps.T
 | []=>Ps.one
 | t :: l=>Ps.join (wy x t) (wySeq x l)
def wyAlt (x:Sc):List Tr→Ps.T
 | []=>Ps.none'
 | t :: l=>Ps.alt (wy x t) (wyAlt x l)
def wyHead (x:Sc):List Tr→Ps.T
 | []=>Ps.none'
 | t :: _=>wy x t
end
theorem wy_eq (x:Sc) (t:Tr):wy x t =
   if t.kind=2 then Ps.byteT fun i=>Oc.mem t.w0 t.w1 t.w2 t.w3 (cb x.t i)
   else if t.kind=3 then Ps.oneAt fun i=>x.beg i
   else if t.kind=4 then Ps.oneAt fun i=>x.fin i
   else if t.kind=5 then wySeq x t.subs
   else if t.kind=6 then wyAlt x t.subs
   else if t.kind=7 then wyAlt x t.subs
   else if t.kind=8 then (if t.most=0 then Ps.one else if t.least=0∧t.bare=false then Ps.alt (Ps.rep (wyHead x t.subs) t.least t.most 0) (Ps.emptyOf (wyHead x t.subs)) else Ps.rep (wyHead x t.subs) t.least t.most 0)
   else Ps.one:=by
 cases t;rw [wy];rfl
def tkSubs (t:Tr):List Tr:=if t.kind=8∧t.most=0 then [] else t.subs
def restN (t:Tr):Nat:=if t.kind=5 then t.subs.length+1 else if t.kind=8 then (if t.most=0 then 1 else Ps.lastN t.least t.most+1) else 0
def restT (x:Sc) (t:Tr) (d:Nat):Ps.T:=if t.kind=5 then wySeq x (t.subs.drop d) else if t.most=0 then Ps.one else Ps.rep (wyHead x t.subs) t.least t.most d
def mustI (t:Tr):Int:=if t.kind=5 then t.subs.length else if t.kind=8 then t.least else 0
def aloneB (t:Tr):Bool:=decide (t.kind=8) && !decide (t.most=0) && decide (t.least=0) && !t.bare
end Tr
namespace Ps
theorem alt_none (f:T):alt f none'=f:=by funext i j;simp [alt,none']
theorem alt_assoc (f g h:T):alt (alt f g) h=alt f (alt g h):=by funext i j;simp [alt,Nat.add_assoc]
end Ps
theorem Tr.wyAlt_take (x:Sc):∀ (l:List Tr) (m:Nat) (t:Tr),l[m]? = some t→Tr.wyAlt x (l.take (m+1))=Ps.alt (Tr.wyAlt x (l.take m)) (Tr.wy x t)
 | [],m,t,h=>by simp at h
 | u :: l,0,t,h=>by
   simp at h
   subst h
   funext i j
   simp [Tr.wyAlt,Ps.alt,Ps.none']
 | u :: l,m+1,t,h=>by
   have ih:=Tr.wyAlt_take x l m t (by simpa using h)
   rw [List.take_succ_cons,List.take_succ_cons,Tr.wyAlt,Tr.wyAlt,ih,Ps.alt_assoc]
theorem Tr.wySeq_drop (x:Sc) (l:List Tr) (m:Nat) (t:Tr) (h:l[m]? = some t):Tr.wySeq x (l.drop m)=Ps.join (Tr.wy x t) (Tr.wySeq x (l.drop (m+1))):=by
 obtain ⟨hm,rfl⟩:=List.getElem?_eq_some_iff.1 h
 rw [List.drop_eq_getElem_cons hm,Tr.wySeq]
def RestAt (w:World) (B:Nat→Prop) (rv:Value) (lo m n:Nat) (R:Nat→Ps.T):Prop :=
 (n=0∧rv=.slice none 0 0) ∨ ∃ gr V,rv=.slice (some ⟨gr,0,none⟩) n n∧B gr∧RsAt w gr n lo m V R∧(∀ d,d < n→∃ g,V d=some g∧B g)
def tkC (t:Tr) (lo m gw:Nat) (sv rv:Value):Array Value:=#[.int .i64 t.kind,sv,.int .i64 (lo:Int),.int .i64 ((lo:Int)+(m:Int)),.slice (some ⟨gw,0,none⟩) ((m+1) * (m+1)) ((m+1) * (m+1)),rv,.int .i64 t.mustI,.bool t.aloneB]
inductive TkrAt (x:Sc) (lo m:Nat) (w:World) (B:Nat→Prop):Nat→Tr→Prop
 | mk (b:Nat) (t:Tr) (p:Option Addr) (cap gw:Nat) (rv:Value) (S:Nat→Nat) (hB:B b) (hBw:B gw)
     (hc:w.heap[b]? = some (.cells (tkC t lo m gw (.slice p t.tkSubs.length cap) rv) 130))
     (hw:TabAtP w gw m (Ps.rel lo (t.wy x)))
     (hr:RestAt w B rv lo m t.restN (t.restT x))
     (hp:∀ i u,t.tkSubs[i]? = some u→∃ g o,p=some ⟨g,o,none⟩∧B g∧w.cell? ⟨g,o+i,none⟩=some (.pointer (some ⟨S i,0,none⟩)))
     (hs:∀ i u,t.tkSubs[i]? = some u→TkrAt x lo m w B (S i) u):TkrAt x lo m w B b t
theorem RsAt.keep {w w':World} {gr n lo m:Nat} {V:Nat→Option Nat} {R:Nat→Ps.T} (h:RsAt w gr n lo m V R) (hg:w'.heap[gr]? = w.heap[gr]?) (hk:∀ d g,d < n→V d=some g→w'.heap[g]? = w.heap[g]?):RsAt w' gr n lo m V R :=
 ⟨hg.trans h.1,fun d g hd hV=>⟨(hk d g hd hV).trans (h.2 d g hd hV).1,(h.2 d g hd hV).2⟩⟩
theorem RestAt.keep {w w':World} {B:Nat→Prop} {rv:Value} {lo m n:Nat} {R:Nat→Ps.T} (h:RestAt w B rv lo m n R) (hk:∀ b,b < w.heap.size→B b→w'.heap[b]? = w.heap[b]?):RestAt w' B rv lo m n R:=by
 rcases h with h | ⟨gr,V,e,hB,hr,hV⟩
 · exact .inl h
 · refine .inr ⟨gr,V,e,hB,hr.keep (hk _ hr.lt hB) (fun d g hd hg=>?_),hV⟩
   obtain ⟨g',e',hB'⟩:=hV d hd
   rw [hg] at e'
   injection e' with e'
   subst e'
   exact hk _ (hr.2 d _ hd hg).1.lt hB'
theorem RestAt.wider {w:World} {B B':Nat→Prop} {rv:Value} {lo m n:Nat} {R:Nat→Ps.T} (h:RestAt w B rv lo m n R) (hBB:∀ b,B b→B' b):RestAt w B' rv lo m n R:=by
 rcases h with h | ⟨gr,V,e,hB,hr,hV⟩
 · exact .inl h
 · exact .inr ⟨gr,V,e,hBB _ hB,hr,fun d hd=>(hV d hd).imp fun g hg=>⟨hg.1,hBB _ hg.2⟩⟩
theorem TkrAt.keep {x:Sc} {lo m:Nat} {w w':World} {B:Nat→Prop} {b:Nat} {t:Tr} (h:TkrAt x lo m w B b t) (hk:∀ b,b < w.heap.size→B b→w'.heap[b]? = w.heap[b]?):TkrAt x lo m w' B b t:=by
 induction h with
 | mk b t p cap gw rv S hB hBw hc hw hr hp hs ih =>
   refine .mk b t p cap gw rv S hB hBw ((hk _ (Array.getElem?_eq_some_iff.1 hc).1 hB).trans hc) ((hk _ hw.lt hBw).trans hw) (hr.keep hk) (fun i u hu=>?_) ih
   obtain ⟨g,o,e,hg,hcell⟩:=hp i u hu
   refine ⟨g,o,e,hg, ?_⟩
   rw [← hcell]
   unfold World.cell?
   rw [hk g (block_lt_of_cell hcell) hg]
theorem TkrAt.wider {x:Sc} {lo m:Nat} {w:World} {B B':Nat→Prop} {b:Nat} {t:Tr} (h:TkrAt x lo m w B b t) (hBB:∀ b,B b→B' b):TkrAt x lo m w B' b t:=by
 induction h with
 | mk b t p cap gw rv S hB hBw hc hw hr hp hs ih =>
   exact .mk b t p cap gw rv S (hBB _ hB) (hBB _ hBw) hc hw (hr.wider hBB) (fun i u hu=>(hp i u hu).imp fun g hg=>hg.imp fun o ho=>⟨ho.1,hBB _ ho.2.1,ho.2.2⟩) ih
theorem TkrAt.later {x:Sc} {lo m:Nat} {w w':World} {B:Nat→Prop} {b:Nat} {t:Tr} (h:TkrAt x lo m w B b t) (hb:Below w.heap.size w w'):TkrAt x lo m w' B b t:=h.keep fun k hk _=>hb.block k hk
theorem TkrAt.here {x:Sc} {lo m:Nat} {w:World} {B:Nat→Prop} {b:Nat} {t:Tr} (h:TkrAt x lo m w B b t):∃ (p:Option Addr) (cap gw:Nat) (rv:Value) (S:Nat→Nat),B b∧B gw∧w.heap[b]? = some (.cells (tkC t lo m gw (.slice p t.tkSubs.length cap) rv) 130)∧TabAtP w gw m (Ps.rel lo (t.wy x))∧RestAt w B rv lo m t.restN (t.restT x)∧(∀ i u,t.tkSubs[i]? = some u→∃ g o,p=some ⟨g,o,none⟩∧B g∧w.cell? ⟨g,o+i,none⟩=some (.pointer (some ⟨S i,0,none⟩)))∧∀ i u,t.tkSubs[i]? = some u→TkrAt x lo m w B (S i) u:=by
 cases h with
 | mk _ _ p cap gw rv S hB hBw hc hw hr hp hs=>exact ⟨p,cap,gw,rv,S,hB,hBw,hc,hw,hr,hp,hs⟩
def TkrsAt (x:Sc) (lo m:Nat) (w:World) (B:Nat→Prop) (v:Value) (ts:List Tr):Prop:=∃ (p:Option Addr) (cap:Nat) (S:Nat→Nat),v=.slice p ts.length cap∧(∀ i u,ts[i]? = some u→∃ g o,p=some ⟨g,o,none⟩∧B g∧w.cell? ⟨g,o+i,none⟩=some (.pointer (some ⟨S i,0,none⟩)))∧∀ i u,ts[i]? = some u→TkrAt x lo m w B (S i) u
theorem TkrsAt.keep {x:Sc} {lo m:Nat} {w w':World} {B:Nat→Prop} {v:Value} {ts:List Tr} (h:TkrsAt x lo m w B v ts) (hk:∀ b,b < w.heap.size→B b→w'.heap[b]? = w.heap[b]?):TkrsAt x lo m w' B v ts:=by
 obtain ⟨p,cap,S,e,hp,hs⟩:=h
 refine ⟨p,cap,S,e,fun i u hu=>?_,fun i u hu=>(hs i u hu).keep hk⟩
 obtain ⟨g,o,e,hg,hcell⟩:=hp i u hu
 refine ⟨g,o,e,hg, ?_⟩
 rw [← hcell]
 unfold World.cell?
 rw [hk g (block_lt_of_cell hcell) hg]
def TkEnd (x:Sc) (lo m:Nat) (t:Tr) (w:World) (e:Ending) (w':World):Prop:=∃ b,e=.returned (.pointer (some ⟨b,0,none⟩))∧TkrAt x lo m w' (fun k=>w.heap.size ≤ k) b t∧Below w.heap.size w w'
def TkDoes (x:Sc) (bx lo m:Nat) (t:Tr):Prop:=∀ (w:World) (B:Nat→Prop) (v:Value),ScAt w bx x→NodeV w B v t→Calls Tryd.prog 118 #[.agg #[.pointer (some ⟨bx,0,none⟩),.int .i64 (lo:Int),.int .i64 ((lo:Int)+(m:Int))],v] w (TkEnd x lo m t w)
def TksEnd (x:Sc) (lo m:Nat) (ts:List Tr) (w:World) (e:Ending) (w':World):Prop:=∃ v,e=.returned v∧TkrsAt x lo m w' (fun k=>w.heap.size ≤ k) v ts∧Below w.heap.size w w'
end Go.Proofs.YtedjkbmfpjmlpaaDoor
namespace Go.Proofs.YtedjkbmfpjmlpaaDoor
open Go.RowKit
theorem Tryd.infoTkP:(Tryd.prog.info? 121).map (fun i=>(i.zero,i.size,i.bytes))=some (some (.pointer none),1,8):=by kernel_rfl
def tkPs (L:List Nat):List Value:=L.map fun b=>.pointer (some ⟨b,0,none⟩)
theorem tkPs_get {L:List Nat} {j b:Nat} (h:L[j]? = some b):(tkPs L)[j]? = some (.pointer (some ⟨b,0,none⟩)):=by simp [tkPs,h]
theorem TkrAt.within {x:Sc} {lo m:Nat} {w:World} {B:Nat→Prop} {b:Nat} {t:Tr} (h:TkrAt x lo m w B b t):TkrAt x lo m w (fun k=>B k∧k < w.heap.size) b t:=by
 induction h with
 | mk b t p cap gw rv S hB hBw hc hw hr hp hs ih =>
   refine .mk b t p cap gw rv S ⟨hB,(Array.getElem?_eq_some_iff.1 hc).1⟩ ⟨hBw,hw.lt⟩ hc hw ?_ (fun i u hu=>?_) ih
   · rcases hr with h | ⟨gr,V,e,hB,hr,hV⟩
     · exact .inl h
     · refine .inr ⟨gr,V,e,⟨hB,hr.lt⟩,hr,fun d hd=>?_⟩
       obtain ⟨g,hg,hBg⟩:=hV d hd
       exact ⟨g,hg,hBg,(hr.2 d g hd hg).1.lt⟩
   · obtain ⟨g,o,e,hg,hcell⟩:=hp i u hu
     exact ⟨g,o,e,⟨hg,block_lt_of_cell hcell⟩,hcell⟩
theorem ownsRow_later {w w':World} {base size n:Nat} {e:TypeId} {v:Value} {xs:List Value} (h:w.ownsRow base e size v n xs) (hb:Below w.heap.size w w'):w'.ownsRow base e size v n xs :=
 ⟨h.1,h.2.imp id fun ⟨g,cap,cur,e1,h1,h2,h3⟩=>⟨g,cap,cur,e1,h1,keep_blk hb h2,h3⟩⟩
theorem pstakers_any (x:Sc) (bx lo m:Nat) (ts:List Tr) (hlen:ts.length ≤ 100000) (hIH:∀ u,u ∈ ts→TkDoes x bx lo m u) (w:World) (B:Nat→Prop) (v:Value) (hx:ScAt w bx x) (hs:TreesAt w B v ts) :
   Calls Tryd.prog 165 #[.agg #[.pointer (some ⟨bx,0,none⟩),.int .i64 (lo:Int),.int .i64 ((lo:Int)+(m:Int))],v] w (TksEnd x lo m ts w):=by
 obtain ⟨p,cap,rfl,hl96⟩:=hs.slice
 have HS:=Lib.hid hs;have HX:=Lib.hid hx;have IH:=Lib.hid hIH;have HLEN:=Lib.hid hlen
 clear hs hx hIH hlen
 have YB:=Lib.hid (heap_alloc_new w (.cells #[.pointer (some ⟨bx,0,none⟩),.int .i64 (lo:Int),.int .i64 ((lo:Int)+(m:Int))] 166))
 have HBW:=Lib.hid (show Below w.heap.size w (w.alloc (.cells #[.pointer (some ⟨bx,0,none⟩),.int .i64 (lo:Int),.int .i64 ((lo:Int)+(m:Int))] 166)) from (Below.refl _ _).alloc (Nat.le_refl _) _)
 go_enter Tryd.func165,Tryd.ntmps165
 go_wp2
 generalize hW0:World.alloc w _=W0 at *
 have Y0:=YB;have HB0:=HBW
 clear hW0 YB HBW
 go_loopw [5,10] (fun lv iv wr=>∃ (i:Nat) (L:List Nat),iv=.int .i64 (i:Int)∧i ≤ ts.length∧L.length=i∧Hid (World.ownsRow wr (w.heap.size+1) 121 1 lv i (tkPs L))∧Hid (∀ j u,j < i→ts[j]? = some u→∃ b,L[j]? = some b∧TkrAt x lo m wr (fun k=>w.heap.size ≤ k∧lv.ownBlock ≠ some k) b u)∧Hid (Below w.heap.size w wr)∧Hid (wr.heap[w.heap.size]? = some (.cells #[.pointer (some ⟨bx,0,none⟩),.int .i64 (lo:Int),.int .i64 ((lo:Int)+(m:Int))] 166))) (fun _ iv _=>ts.length - (intOf iv).toNat)
 case atStart=>exact ⟨0,[],rfl,Nat.zero_le _,rfl,Lib.hid ⟨rfl,.inl ⟨rfl,rfl⟩⟩,Lib.hid (fun j u h=>by omega),HB0,Y0⟩
 case round =>
   obtain ⟨i,L,rfl,hi0,hL,HR,HT,HB,Y⟩:=hrel
   clear HB0 Y0
   have wi:IntKind.i64.wrap ((i:Int)+1)=(i:Int)+1:=IntWalk.i64_in _ (by have:=HLEN.out;omega)
   obtain ⟨g0,g1,g2⟩:=three_cellsT Y.out
   by_cases hlt:i < ts.length
   · have hltd:decide ((i:Int) < (ts.length:Int))=true:=decide_eq_true (by omega)
     obtain ⟨y,hy⟩:∃ y,ts[i]? = some y:=⟨_,List.getElem?_eq_getElem hlt⟩
     obtain ⟨b1,o1,s1,rfl,-,t1,sub1⟩:=HS.out.get hy
     obtain ⟨d0,d1,d2,d3,d4,d5,d6,d7,d8,d9⟩:=t1.keep (HB.out.block _ t1.lt)
     obtain ⟨p1,c1,rfl,-⟩:=sub1.slice
     have HC:=Lib.hid (fun w9 (hb:Below wr.heap.size wr w9)=>IH.out y (List.mem_of_getElem? hy) w9 B (.agg (y.cells (.slice p1 y.subs.length c1))) (keep_blk hb (keep_blk HB.out HX.out)) ⟨_,rfl,(sub1.later HB.out).later hb⟩)
     unfold Tr.cells at HC
     have HY:=Lib.hid hy
     clear t1 sub1 hy
     clear g0 g1 g2
     go_wp2_with (first
       | (refine wpList_load_row rfl 166 (.tmp 2) rfl (w.heap.size) rfl 166 _ (0,0) _ (heap_alloc_lt Y.out) Tryd.underlying166 rfl (by kernel_rfl) ?_)
       | fail)
     have hba:=(Below.refl wr.heap.size wr).alloc (Nat.le_refl _) (.cells #[.int .i64 y.kind,.int .u64 (Oc.U y.w0),.int .u64 (Oc.U y.w1),.int .u64 (Oc.U y.w2),.int .u64 (Oc.U y.w3),.slice p1 y.subs.length c1,.int .i64 y.num,.int .i64 y.least,.int .i64 y.most,.bool y.bare] 37)
     refine (HC.out _ hba).mono ?_
     rintro e w2 ⟨b2,rfl,ht2,hb2⟩
     have hb3:Below wr.heap.size wr w2:=hba.trans (hb2.mono hba.size)
     have hb4:=hb3.alloc hb3.size (.cells #[.pointer (some ⟨b2,0,none⟩)] 121)
     have HT2:=Lib.hid (ht2.within)
     have HBA:=Lib.hid hba.size;have HB2:=Lib.hid hb2;have HB3:=Lib.hid hb3;have HB4:=Lib.hid hb4
     have HRL:=Lib.hid (ownsRow_later HR.out hb4)
     clear ht2 hba hb2 hb3 hb4 d0 d1 d2 d3 d4 d5 d6 d7 d8 d9 HC
     obtain ⟨ie,hi,hz0,hz1,hz2⟩:=info_parts Tryd.infoTkP
     go_wp2_with (first
       | (at_builtin;refine wpList_append_fresh (P:=Tryd.prog) _ rfl (.tmp 14) (.tmp 18) 124 rfl (w.heap.size+1) 121 ie _ 1 8 Tryd.underlying124 hi hz0 hz1 hz2 rfl (by decide) u5 i _ rfl HRL.out ⟨w2.heap.size,0,none⟩ 1 1 [.pointer (some ⟨b2,0,none⟩)] rfl rfl ?_ ?_ (by omega) ?_ ?_ ?_ ?_)
       | fail)
     · intro j u hj
       rcases j with _ | j
       · simp only [List.getElem?_cons_zero,Option.some.injEq] at hj
         subst hj
         have:=heap_alloc_new w2 (.cells #[.pointer (some ⟨b2,0,none⟩)] 121)
         have hadd:(⟨w2.heap.size,0,none⟩:Addr).add 0=⟨w2.heap.size,0,none⟩:=by unfold Addr.add;split <;> simp_all
         rw [hadd]
         unfold World.cell?
         rw [this]
         rfl
       · simp at hj
     · intro u hu
       simp only [List.mem_singleton] at hu
       subst hu
       rfl
     · unfold maxLen;have:=HLEN.out;omega
     · have:=HLEN.out;omega
     · have:=HB.out.size;have:=HB4.out.size;have:=(Array.getElem?_eq_some_iff.1 Y.out).1;omega
     · intro v4 w4 hown hgr hfr
       have hsz4:wr.heap.size ≤ w2.heap.size:=HB3.out.size
       have hlt0:=World.ownsRow.lt HR.out
       have HB5:Below w.heap.size w w4:=by
         have h1:Below (w.heap.size+1) wr w4:=(HB4.out.mono (by have:=(Array.getElem?_eq_some_iff.1 Y.out).1;omega)).grown hgr (by have:=HB4.out.size;have:=(Array.getElem?_eq_some_iff.1 Y.out).1;omega) (fun k hk=>(hlt0 k hk).1)
         exact HB.out.trans (h1.mono (by omega))
       have Y5:w4.heap[w.heap.size]? = _:=(hgr.block _ (by simp;have:=(Array.getElem?_eq_some_iff.1 Y.out).1;omega) (fun e=>by have:=(hlt0 _ e.symm).1;omega)).trans (keep_blk HB4.out Y.out)
       have hkeep:∀ (Bq:Nat→Prop) b t,TkrAt x lo m w2 Bq b t→(∀ k,Bq k→u5.ownBlock ≠ some k∧w.heap.size ≤ k)→TkrAt x lo m w4 (fun k=>w.heap.size ≤ k∧v4.ownBlock ≠ some k) b t:=by
         intro Bq b t h hq
         refine ((h.within.keep (w':=w4) fun k hk hBk=>?_).wider fun k hk=>?_)
         · refine (hgr.block k (by simp;omega) (fun e=>(hq k hBk.1).1 e.symm)).trans ?_
           exact ((Below.refl w2.heap.size w2).alloc (Nat.le_refl _) (.cells #[.pointer (some ⟨b2,0,none⟩)] 121)).block k hk
         · refine ⟨(hq k hk.1).2, ?_⟩
           rcases hfr with e | e
           · rw [e];exact (hq k hk.1).1
           · rw [e];intro h2;injection h2 with h2;have:=hk.2;first | omega | (simp at h2;omega)
       have HT5:∀ j u,j < i+1→ts[j]? = some u→∃ b,(L ++ [b2])[j]? = some b∧TkrAt x lo m w4 (fun k=>w.heap.size ≤ k∧v4.ownBlock ≠ some k) b u:=by
         intro j u hj hu
         by_cases e:j=i
         · subst e
           rw [HY.out] at hu
           injection hu with hu
           subst hu
           refine ⟨b2,by rw [List.getElem?_append_right (by omega),hL,Nat.sub_self];rfl,hkeep _ _ _ HT2.out fun k hk=>⟨fun e2=>?_, ?_⟩⟩
           · have h1:=(hlt0 k e2).2;have h2:=hk.1;have:=HBA.out;omega
           · have h2:=hk.1;have:=HBA.out;have:=HB.out.size;omega
         · obtain ⟨b,hb,ht⟩:=HT.out j u (by omega) hu
           exact ⟨b,by rw [List.getElem?_append_left (by omega)];exact hb,hkeep _ _ _ (ht.later HB3.out) fun k hk=>⟨hk.2,hk.1⟩⟩
       have HO5:World.ownsRow w4 (w.heap.size+1) 121 1 v4 (i+1) (tkPs (L ++ [b2])):=by
         have e:tkPs (L ++ [b2])=tkPs L ++ [.pointer (some ⟨b2,0,none⟩)]:=by simp [tkPs]
         rw [e];exact hown
       have HL5:(L ++ [b2]).length=i+1:=by simp [hL]
       have HH1:=Lib.hid HB5;have HH2:=Lib.hid Y5;have HH3:=Lib.hid HT5;have HH4:=Lib.hid HO5
       clear HB5 Y5 HT5 HO5 hown hgr hfr hkeep hlt0 hsz4 HB2 HB3 HB4 HBA HT2 HRL HR HT HB Y
       go_wp2
       exact ⟨⟨i+1,L ++ [b2],by go_num,by omega,HL5,HH4,HH3,HH1,HH2⟩,by simp [intOf];omega⟩
   · obtain rfl:i=ts.length:=by omega
     have hltd:decide ((ts.length:Int) < (ts.length:Int))=false:=decide_eq_false (by omega)
     go_wp2
     go_ret
     refine ⟨u5,rfl, ?_,HB.out⟩
     have hpt:∃ (p:Option Addr) (cap:Nat),u5=.slice p ts.length cap∧∀ i u,ts[i]? = some u→∃ g o,p=some ⟨g,o,none⟩∧w.heap.size ≤ g∧wr.cell? ⟨g,o+i,none⟩=some (.pointer (some ⟨L.getD i 0,0,none⟩)):=by
       have hc:=fun g hv=>World.ownsRow.cells HR.out (g:=g) hv
       rcases HR.out.2 with ⟨rfl,hn0⟩ | ⟨g,cap,cur,rfl,hbg,hheap,-⟩
       · exact ⟨none,0,by rw [hn0],fun i u hu=>by have:=(List.getElem?_eq_some_iff.1 hu).1;omega⟩
       · refine ⟨some ⟨g,0,none⟩,cap,rfl,fun i u hu=>⟨g,0,rfl,by omega, ?_⟩⟩
         obtain ⟨b,hb,-⟩:=HT.out i u (List.getElem?_eq_some_iff.1 hu).1 hu
         have h1:=hc g rfl i _ (tkPs_get hb)
         rw [List.getD_eq_getElem?_getD,hb]
         have hadd:(⟨g,0,none⟩:Addr).add i=⟨g,0+i,none⟩:=by unfold Addr.add;split <;> simp_all
         rw [hadd] at h1
         exact h1
     obtain ⟨p9,c9,e9,h9⟩:=hpt
     refine ⟨p9,c9,fun i=>L.getD i 0,e9,h9,fun i u hu=>?_⟩
     obtain ⟨b,hb,ht⟩:=HT.out i u (List.getElem?_eq_some_iff.1 hu).1 hu
     show TkrAt _ _ _ _ _ (L.getD i 0) u
     rw [List.getD_eq_getElem?_getD,hb]
     exact ht.wider fun k hk=>hk.1
end Go.Proofs.YtedjkbmfpjmlpaaDoor
namespace Go.Proofs.YtedjkbmfpjmlpaaDoor
open Go.RowKit
theorem TkrAt.leaf {x:Sc} {lo m:Nat} {w:World} {B:Nat→Prop} {b g:Nat} {t:Tr} (hk:t.kind ≠ 5∧t.kind ≠ 8) (hs:t.subs=[]) (hB:B b) (hBg:B g)
   (hc:w.heap[b]? = some (.cells #[.int .i64 t.kind,.slice none 0 0,.int .i64 (lo:Int),.int .i64 ((lo:Int)+(m:Int)),.slice (some ⟨g,0,none⟩) ((m+1) * (m+1)) ((m+1) * (m+1)),.slice none 0 0,.int .i64 0,.bool false] 130)) (hw:TabAtP w g m (Ps.rel lo (t.wy x))):TkrAt x lo m w B b t:=by
 have h1:t.tkSubs=[]:=by unfold Tr.tkSubs;rw [hs];split <;> rfl
 have h2:t.restN=0:=by unfold Tr.restN;rw [if_neg hk.1,if_neg hk.2]
 have h3:t.mustI=0:=by unfold Tr.mustI;rw [if_neg hk.1,if_neg hk.2]
 have h4:t.aloneB=false:=by unfold Tr.aloneB;rw [decide_eq_false hk.2];rfl
 refine .mk b t none 0 g (.slice none 0 0) (fun _=>0) hB hBg ?_ hw (.inl ⟨h2,rfl⟩) (fun i u hu=>by rw [h1] at hu;simp at hu) (fun i u hu=>by rw [h1] at hu;simp at hu)
 rw [hc]
 unfold tkC
 rw [h1,h3,h4]
 rfl
def TkL (x:Sc) (lo m:Nat) (t:Tr) (b0:Nat) (w:World) (v:Value):Prop:=∃ g,v=.agg #[.int .i64 t.kind,.slice none 0 0,.int .i64 (lo:Int),.int .i64 ((lo:Int)+(m:Int)),.slice (some ⟨g,0,none⟩) ((m+1) * (m+1)) ((m+1) * (m+1)),.slice none 0 0,.int .i64 0,.bool false]∧b0 ≤ g∧TabAtP w g m (Ps.rel lo (t.wy x))
theorem TkL.below {x:Sc} {lo m b0:Nat} {t:Tr} {w w':World} {v:Value} (h:TkL x lo m t b0 w v) (hb:Below w.heap.size w w'):TkL x lo m t b0 w' v:=by
 obtain ⟨g,e,hg,ht⟩:=h;exact ⟨g,e,hg,ht.later hb⟩
def TkN (x:Sc) (lo m:Nat) (t:Tr) (b0:Nat) (w:World) (v:Value):Prop:=∃ b,v=.pointer (some ⟨b,0,none⟩)∧TkrAt x lo m w (fun k=>b0 ≤ k) b t
theorem TkN.below {x:Sc} {lo m b0:Nat} {t:Tr} {w w':World} {v:Value} (h:TkN x lo m t b0 w v) (hb:Below w.heap.size w w'):TkN x lo m t b0 w' v:=by
 obtain ⟨b,e,ht⟩:=h;exact ⟨b,e,ht.later hb⟩
theorem pstaker_k2 (x:Sc) (bx lo m:Nat) (hlo:lo+m ≤ 1000) (hn:lo+m ≤ x.t.size) (_hbig:x.t.size ≤ 4611686018427387904) (t:Tr) (hs:t.subs=[]) (hk:t.kind=2):TkDoes x bx lo m t:=by
 intro w Bb v hx hv
 obtain ⟨sv,rfl,hsv⟩:=hv
 obtain ⟨p,cap,rfl,-⟩:=hsv.slice
 clear hsv
 have HX:=Lib.hid hx
 have HWY:=Lib.hid (show (Ps.byteT fun i=>Oc.mem t.w0 t.w1 t.w2 t.w3 (cb x.t i))=t.wy x from by simp [Tr.wy_eq,hk])
 have HK:=Lib.hid (show t.kind ≠ 5∧t.kind ≠ 8 from by rw [hk];decide)
 have HSB:=Lib.hid hs
 have e2:(t.kind == 2)=true:=(by simp [hk]);have e3:(t.kind == 3)=false:=(by simp [hk]);have e4:(t.kind == 4)=false:=(by simp [hk]);have e5:(t.kind == 5)=false:=(by simp [hk]);have e6:(t.kind == 6)=false:=(by simp [hk]);have e7:(t.kind == 7)=false:=(by simp [hk]);have e8:(t.kind == 8)=false:=(by simp [hk])
 clear hx hk hs
 unfold Tr.cells
 have WNx:=Lib.hid (news2 w (.cells #[.pointer (some ⟨bx,0,none⟩),.int .i64 (lo:Int),.int .i64 ((lo:Int)+(m:Int))] 166) (.cells #[.int .i64 t.kind,.int .u64 (Oc.U t.w0),.int .u64 (Oc.U t.w1),.int .u64 (Oc.U t.w2),.int .u64 (Oc.U t.w3),.slice p t.subs.length cap,.int .i64 t.num,.int .i64 t.least,.int .i64 t.most,.bool t.bare] 37))
 have HB:=Lib.hid (show Below w.heap.size w ((w.alloc (.cells #[.pointer (some ⟨bx,0,none⟩),.int .i64 (lo:Int),.int .i64 ((lo:Int)+(m:Int))] 166)).alloc (.cells #[.int .i64 t.kind,.int .u64 (Oc.U t.w0),.int .u64 (Oc.U t.w1),.int .u64 (Oc.U t.w2),.int .u64 (Oc.U t.w3),.slice p t.subs.length cap,.int .i64 t.num,.int .i64 t.least,.int .i64 t.most,.bool t.bare] 37)) from by go_grown)
 go_enter Tryd.func118,Tryd.ntmps118
 go_upto_region 1 with (fail)
 generalize (w.alloc (.cells #[.pointer (some ⟨bx,0,none⟩),.int .i64 (lo:Int),.int .i64 ((lo:Int)+(m:Int))] 166)).alloc (.cells #[.int .i64 t.kind,.int .u64 (Oc.U t.w0),.int .u64 (Oc.U t.w1),.int .u64 (Oc.U t.w2),.int .u64 (Oc.U t.w3),.slice p t.subs.length cap,.int .i64 t.num,.int .i64 t.least,.int .i64 t.most,.bool t.bare] 37)=W0 at *
 have Y0:=Lib.hid WNx.out.1;have Y1:=Lib.hid WNx.out.2
 clear WNx
 obtain ⟨n0,n1,n2,n3,n4,n5,n6,n7,n8,n9⟩:=allTen Y1.out
 go_upto_region 3 with (fail)
 clear n0 n1 n2 n3 n4 n5 n6 n7 n8 n9
 go_wp2_with fail
 refine Ri.wp_region_facts (by kernel_rfl) (by kernel_rfl) (by kernel_rfl) (by kernel_rfl) 9 (by kernel_rfl) (fun kk ww vv=>match kk with | 0=>vv=.pointer (some ⟨w.heap.size+1,0,none⟩) | 1=>vv=.int .i64 t.kind | 2=>vv=.agg #[.pointer (some ⟨bx,0,none⟩),.int .i64 (lo:Int),.int .i64 ((lo:Int)+(m:Int))] | 3=>vv=.pointer (some ⟨w.heap.size+1,1,none⟩) | 4=>vv=.agg #[.int .u64 (Oc.U t.w0),.int .u64 (Oc.U t.w1),.int .u64 (Oc.U t.w2),.int .u64 (Oc.U t.w3)] | 5=>PsT lo m (t.wy x) W0.heap.size ww vv | 6=>TkL x lo m t W0.heap.size ww vv | 7=>TkN x lo m t W0.heap.size ww vv | 8=>TkN x lo m t W0.heap.size ww vv | _=>True) (fun kk ww vv w8 h hb=>by
       match kk,h with
       | 0,h=>exact h
       | 1,h=>exact h
       | 2,h=>exact h
       | 3,h=>exact h
       | 4,h=>exact h
       | 5,h=>exact h.below hb
       | 6,h=>exact h.below hb
       | 7,h=>exact h.below hb
       | 8,h=>exact h.below hb
       | _+9,_=>trivial) ?_ ?_
 · intro i hi9 L v w9 xa hF9 hL hd hv ho
   obtain ⟨hb,hk⟩:=hF9
   have hi':i=0 ∨ i=1 ∨ i=2 ∨ i=3 ∨ i=4 ∨ i=5 ∨ i=6 ∨ i=7 ∨ i=8:=by omega
   rcases hi' with rfl | rfl | rfl | rfl | rfl | rfl | rfl | rfl | rfl
   · have e3:xa.tmps.getD 3 undef=.pointer (some ⟨w.heap.size+1,0,none⟩):=ho 3 (by kernel_rfl)
     refine Ri.step_plain rfl rfl (fun K' hK'=>?_)
     go_simp
     exact hK' _ _ ⟨_,_,rfl,rfl,(Below.refl _ _),rfl⟩
   · have j0:L 0=true:=by have:=hd _ rfl;simp [Region.binds] at this;simp [this]
     have f0:=(hv 0 9 rfl j0).trans (hk 0 j0)
     refine Ri.step_plain rfl rfl (fun K' hK'=>?_)
     obtain ⟨n0,n1,n2,n3,n4,n5,n6,n7,n8,n9⟩:=allTen (keep_blk hb Y1.out)
     go_simp
     exact hK' _ _ ⟨_,_,rfl,rfl,(Below.refl _ _),rfl⟩
   · have e2:xa.tmps.getD 2 undef=.pointer (some ⟨w.heap.size,0,none⟩):=ho 2 (by kernel_rfl)
     refine Ri.step_plain rfl rfl (fun K' hK'=>?_)
     refine wp_load_row _ _ rfl _ e2 _ _ _ _ (keep_blk hb Y0.out) Tryd.underlying166 rfl (by kernel_rfl) ?_
     exact hK' _ _ ⟨_,_,rfl,rfl,Below.refl _ _,rfl⟩
   · have e3:xa.tmps.getD 3 undef=.pointer (some ⟨w.heap.size+1,0,none⟩):=ho 3 (by kernel_rfl)
     refine Ri.step_plain rfl rfl (fun K' hK'=>?_)
     go_simp
     exact hK' _ _ ⟨_,_,rfl,rfl,(Below.refl _ _),rfl⟩
   · have j3:L 3=true:=by have:=hd _ rfl;simp [Region.binds] at this;simp [this]
     have f3:=(hv 3 12 rfl j3).trans (hk 3 j3)
     refine Ri.step_plain rfl rfl (fun K' hK'=>?_)
     obtain ⟨n0,n1,n2,n3,n4,n5,n6,n7,n8,n9⟩:=allTen (keep_blk hb Y1.out)
     go_simp
     exact hK' _ _ ⟨_,_,rfl,rfl,(Below.refl _ _),rfl⟩
   · obtain ⟨j2,j4⟩:L 2=true∧L 4=true:=by have:=hd _ rfl;simp [Region.binds] at this;simp [this]
     have f2:=(hv 2 11 rfl j2).trans (hk 2 j2)
     have f4:=(hv 4 13 rfl j4).trans (hk 4 j4)
     refine Ri.step_plain rfl rfl (fun K' hK'=>?_)
     go_simp
     refine (pssingle_any x bx t.w0 t.w1 t.w2 t.w3 lo m hlo hn w9 (keep_blk hb (keep_blk HB.out HX.out))).mono ?_
     rintro e w8 ⟨g8,rfl,hg8,ht8,hb8⟩
     exact hK' _ _ ⟨_,_,rfl,rfl,hb8,⟨g8,rfl,Nat.le_trans hb.size hg8,HWY.out ▸ ht8⟩⟩
   · obtain ⟨j1,j5⟩:L 1=true∧L 5=true:=by have:=hd _ rfl;simp [Region.binds] at this;simp [this]
     have f1:=(hv 1 10 rfl j1).trans (hk 1 j1)
     have k5:PsT lo m (t.wy x) W0.heap.size w9 (v 5):=hk 5 j5
     have f5:=hv 5 14 rfl j5
     refine Ri.step_plain rfl rfl (fun K' hK'=>?_)
     obtain ⟨g8,e8,hg8,ht8⟩:=k5
     unfold Ps.tabV at e8
     replace f8:=f5.trans e8
     clear f5 e8
     have f9:=f1
     rw [Array.getD_eq_getD_getElem?] at f8 f9
     go_simp
     exact hK' _ _ ⟨_,_,rfl,rfl,(Below.refl _ _),⟨g8,rfl,hg8,ht8⟩⟩
   · have j6:L 6=true:=by have:=hd _ rfl;simp [Region.binds] at this;simp [this]
     have k6:TkL x lo m t W0.heap.size w9 (v 6):=hk 6 j6
     have f6:=hv 6 15 rfl j6
     refine Ri.step_plain rfl rfl (fun K' hK'=>?_)
     obtain ⟨g8,e8,hg8,ht8⟩:=k6
     have f8:=f6.trans e8
     clear f6 e8
     go_simp
     have hba:=(Below.refl w9.heap.size w9).alloc (Nat.le_refl _) (.cells #[.int .i64 t.kind,.slice none 0 0,.int .i64 (lo:Int),.int .i64 ((lo:Int)+(m:Int)),.slice (some ⟨g8,0,none⟩) ((m+1) * (m+1)) ((m+1) * (m+1)),.slice none 0 0,.int .i64 0,.bool false] 130)
     exact hK' _ _ ⟨_,_,rfl,rfl,hba,⟨w9.heap.size,rfl,TkrAt.leaf HK.out HSB.out hb.size hg8 (heap_alloc_new _ _) (ht8.later hba)⟩⟩
   · have j7:L 7=true:=by have:=hd _ rfl;simp [Region.binds] at this;simp [this]
     have k7:TkN x lo m t W0.heap.size w9 (v 7):=hk 7 j7
     have f7:=hv 7 16 rfl j7
     refine Ri.step_plain rfl rfl (fun K' hK'=>?_)
     go_simp
     exact hK' _ _ ⟨_,_,rfl,rfl,(Below.refl _ _),k7⟩
 · intro v w9 hb hk
   have k0:v 0=.pointer (some ⟨w.heap.size+1,0,none⟩):=hk 0 (by omega)
   have k1:v 1=.int .i64 t.kind:=hk 1 (by omega)
   have k2:v 2=.agg #[.pointer (some ⟨bx,0,none⟩),.int .i64 (lo:Int),.int .i64 ((lo:Int)+(m:Int))]:=hk 2 (by omega)
   have k3:v 3=.pointer (some ⟨w.heap.size+1,1,none⟩):=hk 3 (by omega)
   have k4:v 4=.agg #[.int .u64 (Oc.U t.w0),.int .u64 (Oc.U t.w1),.int .u64 (Oc.U t.w2),.int .u64 (Oc.U t.w3)]:=hk 4 (by omega)
   have k5:PsT lo m (t.wy x) W0.heap.size w9 (v 5):=hk 5 (by omega)
   have k6:TkL x lo m t W0.heap.size w9 (v 6):=hk 6 (by omega)
   have k7:TkN x lo m t W0.heap.size w9 (v 7):=hk 7 (by omega)
   have k8:TkN x lo m t W0.heap.size w9 (v 8):=hk 8 (by omega)
   obtain ⟨bt,e4,htk⟩:=k8
   simp only [Ri.frame,List.zipIdx,List.foldl_cons,List.foldl_nil,if_true,List.setIfInBounds_toArray,List.set_cons_zero,List.set_cons_succ,Nat.reduceAdd,e4]
   generalize v 0=z0;generalize v 1=z1;generalize v 2=z2;generalize v 3=z3;generalize v 4=z4;generalize v 5=z5;generalize v 6=z6;generalize v 7=z7
   have HTK:=Lib.hid htk;have HBE:=Lib.hid (HB.out.trans (hb.mono HB.out.size));have HSZ:=Lib.hid HB.out.size
   clear htk e4 HB
   go_wp2
   go_ret
   exact ⟨bt,rfl,HTK.out.wider fun k hk=>Nat.le_trans HSZ.out hk,HBE.out⟩
theorem pstaker_k3 (x:Sc) (bx lo m:Nat) (hlo:lo+m ≤ 1000) (_hn:lo+m ≤ x.t.size) (hbig:x.t.size ≤ 4611686018427387904) (t:Tr) (hs:t.subs=[]) (hk:t.kind=3):TkDoes x bx lo m t:=by
 intro w Bb v hx hv
 obtain ⟨sv,rfl,hsv⟩:=hv
 obtain ⟨p,cap,rfl,-⟩:=hsv.slice
 clear hsv
 have HX:=Lib.hid hx
 have HWY:=Lib.hid (show (Ps.oneAt fun i=>x.beg i)=t.wy x from by simp [Tr.wy_eq,hk])
 have HK:=Lib.hid (show t.kind ≠ 5∧t.kind ≠ 8 from by rw [hk];decide)
 have HSB:=Lib.hid hs
 have e2:(t.kind == 2)=false:=(by simp [hk]);have e3:(t.kind == 3)=true:=(by simp [hk]);have e4:(t.kind == 4)=false:=(by simp [hk]);have e5:(t.kind == 5)=false:=(by simp [hk]);have e6:(t.kind == 6)=false:=(by simp [hk]);have e7:(t.kind == 7)=false:=(by simp [hk]);have e8:(t.kind == 8)=false:=(by simp [hk])
 clear hx hk hs
 unfold Tr.cells
 have WNx:=Lib.hid (news2 w (.cells #[.pointer (some ⟨bx,0,none⟩),.int .i64 (lo:Int),.int .i64 ((lo:Int)+(m:Int))] 166) (.cells #[.int .i64 t.kind,.int .u64 (Oc.U t.w0),.int .u64 (Oc.U t.w1),.int .u64 (Oc.U t.w2),.int .u64 (Oc.U t.w3),.slice p t.subs.length cap,.int .i64 t.num,.int .i64 t.least,.int .i64 t.most,.bool t.bare] 37))
 have HB:=Lib.hid (show Below w.heap.size w ((w.alloc (.cells #[.pointer (some ⟨bx,0,none⟩),.int .i64 (lo:Int),.int .i64 ((lo:Int)+(m:Int))] 166)).alloc (.cells #[.int .i64 t.kind,.int .u64 (Oc.U t.w0),.int .u64 (Oc.U t.w1),.int .u64 (Oc.U t.w2),.int .u64 (Oc.U t.w3),.slice p t.subs.length cap,.int .i64 t.num,.int .i64 t.least,.int .i64 t.most,.bool t.bare] 37)) from by go_grown)
 go_enter Tryd.func118,Tryd.ntmps118
 go_upto_region 1 with (fail)
 generalize (w.alloc (.cells #[.pointer (some ⟨bx,0,none⟩),.int .i64 (lo:Int),.int .i64 ((lo:Int)+(m:Int))] 166)).alloc (.cells #[.int .i64 t.kind,.int .u64 (Oc.U t.w0),.int .u64 (Oc.U t.w1),.int .u64 (Oc.U t.w2),.int .u64 (Oc.U t.w3),.slice p t.subs.length cap,.int .i64 t.num,.int .i64 t.least,.int .i64 t.most,.bool t.bare] 37)=W0 at *
 have Y0:=Lib.hid WNx.out.1;have Y1:=Lib.hid WNx.out.2
 clear WNx
 obtain ⟨n0,n1,n2,n3,n4,n5,n6,n7,n8,n9⟩:=allTen Y1.out
 go_upto_region 5 with (fail)
 clear n0 n1 n2 n3 n4 n5 n6 n7 n8 n9
 go_wp2_with fail
 refine Ri.wp_region_facts (by kernel_rfl) (by kernel_rfl) (by kernel_rfl) (by kernel_rfl) 10 (by kernel_rfl) (fun kk ww vv=>match kk with | 0=>vv=.pointer (some ⟨w.heap.size+1,0,none⟩) | 1=>vv=.int .i64 t.kind | 2=>vv=.agg #[.pointer (some ⟨bx,0,none⟩),.int .i64 (lo:Int),.int .i64 ((lo:Int)+(m:Int))] | 3=>vv=.pointer (some ⟨w.heap.size,0,none⟩) | 4=>vv=.pointer (some ⟨bx,0,none⟩) | 5=>vv=.func (.func 101) #[.pointer (some ⟨bx,0,none⟩)] #[] | 6=>PsT lo m (t.wy x) W0.heap.size ww vv | 7=>TkL x lo m t W0.heap.size ww vv | 8=>TkN x lo m t W0.heap.size ww vv | 9=>TkN x lo m t W0.heap.size ww vv | _=>True) (fun kk ww vv w8 h hb=>by
       match kk,h with
       | 0,h=>exact h
       | 1,h=>exact h
       | 2,h=>exact h
       | 3,h=>exact h
       | 4,h=>exact h
       | 5,h=>exact h
       | 6,h=>exact h.below hb
       | 7,h=>exact h.below hb
       | 8,h=>exact h.below hb
       | 9,h=>exact h.below hb
       | _+10,_=>trivial) ?_ ?_
 · intro i hi9 L v w9 xa hF9 hL hd hv ho
   obtain ⟨hb,hk⟩:=hF9
   have hi':i=0 ∨ i=1 ∨ i=2 ∨ i=3 ∨ i=4 ∨ i=5 ∨ i=6 ∨ i=7 ∨ i=8 ∨ i=9:=by omega
   rcases hi' with rfl | rfl | rfl | rfl | rfl | rfl | rfl | rfl | rfl | rfl
   · have e3:xa.tmps.getD 3 undef=.pointer (some ⟨w.heap.size+1,0,none⟩):=ho 3 (by kernel_rfl)
     refine Ri.step_plain rfl rfl (fun K' hK'=>?_)
     go_simp
     exact hK' _ _ ⟨_,_,rfl,rfl,(Below.refl _ _),rfl⟩
   · have j0:L 0=true:=by have:=hd _ rfl;simp [Region.binds] at this;simp [this]
     have f0:=(hv 0 19 rfl j0).trans (hk 0 j0)
     refine Ri.step_plain rfl rfl (fun K' hK'=>?_)
     obtain ⟨n0,n1,n2,n3,n4,n5,n6,n7,n8,n9⟩:=allTen (keep_blk hb Y1.out)
     go_simp
     exact hK' _ _ ⟨_,_,rfl,rfl,(Below.refl _ _),rfl⟩
   · have e2:xa.tmps.getD 2 undef=.pointer (some ⟨w.heap.size,0,none⟩):=ho 2 (by kernel_rfl)
     refine Ri.step_plain rfl rfl (fun K' hK'=>?_)
     refine wp_load_row _ _ rfl _ e2 _ _ _ _ (keep_blk hb Y0.out) Tryd.underlying166 rfl (by kernel_rfl) ?_
     exact hK' _ _ ⟨_,_,rfl,rfl,Below.refl _ _,rfl⟩
   · have e2:xa.tmps.getD 2 undef=.pointer (some ⟨w.heap.size,0,none⟩):=ho 2 (by kernel_rfl)
     refine Ri.step_plain rfl rfl (fun K' hK'=>?_)
     go_simp
     exact hK' _ _ ⟨_,_,rfl,rfl,(Below.refl _ _),rfl⟩
   · have j3:L 3=true:=by have:=hd _ rfl;simp [Region.binds] at this;simp [this]
     have f3:=(hv 3 22 rfl j3).trans (hk 3 j3)
     refine Ri.step_plain rfl rfl (fun K' hK'=>?_)
     obtain ⟨q0,q1,q2⟩:=three_cellsT (keep_blk hb Y0.out)
     go_simp
     exact hK' _ _ ⟨_,_,rfl,rfl,(Below.refl _ _),rfl⟩
   · have j4:L 4=true:=by have:=hd _ rfl;simp [Region.binds] at this;simp [this]
     have f4:=(hv 4 23 rfl j4).trans (hk 4 j4)
     refine Ri.step_plain rfl rfl (fun K' hK'=>?_)
     go_simp
     exact hK' _ _ ⟨_,_,rfl,rfl,(Below.refl _ _),rfl⟩
   · obtain ⟨j2,j5⟩:L 2=true∧L 5=true:=by have:=hd _ rfl;simp [Region.binds] at this;simp [this]
     have f2:=(hv 2 21 rfl j2).trans (hk 2 j2)
     have f5:=(hv 5 24 rfl j5).trans (hk 5 j5)
     refine Ri.step_plain rfl rfl (fun K' hK'=>?_)
     go_simp
     refine (psempty_any 101 #[.pointer (some ⟨bx,0,none⟩)] (fun i=>x.beg i) _ lo m hlo w9 (fun _ _=>by rfl) (fun k _ wx hbx=>by have h:Calls Tryd.prog 101 #[.pointer (some ⟨bx,0,none⟩),.int .i64 ((lo:Int)+(k:Int))] wx fun e w'=>e=.returned (.bool (x.beg ((lo:Int)+(k:Int))))∧Below wx.heap.size wx w':=(scbeg_any x bx ((lo:Int)+(k:Int)) wx (keep_blk hbx (keep_blk hb (keep_blk HB.out HX.out))) (by omega) hbig).mono fun e w' h=>⟨h.1,by rw [h.2];exact Below.refl _ _⟩;simpa [Int.natCast_add] using h)).mono ?_
     rintro e w8 ⟨g8,rfl,hg8,ht8,hb8⟩
     exact hK' _ _ ⟨_,_,rfl,rfl,hb8,⟨g8,rfl,Nat.le_trans hb.size hg8,HWY.out ▸ ht8⟩⟩
   · obtain ⟨j1,j6⟩:L 1=true∧L 6=true:=by have:=hd _ rfl;simp [Region.binds] at this;simp [this]
     have f1:=(hv 1 20 rfl j1).trans (hk 1 j1)
     have k6:PsT lo m (t.wy x) W0.heap.size w9 (v 6):=hk 6 j6
     have f6:=hv 6 25 rfl j6
     refine Ri.step_plain rfl rfl (fun K' hK'=>?_)
     obtain ⟨g8,e8,hg8,ht8⟩:=k6
     unfold Ps.tabV at e8
     replace f8:=f6.trans e8
     clear f6 e8
     have f9:=f1
     rw [Array.getD_eq_getD_getElem?] at f8 f9
     go_simp
     exact hK' _ _ ⟨_,_,rfl,rfl,(Below.refl _ _),⟨g8,rfl,hg8,ht8⟩⟩
   · have j7:L 7=true:=by have:=hd _ rfl;simp [Region.binds] at this;simp [this]
     have k7:TkL x lo m t W0.heap.size w9 (v 7):=hk 7 j7
     have f7:=hv 7 26 rfl j7
     refine Ri.step_plain rfl rfl (fun K' hK'=>?_)
     obtain ⟨g8,e8,hg8,ht8⟩:=k7
     have f8:=f7.trans e8
     clear f7 e8
     go_simp
     have hba:=(Below.refl w9.heap.size w9).alloc (Nat.le_refl _) (.cells #[.int .i64 t.kind,.slice none 0 0,.int .i64 (lo:Int),.int .i64 ((lo:Int)+(m:Int)),.slice (some ⟨g8,0,none⟩) ((m+1) * (m+1)) ((m+1) * (m+1)),.slice none 0 0,.int .i64 0,.bool false] 130)
     exact hK' _ _ ⟨_,_,rfl,rfl,hba,⟨w9.heap.size,rfl,TkrAt.leaf HK.out HSB.out hb.size hg8 (heap_alloc_new _ _) (ht8.later hba)⟩⟩
   · have j8:L 8=true:=by have:=hd _ rfl;simp [Region.binds] at this;simp [this]
     have k8:TkN x lo m t W0.heap.size w9 (v 8):=hk 8 j8
     have f8:=hv 8 27 rfl j8
     refine Ri.step_plain rfl rfl (fun K' hK'=>?_)
     go_simp
     exact hK' _ _ ⟨_,_,rfl,rfl,(Below.refl _ _),k8⟩
 · intro v w9 hb hk
   have k0:v 0=.pointer (some ⟨w.heap.size+1,0,none⟩):=hk 0 (by omega)
   have k1:v 1=.int .i64 t.kind:=hk 1 (by omega)
   have k2:v 2=.agg #[.pointer (some ⟨bx,0,none⟩),.int .i64 (lo:Int),.int .i64 ((lo:Int)+(m:Int))]:=hk 2 (by omega)
   have k3:v 3=.pointer (some ⟨w.heap.size,0,none⟩):=hk 3 (by omega)
   have k4:v 4=.pointer (some ⟨bx,0,none⟩):=hk 4 (by omega)
   have k5:v 5=.func (.func 101) #[.pointer (some ⟨bx,0,none⟩)] #[]:=hk 5 (by omega)
   have k6:PsT lo m (t.wy x) W0.heap.size w9 (v 6):=hk 6 (by omega)
   have k7:TkL x lo m t W0.heap.size w9 (v 7):=hk 7 (by omega)
   have k8:TkN x lo m t W0.heap.size w9 (v 8):=hk 8 (by omega)
   have k9:TkN x lo m t W0.heap.size w9 (v 9):=hk 9 (by omega)
   obtain ⟨bt,e4,htk⟩:=k9
   simp only [Ri.frame,List.zipIdx,List.foldl_cons,List.foldl_nil,if_true,List.setIfInBounds_toArray,List.set_cons_zero,List.set_cons_succ,Nat.reduceAdd,e4]
   generalize v 0=z0;generalize v 1=z1;generalize v 2=z2;generalize v 3=z3;generalize v 4=z4;generalize v 5=z5;generalize v 6=z6;generalize v 7=z7;generalize v 8=z8
   have HTK:=Lib.hid htk;have HBE:=Lib.hid (HB.out.trans (hb.mono HB.out.size));have HSZ:=Lib.hid HB.out.size
   clear htk e4 HB
   go_wp2
   go_ret
   exact ⟨bt,rfl,HTK.out.wider fun k hk=>Nat.le_trans HSZ.out hk,HBE.out⟩
theorem pstaker_k4 (x:Sc) (bx lo m:Nat) (hlo:lo+m ≤ 1000) (_hn:lo+m ≤ x.t.size) (_hbig:x.t.size ≤ 4611686018427387904) (t:Tr) (hs:t.subs=[]) (hk:t.kind=4):TkDoes x bx lo m t:=by
 intro w Bb v hx hv
 obtain ⟨sv,rfl,hsv⟩:=hv
 obtain ⟨p,cap,rfl,-⟩:=hsv.slice
 clear hsv
 have HX:=Lib.hid hx
 have HWY:=Lib.hid (show (Ps.oneAt fun i=>x.fin i)=t.wy x from by simp [Tr.wy_eq,hk])
 have HK:=Lib.hid (show t.kind ≠ 5∧t.kind ≠ 8 from by rw [hk];decide)
 have HSB:=Lib.hid hs
 have e2:(t.kind == 2)=false:=(by simp [hk]);have e3:(t.kind == 3)=false:=(by simp [hk]);have e4:(t.kind == 4)=true:=(by simp [hk]);have e5:(t.kind == 5)=false:=(by simp [hk]);have e6:(t.kind == 6)=false:=(by simp [hk]);have e7:(t.kind == 7)=false:=(by simp [hk]);have e8:(t.kind == 8)=false:=(by simp [hk])
 clear hx hk hs
 unfold Tr.cells
 have WNx:=Lib.hid (news2 w (.cells #[.pointer (some ⟨bx,0,none⟩),.int .i64 (lo:Int),.int .i64 ((lo:Int)+(m:Int))] 166) (.cells #[.int .i64 t.kind,.int .u64 (Oc.U t.w0),.int .u64 (Oc.U t.w1),.int .u64 (Oc.U t.w2),.int .u64 (Oc.U t.w3),.slice p t.subs.length cap,.int .i64 t.num,.int .i64 t.least,.int .i64 t.most,.bool t.bare] 37))
 have HB:=Lib.hid (show Below w.heap.size w ((w.alloc (.cells #[.pointer (some ⟨bx,0,none⟩),.int .i64 (lo:Int),.int .i64 ((lo:Int)+(m:Int))] 166)).alloc (.cells #[.int .i64 t.kind,.int .u64 (Oc.U t.w0),.int .u64 (Oc.U t.w1),.int .u64 (Oc.U t.w2),.int .u64 (Oc.U t.w3),.slice p t.subs.length cap,.int .i64 t.num,.int .i64 t.least,.int .i64 t.most,.bool t.bare] 37)) from by go_grown)
 go_enter Tryd.func118,Tryd.ntmps118
 go_upto_region 1 with (fail)
 generalize (w.alloc (.cells #[.pointer (some ⟨bx,0,none⟩),.int .i64 (lo:Int),.int .i64 ((lo:Int)+(m:Int))] 166)).alloc (.cells #[.int .i64 t.kind,.int .u64 (Oc.U t.w0),.int .u64 (Oc.U t.w1),.int .u64 (Oc.U t.w2),.int .u64 (Oc.U t.w3),.slice p t.subs.length cap,.int .i64 t.num,.int .i64 t.least,.int .i64 t.most,.bool t.bare] 37)=W0 at *
 have Y0:=Lib.hid WNx.out.1;have Y1:=Lib.hid WNx.out.2
 clear WNx
 obtain ⟨n0,n1,n2,n3,n4,n5,n6,n7,n8,n9⟩:=allTen Y1.out
 go_upto_region 7 with (fail)
 clear n0 n1 n2 n3 n4 n5 n6 n7 n8 n9
 go_wp2_with fail
 refine Ri.wp_region_facts (by kernel_rfl) (by kernel_rfl) (by kernel_rfl) (by kernel_rfl) 10 (by kernel_rfl) (fun kk ww vv=>match kk with | 0=>vv=.pointer (some ⟨w.heap.size+1,0,none⟩) | 1=>vv=.int .i64 t.kind | 2=>vv=.agg #[.pointer (some ⟨bx,0,none⟩),.int .i64 (lo:Int),.int .i64 ((lo:Int)+(m:Int))] | 3=>vv=.pointer (some ⟨w.heap.size,0,none⟩) | 4=>vv=.pointer (some ⟨bx,0,none⟩) | 5=>vv=.func (.func 102) #[.pointer (some ⟨bx,0,none⟩)] #[] | 6=>PsT lo m (t.wy x) W0.heap.size ww vv | 7=>TkL x lo m t W0.heap.size ww vv | 8=>TkN x lo m t W0.heap.size ww vv | 9=>TkN x lo m t W0.heap.size ww vv | _=>True) (fun kk ww vv w8 h hb=>by
       match kk,h with
       | 0,h=>exact h
       | 1,h=>exact h
       | 2,h=>exact h
       | 3,h=>exact h
       | 4,h=>exact h
       | 5,h=>exact h
       | 6,h=>exact h.below hb
       | 7,h=>exact h.below hb
       | 8,h=>exact h.below hb
       | 9,h=>exact h.below hb
       | _+10,_=>trivial) ?_ ?_
 · intro i hi9 L v w9 xa hF9 hL hd hv ho
   obtain ⟨hb,hk⟩:=hF9
   have hi':i=0 ∨ i=1 ∨ i=2 ∨ i=3 ∨ i=4 ∨ i=5 ∨ i=6 ∨ i=7 ∨ i=8 ∨ i=9:=by omega
   rcases hi' with rfl | rfl | rfl | rfl | rfl | rfl | rfl | rfl | rfl | rfl
   · have e3:xa.tmps.getD 3 undef=.pointer (some ⟨w.heap.size+1,0,none⟩):=ho 3 (by kernel_rfl)
     refine Ri.step_plain rfl rfl (fun K' hK'=>?_)
     go_simp
     exact hK' _ _ ⟨_,_,rfl,rfl,(Below.refl _ _),rfl⟩
   · have j0:L 0=true:=by have:=hd _ rfl;simp [Region.binds] at this;simp [this]
     have f0:=(hv 0 30 rfl j0).trans (hk 0 j0)
     refine Ri.step_plain rfl rfl (fun K' hK'=>?_)
     obtain ⟨n0,n1,n2,n3,n4,n5,n6,n7,n8,n9⟩:=allTen (keep_blk hb Y1.out)
     go_simp
     exact hK' _ _ ⟨_,_,rfl,rfl,(Below.refl _ _),rfl⟩
   · have e2:xa.tmps.getD 2 undef=.pointer (some ⟨w.heap.size,0,none⟩):=ho 2 (by kernel_rfl)
     refine Ri.step_plain rfl rfl (fun K' hK'=>?_)
     refine wp_load_row _ _ rfl _ e2 _ _ _ _ (keep_blk hb Y0.out) Tryd.underlying166 rfl (by kernel_rfl) ?_
     exact hK' _ _ ⟨_,_,rfl,rfl,Below.refl _ _,rfl⟩
   · have e2:xa.tmps.getD 2 undef=.pointer (some ⟨w.heap.size,0,none⟩):=ho 2 (by kernel_rfl)
     refine Ri.step_plain rfl rfl (fun K' hK'=>?_)
     go_simp
     exact hK' _ _ ⟨_,_,rfl,rfl,(Below.refl _ _),rfl⟩
   · have j3:L 3=true:=by have:=hd _ rfl;simp [Region.binds] at this;simp [this]
     have f3:=(hv 3 33 rfl j3).trans (hk 3 j3)
     refine Ri.step_plain rfl rfl (fun K' hK'=>?_)
     obtain ⟨q0,q1,q2⟩:=three_cellsT (keep_blk hb Y0.out)
     go_simp
     exact hK' _ _ ⟨_,_,rfl,rfl,(Below.refl _ _),rfl⟩
   · have j4:L 4=true:=by have:=hd _ rfl;simp [Region.binds] at this;simp [this]
     have f4:=(hv 4 34 rfl j4).trans (hk 4 j4)
     refine Ri.step_plain rfl rfl (fun K' hK'=>?_)
     go_simp
     exact hK' _ _ ⟨_,_,rfl,rfl,(Below.refl _ _),rfl⟩
   · obtain ⟨j2,j5⟩:L 2=true∧L 5=true:=by have:=hd _ rfl;simp [Region.binds] at this;simp [this]
     have f2:=(hv 2 32 rfl j2).trans (hk 2 j2)
     have f5:=(hv 5 35 rfl j5).trans (hk 5 j5)
     refine Ri.step_plain rfl rfl (fun K' hK'=>?_)
     go_simp
     refine (psempty_any 102 #[.pointer (some ⟨bx,0,none⟩)] (fun i=>x.fin i) _ lo m hlo w9 (fun _ _=>by rfl) (fun k _ wx hbx=>by have h:Calls Tryd.prog 102 #[.pointer (some ⟨bx,0,none⟩),.int .i64 ((lo:Int)+(k:Int))] wx fun e w'=>e=.returned (.bool (x.fin ((lo:Int)+(k:Int))))∧Below wx.heap.size wx w':=(scfin_any x bx ((lo:Int)+(k:Int)) wx (keep_blk hbx (keep_blk hb (keep_blk HB.out HX.out)))).mono fun e w' h=>⟨h.1,by rw [h.2];exact Below.refl _ _⟩;simpa [Int.natCast_add] using h)).mono ?_
     rintro e w8 ⟨g8,rfl,hg8,ht8,hb8⟩
     exact hK' _ _ ⟨_,_,rfl,rfl,hb8,⟨g8,rfl,Nat.le_trans hb.size hg8,HWY.out ▸ ht8⟩⟩
   · obtain ⟨j1,j6⟩:L 1=true∧L 6=true:=by have:=hd _ rfl;simp [Region.binds] at this;simp [this]
     have f1:=(hv 1 31 rfl j1).trans (hk 1 j1)
     have k6:PsT lo m (t.wy x) W0.heap.size w9 (v 6):=hk 6 j6
     have f6:=hv 6 36 rfl j6
     refine Ri.step_plain rfl rfl (fun K' hK'=>?_)
     obtain ⟨g8,e8,hg8,ht8⟩:=k6
     unfold Ps.tabV at e8
     replace f8:=f6.trans e8
     clear f6 e8
     have f9:=f1
     rw [Array.getD_eq_getD_getElem?] at f8 f9
     go_simp
     exact hK' _ _ ⟨_,_,rfl,rfl,(Below.refl _ _),⟨g8,rfl,hg8,ht8⟩⟩
   · have j7:L 7=true:=by have:=hd _ rfl;simp [Region.binds] at this;simp [this]
     have k7:TkL x lo m t W0.heap.size w9 (v 7):=hk 7 j7
     have f7:=hv 7 37 rfl j7
     refine Ri.step_plain rfl rfl (fun K' hK'=>?_)
     obtain ⟨g8,e8,hg8,ht8⟩:=k7
     have f8:=f7.trans e8
     clear f7 e8
     go_simp
     have hba:=(Below.refl w9.heap.size w9).alloc (Nat.le_refl _) (.cells #[.int .i64 t.kind,.slice none 0 0,.int .i64 (lo:Int),.int .i64 ((lo:Int)+(m:Int)),.slice (some ⟨g8,0,none⟩) ((m+1) * (m+1)) ((m+1) * (m+1)),.slice none 0 0,.int .i64 0,.bool false] 130)
     exact hK' _ _ ⟨_,_,rfl,rfl,hba,⟨w9.heap.size,rfl,TkrAt.leaf HK.out HSB.out hb.size hg8 (heap_alloc_new _ _) (ht8.later hba)⟩⟩
   · have j8:L 8=true:=by have:=hd _ rfl;simp [Region.binds] at this;simp [this]
     have k8:TkN x lo m t W0.heap.size w9 (v 8):=hk 8 j8
     have f8:=hv 8 38 rfl j8
     refine Ri.step_plain rfl rfl (fun K' hK'=>?_)
     go_simp
     exact hK' _ _ ⟨_,_,rfl,rfl,(Below.refl _ _),k8⟩
 · intro v w9 hb hk
   have k0:v 0=.pointer (some ⟨w.heap.size+1,0,none⟩):=hk 0 (by omega)
   have k1:v 1=.int .i64 t.kind:=hk 1 (by omega)
   have k2:v 2=.agg #[.pointer (some ⟨bx,0,none⟩),.int .i64 (lo:Int),.int .i64 ((lo:Int)+(m:Int))]:=hk 2 (by omega)
   have k3:v 3=.pointer (some ⟨w.heap.size,0,none⟩):=hk 3 (by omega)
   have k4:v 4=.pointer (some ⟨bx,0,none⟩):=hk 4 (by omega)
   have k5:v 5=.func (.func 102) #[.pointer (some ⟨bx,0,none⟩)] #[]:=hk 5 (by omega)
   have k6:PsT lo m (t.wy x) W0.heap.size w9 (v 6):=hk 6 (by omega)
   have k7:TkL x lo m t W0.heap.size w9 (v 7):=hk 7 (by omega)
   have k8:TkN x lo m t W0.heap.size w9 (v 8):=hk 8 (by omega)
   have k9:TkN x lo m t W0.heap.size w9 (v 9):=hk 9 (by omega)
   obtain ⟨bt,e4,htk⟩:=k9
   simp only [Ri.frame,List.zipIdx,List.foldl_cons,List.foldl_nil,if_true,List.setIfInBounds_toArray,List.set_cons_zero,List.set_cons_succ,Nat.reduceAdd,e4]
   generalize v 0=z0;generalize v 1=z1;generalize v 2=z2;generalize v 3=z3;generalize v 4=z4;generalize v 5=z5;generalize v 6=z6;generalize v 7=z7;generalize v 8=z8
   have HTK:=Lib.hid htk;have HBE:=Lib.hid (HB.out.trans (hb.mono HB.out.size));have HSZ:=Lib.hid HB.out.size
   clear htk e4 HB
   go_wp2
   go_ret
   exact ⟨bt,rfl,HTK.out.wider fun k hk=>Nat.le_trans HSZ.out hk,HBE.out⟩
theorem pstaker_k1 (x:Sc) (bx lo m:Nat) (hlo:lo+m ≤ 1000) (_hn:lo+m ≤ x.t.size) (_hbig:x.t.size ≤ 4611686018427387904) (t:Tr) (hs:t.subs=[]) (hk:t.kind=1):TkDoes x bx lo m t:=by
 intro w Bb v hx hv
 obtain ⟨sv,rfl,hsv⟩:=hv
 obtain ⟨p,cap,rfl,-⟩:=hsv.slice
 clear hsv
 have HX:=Lib.hid hx
 have HWY:=Lib.hid (show (Ps.oneAt fun _=>true)=t.wy x from by simp [Tr.wy_eq,hk,Ps.oneAt_true])
 have HK:=Lib.hid (show t.kind ≠ 5∧t.kind ≠ 8 from by rw [hk];decide)
 have HSB:=Lib.hid hs
 have e2:(t.kind == 2)=false:=(by simp [hk]);have e3:(t.kind == 3)=false:=(by simp [hk]);have e4:(t.kind == 4)=false:=(by simp [hk]);have e5:(t.kind == 5)=false:=(by simp [hk]);have e6:(t.kind == 6)=false:=(by simp [hk]);have e7:(t.kind == 7)=false:=(by simp [hk]);have e8:(t.kind == 8)=false:=(by simp [hk])
 clear hx hk hs
 unfold Tr.cells
 have WNx:=Lib.hid (news2 w (.cells #[.pointer (some ⟨bx,0,none⟩),.int .i64 (lo:Int),.int .i64 ((lo:Int)+(m:Int))] 166) (.cells #[.int .i64 t.kind,.int .u64 (Oc.U t.w0),.int .u64 (Oc.U t.w1),.int .u64 (Oc.U t.w2),.int .u64 (Oc.U t.w3),.slice p t.subs.length cap,.int .i64 t.num,.int .i64 t.least,.int .i64 t.most,.bool t.bare] 37))
 have HB:=Lib.hid (show Below w.heap.size w ((w.alloc (.cells #[.pointer (some ⟨bx,0,none⟩),.int .i64 (lo:Int),.int .i64 ((lo:Int)+(m:Int))] 166)).alloc (.cells #[.int .i64 t.kind,.int .u64 (Oc.U t.w0),.int .u64 (Oc.U t.w1),.int .u64 (Oc.U t.w2),.int .u64 (Oc.U t.w3),.slice p t.subs.length cap,.int .i64 t.num,.int .i64 t.least,.int .i64 t.most,.bool t.bare] 37)) from by go_grown)
 go_enter Tryd.func118,Tryd.ntmps118
 go_upto_region 1 with (fail)
 generalize (w.alloc (.cells #[.pointer (some ⟨bx,0,none⟩),.int .i64 (lo:Int),.int .i64 ((lo:Int)+(m:Int))] 166)).alloc (.cells #[.int .i64 t.kind,.int .u64 (Oc.U t.w0),.int .u64 (Oc.U t.w1),.int .u64 (Oc.U t.w2),.int .u64 (Oc.U t.w3),.slice p t.subs.length cap,.int .i64 t.num,.int .i64 t.least,.int .i64 t.most,.bool t.bare] 37)=W0 at *
 have Y0:=Lib.hid WNx.out.1;have Y1:=Lib.hid WNx.out.2
 clear WNx
 obtain ⟨n0,n1,n2,n3,n4,n5,n6,n7,n8,n9⟩:=allTen Y1.out
 go_upto_region 15 with (fail)
 clear n0 n1 n2 n3 n4 n5 n6 n7 n8 n9
 go_wp2_with fail
 refine Ri.wp_region_facts (by kernel_rfl) (by kernel_rfl) (by kernel_rfl) (by kernel_rfl) 7 (by kernel_rfl) (fun kk ww vv=>match kk with | 0=>vv=.pointer (some ⟨w.heap.size+1,0,none⟩) | 1=>vv=.int .i64 t.kind | 2=>vv=.agg #[.pointer (some ⟨bx,0,none⟩),.int .i64 (lo:Int),.int .i64 ((lo:Int)+(m:Int))] | 3=>PsT lo m (t.wy x) W0.heap.size ww vv | 4=>TkL x lo m t W0.heap.size ww vv | 5=>TkN x lo m t W0.heap.size ww vv | 6=>TkN x lo m t W0.heap.size ww vv | _=>True) (fun kk ww vv w8 h hb=>by
       match kk,h with
       | 0,h=>exact h
       | 1,h=>exact h
       | 2,h=>exact h
       | 3,h=>exact h.below hb
       | 4,h=>exact h.below hb
       | 5,h=>exact h.below hb
       | 6,h=>exact h.below hb
       | _+7,_=>trivial) ?_ ?_
 · intro i hi9 L v w9 xa hF9 hL hd hv ho
   obtain ⟨hb,hk⟩:=hF9
   have hi':i=0 ∨ i=1 ∨ i=2 ∨ i=3 ∨ i=4 ∨ i=5 ∨ i=6:=by omega
   rcases hi' with rfl | rfl | rfl | rfl | rfl | rfl | rfl
   · have e3:xa.tmps.getD 3 undef=.pointer (some ⟨w.heap.size+1,0,none⟩):=ho 3 (by kernel_rfl)
     refine Ri.step_plain rfl rfl (fun K' hK'=>?_)
     go_simp
     exact hK' _ _ ⟨_,_,rfl,rfl,(Below.refl _ _),rfl⟩
   · have j0:L 0=true:=by have:=hd _ rfl;simp [Region.binds] at this;simp [this]
     have f0:=(hv 0 55 rfl j0).trans (hk 0 j0)
     refine Ri.step_plain rfl rfl (fun K' hK'=>?_)
     obtain ⟨n0,n1,n2,n3,n4,n5,n6,n7,n8,n9⟩:=allTen (keep_blk hb Y1.out)
     go_simp
     exact hK' _ _ ⟨_,_,rfl,rfl,(Below.refl _ _),rfl⟩
   · have e2:xa.tmps.getD 2 undef=.pointer (some ⟨w.heap.size,0,none⟩):=ho 2 (by kernel_rfl)
     refine Ri.step_plain rfl rfl (fun K' hK'=>?_)
     refine wp_load_row _ _ rfl _ e2 _ _ _ _ (keep_blk hb Y0.out) Tryd.underlying166 rfl (by kernel_rfl) ?_
     exact hK' _ _ ⟨_,_,rfl,rfl,Below.refl _ _,rfl⟩
   · have j2:L 2=true:=by have:=hd _ rfl;simp [Region.binds] at this;simp [this]
     have f2:=(hv 2 57 rfl j2).trans (hk 2 j2)
     refine Ri.step_plain rfl rfl (fun K' hK'=>?_)
     go_simp
     refine (psempty_any 152 #[] (fun _=>true) _ lo m hlo w9 (fun _ _=>by rfl) (fun k _ wx _=>by simpa using pseverywhere_any _ wx)).mono ?_
     rintro e w8 ⟨g8,rfl,hg8,ht8,hb8⟩
     exact hK' _ _ ⟨_,_,rfl,rfl,hb8,⟨g8,rfl,Nat.le_trans hb.size hg8,HWY.out ▸ ht8⟩⟩
   · obtain ⟨j1,j3⟩:L 1=true∧L 3=true:=by have:=hd _ rfl;simp [Region.binds] at this;simp [this]
     have f1:=(hv 1 56 rfl j1).trans (hk 1 j1)
     have k3:PsT lo m (t.wy x) W0.heap.size w9 (v 3):=hk 3 j3
     have f3:=hv 3 58 rfl j3
     refine Ri.step_plain rfl rfl (fun K' hK'=>?_)
     obtain ⟨g8,e8,hg8,ht8⟩:=k3
     unfold Ps.tabV at e8
     replace f8:=f3.trans e8
     clear f3 e8
     have f9:=f1
     rw [Array.getD_eq_getD_getElem?] at f8 f9
     go_simp
     exact hK' _ _ ⟨_,_,rfl,rfl,(Below.refl _ _),⟨g8,rfl,hg8,ht8⟩⟩
   · have j4:L 4=true:=by have:=hd _ rfl;simp [Region.binds] at this;simp [this]
     have k4:TkL x lo m t W0.heap.size w9 (v 4):=hk 4 j4
     have f4:=hv 4 59 rfl j4
     refine Ri.step_plain rfl rfl (fun K' hK'=>?_)
     obtain ⟨g8,e8,hg8,ht8⟩:=k4
     have f8:=f4.trans e8
     clear f4 e8
     go_simp
     have hba:=(Below.refl w9.heap.size w9).alloc (Nat.le_refl _) (.cells #[.int .i64 t.kind,.slice none 0 0,.int .i64 (lo:Int),.int .i64 ((lo:Int)+(m:Int)),.slice (some ⟨g8,0,none⟩) ((m+1) * (m+1)) ((m+1) * (m+1)),.slice none 0 0,.int .i64 0,.bool false] 130)
     exact hK' _ _ ⟨_,_,rfl,rfl,hba,⟨w9.heap.size,rfl,TkrAt.leaf HK.out HSB.out hb.size hg8 (heap_alloc_new _ _) (ht8.later hba)⟩⟩
   · have j5:L 5=true:=by have:=hd _ rfl;simp [Region.binds] at this;simp [this]
     have k5:TkN x lo m t W0.heap.size w9 (v 5):=hk 5 j5
     have f5:=hv 5 60 rfl j5
     refine Ri.step_plain rfl rfl (fun K' hK'=>?_)
     go_simp
     exact hK' _ _ ⟨_,_,rfl,rfl,(Below.refl _ _),k5⟩
 · intro v w9 hb hk
   have k0:v 0=.pointer (some ⟨w.heap.size+1,0,none⟩):=hk 0 (by omega)
   have k1:v 1=.int .i64 t.kind:=hk 1 (by omega)
   have k2:v 2=.agg #[.pointer (some ⟨bx,0,none⟩),.int .i64 (lo:Int),.int .i64 ((lo:Int)+(m:Int))]:=hk 2 (by omega)
   have k3:PsT lo m (t.wy x) W0.heap.size w9 (v 3):=hk 3 (by omega)
   have k4:TkL x lo m t W0.heap.size w9 (v 4):=hk 4 (by omega)
   have k5:TkN x lo m t W0.heap.size w9 (v 5):=hk 5 (by omega)
   have k6:TkN x lo m t W0.heap.size w9 (v 6):=hk 6 (by omega)
   obtain ⟨bt,e4,htk⟩:=k6
   simp only [Ri.frame,List.zipIdx,List.foldl_cons,List.foldl_nil,if_true,List.setIfInBounds_toArray,List.set_cons_zero,List.set_cons_succ,Nat.reduceAdd,e4]
   generalize v 0=z0;generalize v 1=z1;generalize v 2=z2;generalize v 3=z3;generalize v 4=z4;generalize v 5=z5
   have HTK:=Lib.hid htk;have HBE:=Lib.hid (HB.out.trans (hb.mono HB.out.size));have HSZ:=Lib.hid HB.out.size
   clear htk e4 HB
   go_wp2
   go_ret
   exact ⟨bt,rfl,HTK.out.wider fun k hk=>Nat.le_trans HSZ.out hk,HBE.out⟩
end Go.Proofs.YtedjkbmfpjmlpaaDoor
namespace Go.Proofs.YtedjkbmfpjmlpaaDoor
open Go.RowKit
def TkBy (f:FuncId) (x:Sc) (bx lo m:Nat) (t:Tr):Prop:=∀ (w:World) (B:Nat→Prop) (v:Value),ScAt w bx x→NodeV w B v t→Calls Tryd.prog f #[.agg #[.pointer (some ⟨bx,0,none⟩),.int .i64 (lo:Int),.int .i64 ((lo:Int)+(m:Int))],v] w (TkEnd x lo m t w)
theorem pstaker_k5 (x:Sc) (bx lo m:Nat) (t:Tr) (hk:t.kind=5) (hf:TkBy 149 x bx lo m t):TkDoes x bx lo m t:=by
 intro w Bb v hx hv
 obtain ⟨sv,rfl,hsv⟩:=hv
 obtain ⟨p,cap,rfl,-⟩:=hsv.slice
 have HC:=Lib.hid (fun w9 (hb:Below w.heap.size w w9)=>hf w9 Bb (.agg (t.cells (.slice p t.subs.length cap))) (keep_blk hb hx) ⟨_,rfl,hsv.later hb⟩)
 have e2:(t.kind == 2)=false:=(by simp [hk]);have e3:(t.kind == 3)=false:=(by simp [hk]);have e4:(t.kind == 4)=false:=(by simp [hk]);have e5:(t.kind == 5)=true:=(by simp [hk]);have e6:(t.kind == 6)=false:=(by simp [hk]);have e7:(t.kind == 7)=false:=(by simp [hk]);have e8:(t.kind == 8)=false:=(by simp [hk])
 clear hx hk hsv hf
 unfold Tr.cells at HC ⊢
 have WNx:=Lib.hid (news2 w (.cells #[.pointer (some ⟨bx,0,none⟩),.int .i64 (lo:Int),.int .i64 ((lo:Int)+(m:Int))] 166) (.cells #[.int .i64 t.kind,.int .u64 (Oc.U t.w0),.int .u64 (Oc.U t.w1),.int .u64 (Oc.U t.w2),.int .u64 (Oc.U t.w3),.slice p t.subs.length cap,.int .i64 t.num,.int .i64 t.least,.int .i64 t.most,.bool t.bare] 37))
 have HB:=Lib.hid (show Below w.heap.size w ((w.alloc (.cells #[.pointer (some ⟨bx,0,none⟩),.int .i64 (lo:Int),.int .i64 ((lo:Int)+(m:Int))] 166)).alloc (.cells #[.int .i64 t.kind,.int .u64 (Oc.U t.w0),.int .u64 (Oc.U t.w1),.int .u64 (Oc.U t.w2),.int .u64 (Oc.U t.w3),.slice p t.subs.length cap,.int .i64 t.num,.int .i64 t.least,.int .i64 t.most,.bool t.bare] 37)) from by go_grown)
 go_enter Tryd.func118,Tryd.ntmps118
 go_upto_region 1 with (fail)
 generalize (w.alloc (.cells #[.pointer (some ⟨bx,0,none⟩),.int .i64 (lo:Int),.int .i64 ((lo:Int)+(m:Int))] 166)).alloc (.cells #[.int .i64 t.kind,.int .u64 (Oc.U t.w0),.int .u64 (Oc.U t.w1),.int .u64 (Oc.U t.w2),.int .u64 (Oc.U t.w3),.slice p t.subs.length cap,.int .i64 t.num,.int .i64 t.least,.int .i64 t.most,.bool t.bare] 37)=W0 at *
 have Y0:=Lib.hid WNx.out.1;have Y1:=Lib.hid WNx.out.2
 clear WNx
 obtain ⟨n0,n1,n2,n3,n4,n5,n6,n7,n8,n9⟩:=allTen Y1.out
 go_upto_region 9 with (fail)
 clear n0 n1 n2 n3 n4 n5 n6 n7 n8 n9
 go_wp2_with (first
   | (refine wpList_load_row rfl 166 (.tmp 2) rfl (w.heap.size) rfl 166 _ (0,0) _ Y0.out Tryd.underlying166 rfl (by kernel_rfl) ?_)
   | (refine wpList_load_row rfl 37 (.tmp 3) rfl (w.heap.size+1) rfl 37 _ (0,0) _ Y1.out Tryd.underlying37 rfl (by kernel_rfl) ?_)
   | fail)
 refine (HC.out W0 HB.out).mono ?_
 rintro e w9 ⟨bt,rfl,htk,hbt⟩
 have HTK:=Lib.hid htk;have HBE:=Lib.hid (HB.out.trans (hbt.mono HB.out.size));have HSZ:=Lib.hid HB.out.size
 clear htk hbt HB HC Y0 Y1
 go_wp2
 go_ret
 exact ⟨bt,rfl,HTK.out.wider fun k hk=>Nat.le_trans HSZ.out hk,HBE.out⟩
theorem pstaker_k6 (x:Sc) (bx lo m:Nat) (t:Tr) (hk:t.kind=6) (hf:TkBy 150 x bx lo m t):TkDoes x bx lo m t:=by
 intro w Bb v hx hv
 obtain ⟨sv,rfl,hsv⟩:=hv
 obtain ⟨p,cap,rfl,-⟩:=hsv.slice
 have HC:=Lib.hid (fun w9 (hb:Below w.heap.size w w9)=>hf w9 Bb (.agg (t.cells (.slice p t.subs.length cap))) (keep_blk hb hx) ⟨_,rfl,hsv.later hb⟩)
 have e2:(t.kind == 2)=false:=(by simp [hk]);have e3:(t.kind == 3)=false:=(by simp [hk]);have e4:(t.kind == 4)=false:=(by simp [hk]);have e5:(t.kind == 5)=false:=(by simp [hk]);have e6:(t.kind == 6)=true:=(by simp [hk]);have e7:(t.kind == 7)=false:=(by simp [hk]);have e8:(t.kind == 8)=false:=(by simp [hk])
 clear hx hk hsv hf
 unfold Tr.cells at HC ⊢
 have WNx:=Lib.hid (news2 w (.cells #[.pointer (some ⟨bx,0,none⟩),.int .i64 (lo:Int),.int .i64 ((lo:Int)+(m:Int))] 166) (.cells #[.int .i64 t.kind,.int .u64 (Oc.U t.w0),.int .u64 (Oc.U t.w1),.int .u64 (Oc.U t.w2),.int .u64 (Oc.U t.w3),.slice p t.subs.length cap,.int .i64 t.num,.int .i64 t.least,.int .i64 t.most,.bool t.bare] 37))
 have HB:=Lib.hid (show Below w.heap.size w ((w.alloc (.cells #[.pointer (some ⟨bx,0,none⟩),.int .i64 (lo:Int),.int .i64 ((lo:Int)+(m:Int))] 166)).alloc (.cells #[.int .i64 t.kind,.int .u64 (Oc.U t.w0),.int .u64 (Oc.U t.w1),.int .u64 (Oc.U t.w2),.int .u64 (Oc.U t.w3),.slice p t.subs.length cap,.int .i64 t.num,.int .i64 t.least,.int .i64 t.most,.bool t.bare] 37)) from by go_grown)
 go_enter Tryd.func118,Tryd.ntmps118
 go_upto_region 1 with (fail)
 generalize (w.alloc (.cells #[.pointer (some ⟨bx,0,none⟩),.int .i64 (lo:Int),.int .i64 ((lo:Int)+(m:Int))] 166)).alloc (.cells #[.int .i64 t.kind,.int .u64 (Oc.U t.w0),.int .u64 (Oc.U t.w1),.int .u64 (Oc.U t.w2),.int .u64 (Oc.U t.w3),.slice p t.subs.length cap,.int .i64 t.num,.int .i64 t.least,.int .i64 t.most,.bool t.bare] 37)=W0 at *
 have Y0:=Lib.hid WNx.out.1;have Y1:=Lib.hid WNx.out.2
 clear WNx
 obtain ⟨n0,n1,n2,n3,n4,n5,n6,n7,n8,n9⟩:=allTen Y1.out
 go_upto_region 12 with (fail)
 clear n0 n1 n2 n3 n4 n5 n6 n7 n8 n9
 go_wp2_with (first
   | (refine wpList_load_row rfl 166 (.tmp 2) rfl (w.heap.size) rfl 166 _ (0,0) _ Y0.out Tryd.underlying166 rfl (by kernel_rfl) ?_)
   | (refine wpList_load_row rfl 37 (.tmp 3) rfl (w.heap.size+1) rfl 37 _ (0,0) _ Y1.out Tryd.underlying37 rfl (by kernel_rfl) ?_)
   | fail)
 refine (HC.out W0 HB.out).mono ?_
 rintro e w9 ⟨bt,rfl,htk,hbt⟩
 have HTK:=Lib.hid htk;have HBE:=Lib.hid (HB.out.trans (hbt.mono HB.out.size));have HSZ:=Lib.hid HB.out.size
 clear htk hbt HB HC Y0 Y1
 go_wp2
 go_ret
 exact ⟨bt,rfl,HTK.out.wider fun k hk=>Nat.le_trans HSZ.out hk,HBE.out⟩
theorem pstaker_k7 (x:Sc) (bx lo m:Nat) (t:Tr) (hk:t.kind=7) (hf:TkBy 150 x bx lo m t):TkDoes x bx lo m t:=by
 intro w Bb v hx hv
 obtain ⟨sv,rfl,hsv⟩:=hv
 obtain ⟨p,cap,rfl,-⟩:=hsv.slice
 have HC:=Lib.hid (fun w9 (hb:Below w.heap.size w w9)=>hf w9 Bb (.agg (t.cells (.slice p t.subs.length cap))) (keep_blk hb hx) ⟨_,rfl,hsv.later hb⟩)
 have e2:(t.kind == 2)=false:=(by simp [hk]);have e3:(t.kind == 3)=false:=(by simp [hk]);have e4:(t.kind == 4)=false:=(by simp [hk]);have e5:(t.kind == 5)=false:=(by simp [hk]);have e6:(t.kind == 6)=false:=(by simp [hk]);have e7:(t.kind == 7)=true:=(by simp [hk]);have e8:(t.kind == 8)=false:=(by simp [hk])
 clear hx hk hsv hf
 unfold Tr.cells at HC ⊢
 have WNx:=Lib.hid (news2 w (.cells #[.pointer (some ⟨bx,0,none⟩),.int .i64 (lo:Int),.int .i64 ((lo:Int)+(m:Int))] 166) (.cells #[.int .i64 t.kind,.int .u64 (Oc.U t.w0),.int .u64 (Oc.U t.w1),.int .u64 (Oc.U t.w2),.int .u64 (Oc.U t.w3),.slice p t.subs.length cap,.int .i64 t.num,.int .i64 t.least,.int .i64 t.most,.bool t.bare] 37))
 have HB:=Lib.hid (show Below w.heap.size w ((w.alloc (.cells #[.pointer (some ⟨bx,0,none⟩),.int .i64 (lo:Int),.int .i64 ((lo:Int)+(m:Int))] 166)).alloc (.cells #[.int .i64 t.kind,.int .u64 (Oc.U t.w0),.int .u64 (Oc.U t.w1),.int .u64 (Oc.U t.w2),.int .u64 (Oc.U t.w3),.slice p t.subs.length cap,.int .i64 t.num,.int .i64 t.least,.int .i64 t.most,.bool t.bare] 37)) from by go_grown)
 go_enter Tryd.func118,Tryd.ntmps118
 go_upto_region 1 with (fail)
 generalize (w.alloc (.cells #[.pointer (some ⟨bx,0,none⟩),.int .i64 (lo:Int),.int .i64 ((lo:Int)+(m:Int))] 166)).alloc (.cells #[.int .i64 t.kind,.int .u64 (Oc.U t.w0),.int .u64 (Oc.U t.w1),.int .u64 (Oc.U t.w2),.int .u64 (Oc.U t.w3),.slice p t.subs.length cap,.int .i64 t.num,.int .i64 t.least,.int .i64 t.most,.bool t.bare] 37)=W0 at *
 have Y0:=Lib.hid WNx.out.1;have Y1:=Lib.hid WNx.out.2
 clear WNx
 obtain ⟨n0,n1,n2,n3,n4,n5,n6,n7,n8,n9⟩:=allTen Y1.out
 go_upto_region 12 with (fail)
 clear n0 n1 n2 n3 n4 n5 n6 n7 n8 n9
 go_wp2_with (first
   | (refine wpList_load_row rfl 166 (.tmp 2) rfl (w.heap.size) rfl 166 _ (0,0) _ Y0.out Tryd.underlying166 rfl (by kernel_rfl) ?_)
   | (refine wpList_load_row rfl 37 (.tmp 3) rfl (w.heap.size+1) rfl 37 _ (0,0) _ Y1.out Tryd.underlying37 rfl (by kernel_rfl) ?_)
   | fail)
 refine (HC.out W0 HB.out).mono ?_
 rintro e w9 ⟨bt,rfl,htk,hbt⟩
 have HTK:=Lib.hid htk;have HBE:=Lib.hid (HB.out.trans (hbt.mono HB.out.size));have HSZ:=Lib.hid HB.out.size
 clear htk hbt HB HC Y0 Y1
 go_wp2
 go_ret
 exact ⟨bt,rfl,HTK.out.wider fun k hk=>Nat.le_trans HSZ.out hk,HBE.out⟩
theorem pstaker_k8 (x:Sc) (bx lo m:Nat) (t:Tr) (hk:t.kind=8) (hf:TkBy 151 x bx lo m t):TkDoes x bx lo m t:=by
 intro w Bb v hx hv
 obtain ⟨sv,rfl,hsv⟩:=hv
 obtain ⟨p,cap,rfl,-⟩:=hsv.slice
 have HC:=Lib.hid (fun w9 (hb:Below w.heap.size w w9)=>hf w9 Bb (.agg (t.cells (.slice p t.subs.length cap))) (keep_blk hb hx) ⟨_,rfl,hsv.later hb⟩)
 have e2:(t.kind == 2)=false:=(by simp [hk]);have e3:(t.kind == 3)=false:=(by simp [hk]);have e4:(t.kind == 4)=false:=(by simp [hk]);have e5:(t.kind == 5)=false:=(by simp [hk]);have e6:(t.kind == 6)=false:=(by simp [hk]);have e7:(t.kind == 7)=false:=(by simp [hk]);have e8:(t.kind == 8)=true:=(by simp [hk])
 clear hx hk hsv hf
 unfold Tr.cells at HC ⊢
 have WNx:=Lib.hid (news2 w (.cells #[.pointer (some ⟨bx,0,none⟩),.int .i64 (lo:Int),.int .i64 ((lo:Int)+(m:Int))] 166) (.cells #[.int .i64 t.kind,.int .u64 (Oc.U t.w0),.int .u64 (Oc.U t.w1),.int .u64 (Oc.U t.w2),.int .u64 (Oc.U t.w3),.slice p t.subs.length cap,.int .i64 t.num,.int .i64 t.least,.int .i64 t.most,.bool t.bare] 37))
 have HB:=Lib.hid (show Below w.heap.size w ((w.alloc (.cells #[.pointer (some ⟨bx,0,none⟩),.int .i64 (lo:Int),.int .i64 ((lo:Int)+(m:Int))] 166)).alloc (.cells #[.int .i64 t.kind,.int .u64 (Oc.U t.w0),.int .u64 (Oc.U t.w1),.int .u64 (Oc.U t.w2),.int .u64 (Oc.U t.w3),.slice p t.subs.length cap,.int .i64 t.num,.int .i64 t.least,.int .i64 t.most,.bool t.bare] 37)) from by go_grown)
 go_enter Tryd.func118,Tryd.ntmps118
 go_upto_region 1 with (fail)
 generalize (w.alloc (.cells #[.pointer (some ⟨bx,0,none⟩),.int .i64 (lo:Int),.int .i64 ((lo:Int)+(m:Int))] 166)).alloc (.cells #[.int .i64 t.kind,.int .u64 (Oc.U t.w0),.int .u64 (Oc.U t.w1),.int .u64 (Oc.U t.w2),.int .u64 (Oc.U t.w3),.slice p t.subs.length cap,.int .i64 t.num,.int .i64 t.least,.int .i64 t.most,.bool t.bare] 37)=W0 at *
 have Y0:=Lib.hid WNx.out.1;have Y1:=Lib.hid WNx.out.2
 clear WNx
 obtain ⟨n0,n1,n2,n3,n4,n5,n6,n7,n8,n9⟩:=allTen Y1.out
 go_upto_region 14 with (fail)
 clear n0 n1 n2 n3 n4 n5 n6 n7 n8 n9
 go_wp2_with (first
   | (refine wpList_load_row rfl 166 (.tmp 2) rfl (w.heap.size) rfl 166 _ (0,0) _ Y0.out Tryd.underlying166 rfl (by kernel_rfl) ?_)
   | (refine wpList_load_row rfl 37 (.tmp 3) rfl (w.heap.size+1) rfl 37 _ (0,0) _ Y1.out Tryd.underlying37 rfl (by kernel_rfl) ?_)
   | fail)
 refine (HC.out W0 HB.out).mono ?_
 rintro e w9 ⟨bt,rfl,htk,hbt⟩
 have HTK:=Lib.hid htk;have HBE:=Lib.hid (HB.out.trans (hbt.mono HB.out.size));have HSZ:=Lib.hid HB.out.size
 clear htk hbt HB HC Y0 Y1
 go_wp2
 go_ret
 exact ⟨bt,rfl,HTK.out.wider fun k hk=>Nat.le_trans HSZ.out hk,HBE.out⟩
end Go.Proofs.YtedjkbmfpjmlpaaDoor
namespace Go.Proofs.YtedjkbmfpjmlpaaDoor
open Go.RowKit
theorem TkrsAt.wider {x:Sc} {lo m:Nat} {w:World} {B B':Nat→Prop} {v:Value} {ts:List Tr} (h:TkrsAt x lo m w B v ts) (hBB:∀ b,B b→B' b):TkrsAt x lo m w B' v ts:=by
 obtain ⟨p,cap,S,e,hp,hs⟩:=h
 exact ⟨p,cap,S,e,fun i u hu=>(hp i u hu).imp fun g hg=>hg.imp fun o ho=>⟨ho.1,hBB _ ho.2.1,ho.2.2⟩,fun i u hu=>(hs i u hu).wider hBB⟩
theorem TkrsAt.within {x:Sc} {lo m:Nat} {w:World} {B:Nat→Prop} {v:Value} {ts:List Tr} (h:TkrsAt x lo m w B v ts):TkrsAt x lo m w (fun k=>B k∧k < w.heap.size) v ts:=by
 obtain ⟨p,cap,S,e,hp,hs⟩:=h
 refine ⟨p,cap,S,e,fun i u hu=>?_,fun i u hu=>(hs i u hu).within⟩
 obtain ⟨g,o,e,hg,hc⟩:=hp i u hu
 exact ⟨g,o,e,⟨hg,block_lt_of_cell hc⟩,hc⟩
def TkM (x:Sc) (lo m:Nat) (t:Tr) (n b0:Nat) (w:World) (v:Value):Prop:=∃ (p8:Option Addr) (c8:Nat),v=.agg #[.int .i64 t.kind,.slice p8 n c8,.int .i64 0,.int .i64 0,.slice none 0 0,.slice none 0 0,.int .i64 (n:Int),.bool false]∧TkrsAt x lo m w (fun k=>b0 ≤ k) (.slice p8 n c8) t.subs
theorem TkM.below {x:Sc} {lo m n b0:Nat} {t:Tr} {w w':World} {v:Value} (h:TkM x lo m t n b0 w v) (hb:Below w.heap.size w w'):TkM x lo m t n b0 w' v:=by
 obtain ⟨p,c,e,ht⟩:=h;exact ⟨p,c,e,ht.keep fun k hk _=>hb.block k hk⟩
def TkB (x:Sc) (lo m:Nat) (t:Tr) (n b0:Nat) (w:World) (v:Value):Prop:=∃ (b:Nat) (p8:Option Addr) (c8:Nat),v=.pointer (some ⟨b,0,none⟩)∧b0 ≤ b∧w.heap[b]? = some (.cells #[.int .i64 t.kind,.slice p8 n c8,.int .i64 0,.int .i64 0,.slice none 0 0,.slice none 0 0,.int .i64 (n:Int),.bool false] 130)∧TkrsAt x lo m w (fun k=>b0 ≤ k∧k < b) (.slice p8 n c8) t.subs
theorem TkB.below {x:Sc} {lo m n b0:Nat} {t:Tr} {w w':World} {v:Value} (h:TkB x lo m t n b0 w v) (hb:Below w.heap.size w w'):TkB x lo m t n b0 w' v:=by
 obtain ⟨b,p,c,e,h0,hr,ht⟩:=h;exact ⟨b,p,c,e,h0,keep_blk hb hr,ht.keep fun k hk _=>hb.block k hk⟩
theorem tk8 {w:World} {b:Nat} {a0 a1 a2 a3 a4 a5 a6 a7:Value} {T:TypeId} (h:w.heap[b]? = some (.cells #[a0,a1,a2,a3,a4,a5,a6,a7] T)) :
   w.cell? ⟨b,0,none⟩=some a0∧w.cell? ⟨b,1,none⟩=some a1∧w.cell? ⟨b,2,none⟩=some a2∧w.cell? ⟨b,3,none⟩=some a3∧w.cell? ⟨b,4,none⟩=some a4∧w.cell? ⟨b,5,none⟩=some a5∧w.cell? ⟨b,6,none⟩=some a6∧w.cell? ⟨b,7,none⟩=some a7 ∧
   w.frozen? ⟨b,2,none⟩=false∧w.frozen? ⟨b,3,none⟩=false∧w.frozen? ⟨b,4,none⟩=false∧w.frozen? ⟨b,5,none⟩=false∧w.frozen? ⟨b,7,none⟩=false:=by
 simp [World.cell?,World.frozen?,h]
theorem psinorder_any (x:Sc) (bx lo m:Nat) (hlo:lo+m ≤ 1000) (t:Tr) (hk:t.kind=5) (hlen:t.subs.length ≤ 100000) (hIH:∀ u,u ∈ t.subs→TkDoes x bx lo m u):TkBy 149 x bx lo m t:=by
 intro w Bb v hx hv
 obtain ⟨sv,rfl,hsv⟩:=hv
 obtain ⟨p,cap,rfl,-⟩:=hsv.slice
 have HX:=Lib.hid hx;have HLEN:=Lib.hid hlen;have IH:=Lib.hid hIH;have HK:=Lib.hid hk
 unfold Tr.cells
 obtain ⟨n,hn⟩:∃ n,t.subs.length=n:=⟨_,rfl⟩
 rw [hn] at hsv hlen ⊢
 have HS:=Lib.hid hsv
 have HN:=Lib.hid hn
 clear hx hk hsv hIH hn
 have WNx:=Lib.hid (news2 w (.cells #[.pointer (some ⟨bx,0,none⟩),.int .i64 (lo:Int),.int .i64 ((lo:Int)+(m:Int))] 166) (.cells #[.int .i64 t.kind,.int .u64 (Oc.U t.w0),.int .u64 (Oc.U t.w1),.int .u64 (Oc.U t.w2),.int .u64 (Oc.U t.w3),.slice p n cap,.int .i64 t.num,.int .i64 t.least,.int .i64 t.most,.bool t.bare] 37))
 have HB:=Lib.hid (show Below w.heap.size w ((w.alloc (.cells #[.pointer (some ⟨bx,0,none⟩),.int .i64 (lo:Int),.int .i64 ((lo:Int)+(m:Int))] 166)).alloc (.cells #[.int .i64 t.kind,.int .u64 (Oc.U t.w0),.int .u64 (Oc.U t.w1),.int .u64 (Oc.U t.w2),.int .u64 (Oc.U t.w3),.slice p n cap,.int .i64 t.num,.int .i64 t.least,.int .i64 t.most,.bool t.bare] 37)) from by go_grown)
 go_enter Tryd.func149,Tryd.ntmps149
 go_upto_region 1 with (fail)
 generalize (w.alloc (.cells #[.pointer (some ⟨bx,0,none⟩),.int .i64 (lo:Int),.int .i64 ((lo:Int)+(m:Int))] 166)).alloc (.cells #[.int .i64 t.kind,.int .u64 (Oc.U t.w0),.int .u64 (Oc.U t.w1),.int .u64 (Oc.U t.w2),.int .u64 (Oc.U t.w3),.slice p n cap,.int .i64 t.num,.int .i64 t.least,.int .i64 t.most,.bool t.bare] 37)=W0 at *
 have Y0:=Lib.hid WNx.out.1;have Y1:=Lib.hid WNx.out.2
 have HB1Z:=Lib.hid (show w.heap.size ≤ W0.heap.size from HB.out.size)
 have HL0:=Lib.hid (show w.heap.size+1 < W0.heap.size from (Array.getElem?_eq_some_iff.1 Y1.out).1)
 clear WNx
 go_wp2_with fail
 refine Ri.wp_region_facts (by kernel_rfl) (by kernel_rfl) (by kernel_rfl) (by kernel_rfl) 12 (by kernel_rfl) (fun kk ww vv=>match kk with | 0=>vv=.pointer (some ⟨w.heap.size+1,0,none⟩) | 1=>vv=.int .i64 t.kind | 2=>vv=.agg #[.pointer (some ⟨bx,0,none⟩),.int .i64 (lo:Int),.int .i64 ((lo:Int)+(m:Int))] | 3=>vv=.pointer (some ⟨w.heap.size+1,5,none⟩) | 4=>vv=.slice p n cap | 5=>TkrsAt x lo m ww (fun k=>W0.heap.size ≤ k) vv t.subs | 6=>vv=.pointer (some ⟨w.heap.size+1,5,none⟩) | 7=>vv=.slice p n cap | 8=>vv=.int .i64 (n:Int) | 9=>TkM x lo m t n W0.heap.size ww vv | 10=>TkB x lo m t n W0.heap.size ww vv | 11=>TkB x lo m t n W0.heap.size ww vv | _=>True) (fun kk ww vv w8 h hb=>by
       match kk,h with
       | 0,h=>exact h
       | 1,h=>exact h
       | 2,h=>exact h
       | 3,h=>exact h
       | 4,h=>exact h
       | 5,h=>exact h.keep fun k hk _=>hb.block k hk
       | 6,h=>exact h
       | 7,h=>exact h
       | 8,h=>exact h
       | 9,h=>exact h.below hb
       | 10,h=>exact h.below hb
       | 11,h=>exact h.below hb
       | _+12,_=>trivial) ?_ ?_
 · intro i hi9 L v w9 xa hF9 hL hd hv ho
   obtain ⟨hb,hk⟩:=hF9
   have hi':i=0 ∨ i=1 ∨ i=2 ∨ i=3 ∨ i=4 ∨ i=5 ∨ i=6 ∨ i=7 ∨ i=8 ∨ i=9 ∨ i=10 ∨ i=11:=by omega
   rcases hi' with rfl | rfl | rfl | rfl | rfl | rfl | rfl | rfl | rfl | rfl | rfl | rfl
   · have e3:xa.tmps.getD 3 undef=.pointer (some ⟨w.heap.size+1,0,none⟩):=ho 3 (by kernel_rfl)
     refine Ri.step_plain rfl rfl (fun K' hK'=>?_)
     go_simp
     exact hK' _ _ ⟨_,_,rfl,rfl,(Below.refl _ _),rfl⟩
   · have j0:L 0=true:=by have:=hd _ rfl;simp [Region.binds] at this;simp [this]
     have f0:=(hv 0 7 rfl j0).trans (hk 0 j0)
     refine Ri.step_plain rfl rfl (fun K' hK'=>?_)
     obtain ⟨n0,n1,n2,n3,n4,n5,n6,n7,n8,n9⟩:=allTen (keep_blk hb Y1.out)
     go_simp
     exact hK' _ _ ⟨_,_,rfl,rfl,(Below.refl _ _),rfl⟩
   · have e2:xa.tmps.getD 2 undef=.pointer (some ⟨w.heap.size,0,none⟩):=ho 2 (by kernel_rfl)
     refine Ri.step_plain rfl rfl (fun K' hK'=>?_)
     refine wp_load_row _ _ rfl _ e2 _ _ _ _ (keep_blk hb Y0.out) Tryd.underlying166 rfl (by kernel_rfl) ?_
     exact hK' _ _ ⟨_,_,rfl,rfl,Below.refl _ _,rfl⟩
   · have e3:xa.tmps.getD 3 undef=.pointer (some ⟨w.heap.size+1,0,none⟩):=ho 3 (by kernel_rfl)
     refine Ri.step_plain rfl rfl (fun K' hK'=>?_)
     go_simp
     exact hK' _ _ ⟨_,_,rfl,rfl,(Below.refl _ _),rfl⟩
   · have j3:L 3=true:=by have:=hd _ rfl;simp [Region.binds] at this;simp [this]
     have f3:=(hv 3 10 rfl j3).trans (hk 3 j3)
     refine Ri.step_plain rfl rfl (fun K' hK'=>?_)
     obtain ⟨n0,n1,n2,n3,n4,n5,n6,n7,n8,n9⟩:=allTen (keep_blk hb Y1.out)
     go_simp
     exact hK' _ _ ⟨_,_,rfl,rfl,(Below.refl _ _),rfl⟩
   · obtain ⟨j2,j4⟩:L 2=true∧L 4=true:=by have:=hd _ rfl;simp [Region.binds] at this;simp [this]
     have f2:=(hv 2 9 rfl j2).trans (hk 2 j2)
     have f4:=(hv 4 11 rfl j4).trans (hk 4 j4)
     refine Ri.step_plain rfl rfl (fun K' hK'=>?_)
     go_simp
     refine (pstakers_any x bx lo m t.subs HLEN.out IH.out w9 Bb (.slice p n cap) (keep_blk hb (keep_blk HB.out HX.out)) ((HS.out.later HB.out).later hb)).mono ?_
     rintro e w8 ⟨v8,rfl,ht8,hb8⟩
     exact hK' _ _ ⟨_,_,rfl,rfl,hb8,(ht8.wider fun k hk=>Nat.le_trans hb.size hk)⟩
   · have e3:xa.tmps.getD 3 undef=.pointer (some ⟨w.heap.size+1,0,none⟩):=ho 3 (by kernel_rfl)
     refine Ri.step_plain rfl rfl (fun K' hK'=>?_)
     go_simp
     exact hK' _ _ ⟨_,_,rfl,rfl,(Below.refl _ _),rfl⟩
   · have j6:L 6=true:=by have:=hd _ rfl;simp [Region.binds] at this;simp [this]
     have f6:=(hv 6 13 rfl j6).trans (hk 6 j6)
     refine Ri.step_plain rfl rfl (fun K' hK'=>?_)
     obtain ⟨n0,n1,n2,n3,n4,n5,n6,n7,n8,n9⟩:=allTen (keep_blk hb Y1.out)
     go_simp
     exact hK' _ _ ⟨_,_,rfl,rfl,(Below.refl _ _),rfl⟩
   · have j7:L 7=true:=by have:=hd _ rfl;simp [Region.binds] at this;simp [this]
     have f7:=(hv 7 14 rfl j7).trans (hk 7 j7)
     refine Ri.step_plain rfl rfl (fun K' hK'=>?_)
     go_simp
     exact hK' _ _ ⟨_,_,rfl,rfl,(Below.refl _ _),rfl⟩
   · obtain ⟨j1,j5,j8⟩:L 1=true∧L 5=true∧L 8=true:=by have:=hd _ rfl;simp [Region.binds] at this;simp [this]
     have f1:=(hv 1 8 rfl j1).trans (hk 1 j1)
     have k5:TkrsAt x lo m w9 (fun k=>W0.heap.size ≤ k) (v 5) t.subs:=hk 5 j5
     have f5:=hv 5 12 rfl j5
     have f8:=(hv 8 15 rfl j8).trans (hk 8 j8)
     refine Ri.step_plain rfl rfl (fun K' hK'=>?_)
     obtain ⟨p8,c8,S8,e8,hp8,hs8⟩:=k5
     rw [HN.out] at e8
     have g0:=f1
     have g1:=f5.trans e8
     have g2:=f8
     rw [Array.getD_eq_getD_getElem?] at g0 g1 g2
     clear f5
     go_simp
     exact hK' _ _ ⟨_,_,rfl,rfl,(Below.refl _ _),⟨p8,c8,rfl,⟨p8,c8,S8,by rw [HN.out],hp8,hs8⟩⟩⟩
   · have j9:L 9=true:=by have:=hd _ rfl;simp [Region.binds] at this;simp [this]
     have k9:TkM x lo m t n W0.heap.size w9 (v 9):=hk 9 j9
     have f9:=hv 9 16 rfl j9
     refine Ri.step_plain rfl rfl (fun K' hK'=>?_)
     obtain ⟨p8,c8,e8,hk8⟩:=k9
     have g0:=f9.trans e8
     clear f9
     go_simp
     have hba:=(Below.refl w9.heap.size w9).alloc (Nat.le_refl _) (.cells #[.int .i64 t.kind,.slice p8 n c8,.int .i64 0,.int .i64 0,.slice none 0 0,.slice none 0 0,.int .i64 (n:Int),.bool false] 130)
     exact hK' _ _ ⟨_,_,rfl,rfl,hba,⟨w9.heap.size,p8,c8,rfl,hb.size,heap_alloc_new _ _,(hk8.within.keep fun k hk _=>hba.block k hk)⟩⟩
   · have j10:L 10=true:=by have:=hd _ rfl;simp [Region.binds] at this;simp [this]
     have k10:TkB x lo m t n W0.heap.size w9 (v 10):=hk 10 j10
     have f10:=hv 10 17 rfl j10
     refine Ri.step_plain rfl rfl (fun K' hK'=>?_)
     go_simp
     exact hK' _ _ ⟨_,_,rfl,rfl,(Below.refl _ _),k10⟩
 · intro v w9 hb hk
   have k0:v 0=.pointer (some ⟨w.heap.size+1,0,none⟩):=hk 0 (by omega)
   have k1:v 1=.int .i64 t.kind:=hk 1 (by omega)
   have k2:v 2=.agg #[.pointer (some ⟨bx,0,none⟩),.int .i64 (lo:Int),.int .i64 ((lo:Int)+(m:Int))]:=hk 2 (by omega)
   have k3:v 3=.pointer (some ⟨w.heap.size+1,5,none⟩):=hk 3 (by omega)
   have k4:v 4=.slice p n cap:=hk 4 (by omega)
   have k5:TkrsAt x lo m w9 (fun k=>W0.heap.size ≤ k) (v 5) t.subs:=hk 5 (by omega)
   have k6:v 6=.pointer (some ⟨w.heap.size+1,5,none⟩):=hk 6 (by omega)
   have k7:v 7=.slice p n cap:=hk 7 (by omega)
   have k8:v 8=.int .i64 (n:Int):=hk 8 (by omega)
   have k9:TkM x lo m t n W0.heap.size w9 (v 9):=hk 9 (by omega)
   have k10:TkB x lo m t n W0.heap.size w9 (v 10):=hk 10 (by omega)
   have k11:TkB x lo m t n W0.heap.size w9 (v 11):=hk 11 (by omega)
   obtain ⟨bm,p8,c8,e5,hbm,hrow,htks⟩:=k11
   simp only [Ri.frame,List.zipIdx,List.foldl_cons,List.foldl_nil,if_true,List.setIfInBounds_toArray,List.set_cons_zero,List.set_cons_succ,Nat.reduceAdd,e5]
   generalize v 0=z0;generalize v 1=z1;generalize v 2=z2;generalize v 3=z3;generalize v 4=z4;generalize v 5=z5;generalize v 6=z6;generalize v 7=z7;generalize v 8=z8;generalize v 9=z9;generalize v 10=z10
   have HB1:=Lib.hid (HB.out.trans (hb.mono HB.out.size))
   have X0:=Lib.hid (keep_blk hb Y0.out)
   have YM:=Lib.hid hrow;have TS:=Lib.hid htks;have HBM:=Lib.hid hbm
   clear hrow htks hbm hb HB Y0 Y1 e5
   generalize w9=w1 at *
   obtain ⟨RF,hRF⟩:∃ RF,RF=fun d=>Tr.wySeq x (t.subs.drop d):=⟨_,rfl⟩
   have HR0:=Lib.hid (show RF n=Ps.one from by rw [hRF,← HN.out];show Tr.wySeq x (t.subs.drop t.subs.length)=_;rw [List.drop_length,Tr.wySeq])
   have HRC:=Lib.hid (show ∀ c u,t.subs[c]? = some u→Ps.join (u.wy x) (RF (c+1))=RF c from fun c u hu=>by rw [hRF];exact (Tr.wySeq_drop x t.subs c u hu).symm)
   have HRF:=Lib.hid hRF
   clear hRF
   have HG1:=Lib.hid (show bm < w1.heap.size from (Array.getElem?_eq_some_iff.1 YM.out).1)
   obtain ⟨w10,hw10⟩:∃ w10,w10=w1.alloc (.cells (rsRow (n+1) lo m fun _=>none) 127):=⟨_,rfl⟩
   obtain ⟨gr,hgr⟩:∃ gr,gr=w1.heap.size:=⟨_,rfl⟩
   have hms:(Instr.makeSlice 128 (.int .i64 ((n:Int)+1)) (.int .i64 ((n:Int)+1))).run Tryd.prog w1=.ok (.slice (some ⟨gr,0,none⟩) (n+1) (n+1)) w10:=by
     have h:=make_rs lo m (n+1) (by omega) w1
     rw [show ((n+1:Nat):Int)=(n:Int)+1 by omega] at h
     rw [hw10,hgr]
     exact h
   have hrs0:RsAt w10 gr (n+1) lo m (fun _=>none) RF:=⟨by rw [hgr,hw10];exact heap_alloc_new _ _,fun d g _ h=>by cases h⟩
   have hba:Below w1.heap.size w1 w10:=by rw [hw10];exact (Below.refl w1.heap.size w1).alloc (Nat.le_refl _) _
   have HGR:=Lib.hid (show gr=w1.heap.size from hgr)
   have wl:IntKind.i64.wrap ((n:Int)+1)=(n:Int)+1:=IntWalk.i64_in _ (by omega)
   clear hw10 hgr
   obtain ⟨d0,d1,d2,d3,d4,d5,d6,d7,-⟩:=tk8 YM.out
   obtain ⟨y0,y1,y2,y3,y4,y5,y6,y7,u2,u3,u4,u5,u7⟩:=tk8 (keep_blk hba YM.out)
   go_upto_region 3 with (fail)
   have hrow2:(w10.setCell ⟨bm,5,none⟩ (.slice (some ⟨gr,0,none⟩) (n+1) (n+1))).heap[bm]? = some (.cells #[.int .i64 t.kind,.slice p8 n c8,.int .i64 0,.int .i64 0,.slice none 0 0,.slice (some ⟨gr,0,none⟩) (n+1) (n+1),.int .i64 (n:Int),.bool false] 130):=by
     simp [World.setCell,Array.getElem?_modify,keep_blk hba YM.out]
   have hto:Touch [bm] w10 (w10.setCell ⟨bm,5,none⟩ (.slice (some ⟨gr,0,none⟩) (n+1) (n+1))):=(Touch.of_below [bm] (Below.refl w10.heap.size w10)).setCells (b:=bm) (by simp) 5 [.slice (some ⟨gr,0,none⟩) (n+1) (n+1)]
   clear hms d0 d1 d2 d3 d4 d5 d6 d7 y0 y1 y2 y3 y4 y5 y6 y7 u2 u3 u4 u5 u7
   generalize w10.setCell ⟨bm,5,none⟩ (.slice (some ⟨gr,0,none⟩) (n+1) (n+1))=w3 at *
   have HNE:=Lib.hid (show bm ≠ gr∧w.heap.size ≠ bm∧w.heap.size ≠ gr∧w.heap.size ≤ bm∧w.heap.size ≤ gr from by have:=HGR.out;have:=HG1.out;have:=HBM.out;have:=HL0.out;omega)
   have RSC:=Lib.hid (show RsAt w3 gr (n+1) lo m (fun _=>none) RF from ⟨blk_touch hrs0.1 hto (fun e=>HNE.out.1 e.symm),fun d g _ h=>by cases h⟩)
   have YR:=Lib.hid hrow2
   have TS3:=Lib.hid (show TkrsAt x lo m w3 (fun k=>W0.heap.size ≤ k∧k < bm) (.slice p8 n c8) t.subs from TS.out.keep fun k hk hBk=>(hto.block k (Nat.lt_of_lt_of_le hk hba.size) (by have:=hBk.2;simp;omega)).trans (hba.block k hk))
   have Y0:=Lib.hid (blk_touch (keep_blk hba X0.out) hto HNE.out.2.1)
   have HB3:=Lib.hid ((HB1.out.trans (hba.mono HB1.out.size)).trans (hto.below (B:=w.heap.size) (by intro i hi;have:=HNE.out;simp at hi;omega) (HB1.out.trans (hba.mono HB1.out.size)).size))
   clear hrs0 hba hto hrow2 TS X0 YM HB1
   go_wp2_with fail
   refine Ri.wp_region_last (by kernel_rfl) (by kernel_rfl) (by kernel_rfl) (by kernel_rfl) 11 (by kernel_rfl) (by kernel_rfl) (fun kk ww vv=>match kk with | 0=>vv=.pointer (some ⟨bm,0,none⟩) | 1=>vv=.pointer (some ⟨bm,0,none⟩) | 2=>vv=.pointer (some ⟨bm,5,none⟩) | 3=>vv=.slice (some ⟨gr,0,none⟩) (n+1) (n+1) | 4=>vv=.pointer (some ⟨bm,0,none⟩) | 5=>vv=.pointer (some ⟨bm,0,none⟩) | 6=>vv=.pointer (some ⟨bm,6,none⟩) | 7=>vv=.int .i64 (n:Int) | 8=>vv=.agg #[.pointer (some ⟨bx,0,none⟩),.int .i64 (lo:Int),.int .i64 ((lo:Int)+(m:Int))] | 9=>PsT lo m Ps.one w3.heap.size ww vv | 10=>vv=.pointer (some ⟨gr,n * 3,none⟩) | _=>True) (fun vv ww=>∃ g,RsAt ww gr (n+1) lo m (rsUp (fun _=>none) n g) RF∧Touch [gr] w3 ww∧w3.heap.size ≤ g) (fun kk ww vv w8 h hb=>by
           match kk,h with
           | 0,h=>exact h
           | 1,h=>exact h
           | 2,h=>exact h
           | 3,h=>exact h
           | 4,h=>exact h
           | 5,h=>exact h
           | 6,h=>exact h
           | 7,h=>exact h
           | 8,h=>exact h
           | 9,h=>exact h.below hb
           | 10,h=>exact h
           | _+11,_=>trivial) ?_ ?_ ?_
   · intro i hi9 L v w9 xa hF9 hL hd hv ho
     obtain ⟨hb,hk⟩:=hF9
     have hi':i=0 ∨ i=1 ∨ i=2 ∨ i=3 ∨ i=4 ∨ i=5 ∨ i=6 ∨ i=7 ∨ i=8 ∨ i=9 ∨ i=10:=by omega
     rcases hi' with rfl | rfl | rfl | rfl | rfl | rfl | rfl | rfl | rfl | rfl | rfl
     · have e5:xa.tmps.getD 5 undef=.pointer (some ⟨bm,0,none⟩):=ho 5 (by kernel_rfl)
       refine Ri.step_plain rfl rfl (fun K' hK'=>?_)
       go_simp
       exact hK' _ _ ⟨_,_,rfl,rfl,(Below.refl _ _),rfl⟩
     · have j0:L 0=true:=by have:=hd _ rfl;simp [Region.binds] at this;simp [this]
       have f0:=(hv 0 27 rfl j0).trans (hk 0 j0)
       refine Ri.step_plain rfl rfl (fun K' hK'=>?_)
       go_simp
       exact hK' _ _ ⟨_,_,rfl,rfl,(Below.refl _ _),rfl⟩
     · have j1:L 1=true:=by have:=hd _ rfl;simp [Region.binds] at this;simp [this]
       have f1:=(hv 1 28 rfl j1).trans (hk 1 j1)
       refine Ri.step_plain rfl rfl (fun K' hK'=>?_)
       go_simp
       exact hK' _ _ ⟨_,_,rfl,rfl,(Below.refl _ _),rfl⟩
     · have j2:L 2=true:=by have:=hd _ rfl;simp [Region.binds] at this;simp [this]
       have f2:=(hv 2 29 rfl j2).trans (hk 2 j2)
       refine Ri.step_plain rfl rfl (fun K' hK'=>?_)
       obtain ⟨d0,d1,d2,d3,d4,d5,d6,d7,-⟩:=tk8 (keep_blk hb YR.out)
       go_simp
       exact hK' _ _ ⟨_,_,rfl,rfl,(Below.refl _ _),rfl⟩
     · have e5:xa.tmps.getD 5 undef=.pointer (some ⟨bm,0,none⟩):=ho 5 (by kernel_rfl)
       refine Ri.step_plain rfl rfl (fun K' hK'=>?_)
       go_simp
       exact hK' _ _ ⟨_,_,rfl,rfl,(Below.refl _ _),rfl⟩
     · have j4:L 4=true:=by have:=hd _ rfl;simp [Region.binds] at this;simp [this]
       have f4:=(hv 4 31 rfl j4).trans (hk 4 j4)
       refine Ri.step_plain rfl rfl (fun K' hK'=>?_)
       go_simp
       exact hK' _ _ ⟨_,_,rfl,rfl,(Below.refl _ _),rfl⟩
     · have j5:L 5=true:=by have:=hd _ rfl;simp [Region.binds] at this;simp [this]
       have f5:=(hv 5 32 rfl j5).trans (hk 5 j5)
       refine Ri.step_plain rfl rfl (fun K' hK'=>?_)
       go_simp
       exact hK' _ _ ⟨_,_,rfl,rfl,(Below.refl _ _),rfl⟩
     · have j6:L 6=true:=by have:=hd _ rfl;simp [Region.binds] at this;simp [this]
       have f6:=(hv 6 33 rfl j6).trans (hk 6 j6)
       refine Ri.step_plain rfl rfl (fun K' hK'=>?_)
       obtain ⟨d0,d1,d2,d3,d4,d5,d6,d7,-⟩:=tk8 (keep_blk hb YR.out)
       go_simp
       exact hK' _ _ ⟨_,_,rfl,rfl,(Below.refl _ _),rfl⟩
     · have e2:xa.tmps.getD 2 undef=.pointer (some ⟨w.heap.size,0,none⟩):=ho 2 (by kernel_rfl)
       refine Ri.step_plain rfl rfl (fun K' hK'=>?_)
       refine wp_load_row _ _ rfl _ e2 _ _ _ _ (keep_blk hb Y0.out) Tryd.underlying166 rfl (by kernel_rfl) ?_
       exact hK' _ _ ⟨_,_,rfl,rfl,Below.refl _ _,rfl⟩
     · have j8:L 8=true:=by have:=hd _ rfl;simp [Region.binds] at this;simp [this]
       have f8:=(hv 8 35 rfl j8).trans (hk 8 j8)
       refine Ri.step_plain rfl rfl (fun K' hK'=>?_)
       go_simp
       refine (psempty_any 152 #[] (fun _=>true) _ lo m hlo w9 (fun _ _=>by rfl) (fun k _ wx _=>by simpa using pseverywhere_any _ wx)).mono ?_
       rintro e w8 ⟨g8,rfl,hg8,ht8,hb8⟩
       exact hK' _ _ ⟨_,_,rfl,rfl,hb8,⟨g8,rfl,Nat.le_trans hb.size hg8,Ps.oneAt_true ▸ ht8⟩⟩
     · obtain ⟨j3,j7⟩:L 3=true∧L 7=true:=by have:=hd _ rfl;simp [Region.binds] at this;simp [this]
       have f3:=(hv 3 30 rfl j3).trans (hk 3 j3)
       have f7:=(hv 7 34 rfl j7).trans (hk 7 j7)
       refine Ri.step_plain rfl rfl (fun K' hK'=>?_)
       have hnl:(n:Int) < (n:Int)+1:=by omega
       go_simp
       exact hK' _ _ ⟨_,_,rfl,rfl,(Below.refl _ _),rfl⟩
   · intro L v w9 xa hF9 hall hv ho
     obtain ⟨hb,hk⟩:=hF9
     have f0:=(hv 0 27 rfl (hall 0 (by omega))).trans (hk 0 (hall 0 (by omega)))
     have f1:=(hv 1 28 rfl (hall 1 (by omega))).trans (hk 1 (hall 1 (by omega)))
     have f2:=(hv 2 29 rfl (hall 2 (by omega))).trans (hk 2 (hall 2 (by omega)))
     have f3:=(hv 3 30 rfl (hall 3 (by omega))).trans (hk 3 (hall 3 (by omega)))
     have f4:=(hv 4 31 rfl (hall 4 (by omega))).trans (hk 4 (hall 4 (by omega)))
     have f5:=(hv 5 32 rfl (hall 5 (by omega))).trans (hk 5 (hall 5 (by omega)))
     have f6:=(hv 6 33 rfl (hall 6 (by omega))).trans (hk 6 (hall 6 (by omega)))
     have f7:=(hv 7 34 rfl (hall 7 (by omega))).trans (hk 7 (hall 7 (by omega)))
     have f8:=(hv 8 35 rfl (hall 8 (by omega))).trans (hk 8 (hall 8 (by omega)))
     have k9:PsT lo m Ps.one w3.heap.size w9 (v 9):=hk 9 (hall 9 (by omega))
     have f9:=hv 9 36 rfl (hall 9 (by omega))
     have f10:=(hv 10 37 rfl (hall 10 (by omega))).trans (hk 10 (hall 10 (by omega)))
     refine Ri.step_plain rfl rfl (fun K' hK'=>?_)
     obtain ⟨g8,e8,hg8,ht8⟩:=k9
     unfold Ps.tabV at e8
     replace f9:=f9.trans e8
     clear e8
     have hrs:=RSC.out.later hb
     obtain ⟨c0,c1,c2,z0,z1,z2⟩:=hrs.here (d:=n) (by omega)
     go_simp
     exact hK' _ _ ⟨_,undef,rfl,rfl,⟨g8,hrs.put (by omega) (by have:=RSC.out.lt;omega) ht8 HR0.out.symm,(Touch.of_below [gr] hb).setCells (b:=gr) (by simp) (n * 3) [.int .i64 (lo:Int),.int .i64 ((lo:Int)+(m:Int)),.slice (some ⟨g8,0,none⟩) ((m+1) * (m+1)) ((m+1) * (m+1))],hg8⟩⟩
   · intro v w9 hfin
     obtain ⟨g8,hrs8,hto8,hg8⟩:=hfin
     simp only [Ri.frame,List.zipIdx,List.foldl_cons,List.foldl_nil,if_true,List.setIfInBounds_toArray,List.set_cons_zero,List.set_cons_succ,Nat.reduceAdd]
     generalize v 0=z0;generalize v 1=z1;generalize v 2=z2;generalize v 3=z3;generalize v 4=z4;generalize v 5=z5;generalize v 6=z6;generalize v 7=z7;generalize v 8=z8;generalize v 9=z9;generalize v 10=z10
     have RS9:=Lib.hid hrs8
     have TS9:=Lib.hid (show TkrsAt x lo m w9 (fun k=>W0.heap.size ≤ k∧k < bm) (.slice p8 n c8) t.subs from TS3.out.keep fun k hk hBk=>hto8.block k hk (by have:=hBk.2;have:=HGR.out;have:=HG1.out;simp;omega))
     have YR9:=Lib.hid (blk_touch YR.out hto8 HNE.out.1)
     have Y09:=Lib.hid (blk_touch Y0.out hto8 HNE.out.2.2.1)
     have HB9:=Lib.hid (HB3.out.trans (hto8.below (B:=w.heap.size) (by intro i hi;have:=HNE.out;simp at hi;omega) HB3.out.size))
     have HG8:=Lib.hid (show w.heap.size ≤ g8 from Nat.le_trans HB3.out.size hg8)
     clear hrs8 hto8 hg8 RSC TS3 YR Y0 HB3
     obtain ⟨d0,d1,d2,d3,d4,d5,d6,d7,-⟩:=tk8 YR9.out
     have wn:IntKind.i64.wrap ((n:Int) - 1)=(n:Int) - 1:=IntWalk.i64_in _ (by omega)
     go_wp2
     clear d0 d1 d2 d3 d4 d5 d6 d7 wn wl
     go_loopw [6] (fun iv wr=>∃ (k:Nat) (z:Int) (V9:Nat→Option Nat),iv=.int .i64 z∧k ≤ n∧Hid (z=(k:Int) - 1)∧Hid (RsAt wr gr (n+1) lo m V9 RF)∧Hid (∀ d,k ≤ d→d < n+1→∃ g,V9 d=some g∧w.heap.size ≤ g)∧Hid (wr.heap[bm]? = some (.cells #[.int .i64 t.kind,.slice p8 n c8,.int .i64 0,.int .i64 0,.slice none 0 0,.slice (some ⟨gr,0,none⟩) (n+1) (n+1),.int .i64 (n:Int),.bool false] 130))∧Hid (TkrsAt x lo m wr (fun k=>W0.heap.size ≤ k∧k < bm) (.slice p8 n c8) t.subs)∧Hid (wr.heap[w.heap.size]? = some (.cells #[.pointer (some ⟨bx,0,none⟩),.int .i64 (lo:Int),.int .i64 ((lo:Int)+(m:Int))] 166))∧Hid (Below w.heap.size w wr)) (fun iv _=>(intOf iv+1).toNat)
     case atStart=>exact ⟨n,(n:Int) - 1,_,by simp,Nat.le_refl _,Lib.hid rfl,RS9,Lib.hid (fun d h1 h2=>⟨g8,by unfold rsUp;rw [if_pos (by omega)],HG8.out⟩),YR9,TS9,Y09,HB9⟩
     case round =>
       clear RS9 YR9 TS9 Y09 HB9
       obtain ⟨k,z,V9,rfl,hk,HZ,RSC,HSO,YRr,TSr,Z0,HBE⟩:=hrel
       cases k with
       | succ c =>
         obtain rfl:z=(c:Int):=by have:=HZ.out;omega
         have gz:decide ((0:Int) ≤ (c:Int))=true:=by simp
         obtain ⟨g9,hV9,hg9⟩:=HSO.out (c+1) (by omega) (by omega)
         have HV9:=Lib.hid hV9
         have T9:=Lib.hid (RSC.out.2 (c+1) g9 (by omega) hV9).1
         have hcl:c < t.subs.length:=by rw [HN.out];omega
         obtain ⟨u,hu⟩:∃ u,t.subs[c]? = some u:=⟨_,List.getElem?_eq_getElem hcl⟩
         obtain ⟨pq,cq,Sq,eq9,hp9,hs9⟩:=TSr.out
         injection eq9 with eq1 eq2 eq3
         obtain ⟨g6,o6,e6,hB6,hcell6⟩:=hp9 c u hu
         rw [← eq1] at e6
         subst e6
         obtain ⟨pu,cu,gu,rvu,Su,hBu,hBgu,hcu,hwu,-⟩:=(hs9 c u hu).here
         obtain ⟨bu,hbu⟩:∃ bu,Sq c=bu:=⟨_,rfl⟩
         rw [hbu] at hcell6 hcu hBu
         unfold tkC at hcu
         have HQ6:=Lib.hid (show ∀ w9,Below wr.heap.size wr w9→w9.cell? ⟨g6,o6+c,none⟩=some (.pointer (some ⟨bu,0,none⟩)) from fun w9 hb=>by rw [← hcell6];unfold World.cell?;rw [hb.block _ (block_lt_of_cell hcell6)])
         have YU:=Lib.hid hcu;have TU:=Lib.hid hwu
         have HRJ:=Lib.hid (HRC.out c u hu)
         have HSO8:=Lib.hid (show ∀ g7,w.heap.size ≤ g7→∀ d,c ≤ d→d < n+1→∃ g,rsUp V9 c g7 d=some g∧w.heap.size ≤ g from fun g7 h7 d h1 h2=>by
           unfold rsUp
           by_cases e:d=c
           · rw [if_pos e];exact ⟨g7,rfl,h7⟩
           · rw [if_neg e];exact HSO.out d (by omega) h2)
         clear HZ hV9 hg9 eq1 eq2 eq3 hp9 hs9 hB6 hcell6 hBu hBgu hcu hwu hbu hcl
         have wc1:IntKind.i64.wrap ((c:Int)+1)=(c:Int)+1:=IntWalk.i64_in _ (by omega)
         have hlc:c < n:=by omega
         have hlc2:(c:Int) < (n:Int):=by omega
         have hl0:(0:Int) ≤ (c:Int)+1:=by omega
         have hl2:(c:Int) < (n:Int)+1:=by omega
         go_upto_region 7 with (fail)
         go_wp2_with fail
         refine Ri.wp_region_last (by kernel_rfl) (by kernel_rfl) (by kernel_rfl) (by kernel_rfl) 26 (by kernel_rfl) (by kernel_rfl) (fun kk ww vv=>match kk with | 0=>vv=.pointer (some ⟨bm,0,none⟩) | 1=>vv=.pointer (some ⟨bm,0,none⟩) | 2=>vv=.pointer (some ⟨bm,5,none⟩) | 3=>vv=.slice (some ⟨gr,0,none⟩) (n+1) (n+1) | 4=>vv=.int .i64 (c:Int) | 5=>vv=.agg #[.pointer (some ⟨bx,0,none⟩),.int .i64 (lo:Int),.int .i64 ((lo:Int)+(m:Int))] | 6=>vv=.pointer (some ⟨bm,0,none⟩) | 7=>vv=.pointer (some ⟨bm,0,none⟩) | 8=>vv=.pointer (some ⟨bm,1,none⟩) | 9=>vv=.slice (some ⟨g6,o6,none⟩) n c8 | 10=>vv=.int .i64 (c:Int) | 11=>vv=.pointer (some ⟨g6,o6+c,none⟩) | 12=>vv=.pointer (some ⟨bu,0,none⟩) | 13=>vv=.pointer (some ⟨bu,0,none⟩) | 14=>vv=.pointer (some ⟨bu,2,none⟩) | 15=>vv=.agg #[.int .i64 (lo:Int),.int .i64 ((lo:Int)+(m:Int)),.slice (some ⟨gu,0,none⟩) ((m+1) * (m+1)) ((m+1) * (m+1))] | 16=>vv=.pointer (some ⟨bm,0,none⟩) | 17=>vv=.pointer (some ⟨bm,0,none⟩) | 18=>vv=.pointer (some ⟨bm,5,none⟩) | 19=>vv=.slice (some ⟨gr,0,none⟩) (n+1) (n+1) | 20=>vv=.int .i64 (c:Int) | 21=>vv=.int .i64 ((c:Int)+1) | 22=>vv=.pointer (some ⟨gr,(c+1) * 3,none⟩) | 23=>vv=.agg #[.int .i64 (lo:Int),.int .i64 ((lo:Int)+(m:Int)),.slice (some ⟨g9,0,none⟩) ((m+1) * (m+1)) ((m+1) * (m+1))] | 24=>PsT lo m (Ps.join (u.wy x) (RF (c+1))) wr.heap.size ww vv | 25=>vv=.pointer (some ⟨gr,c * 3,none⟩) | _=>True) (fun vv ww=>∃ g,RsAt ww gr (n+1) lo m (rsUp V9 c g) RF∧Touch [gr] wr ww∧wr.heap.size ≤ g) (fun kk ww vv w8 h hb=>by
                       match kk,h with
                       | 0,h=>exact h
                       | 1,h=>exact h
                       | 2,h=>exact h
                       | 3,h=>exact h
                       | 4,h=>exact h
                       | 5,h=>exact h
                       | 6,h=>exact h
                       | 7,h=>exact h
                       | 8,h=>exact h
                       | 9,h=>exact h
                       | 10,h=>exact h
                       | 11,h=>exact h
                       | 12,h=>exact h
                       | 13,h=>exact h
                       | 14,h=>exact h
                       | 15,h=>exact h
                       | 16,h=>exact h
                       | 17,h=>exact h
                       | 18,h=>exact h
                       | 19,h=>exact h
                       | 20,h=>exact h
                       | 21,h=>exact h
                       | 22,h=>exact h
                       | 23,h=>exact h
                       | 24,h=>exact h.below hb
                       | 25,h=>exact h
                       | _+26,_=>trivial) ?_ ?_ ?_
         · intro i hi9 L v w9 xa hF9 hL hd hv ho
           obtain ⟨hb,hk⟩:=hF9
           have hi':i=0 ∨ i=1 ∨ i=2 ∨ i=3 ∨ i=4 ∨ i=5 ∨ i=6 ∨ i=7 ∨ i=8 ∨ i=9 ∨ i=10 ∨ i=11 ∨ i=12 ∨ i=13 ∨ i=14 ∨ i=15 ∨ i=16 ∨ i=17 ∨ i=18 ∨ i=19 ∨ i=20 ∨ i=21 ∨ i=22 ∨ i=23 ∨ i=24 ∨ i=25:=by omega
           rcases hi' with rfl | rfl | rfl | rfl | rfl | rfl | rfl | rfl | rfl | rfl | rfl | rfl | rfl | rfl | rfl | rfl | rfl | rfl | rfl | rfl | rfl | rfl | rfl | rfl | rfl | rfl
           · have e5:xa.tmps.getD 5 undef=.pointer (some ⟨bm,0,none⟩):=ho 5 (by kernel_rfl)
             refine Ri.step_plain rfl rfl (fun K' hK'=>?_)
             go_simp
             exact hK' _ _ ⟨_,_,rfl,rfl,(Below.refl _ _),rfl⟩
           · have j0:L 0=true:=by have:=hd _ rfl;simp [Region.binds] at this;simp [this]
             have f0:=(hv 0 47 rfl j0).trans (hk 0 j0)
             refine Ri.step_plain rfl rfl (fun K' hK'=>?_)
             go_simp
             exact hK' _ _ ⟨_,_,rfl,rfl,(Below.refl _ _),rfl⟩
           · have j1:L 1=true:=by have:=hd _ rfl;simp [Region.binds] at this;simp [this]
             have f1:=(hv 1 48 rfl j1).trans (hk 1 j1)
             refine Ri.step_plain rfl rfl (fun K' hK'=>?_)
             go_simp
             exact hK' _ _ ⟨_,_,rfl,rfl,(Below.refl _ _),rfl⟩
           · have j2:L 2=true:=by have:=hd _ rfl;simp [Region.binds] at this;simp [this]
             have f2:=(hv 2 49 rfl j2).trans (hk 2 j2)
             refine Ri.step_plain rfl rfl (fun K' hK'=>?_)
             obtain ⟨d0,d1,d2,d3,d4,d5,d6,d7,-⟩:=tk8 (keep_blk hb YRr.out)
             go_simp
             exact hK' _ _ ⟨_,_,rfl,rfl,(Below.refl _ _),rfl⟩
           · have e6:xa.tmps.getD 6 undef=.int .i64 (c:Int):=ho 6 (by kernel_rfl)
             refine Ri.step_plain rfl rfl (fun K' hK'=>?_)
             go_simp
             exact hK' _ _ ⟨_,_,rfl,rfl,(Below.refl _ _),rfl⟩
           · have e2:xa.tmps.getD 2 undef=.pointer (some ⟨w.heap.size,0,none⟩):=ho 2 (by kernel_rfl)
             refine Ri.step_plain rfl rfl (fun K' hK'=>?_)
             refine wp_load_row _ _ rfl _ e2 _ _ _ _ (keep_blk hb Z0.out) Tryd.underlying166 rfl (by kernel_rfl) ?_
             exact hK' _ _ ⟨_,_,rfl,rfl,Below.refl _ _,rfl⟩
           · have e5:xa.tmps.getD 5 undef=.pointer (some ⟨bm,0,none⟩):=ho 5 (by kernel_rfl)
             refine Ri.step_plain rfl rfl (fun K' hK'=>?_)
             go_simp
             exact hK' _ _ ⟨_,_,rfl,rfl,(Below.refl _ _),rfl⟩
           · have j6:L 6=true:=by have:=hd _ rfl;simp [Region.binds] at this;simp [this]
             have f6:=(hv 6 53 rfl j6).trans (hk 6 j6)
             refine Ri.step_plain rfl rfl (fun K' hK'=>?_)
             go_simp
             exact hK' _ _ ⟨_,_,rfl,rfl,(Below.refl _ _),rfl⟩
           · have j7:L 7=true:=by have:=hd _ rfl;simp [Region.binds] at this;simp [this]
             have f7:=(hv 7 54 rfl j7).trans (hk 7 j7)
             refine Ri.step_plain rfl rfl (fun K' hK'=>?_)
             go_simp
             exact hK' _ _ ⟨_,_,rfl,rfl,(Below.refl _ _),rfl⟩
           · have j8:L 8=true:=by have:=hd _ rfl;simp [Region.binds] at this;simp [this]
             have f8:=(hv 8 55 rfl j8).trans (hk 8 j8)
             refine Ri.step_plain rfl rfl (fun K' hK'=>?_)
             obtain ⟨d0,d1,d2,d3,d4,d5,d6,d7,-⟩:=tk8 (keep_blk hb YRr.out)
             go_simp
             exact hK' _ _ ⟨_,_,rfl,rfl,(Below.refl _ _),rfl⟩
           · have e6:xa.tmps.getD 6 undef=.int .i64 (c:Int):=ho 6 (by kernel_rfl)
             refine Ri.step_plain rfl rfl (fun K' hK'=>?_)
             go_simp
             exact hK' _ _ ⟨_,_,rfl,rfl,(Below.refl _ _),rfl⟩
           · obtain ⟨j9,j10⟩:L 9=true∧L 10=true:=by have:=hd _ rfl;simp [Region.binds] at this;simp [this]
             have f9:=(hv 9 56 rfl j9).trans (hk 9 j9)
             have f10:=(hv 10 57 rfl j10).trans (hk 10 j10)
             refine Ri.step_plain rfl rfl (fun K' hK'=>?_)
             go_simp
             exact hK' _ _ ⟨_,_,rfl,rfl,(Below.refl _ _),rfl⟩
           · have j11:L 11=true:=by have:=hd _ rfl;simp [Region.binds] at this;simp [this]
             have f11:=(hv 11 58 rfl j11).trans (hk 11 j11)
             refine Ri.step_plain rfl rfl (fun K' hK'=>?_)
             have q6:=HQ6.out w9 hb
             go_simp
             exact hK' _ _ ⟨_,_,rfl,rfl,(Below.refl _ _),rfl⟩
           · have j12:L 12=true:=by have:=hd _ rfl;simp [Region.binds] at this;simp [this]
             have f12:=(hv 12 59 rfl j12).trans (hk 12 j12)
             refine Ri.step_plain rfl rfl (fun K' hK'=>?_)
             go_simp
             exact hK' _ _ ⟨_,_,rfl,rfl,(Below.refl _ _),rfl⟩
           · have j13:L 13=true:=by have:=hd _ rfl;simp [Region.binds] at this;simp [this]
             have f13:=(hv 13 60 rfl j13).trans (hk 13 j13)
             refine Ri.step_plain rfl rfl (fun K' hK'=>?_)
             go_simp
             exact hK' _ _ ⟨_,_,rfl,rfl,(Below.refl _ _),rfl⟩
           · have j14:L 14=true:=by have:=hd _ rfl;simp [Region.binds] at this;simp [this]
             have f14:=(hv 14 61 rfl j14).trans (hk 14 j14)
             refine Ri.step_plain rfl rfl (fun K' hK'=>?_)
             obtain ⟨d0,d1,d2,d3,d4,d5,d6,d7,-⟩:=tk8 (keep_blk hb YU.out)
             go_simp
             exact hK' _ _ ⟨_,_,rfl,rfl,(Below.refl _ _),rfl⟩
           · have e5:xa.tmps.getD 5 undef=.pointer (some ⟨bm,0,none⟩):=ho 5 (by kernel_rfl)
             refine Ri.step_plain rfl rfl (fun K' hK'=>?_)
             go_simp
             exact hK' _ _ ⟨_,_,rfl,rfl,(Below.refl _ _),rfl⟩
           · have j16:L 16=true:=by have:=hd _ rfl;simp [Region.binds] at this;simp [this]
             have f16:=(hv 16 63 rfl j16).trans (hk 16 j16)
             refine Ri.step_plain rfl rfl (fun K' hK'=>?_)
             go_simp
             exact hK' _ _ ⟨_,_,rfl,rfl,(Below.refl _ _),rfl⟩
           · have j17:L 17=true:=by have:=hd _ rfl;simp [Region.binds] at this;simp [this]
             have f17:=(hv 17 64 rfl j17).trans (hk 17 j17)
             refine Ri.step_plain rfl rfl (fun K' hK'=>?_)
             go_simp
             exact hK' _ _ ⟨_,_,rfl,rfl,(Below.refl _ _),rfl⟩
           · have j18:L 18=true:=by have:=hd _ rfl;simp [Region.binds] at this;simp [this]
             have f18:=(hv 18 65 rfl j18).trans (hk 18 j18)
             refine Ri.step_plain rfl rfl (fun K' hK'=>?_)
             obtain ⟨d0,d1,d2,d3,d4,d5,d6,d7,-⟩:=tk8 (keep_blk hb YRr.out)
             go_simp
             exact hK' _ _ ⟨_,_,rfl,rfl,(Below.refl _ _),rfl⟩
           · have e6:xa.tmps.getD 6 undef=.int .i64 (c:Int):=ho 6 (by kernel_rfl)
             refine Ri.step_plain rfl rfl (fun K' hK'=>?_)
             go_simp
             exact hK' _ _ ⟨_,_,rfl,rfl,(Below.refl _ _),rfl⟩
           · have j20:L 20=true:=by have:=hd _ rfl;simp [Region.binds] at this;simp [this]
             have f20:=(hv 20 67 rfl j20).trans (hk 20 j20)
             refine Ri.step_plain rfl rfl (fun K' hK'=>?_)
             go_simp
             exact hK' _ _ ⟨_,_,rfl,rfl,(Below.refl _ _),rfl⟩
           · obtain ⟨j19,j21⟩:L 19=true∧L 21=true:=by have:=hd _ rfl;simp [Region.binds] at this;simp [this]
             have f19:=(hv 19 66 rfl j19).trans (hk 19 j19)
             have f21:=(hv 21 68 rfl j21).trans (hk 21 j21)
             refine Ri.step_plain rfl rfl (fun K' hK'=>?_)
             go_simp
             exact hK' _ _ ⟨_,_,rfl,rfl,(Below.refl _ _),rfl⟩
           · have j22:L 22=true:=by have:=hd _ rfl;simp [Region.binds] at this;simp [this]
             have f22:=(hv 22 69 rfl j22).trans (hk 22 j22)
             refine Ri.step_plain rfl rfl (fun K' hK'=>?_)
             obtain ⟨c0,c1,c2,-⟩:=(RSC.out.later hb).cells (d:=c+1) (by omega) HV9.out
             go_simp
             exact hK' _ _ ⟨_,_,rfl,rfl,(Below.refl _ _),rfl⟩
           · obtain ⟨j5,j15,j23⟩:L 5=true∧L 15=true∧L 23=true:=by have:=hd _ rfl;simp [Region.binds] at this;simp [this]
             have f5:=(hv 5 52 rfl j5).trans (hk 5 j5)
             have f15:=(hv 15 62 rfl j15).trans (hk 15 j15)
             have f23:=(hv 23 70 rfl j23).trans (hk 23 j23)
             refine Ri.step_plain rfl rfl (fun K' hK'=>?_)
             go_simp
             refine (psjoined_any _ gu g9 lo m hlo (u.wy x) (RF (c+1)) w9 (TU.out.later hb) (T9.out.later hb)).mono ?_
             rintro e w8 ⟨g8,rfl,hg8,ht8,hb8⟩
             exact hK' _ _ ⟨_,_,rfl,rfl,hb8,⟨g8,rfl,Nat.le_trans hb.size hg8,ht8⟩⟩
           · obtain ⟨j3,j4⟩:L 3=true∧L 4=true:=by have:=hd _ rfl;simp [Region.binds] at this;simp [this]
             have f3:=(hv 3 50 rfl j3).trans (hk 3 j3)
             have f4:=(hv 4 51 rfl j4).trans (hk 4 j4)
             refine Ri.step_plain rfl rfl (fun K' hK'=>?_)
             go_simp
             exact hK' _ _ ⟨_,_,rfl,rfl,(Below.refl _ _),rfl⟩
         · intro L v w9 xa hF9 hall hv ho
           obtain ⟨hb,hk⟩:=hF9
           have f0:=(hv 0 47 rfl (hall 0 (by omega))).trans (hk 0 (hall 0 (by omega)))
           have f1:=(hv 1 48 rfl (hall 1 (by omega))).trans (hk 1 (hall 1 (by omega)))
           have f2:=(hv 2 49 rfl (hall 2 (by omega))).trans (hk 2 (hall 2 (by omega)))
           have f3:=(hv 3 50 rfl (hall 3 (by omega))).trans (hk 3 (hall 3 (by omega)))
           have f4:=(hv 4 51 rfl (hall 4 (by omega))).trans (hk 4 (hall 4 (by omega)))
           have f5:=(hv 5 52 rfl (hall 5 (by omega))).trans (hk 5 (hall 5 (by omega)))
           have f6:=(hv 6 53 rfl (hall 6 (by omega))).trans (hk 6 (hall 6 (by omega)))
           have f7:=(hv 7 54 rfl (hall 7 (by omega))).trans (hk 7 (hall 7 (by omega)))
           have f8:=(hv 8 55 rfl (hall 8 (by omega))).trans (hk 8 (hall 8 (by omega)))
           have f9:=(hv 9 56 rfl (hall 9 (by omega))).trans (hk 9 (hall 9 (by omega)))
           have f10:=(hv 10 57 rfl (hall 10 (by omega))).trans (hk 10 (hall 10 (by omega)))
           have f11:=(hv 11 58 rfl (hall 11 (by omega))).trans (hk 11 (hall 11 (by omega)))
           have f12:=(hv 12 59 rfl (hall 12 (by omega))).trans (hk 12 (hall 12 (by omega)))
           have f13:=(hv 13 60 rfl (hall 13 (by omega))).trans (hk 13 (hall 13 (by omega)))
           have f14:=(hv 14 61 rfl (hall 14 (by omega))).trans (hk 14 (hall 14 (by omega)))
           have f15:=(hv 15 62 rfl (hall 15 (by omega))).trans (hk 15 (hall 15 (by omega)))
           have f16:=(hv 16 63 rfl (hall 16 (by omega))).trans (hk 16 (hall 16 (by omega)))
           have f17:=(hv 17 64 rfl (hall 17 (by omega))).trans (hk 17 (hall 17 (by omega)))
           have f18:=(hv 18 65 rfl (hall 18 (by omega))).trans (hk 18 (hall 18 (by omega)))
           have f19:=(hv 19 66 rfl (hall 19 (by omega))).trans (hk 19 (hall 19 (by omega)))
           have f20:=(hv 20 67 rfl (hall 20 (by omega))).trans (hk 20 (hall 20 (by omega)))
           have f21:=(hv 21 68 rfl (hall 21 (by omega))).trans (hk 21 (hall 21 (by omega)))
           have f22:=(hv 22 69 rfl (hall 22 (by omega))).trans (hk 22 (hall 22 (by omega)))
           have f23:=(hv 23 70 rfl (hall 23 (by omega))).trans (hk 23 (hall 23 (by omega)))
           have k24:PsT lo m (Ps.join (u.wy x) (RF (c+1))) wr.heap.size w9 (v 24):=hk 24 (hall 24 (by omega))
           have f24:=hv 24 71 rfl (hall 24 (by omega))
           have f25:=(hv 25 72 rfl (hall 25 (by omega))).trans (hk 25 (hall 25 (by omega)))
           refine Ri.step_plain rfl rfl (fun K' hK'=>?_)
           obtain ⟨g8,e8,hg8,ht8⟩:=k24
           unfold Ps.tabV at e8
           replace f24:=f24.trans e8
           clear e8
           have hrs:=RSC.out.later hb
           obtain ⟨c0,c1,c2,z0,z1,z2⟩:=hrs.here (d:=c) (by omega)
           go_simp
           exact hK' _ _ ⟨_,undef,rfl,rfl,⟨g8,hrs.put (by omega) (by have:=RSC.out.lt;omega) ht8 HRJ.out,(Touch.of_below [gr] hb).setCells (b:=gr) (by simp) (c * 3) [.int .i64 (lo:Int),.int .i64 ((lo:Int)+(m:Int)),.slice (some ⟨g8,0,none⟩) ((m+1) * (m+1)) ((m+1) * (m+1))],hg8⟩⟩
         · intro v w9 hfin
           obtain ⟨g7,hrs8,hto8,hg8⟩:=hfin
           simp only [Ri.frame,List.zipIdx,List.foldl_cons,List.foldl_nil,if_true,List.setIfInBounds_toArray,List.set_cons_zero,List.set_cons_succ,Nat.reduceAdd]
           generalize v 0=z0;generalize v 1=z1;generalize v 2=z2;generalize v 3=z3;generalize v 4=z4;generalize v 5=z5;generalize v 6=z6;generalize v 7=z7;generalize v 8=z8;generalize v 9=z9;generalize v 10=z10;generalize v 11=z11;generalize v 12=z12;generalize v 13=z13;generalize v 14=z14;generalize v 15=z15;generalize v 16=z16;generalize v 17=z17;generalize v 18=z18;generalize v 19=z19;generalize v 20=z20;generalize v 21=z21;generalize v 22=z22;generalize v 23=z23;generalize v 24=z24;generalize v 25=z25
           have RS8:=Lib.hid hrs8
           have TS8:=Lib.hid (show TkrsAt x lo m w9 (fun k=>W0.heap.size ≤ k∧k < bm) (.slice (some ⟨g6,o6,none⟩) n c8) t.subs from TSr.out.keep fun k hk hBk=>hto8.block k hk (by have:=hBk.2;have:=HGR.out;have:=HG1.out;simp;omega))
           have YR8:=Lib.hid (blk_touch YRr.out hto8 HNE.out.1)
           have Y08:=Lib.hid (blk_touch Z0.out hto8 HNE.out.2.2.1)
           have HB8:=Lib.hid (HBE.out.trans (hto8.below (B:=w.heap.size) (by intro i hi;have:=HNE.out;simp at hi;omega) HBE.out.size))
           have HS8:=Lib.hid (HSO8.out g7 (Nat.le_trans HBE.out.size hg8))
           have wj:IntKind.i64.wrap ((c:Int) - 1)=(c:Int) - 1:=IntWalk.i64_in _ (by omega)
           clear wc1 hlc hlc2 hl0 hl2 hrs8 hto8 hg8 RSC TSr YRr Z0 HBE HSO HSO8 T9 HV9 HRJ YU TU HQ6 hu
           go_wp2
           exact ⟨⟨c,(c:Int) - 1,rsUp V9 c g7,by simp,by omega,Lib.hid rfl,RS8,HS8,YR8,TS8,Y08,HB8⟩,by simp [intOf]⟩
       | zero =>
         obtain rfl:z = -1:=by have:=HZ.out;omega
         obtain ⟨g0,hV0,hg0⟩:=HSO.out 0 (Nat.zero_le _) (by omega)
         have T0:=(RSC.out.2 0 g0 (by omega) hV0).1
         obtain ⟨c0,c1,c2,-⟩:=RSC.out.cells (d:=0) (by omega) hV0
         simp only [Nat.zero_mul,Nat.zero_add] at c0 c1 c2
         obtain ⟨d0,d1,d2,d3,d4,d5,d6,d7,u2,u3,u4,-,-⟩:=tk8 YRr.out
         have hn1:(0:Int) < (n:Int)+1:=by omega
         have HT0:=Lib.hid T0;have HV0:=Lib.hid hV0;have HG0:=Lib.hid hg0
         clear T0 hV0 hg0 HZ
         go_wp2
         clear c0 c1 c2 d0 d1 d2 d3 d4 d5 d6 d7 u2 u3 u4
         have hrow:(((wr.setCell ⟨bm,2,none⟩ (.int .i64 (lo:Int))).setCell ⟨bm,3,none⟩ (.int .i64 ((lo:Int)+(m:Int)))).setCell ⟨bm,4,none⟩ (.slice (some ⟨g0,0,none⟩) ((m+1) * (m+1)) ((m+1) * (m+1)))).heap[bm]? = some (.cells #[.int .i64 t.kind,.slice p8 n c8,.int .i64 (lo:Int),.int .i64 ((lo:Int)+(m:Int)),.slice (some ⟨g0,0,none⟩) ((m+1) * (m+1)) ((m+1) * (m+1)),.slice (some ⟨gr,0,none⟩) (n+1) (n+1),.int .i64 (n:Int),.bool false] 130):=by simp [World.setCell,Array.getElem?_modify,YRr.out]
         have hto:Touch [bm] wr (((wr.setCell ⟨bm,2,none⟩ (.int .i64 (lo:Int))).setCell ⟨bm,3,none⟩ (.int .i64 ((lo:Int)+(m:Int)))).setCell ⟨bm,4,none⟩ (.slice (some ⟨g0,0,none⟩) ((m+1) * (m+1)) ((m+1) * (m+1)))):=(Touch.of_below [bm] (Below.refl wr.heap.size wr)).setCells (b:=bm) (by simp) 2 [.int .i64 (lo:Int),.int .i64 ((lo:Int)+(m:Int)),.slice (some ⟨g0,0,none⟩) ((m+1) * (m+1)) ((m+1) * (m+1))]
         generalize ((wr.setCell ⟨bm,2,none⟩ (.int .i64 (lo:Int))).setCell ⟨bm,3,none⟩ (.int .i64 ((lo:Int)+(m:Int)))).setCell ⟨bm,4,none⟩ (.slice (some ⟨g0,0,none⟩) ((m+1) * (m+1)) ((m+1) * (m+1)))=w12 at *
         go_ret
         have hne:∀ d g,d < n+1→V9 d=some g→g ≠ bm:=fun d g hd hg e=>by
           have h1:=(RSC.out.2 d g hd hg).1
           unfold TabAtP at h1
           rw [e,YRr.out] at h1
           injection h1 with h1
           injection h1 with h1 h2
           revert h2
           decide
         have hk8:t.tkSubs=t.subs:=by unfold Tr.tkSubs;rw [if_neg (by rw [HK.out];simp)]
         have hm8:t.mustI=(n:Int):=by unfold Tr.mustI;rw [if_pos HK.out,HN.out]
         have ha8:t.aloneB=false:=by unfold Tr.aloneB;rw [HK.out];rfl
         have hR8:t.restN=n+1:=by unfold Tr.restN;rw [if_pos HK.out,HN.out]
         have hT8:t.restT x=RF:=by rw [HRF.out];funext d;unfold Tr.restT;rw [if_pos HK.out]
         have hW8:t.wy x=RF 0:=by rw [Tr.wy_eq,HK.out,HRF.out];simp
         have hts:=TSr.out.keep fun k hk hBk=>hto.block k hk (by have:=hBk.2;simp;omega)
         have hwz:=HB1Z.out
         obtain ⟨pq,cq,Sq,eq9,hp9,hs9⟩:=hts
         injection eq9 with eq1 eq2 eq3
         subst eq1 eq3
         refine ⟨bm,rfl,.mk bm t p8 c8 g0 (.slice (some ⟨gr,0,none⟩) (n+1) (n+1)) Sq HNE.out.2.2.2.1 HG0.out ?_ ?_ (.inr ⟨gr,V9,by rw [hR8],HNE.out.2.2.2.2, ?_, ?_⟩) ?_ ?_, ?_⟩
         · unfold tkC;rw [hk8,HN.out,hm8,ha8];exact hrow
         · rw [hW8];exact HT0.out.touch hto (hne 0 g0 (by omega) HV0.out)
         · rw [hR8,hT8];exact RSC.out.keep (hto.block _ RSC.out.lt (by have:=HNE.out.1;simp;omega)) fun d g hd hg=>hto.block _ (RSC.out.2 d g hd hg).1.lt (by have:=hne d g hd hg;simpa using this)
         · rw [hR8];exact fun d hd=>HSO.out d (Nat.zero_le _) hd
         · rw [hk8];exact fun i u hu=>(hp9 i u hu).imp fun g hg=>hg.imp fun o ho=>⟨ho.1,Nat.le_trans hwz ho.2.1.1,ho.2.2⟩
         · rw [hk8];exact fun i u hu=>(hs9 i u hu).wider fun k hk=>Nat.le_trans hwz hk.1
         · exact HBE.out.trans (hto.below (B:=w.heap.size) (by intro i hi;have:=HNE.out;simp at hi;omega) HBE.out.size)
end Go.Proofs.YtedjkbmfpjmlpaaDoor
namespace Go.Proofs.YtedjkbmfpjmlpaaDoor
open Go.RowKit
def Tr.subI (t:Tr) (d:Nat):Nat:=if t.kind=5 then d else 0
theorem pssub_any (x:Sc) (lo m d b:Nat) (t u:Tr) (w:World) (B:Nat→Prop) (h:TkrAt x lo m w B b t) (hu:t.tkSubs[t.subI d]? = some u) :
   Calls Tryd.prog 175 #[.pointer (some ⟨b,0,none⟩),.int .i64 (d:Int)] w fun e w'=>∃ c,e=.returned (.pointer (some ⟨c,0,none⟩))∧TkrAt x lo m w' B c u∧Below w.heap.size w w':=by
 obtain ⟨p,cap,gw,rv,S,-,-,hc,-,-,hp,hs⟩:=h.here
 obtain ⟨g,o,rfl,-,hcell⟩:=hp _ u hu
 have hlt:=lt_of_some hu
 have HS:=Lib.hid (hs _ u hu)
 unfold tkC at hc
 obtain ⟨d0,d1,d2,d3,d4,d5,d6,d7,-⟩:=tk8 hc
 clear h hp hs hc hu d2 d3 d4 d5 d6 d7
 unfold Tr.subI at *
 generalize t.tkSubs.length=n at *
 by_cases h5:t.kind=5
 · rw [if_pos h5] at *
   have e5:(t.kind == 5)=true:=by rw [h5];rfl
   clear h5
   go_enter Tryd.func175,Tryd.ntmps175
   go_wp2
   go_ret
   exact ⟨_,rfl,HS.out,Below.refl _ _⟩
 · rw [if_neg h5] at *
   have e5:(t.kind == 5)=false:=by rw [beq_eq_false_iff_ne];exact h5
   rw [Nat.add_zero] at hcell
   clear h5
   go_enter Tryd.func175,Tryd.ntmps175
   go_wp2
   go_ret
   exact ⟨_,rfl,HS.out,Below.refl _ _⟩
theorem psnext_any (x:Sc) (lo m d b:Nat) (hd:d ≤ 1000000) (t:Tr) (hr:0 < t.restN) (hrn:t.restN ≤ 1000000) (w:World) (B:Nat→Prop) (h:TkrAt x lo m w B b t) :
   Calls Tryd.prog 176 #[.pointer (some ⟨b,0,none⟩),.int .i64 (d:Int)] w fun e w'=>e=.returned (.int .i64 (min (d+1) (t.restN - 1):Nat))∧Below w.heap.size w w':=by
 obtain ⟨p,cap,gw,rv,S,-,-,hc,-,hrest,-,-⟩:=h.here
 obtain ⟨q,hrv⟩:∃ q,rv=.slice q t.restN t.restN:=by
   rcases hrest with ⟨h0,-⟩ | ⟨gr,V,e,-⟩
   · omega
   · exact ⟨_,e⟩
 subst hrv
 unfold tkC at hc
 obtain ⟨d0,d1,d2,d3,d4,d5,d6,d7,-⟩:=tk8 hc
 clear h hc hrest d0 d1 d2 d3 d4 d6 d7
 generalize t.restN=n at *
 have w1:IntKind.i64.wrap ((d:Int)+1)=(d:Int)+1:=IntWalk.i64_in _ (by omega)
 have w2:IntKind.i64.wrap ((n:Int) - 1)=(n:Int) - 1:=IntWalk.i64_in _ (by omega)
 go_enter Tryd.func176,Tryd.ntmps176
 go_wp2
 all_goals
   go_ret
   exact ⟨ret_int (by omega),Below.refl _ _⟩
theorem psshortest_any (x:Sc) (lo m d b:Nat) (i:Nat) (hi:i ≤ 1000000) (t:Tr) (w:World) (B:Nat→Prop) (h:TkrAt x lo m w B b t) :
   Calls Tryd.prog 177 #[.pointer (some ⟨b,0,none⟩),.int .i64 (d:Int),.int .i64 (i:Int)] w fun e w'=>e=.returned (.int .i64 (if t.mustI ≤ (d:Int) then (i:Int)+1 else (i:Int)))∧Below w.heap.size w w':=by
 obtain ⟨p,cap,gw,rv,S,-,-,hc,-,-,-,-⟩:=h.here
 unfold tkC at hc
 obtain ⟨d0,d1,d2,d3,d4,d5,d6,d7,-⟩:=tk8 hc
 clear h hc d0 d1 d2 d3 d4 d5 d7
 generalize t.mustI=n at *
 have w1:IntKind.i64.wrap ((i:Int)+1)=(i:Int)+1:=IntWalk.i64_in _ (by omega)
 by_cases hn:n ≤ (d:Int)
 · have hd:decide ((d:Int) ≥ n)=true:=decide_eq_true hn
   rw [if_pos hn]
   go_enter Tryd.func177,Tryd.ntmps177
   go_wp2
   go_ret
   exact ⟨rfl,Below.refl _ _⟩
 · have hd:decide ((d:Int) ≥ n)=false:=decide_eq_false hn
   rw [if_neg hn]
   go_enter Tryd.func177,Tryd.ntmps177
   go_wp2
   go_ret
   exact ⟨rfl,Below.refl _ _⟩
end Go.Proofs.YtedjkbmfpjmlpaaDoor
namespace Go.Proofs.YtedjkbmfpjmlpaaDoor
open Go.RowKit
structure Chg (Rg:Nat→Prop) (w w':World):Prop where
 os:w'.os=w.os
 tape:w'.tape=w.tape
 output:w'.output=w.output
 size:w.heap.size ≤ w'.heap.size
 block:∀ k,k < w.heap.size→¬ Rg k→w'.heap[k]? = w.heap[k]?
theorem Chg.of_below {Rg:Nat→Prop} {w w':World} (h:Below w.heap.size w w'):Chg Rg w w':=⟨h.os,h.tape,h.output,h.size,fun k hk _=>h.block k hk⟩
theorem Chg.trans {Rg:Nat→Prop} {a b c:World} (h:Chg Rg a b) (k:Chg Rg b c):Chg Rg a c :=
 ⟨k.os.trans h.os,k.tape.trans h.tape,k.output.trans h.output,Nat.le_trans h.size k.size,fun i hi hr=>(k.block i (Nat.lt_of_lt_of_le hi h.size) hr).trans (h.block i hi hr)⟩
theorem Chg.wider {Rg Rs:Nat→Prop} {a b:World} (h:Chg Rg a b) (hR:∀ k,Rg k→Rs k):Chg Rs a b:=⟨h.os,h.tape,h.output,h.size,fun k hk hr=>h.block k hk fun hg=>hr (hR k hg)⟩
def Tld {σ:Type} (Rg:Nat→Prop) (Inv Stop:σ→World→Prop) (r:Bool × σ) (w w':World):Prop:=(r.1=true→Inv r.2 w'∧Chg Rg w w')∧(r.1=false→Stop r.2 w')
theorem Tld.map {σ:Type} {Rg:Nat→Prop} {Inv Inv' Stop:σ→World→Prop} {r:Bool × σ} {w w1 w2:World} (h:Tld Rg Inv Stop r w1 w2) (h0:Chg Rg w w1) (hI:Inv r.2 w2→Chg Rg w1 w2→Inv' r.2 w2):Tld Rg Inv' Stop r w w2:=⟨fun e=>⟨hI (h.1 e).1 (h.1 e).2,h0.trans (h.1 e).2⟩,h.2⟩
theorem Tld.yes {σ:Type} {Rg:Nat→Prop} {Inv Stop:σ→World→Prop} {s:σ} {w w':World} (hI:Inv s w') (hc:Chg Rg w w'):Tld Rg Inv Stop (true,s) w w':=⟨fun _=>⟨hI,hc⟩,fun e=>by cases e⟩
theorem Tld.no {σ:Type} {Rg:Nat→Prop} {Inv Stop:σ→World→Prop} {s:σ} {w w':World} (h:Stop s w'):Tld Rg Inv Stop (false,s) w w':=⟨fun e=>(by cases e),fun _=>h⟩
theorem Chg.refl (Rg:Nat→Prop) (w:World):Chg Rg w w:=⟨rfl,rfl,rfl,Nat.le_refl _,fun _ _ _=>rfl⟩
structure Fnd {σ:Type} (K:FuncId) (caps:Array Value) (base:Nat) (Rg:Nat→Prop) (Inv Stop:σ→World→Prop) (step:σ→Pa→Bool × σ):Prop where
 enter:∀ args w,(callFunc K args).run Tryd.prog w=.ok (.enter K args) w
 low:∀ b,Rg b→b < base
 stable:∀ s w w',Inv s w→Below base w w'→Inv s w'
 call:∀ s w v p,Inv s w→base ≤ w.heap.size→PaV w (fun b=>¬ Rg b) v p→Calls Tryd.prog K (#[v] ++ caps) w fun e w'=>e=.returned (.bool (step s p).1)∧Tld Rg Inv Stop (step s p) w w'
structure Endr {σ:Type} (K:FuncId) (caps:Array Value) (base:Nat) (Rg:Nat→Prop) (Inv Stop:σ→World→Prop) (step:σ→Nat→List Pa→Bool × σ):Prop where
 enter:∀ args w,(callFunc K args).run Tryd.prog w=.ok (.enter K args) w
 low:∀ b,Rg b→b < base
 stable:∀ s w w',Inv s w→Below base w w'→Inv s w'
 call:∀ s w k v ps,Inv s w→base ≤ w.heap.size→PasAt w (fun b=>¬ Rg b) v ps→Calls Tryd.prog K (#[.int .i64 ((k:Nat):Int),v] ++ caps) w fun e w'=>e=.returned (.bool (step s k ps).1)∧Tld Rg Inv Stop (step s k ps) w w'
def runC {σ α:Type} (step:σ→α→Bool × σ):σ→List α→Bool × σ
 | s,[]=>(true,s)
 | s,p :: l=>if (step s p).1=true then runC step (step s p).2 l else (false,(step s p).2)
theorem runC_append {σ α:Type} (step:σ→α→Bool × σ):∀ (a b:List α) (s:σ),runC step s (a ++ b)=if (runC step s a).1=true then runC step (runC step s a).2 b else (false,(runC step s a).2)
 | [],b,s=>by simp [runC]
 | p :: a,b,s=>by
   rw [List.cons_append,runC,runC]
   by_cases h:(step s p).1=true
   · rw [if_pos h,if_pos h,runC_append step a b]
   · rw [if_neg h,if_neg h,if_neg (by simp)]
theorem runC_map {σ α β:Type} (step:σ→α→Bool × σ) (f:β→α):∀ (l:List β) (s:σ),runC step s (l.map f)=runC (fun s b=>step s (f b)) s l
 | [],s=>rfl
 | p :: l,s=>by rw [List.map_cons,runC,runC,runC_map step f l]
theorem runC_flat {σ α β:Type} (step:σ→α→Bool × σ) (f:β→List α):∀ (l:List β) (s:σ),runC step s (l.flatMap f)=runC (fun s b=>runC step s (f b)) s l
 | [],s=>rfl
 | p :: l,s=>by
   rw [List.flatMap_cons,runC_append,runC,runC_flat step f l]
theorem FourAt.of_row {w:World} {g:Nat} {t:Pa} {s:Value} {ty:TypeId} (h:w.heap[g]? = some (.cells (t.cells s) ty)):FourAt w g 0 t s:=by
 have e:∀ j,w.cell? ⟨g,j,none⟩=(t.cells s)[j]?:=fun j=>by simp [World.cell?,h]
 exact ⟨e 0,e 1,e 2,e 3⟩
theorem endr_of {σ:Type} {K:FuncId} {caps:Array Value} {base:Nat} {Rg:Nat→Prop} {Inv Stop:σ→World→Prop} {step:σ→Pa→Bool × σ} (h:Fnd K caps base Rg Inv Stop step) (i j b0:Nat) (hb0:base ≤ b0) :
   Endr 159 #[.pointer (some ⟨b0+2,0,none⟩),.pointer (some ⟨b0,0,none⟩),.pointer (some ⟨b0+1,0,none⟩)] (b0+3) Rg
     (fun s w=>Inv s w∧w.heap[b0]? = some (.cells #[.int .i64 (i:Int)] 3)∧w.heap[b0+1]? = some (.cells #[.int .i64 (j:Int)] 3)∧w.heap[b0+2]? = some (.cells #[.func (.func K) #[] caps] 208))
     Stop (fun s k ps=>step s ⟨i,j,k,ps⟩) where
 enter:=fun args w=>by kernel_rfl
 low:=fun b hb=>by have:=h.low b hb;omega
 stable:=fun s w w' hI hk=>⟨h.stable s w w' hI.1 (hk.mono (by omega)),(hk.block b0 (by omega)).trans hI.2.1,(hk.block (b0+1) (by omega)).trans hI.2.2.1,(hk.block (b0+2) (by omega)).trans hI.2.2.2⟩
 call:=by
   intro s w k v ps hI hb hv
   have hE:=h.enter
   have c0:w.cell? ⟨b0,0,none⟩=some (.int .i64 (i:Int)):=by simp [World.cell?,hI.2.1]
   have c1:w.cell? ⟨b0+1,0,none⟩=some (.int .i64 (j:Int)):=by simp [World.cell?,hI.2.2.1]
   have c2:w.cell? ⟨b0+2,0,none⟩=some (.func (.func K) #[] caps):=by simp [World.cell?,hI.2.2.2]
   have HC:=Lib.hid (h.call s w (.agg #[.int .i64 (i:Int),.int .i64 (j:Int),.int .i64 (k:Int),v]) ⟨i,j,k,ps⟩ hI.1 (by omega) ⟨v,rfl,hv⟩)
   have HI:=Lib.hid hI
   have HLOW:=Lib.hid h.low
   obtain ⟨p,cap,rfl,-⟩:=hv.slice
   clear h hv
   go_enter Tryd.func159,Tryd.ntmps159
   go_wp2_with fail
   refine HC.out.mono ?_
   rintro e w2 ⟨rfl,ht⟩
   have hlt0:=(Array.getElem?_eq_some_iff.1 HI.out.2.1).1;have hlt1:=(Array.getElem?_eq_some_iff.1 HI.out.2.2.1).1;have hlt2:=(Array.getElem?_eq_some_iff.1 HI.out.2.2.2).1
   have HT:=Lib.hid (ht.map (Chg.refl _ _) (Inv':=fun s w=>Inv s w∧w.heap[b0]? = some (.cells #[.int .i64 (i:Int)] 3)∧w.heap[b0+1]? = some (.cells #[.int .i64 (j:Int)] 3)∧w.heap[b0+2]? = some (.cells #[.func (.func K) #[] caps] 208)) fun hI2 hch=>And.intro hI2 (And.intro ((hch.block b0 hlt0 (fun hr=>by have:=HLOW.out _ hr;omega)).trans HI.out.2.1) (And.intro ((hch.block (b0+1) hlt1 (fun hr=>by have:=HLOW.out _ hr;omega)).trans HI.out.2.2.1) ((hch.block (b0+2) hlt2 (fun hr=>by have:=HLOW.out _ hr;omega)).trans HI.out.2.2.2))))
   clear ht hlt0 hlt1 hlt2 HC
   go_wp2
   go_ret
   exact ⟨rfl,HT.out⟩
end Go.Proofs.YtedjkbmfpjmlpaaDoor
namespace Go.Proofs.YtedjkbmfpjmlpaaDoor
open Go.RowKit
def rowPa (qs:List (Pa × Value)):List Value:=qs.flatMap fun x=>(x.1.cells x.2).toList
theorem rowPa_snoc (qs:List (Pa × Value)) (t:Pa) (s:Value):rowPa (qs ++ [(t,s)])=rowPa qs ++ (t.cells s).toList:=by
 unfold rowPa;simp
theorem rowPa_length (qs:List (Pa × Value)):(rowPa qs).length=qs.length * 4:=by
 unfold rowPa
 induction qs with
 | nil=>rfl
 | cons x qs ih=>rw [List.flatMap_cons,List.length_append,ih];simp [Pa.cells];omega
theorem rowPa_get:∀ (qs:List (Pa × Value)) (i:Nat) (t:Pa) (s:Value),qs[i]? = some (t,s)→∀ j,j < 4→(rowPa qs)[i * 4+j]? = (t.cells s)[j]?
 | [],i,t,s,h,_,_=>by simp at h
 | x :: qs,0,t,s,h,j,hj=>by
   simp only [List.getElem?_cons_zero,Option.some.injEq] at h
   subst h
   unfold rowPa
   rw [List.flatMap_cons,Nat.zero_mul,Nat.zero_add,List.getElem?_append_left (by simp [Pa.cells];omega)]
   simp
 | x :: qs,i+1,t,s,h,j,hj=>by
   have ih:=rowPa_get qs i t s (by simpa using h) j hj
   unfold rowPa at ih ⊢
   rw [List.flatMap_cons,List.getElem?_append_right (by simp [Pa.cells];omega)]
   rw [← ih]
   congr 1
   simp [Pa.cells];omega
theorem append_place {P:Program} {w w':World} (base:Nat) (t ty e:TypeId) (i:TypeInfo) (z:Value) (size bytes:Nat) (ht:P.underlying t=some (.slice e)) (hi:P.info? e=some i) (hz:i.zero=some z)
   (hsize:i.size=size) (hby:i.bytes=bytes) (v v':Value) (n:Nat) (xs:List Value) (hown:w.ownsRow base e size v n xs)
   (a:Addr) (m c:Nat) (news:List Value) (hl:news.length=m * size) (hnews:∀ j u,news[j]? = some u→w.cell? (a.add j)=some u) (h1:∀ u ∈ news,u.oneCell'=true) (hm:0 < m)
   (h63:n+m ≤ maxLen) (hbytes:(n+m) * bytes ≤ 140737488355328) (hr:(Builtin.append_ #[t,t] ty #[v,.slice (some a) m c]).run P w=.ok v' w') :
   (∃ g cap,v=.slice (some ⟨g,0,none⟩) n cap∧v'=.slice (some ⟨g,0,none⟩) (n+m) cap) ∨ (v'.ownBlock=some w.heap.size∧Below w.heap.size w w'):=by
 subst hsize hby
 unfold maxLen at h63
 have hxl:=hown.1
 have hcells:=fun g hg=>World.ownsRow.cells hown (g:=g) hg
 rcases hown.2 with ⟨rfl,rfl⟩ | ⟨g,cap,cur,rfl,-,hg,hnc,hcm,hcs,-⟩
 · rw [run_append_nil (P:=P) w t ty e i z ht hi hz a m c news hl hnews hm (by omega) (by rw [Nat.zero_add] at hbytes;omega)] at hr
   injection hr with h2 h3
   right;rw [← h2,← h3];exact ⟨rfl,((Below.refl _ _).drew).alloc (Nat.le_refl _) _⟩
 · by_cases hroom:n+m ≤ cap
   · rw [run_append_room (P:=P) w t ty e i ht hi g n cap cur hg a m c news hl hnews h1 hroom (by rw [hl,hcs,← Nat.add_mul];exact Nat.mul_le_mul_right _ hroom)] at hr
     injection hr with h2 h3
     left;exact ⟨g,cap,rfl,h2.symm⟩
   · rw [run_append_grow (P:=P) w t ty e i z ht hi hz ⟨g,0,none⟩ n cap xs hxl (hcells g rfl) a m c news hl hnews (by omega) (by omega) (growslice_fits (by omega) hbytes)] at hr
     injection hr with h2 h3
     right;rw [← h2,← h3];exact ⟨rfl,((Below.refl _ _).drew).alloc (Nat.le_refl _) _⟩
structure LeftAt (lb tb:Nat) (Rg:Nat→Prop) (w:World) (v:Value) (qs:List (Pa × Value)):Prop where
 own:w.ownsRow lb 57 4 v qs.length (rowPa qs)
 low:∀ g,v.ownBlock=some g→g < tb∧¬ Rg g
 subs:∀ (i:Nat) (p:Pa) (s:Value),qs[i]? = some (p,s)→PasAt w (fun b=>¬ Rg b∧v.ownBlock ≠ some b∧b < tb) s p.subs
theorem LeftAt.nil (lb tb:Nat) (Rg:Nat→Prop) (w:World):LeftAt lb tb Rg w (.slice none 0 0) []:=⟨World.ownsRow_nil _ _ _ _,fun g h=>by simp [Value.ownBlock] at h,fun i p s h=>by simp at h⟩
theorem own_same {w w':World} {base:Nat} {e:TypeId} {size n:Nat} {v:Value} {xs:List Value} (h:w.ownsRow base e size v n xs) (hk:∀ g,v.ownBlock=some g→w'.heap[g]? = w.heap[g]?):w'.ownsRow base e size v n xs:=by
 refine ⟨h.1, ?_⟩
 rcases h.2 with hn | ⟨g,cap,cur,rfl,hb,hgg,rest⟩
 · exact .inl hn
 · exact .inr ⟨g,cap,cur,rfl,hb,(hk g rfl).trans hgg,rest⟩
theorem LeftAt.keep {lb tb:Nat} {Rg:Nat→Prop} {w w':World} {v:Value} {qs:List (Pa × Value)} (h:LeftAt lb tb Rg w v qs) (hk:∀ b,b < tb→b < w.heap.size→¬ Rg b→w'.heap[b]? = w.heap[b]?):LeftAt lb tb Rg w' v qs :=
 ⟨own_same h.own fun g hg=>hk g (h.low g hg).1 (h.own.lt g hg).2 (h.low g hg).2,h.low,fun i p s hi=>(h.subs i p s hi).keep fun b hb hB=>hk b hB.2.2 hb hB.1⟩
theorem LeftAt.slice {lb tb:Nat} {Rg:Nat→Prop} {w:World} {v:Value} {qs:List (Pa × Value)} (h:LeftAt lb tb Rg w v qs):∃ p cap,v=.slice p qs.length cap:=by
 rcases h.own.2 with ⟨rfl,hn⟩ | ⟨g,cap,_,rfl,-⟩
 · exact ⟨_,_,by rw [hn]⟩
 · exact ⟨_,_,rfl⟩
theorem LeftAt.pas {lb tb:Nat} {Rg:Nat→Prop} {w:World} {v:Value} {qs:List (Pa × Value)} (h:LeftAt lb tb Rg w v qs) (hn:qs.length * 48 ≤ 140737488351232):PasAt w (fun b=>¬ Rg b) v (qs.map (·.1)):=by
 have hcells:=fun g hv=>World.ownsRow.cells h.own (g:=g) hv
 have hsub:=h.subs;have hlow:=h.low
 rcases h.own.2 with ⟨rfl,hn0⟩ | ⟨g,cap,cur,rfl,-,hheap,hnc,-⟩
 · have:qs=[]:=List.length_eq_zero_iff.1 hn0
   subst this
   exact PasAt.nil
 · have hc:=hcells g rfl
   have hl:(qs.map (·.1)).length=qs.length:=List.length_map _
   have key:∀ (i:Nat) (t:Pa) (s:Value),qs[i]? = some (t,s)→FourAt w g (0+i * 4) t s:=by
     intro i t s hi
     have get:∀ j u,j < 4→(t.cells s)[j]? = some u→w.cell? ⟨g,0+i * 4+j,none⟩=some u:=by
       intro j u hj hu
       have:=hc (i * 4+j) u (by rw [rowPa_get qs i t s hi j hj];exact hu)
       have ea:(⟨g,0,none⟩:Addr).add (i * 4+j)=⟨g,0+i * 4+j,none⟩:=by unfold Addr.add;split <;> simp_all <;> omega
       rw [ea] at this;exact this
     exact ⟨get 0 _ (by omega) rfl,get 1 _ (by omega) rfl,get 2 _ (by omega) rfl,get 3 _ (by omega) rfl⟩
   have pick:∀ (i:Nat) (t:Pa),(qs.map (·.1))[i]? = some t→qs[i]? = some (t,(qs.getD i (.node 0 0 0 [],undef)).2):=by
     intro i t hi
     rw [List.getElem?_map] at hi
     cases hq:qs[i]? with
     | none=>rw [hq] at hi;cases hi
     | some q =>
       rw [hq] at hi
       obtain rfl:q.1=t:=Option.some.inj hi
       rw [List.getD_eq_getElem?_getD,hq];rfl
   have:=PasAt.mk (w:=w) (B:=fun b=>¬ Rg b) (some ⟨g,0,none⟩) cap (qs.map (·.1)) (fun i=>(qs.getD i (.node 0 0 0 [],undef)).2) (by rw [hl];exact hn) (by rw [hl];exact hnc)
     (fun i t hi=>⟨g,0,rfl,(hlow g rfl).2,key i t _ (pick i t hi)⟩)
     (fun i t hi=>(hsub i t _ (pick i t hi)).mono fun b _ hB=>hB.1)
   rw [hl] at this
   exact this
theorem LeftAt.app {lb tb base:Nat} {Rg:Nat→Prop} {w3 w4:World} {v v':Value} {qs:List (Pa × Value)} {x:Pa} {s:Value} (h:LeftAt lb tb Rg w3 v qs) (hbase:base ≤ w3.heap.size) (hR:∀ b,Rg b→b < base)
   (hx:PasAt w3 (fun b=>¬ (Rg b ∨ v.ownBlock=some b)) s x.subs) (hown:w4.ownsRow lb 57 4 v' (qs.length+1) (rowPa qs ++ (x.cells s).toList)) (hg:w3.grownBy w4 v.ownBlock)
   (hw:(∃ g cap,v=.slice (some ⟨g,0,none⟩) qs.length cap∧v'=.slice (some ⟨g,0,none⟩) (qs.length+1) cap) ∨ (v'.ownBlock=some w3.heap.size∧Below w3.heap.size w3 w4)):LeftAt lb w4.heap.size Rg w4 v' (qs ++ [(x,s)]):=by
 have hwb:v'.ownBlock=v.ownBlock ∨ v'.ownBlock=some w3.heap.size:=by
   rcases hw with ⟨g,cap,rfl,rfl⟩ | ⟨h9,-⟩
   · exact .inl rfl
   · exact .inr h9
 have up:∀ (B:Nat→Prop) (u:List Pa) (r:Value),PasAt w3 B r u→(∀ b,B b→¬ Rg b∧v.ownBlock ≠ some b)→PasAt w4 (fun b=>¬ Rg b∧v'.ownBlock ≠ some b∧b < w4.heap.size) r u:=fun B u r hr hB=>by
   have h1:=hr.mono (B':=fun b=>B b∧b < w3.heap.size) fun b hb hb2=>⟨hb2,hb⟩
   refine (h1.keep (w':=w4) fun b hb hb2=>hg.block b hb fun e=>(hB b hb2.1).2 e.symm).mono fun b _ hb2=>⟨(hB b hb2.1).1,fun e=>?_,Nat.lt_of_lt_of_le hb2.2 hg.size⟩
   rcases hwb with e2 | e2
   · exact (hB b hb2.1).2 (e2.symm.trans e)
   · rw [e2] at e
     have:=hb2.2
     injection e with e3
     omega
 refine ⟨by rw [rowPa_snoc,List.length_append];exact hown,fun g hg2=>⟨(hown.lt g hg2).2, ?_⟩,fun i t r hi=>?_⟩
 · rcases hwb with e2 | e2
   · exact (h.low g (e2.symm.trans hg2)).2
   · rw [e2] at hg2
     injection hg2 with e3
     intro hr;have:=hR g hr;omega
 · by_cases hip:i < qs.length
   · rw [List.getElem?_append_left hip] at hi
     exact up _ _ _ (h.subs i t r hi) fun b hb=>⟨hb.1,hb.2.1⟩
   · rw [List.getElem?_append_right (by omega)] at hi
     have hi0:i - qs.length=0:=by
       by_cases h0:i - qs.length=0
       · exact h0
       · rw [List.getElem?_eq_none (by simp;omega)] at hi;cases hi
     rw [hi0] at hi
     simp only [List.getElem?_cons_zero,Option.some.injEq,Prod.mk.injEq] at hi
     obtain ⟨rfl,rfl⟩:=hi
     exact up _ _ _ hx fun b hb=>⟨fun e=>hb (.inl e),fun e=>hb (.inr e)⟩
theorem LeftAt.back {lb tb tb':Nat} {Rg:Nat→Prop} {w3 w4 w5:World} {v v':Value} {qs:List (Pa × Value)} {x:Pa} {s:Value} (h:LeftAt lb tb Rg w3 v qs) (hg:w3.grownBy w4 v.ownBlock)
   (hw:(∃ g cap,v=.slice (some ⟨g,0,none⟩) qs.length cap∧v'=.slice (some ⟨g,0,none⟩) (qs.length+1) cap) ∨ (v'.ownBlock=some w3.heap.size∧Below w3.heap.size w3 w4))
   (h5:LeftAt lb tb' Rg w5 v' (qs ++ [(x,s)])) (hc:Chg (fun b=>Rg b ∨ v'.ownBlock=some b) w4 w5):LeftAt lb tb Rg w5 v qs:=by
 rcases hw with ⟨g,cap,rfl,rfl⟩ | ⟨h9,hb⟩
 · refine ⟨⟨rowPa_length _,.inr ?_⟩,h.low,fun i p r hi=>(h.subs i p r hi).keep fun b hb hB=>?_⟩
   · rcases h5.own.2 with ⟨h0,-⟩ | ⟨g',cap',cur,hv,hlb,hgg,hnc,hcm,hcs,htk⟩
     · cases h0
     · injection hv with e1 e2 e3
       injection e1 with e4
       injection e4 with e5 _ _
       subst e5 e3
       refine ⟨g,cap,cur,rfl,hlb,hgg,by rw [List.length_append] at hnc;omega,hcm,hcs, ?_⟩
       rw [rowPa_snoc] at htk
       have h8:=congrArg (List.take (qs.length * 4)) htk
       rw [List.take_take,Nat.min_eq_left (by rw [List.length_append];omega),List.take_append_of_le_length (by rw [rowPa_length];exact Nat.le_refl _),List.take_of_length_le (l:=rowPa qs) (by rw [rowPa_length];exact Nat.le_refl _)] at h8
       exact h8
   · rw [hc.block b (Nat.lt_of_lt_of_le hb hg.size) (fun e=>?_),hg.block b hb fun e=>hB.2.1 e.symm]
     rcases e with e | e
     · exact hB.1 e
     · exact hB.2.1 e
 · refine h.keep fun b hbt hbs hr=>?_
   rw [hc.block b (Nat.lt_of_lt_of_le hbs hb.size) (fun e=>?_),hb.block b hbs]
   rcases e with e | e
   · exact hr e
   · rw [h9] at e;injection e with e3;omega
theorem chg_app {Rg:Nat→Prop} {w3 w4 w5:World} {v v':Value} {n:Nat} (hg:w3.grownBy w4 v.ownBlock)
   (hw:(∃ g cap,v=.slice (some ⟨g,0,none⟩) n cap∧v'=.slice (some ⟨g,0,none⟩) (n+1) cap) ∨ (v'.ownBlock=some w3.heap.size∧Below w3.heap.size w3 w4))
   (hc:Chg (fun b=>Rg b ∨ v'.ownBlock=some b) w4 w5):Chg (fun b=>Rg b ∨ v.ownBlock=some b) w3 w5:=by
 refine ⟨hc.os.trans hg.os,hc.tape.trans hg.tape,hc.output.trans hg.output,Nat.le_trans hg.size hc.size,fun k hk hr=>?_⟩
 rw [hc.block k (Nat.lt_of_lt_of_le hk hg.size) (fun e=>?_),hg.block k hk fun e=>hr (.inr e.symm)]
 rcases e with e | e
 · exact hr (.inl e)
 · rcases hw with ⟨g,cap,rfl,rfl⟩ | ⟨h9,-⟩
   · exact hr (.inr e)
   · rw [h9] at e;injection e with e3;omega
theorem wp_append_pa {P:Program} (w:World) {Q:Exit→Act→World→Prop} {K:Act→World→Prop} {o:Oper} {a:Act} (s x:Operand) (t:TypeId)
   (ho:o.op=.call { callee:=.builtin .append,args:=#[s,x],argTypes:=#[t,t] })
   (base:Nat) (e:TypeId) (i:TypeInfo) (z:Value) (size bytes:Nat) (ht:P.underlying t=some (.slice e)) (hi:P.info? e=some i) (hz:i.zero=some z)
   (hsize:i.size=size) (hby:i.bytes=bytes) (hzs:z.cells.size=size) (hsz:0 < size)
   (v:Value) (n:Nat) (xs:List Value) (hs:a.eval s=v) (hown:w.ownsRow base e size v n xs)
   (ad:Addr) (m c:Nat) (news:List Value) (hx:a.eval x=.slice (some ad) m c) (hl:news.length=m * size) (hnews:∀ j u,news[j]? = some u→w.cell? (ad.add j)=some u) (h1:∀ u ∈ news,u.oneCell'=true) (hm:0 < m)
   (h63:n+m ≤ maxLen) (hbytes:(n+m) * bytes ≤ 140737488355328) (hbase:base ≤ w.heap.size)
   (h:∀ v' w',w'.ownsRow base e size v' (n+m) (xs ++ news)→w.grownBy w' v.ownBlock→((∃ g cap,v=.slice (some ⟨g,0,none⟩) n cap∧v'=.slice (some ⟨g,0,none⟩) (n+m) cap) ∨ (v'.ownBlock=some w.heap.size∧Below w.heap.size w w'))→K (a.put o.dst v') w'):Oper.wp P o a w K Q:=by
 obtain ⟨v',w',hr,h2,h3,-⟩:=run_append_own (P:=P) w base t o.type e i z size bytes ht hi hz hsize hby hzs hsz v n xs hown ad m c news hl hnews h1 h63 hbytes hbase
 have h4:=append_place base t o.type e i z size bytes ht hi hz hsize hby v v' n xs hown ad m c news hl hnews h1 hm h63 hbytes hr
 unfold Oper.wp execOp
 simp only [ho,resolve,invoke,builtin,Sem.run_bind,Sem.run_pure,Result.andThen_ok,List.map_toArray,List.map_cons,List.map_nil,hs,hx,hr]
 exact h v' w' h2 h3 h4
end Go.Proofs.YtedjkbmfpjmlpaaDoor
namespace Go.Proofs.YtedjkbmfpjmlpaaDoor
open Go.RowKit
theorem Tryd.infoParse:(Tryd.prog.info? 57).map (fun i=>(i.zero,i.size,i.bytes))=some (some (.agg #[.int .i64 0,.int .i64 0,.int .i64 0,.slice none 0 0]),4,48):=by kernel_rfl
theorem wpList_pa1 {ops:Array Oper} {rest:List Oper} {o:Oper} {a:Act} {w:World} {Q:Exit→Act→World→Prop} (hgd:o.guard=none) (x:Operand) (t:Pa) (p:Option Addr) (len cap:Nat) (ho:o.op=.buildSlice 55 1 #[(0,x)]) (hx:a.eval x=.agg (t.cells (.slice p len cap)))
   (h:wpList Tryd.prog ops Q rest (a.put o.dst (.slice (some ⟨w.heap.size,0,none⟩) 1 1)) (w.alloc (.cells (t.cells (.slice p len cap)) 57))):wpList Tryd.prog ops Q (o :: rest) a w:=by
 refine wpList_plain hgd fun K hK=>?_
 obtain ⟨ie,hi,hz0,hz1,-⟩:=info_parts Tryd.infoParse
 refine wp_buildSlice 55 57 1 _ ho _ ie _ Tryd.underlying55 hi hz0 (by rw [hz1];decide) (by rw [hz1];decide) ?_ (hK _ _ h)
 rw [hz1]
 simp only [List.map_toArray,List.map_cons,List.map_nil,hx]
 kernel_rfl
theorem one_pas {w:World} {B:Nat→Prop} {t:Pa} {s:Value} (hs:PasAt w B s t.subs) (ty:TypeId) (g:Nat) (hg:w.heap.size=g):PasAt (w.alloc (.cells (t.cells s) ty)) (fun b=>B b ∨ b=g) (.slice (some ⟨g,0,none⟩) 1 1) [t]:=by
 subst hg
 have hb:Below w.heap.size w (w.alloc (.cells (t.cells s) ty)):=(Below.refl _ _).alloc (Nat.le_refl _) _
 have h4:=FourAt.of_row (heap_alloc_new w (.cells (t.cells s) ty))
 refine .mk (some ⟨w.heap.size,0,none⟩) 1 [t] (fun _=>s) (by simp) (by simp) (fun i u hi=>?_) (fun i u hi=>?_)
 · match i,hi with
   | 0,hi =>
     obtain rfl:t=u:=Option.some.inj hi
     exact ⟨w.heap.size,0,rfl,.inr rfl,h4⟩
 · match i,hi with
   | 0,hi =>
     obtain rfl:t=u:=Option.some.inj hi
     exact (hs.later hb).mono fun b _ h=>.inl h
theorem fnd_alone {σ:Type} {K:FuncId} {caps:Array Value} {base:Nat} {Rg:Nat→Prop} {Inv Stop:σ→World→Prop} {step:σ→Nat→List Pa→Bool × σ} (h:Endr K caps base Rg Inv Stop step) (be base2:Nat) (hb0:base ≤ be) (hbe:be < base2) :
   Fnd 179 #[.pointer (some ⟨be,0,none⟩)] base2 Rg (fun s w=>Inv s w∧w.heap[be]? = some (.cells #[.func (.func K) #[] caps] 219)) Stop (fun s p=>step s 0 [p]) where
 enter:=fun args w=>by kernel_rfl
 low:=fun b hb=>by have:=h.low b hb;omega
 stable:=fun s w w' hI hk=>⟨h.stable s w w' hI.1 (hk.mono (by omega)),(hk.block be hbe).trans hI.2⟩
 call:=by
   intro s w v p hI hb hv
   obtain ⟨sv,rfl,hs⟩:=hv
   obtain ⟨q,cap,rfl,-⟩:=hs.slice
   have hE:=h.enter
   have hbw:Below w.heap.size w (w.alloc (.cells (p.cells (.slice q p.subs.length cap)) 57)):=(Below.refl _ _).alloc (Nat.le_refl _) _
   have hbw2:Below w.heap.size w ((w.alloc (.cells (p.cells (.slice q p.subs.length cap)) 57)).alloc (.cells (p.cells (.slice q p.subs.length cap)) 57)):=hbw.alloc hbw.size _
   have hl:=(one_pas (hs.later hbw) 57 (w.heap.size+1) (by simp)).mono (B':=fun b=>¬ Rg b) (fun b _ hb9=>by
     rcases hb9 with h9 | rfl
     · exact h9
     · exact fun hr=>by have:=h.low _ hr;omega)
   have hI2:Inv s ((w.alloc (.cells (p.cells (.slice q p.subs.length cap)) 57)).alloc (.cells (p.cells (.slice q p.subs.length cap)) 57)):=h.stable s w _ hI.1 (hbw2.mono (by omega))
   have HC:=Lib.hid (h.call s _ 0 (.slice (some ⟨w.heap.size+1,0,none⟩) 1 1) [p] hI2 (by have:=hbw2.size;omega) hl)
   have HI:=Lib.hid hI;have HBW:=Lib.hid hbw2;have HLOW:=Lib.hid h.low
   have X0:=Lib.hid (heap_alloc_new w (.cells (p.cells (.slice q p.subs.length cap)) 57))
   have HB1:=Lib.hid hbw
   have HEB:=Lib.hid (keep_blk hbw hI.2)
   clear h hs hbw hbw2 hl hI2
   generalize hRR:step s 0 [p]=RR at *
   clear hRR
   unfold Pa.cells at X0 HB1 HEB HC HBW ⊢
   go_enter Tryd.func179,Tryd.ntmps179
   go_upto_region 1 with (fail)
   have ce:(w.alloc (.cells #[.int .i64 p.lo,.int .i64 p.hi,.int .i64 p.pick,.slice q p.subs.length cap] 57)).cell? ⟨be,0,none⟩=some (.func (.func K) #[] caps):=by unfold World.cell?;rw [HEB.out];rfl
   go_wp2_with (first
     | (refine wpList_load_row rfl 57 (.tmp 2) rfl w.heap.size rfl 57 _ (0,0) _ X0.out Tryd.underlying57 rfl (by kernel_rfl) ?_)
     | (refine wpList_pa1 rfl (.tmp 5) p q p.subs.length cap rfl rfl ?_)
     | fail)
   refine HC.out.mono ?_
   rintro e w2 ⟨rfl,ht⟩
   have hlt:=(Array.getElem?_eq_some_iff.1 HI.out.2).1
   have HT:=Lib.hid (ht.map (Chg.of_below HBW.out) (Inv':=fun s w=>Inv s w∧w.heap[be]? = some (.cells #[.func (.func K) #[] caps] 219)) fun hI2 hch=>⟨hI2,((hch.block be (Nat.lt_of_lt_of_le hlt HBW.out.size) (fun hr=>by have:=HLOW.out _ hr;omega)).trans ((HBW.out.block be hlt).trans HI.out.2))⟩)
   clear ht hlt HC
   go_wp2
   go_ret
   exact ⟨rfl,HT.out⟩
theorem fnd_pick {σ:Type} {K:FuncId} {caps:Array Value} {base:Nat} {Rg:Nat→Prop} {Inv Stop:σ→World→Prop} {step:σ→Nat→List Pa→Bool × σ} (h:Endr K caps base Rg Inv Stop step) (be bp k base2:Nat) (hb0:base ≤ be) (hbe:be < base2) (hbp:bp < base2) (hb1:base ≤ bp) :
   Fnd 174 #[.pointer (some ⟨be,0,none⟩),.pointer (some ⟨bp,0,none⟩)] base2 Rg (fun s w=>Inv s w∧w.heap[be]? = some (.cells #[.func (.func K) #[] caps] 219)∧w.heap[bp]? = some (.cells #[.int .i64 (k:Int)] 3)) Stop (fun s p=>step s k [p]) where
 enter:=fun args w=>by kernel_rfl
 low:=fun b hb=>by have:=h.low b hb;omega
 stable:=fun s w w' hI hk=>⟨h.stable s w w' hI.1 (hk.mono (by omega)),(hk.block be hbe).trans hI.2.1,(hk.block bp hbp).trans hI.2.2⟩
 call:=by
   intro s w v p hI hb hv
   obtain ⟨sv,rfl,hs⟩:=hv
   obtain ⟨q,cap,rfl,-⟩:=hs.slice
   have hE:=h.enter
   have hbw:Below w.heap.size w (w.alloc (.cells (p.cells (.slice q p.subs.length cap)) 57)):=(Below.refl _ _).alloc (Nat.le_refl _) _
   have hbw2:Below w.heap.size w ((w.alloc (.cells (p.cells (.slice q p.subs.length cap)) 57)).alloc (.cells (p.cells (.slice q p.subs.length cap)) 57)):=hbw.alloc hbw.size _
   have hl:=(one_pas (hs.later hbw) 57 (w.heap.size+1) (by simp)).mono (B':=fun b=>¬ Rg b) (fun b _ hb9=>by
     rcases hb9 with h9 | rfl
     · exact h9
     · exact fun hr=>by have:=h.low _ hr;omega)
   have hI2:Inv s ((w.alloc (.cells (p.cells (.slice q p.subs.length cap)) 57)).alloc (.cells (p.cells (.slice q p.subs.length cap)) 57)):=h.stable s w _ hI.1 (hbw2.mono (by omega))
   have HC:=Lib.hid (h.call s _ k (.slice (some ⟨w.heap.size+1,0,none⟩) 1 1) [p] hI2 (by have:=hbw2.size;omega) hl)
   have HI:=Lib.hid hI;have HBW:=Lib.hid hbw2;have HLOW:=Lib.hid h.low
   have X0:=Lib.hid (heap_alloc_new w (.cells (p.cells (.slice q p.subs.length cap)) 57))
   have HB1:=Lib.hid hbw
   have HEB:=Lib.hid (keep_blk hbw hI.2.1)
   have HPB:=Lib.hid (keep_blk hbw hI.2.2)
   clear h hs hbw hbw2 hl hI2
   generalize hRR:step s k [p]=RR at *
   clear hRR
   unfold Pa.cells at X0 HB1 HEB HC HBW HPB ⊢
   go_enter Tryd.func174,Tryd.ntmps174
   go_upto_region 1 with (fail)
   have ce:(w.alloc (.cells #[.int .i64 p.lo,.int .i64 p.hi,.int .i64 p.pick,.slice q p.subs.length cap] 57)).cell? ⟨be,0,none⟩=some (.func (.func K) #[] caps):=by unfold World.cell?;rw [HEB.out];rfl
   have cp:(w.alloc (.cells #[.int .i64 p.lo,.int .i64 p.hi,.int .i64 p.pick,.slice q p.subs.length cap] 57)).cell? ⟨bp,0,none⟩=some (.int .i64 (k:Int)):=by unfold World.cell?;rw [HPB.out];rfl
   go_wp2_with (first
     | (refine wpList_load_row rfl 57 (.tmp 3) rfl w.heap.size rfl 57 _ (0,0) _ X0.out Tryd.underlying57 rfl (by kernel_rfl) ?_)
     | (refine wpList_pa1 rfl (.tmp 7) p q p.subs.length cap rfl rfl ?_)
     | fail)
   refine HC.out.mono ?_
   rintro e w2 ⟨rfl,ht⟩
   have hlt:=(Array.getElem?_eq_some_iff.1 HI.out.2.1).1
   have hlp:=(Array.getElem?_eq_some_iff.1 HI.out.2.2).1
   have HT:=Lib.hid (ht.map (Chg.of_below HBW.out) (Inv':=fun s w=>Inv s w∧w.heap[be]? = some (.cells #[.func (.func K) #[] caps] 219)∧w.heap[bp]? = some (.cells #[.int .i64 (k:Int)] 3)) fun hI2 hch=>⟨hI2,((hch.block be (Nat.lt_of_lt_of_le hlt HBW.out.size) (fun hr=>by have:=HLOW.out _ hr;omega)).trans ((HBW.out.block be hlt).trans HI.out.2.1)),((hch.block bp (Nat.lt_of_lt_of_le hlp HBW.out.size) (fun hr=>by have:=HLOW.out _ hr;omega)).trans ((HBW.out.block bp hlp).trans HI.out.2.2))⟩)
   clear ht hlt hlp HC
   go_wp2
   go_ret
   exact ⟨rfl,HT.out⟩
end Go.Proofs.YtedjkbmfpjmlpaaDoor
namespace Go.Proofs.YtedjkbmfpjmlpaaDoor
open Go.RowKit
namespace Ps
def cuts (i j:Nat):List Nat:=(List.range (j+1 - i)).map fun c=>j - c
def lsF (wys rest:Nat→T) (als:Nat→Nat→Nat→List Pa) (must:Int) (nx:Nat→Nat):Nat→Nat→Nat→Nat→List (List Pa)
 | 0,_,_,_=>[]
 | n+1,d,i,j=>if must ≤ (d:Int)∧i=j then [[]] else
   (cuts (if must ≤ (d:Int) then i+1 else i) j).flatMap fun c=>if wys d i c=0 ∨ rest (nx d) c j=0 then [] else (als d i c).flatMap fun p=>(lsF wys rest als must nx n (nx d) c j).map fun l=>p :: l
def fuel (must:Int) (d i j:Nat):Nat:=(must - d).toNat+(j - i)+1
def noPas:Nat→Nat→List Pa:=fun _ _=>[]
def picks (i j:Nat):Nat→List (T × (Nat→Nat→List Pa))→List (Nat × Pa)
 | _,[]=>[]
 | k,(f,a) :: l=>(if f i j=0 then [] else (a i j).map fun p=>(k,p)) ++ picks i j (k+1) l
end Ps
namespace Tr
def nextI (t:Tr) (d:Nat):Nat:=min (d+1) (t.restN - 1)
def alOf (x:Sc) (t:Tr) (fs:List (Nat→Nat→List Pa)) (i j:Nat):List Pa :=
 if t.kind=6 ∨ t.kind=7 then (Ps.picks i j 0 ((t.subs.map (wy x)).zip fs)).map fun q=>.node i j q.1 [q.2]
 else if t.kind=5 ∨ t.kind=8 then
   (if t.aloneB=true∧i=j∧wyHead x t.subs i j ≠ 0 then (fs.headD Ps.noPas i j).map fun p=>.node i j 0 [p] else []) ++
   (Ps.lsF (fun d=>wy x (t.tkSubs.getD (t.subI d) (.node 0 0#64 0#64 0#64 0#64 [] 0 0 0 false))) (t.restT x) (fun d=>fs.getD (t.subI d) Ps.noPas) t.mustI t.nextI (Ps.fuel t.mustI 0 i j) 0 i j).map fun l=>.node i j 0 l
 else [.node i j 0 []]
mutual
def al (x:Sc):Tr→Nat→Nat→List Pa
 | .node k a b c d s n lo hi br=>alOf x (.node k a b c d s n lo hi br) (alL x s)
def alL (x:Sc):List Tr→List (Nat→Nat→List Pa)
 | []=>[]
 | t :: l=>al x t :: alL x l
end
theorem alL_map (x:Sc):∀ l:List Tr,alL x l=l.map (al x)
 | []=>rfl
 | t :: l=>by rw [alL,alL_map x l];rfl
theorem al_eq (x:Sc) (t:Tr):al x t=alOf x t (t.subs.map (al x)):=by cases t;rw [al,alL_map];rfl
end Tr
def TellEnd {σ:Type} (Rg:Nat→Prop) (Inv Stop:σ→World→Prop) (r:Bool × σ) (w:World) (e:Ending) (w':World):Prop:=e=.returned (.bool r.1)∧Tld Rg Inv Stop r w w'
def TellDoes (x:Sc) (lo m:Nat) (t:Tr):Prop:=∀ (i j:Nat),lo ≤ i→i ≤ j→j ≤ lo+m→t.wy x i j ≠ 0→∀ (σ:Type) (K:FuncId) (caps:Array Value) (base:Nat) (Rg:Nat→Prop) (Inv Stop:σ→World→Prop) (step:σ→Pa→Bool × σ),Fnd K caps base Rg Inv Stop step →
 ∀ (s:σ) (w:World) (B:Nat→Prop) (b:Nat),TkrAt x lo m w B b t→(∀ k,B k→¬ Rg k∧k < w.heap.size)→base ≤ w.heap.size→Inv s w →
   Calls Tryd.prog 144 #[.pointer (some ⟨b,0,none⟩),.int .i64 (i:Int),.int .i64 (j:Int),.func (.func K) #[] caps] w (TellEnd Rg Inv Stop (runC step s (t.al x i j)) w)
def ByEnd (fn:FuncId) (x:Sc) (lo m:Nat) (t:Tr) (L:Nat→Nat→List (Nat × List Pa)):Prop:=∀ (i j:Nat),lo ≤ i→i ≤ j→j ≤ lo+m→∀ (σ:Type) (K:FuncId) (caps:Array Value) (base:Nat) (Rg:Nat→Prop) (Inv Stop:σ→World→Prop) (step:σ→Nat→List Pa→Bool × σ),Endr K caps base Rg Inv Stop step →
 ∀ (s:σ) (w:World) (B:Nat→Prop) (b:Nat),TkrAt x lo m w B b t→(∀ k,B k→¬ Rg k∧k < w.heap.size)→base ≤ w.heap.size→Inv s w →
   Calls Tryd.prog fn #[.pointer (some ⟨b,0,none⟩),.int .i64 (i:Int),.int .i64 (j:Int),.func (.func K) #[] caps] w (TellEnd Rg Inv Stop (runC (fun s q=>step s q.1 q.2) s (L i j)) w)
theorem runC_one {σ α:Type} (step:σ→α→Bool × σ) (s:σ) (p:α):runC step s [p]=step s p:=by
 rw [runC]
 cases h:step s p with
 | mk b s'=>cases b <;> simp [runC]
theorem pstell_leaf (x:Sc) (lo m:Nat) (t:Tr) (hk:t.kind=1 ∨ t.kind=2 ∨ t.kind=3 ∨ t.kind=4):TellDoes x lo m t:=by
 intro i j hi hij hj _ σ K caps base Rg Inv Stop step hF s w B b htk _ hbase hI
 have hal:t.al x i j=[.node i j 0 []]:=by
   rw [Tr.al_eq]
   unfold Tr.alOf
   rw [if_neg (by omega),if_neg (by omega)]
 rw [hal]
 obtain ⟨p,cap,gw,rv,S,hBb,-,hc,-,-,-,-⟩:=htk.here
 unfold tkC at hc
 have hE:=endr_of hF i j w.heap.size hbase
 obtain ⟨n0,n1,n2⟩:=three_new w (.cells #[.int .i64 (i:Int)] 3) (.cells #[.int .i64 (j:Int)] 3) (.cells #[.func (.func K) #[] caps] 208)
 have hbw:Below w.heap.size w (((w.alloc (.cells #[.int .i64 (i:Int)] 3)).alloc (.cells #[.int .i64 (j:Int)] 3)).alloc (.cells #[.func (.func K) #[] caps] 208)):=by go_grown
 have hsz:(((w.alloc (.cells #[.int .i64 (i:Int)] 3)).alloc (.cells #[.int .i64 (j:Int)] 3)).alloc (.cells #[.func (.func K) #[] caps] 208)).heap.size=w.heap.size+3:=by simp
 have hI3:=hF.stable s w _ hI (hbw.mono (by omega))
 have HC:=Lib.hid (hE.call s _ 0 (.slice none 0 0) [] ⟨hI3,n0,n1,n2⟩ (by omega) (PasAt.mk none 0 [] (fun _=>undef) (by simp) (Nat.le_refl _) (fun i t h=>by simp at h) (fun i t h=>by simp at h)))
 obtain ⟨d0,-⟩:=tk8 (keep_blk hbw hc)
 have HBW:=Lib.hid hbw
 have ek:(t.kind == 6)=false∧(t.kind == 7)=false∧(t.kind == 5)=false∧(t.kind == 8)=false:=by
   simp only [beq_eq_false_iff_ne];omega
 obtain ⟨e6,e7,e5,e8⟩:=ek
 clear hal htk hbase hI hE n0 n1 n2 hbw hsz hI3 hc hF hk hi hij hj
 unfold TellEnd
 rw [runC_one]
 generalize step s (.node i j 0 [])=RR at *
 go_enter Tryd.func144,Tryd.ntmps144
 go_upto_region 1 with (fail)
 generalize ((w.alloc _).alloc _).alloc _=W3 at *
 go_wp2_with fail
 refine HC.out.mono ?_
 rintro e w2 ⟨rfl,ht⟩
 have HT:=Lib.hid (ht.map (Chg.of_below HBW.out) (Inv':=Inv) fun hI2 _=>hI2.1)
 clear ht HC
 go_wp2
 go_ret
 exact ⟨rfl,HT.out⟩
end Go.Proofs.YtedjkbmfpjmlpaaDoor
namespace Go.Proofs.YtedjkbmfpjmlpaaDoor
open Go.RowKit
theorem Ps.picks_drop (x:Sc) (l:List Tr) (i j k:Nat) (u:Tr) (h:l[k]? = some u) (q:Nat) :
   Ps.picks i j q (((l.map (Tr.wy x)).zip (l.map (Tr.al x))).drop k)=(if Tr.wy x u i j=0 then [] else (Tr.al x u i j).map fun p=>(q,p)) ++ Ps.picks i j (q+1) (((l.map (Tr.wy x)).zip (l.map (Tr.al x))).drop (k+1)):=by
 have hk:=lt_of_some h
 have hz:k < ((l.map (Tr.wy x)).zip (l.map (Tr.al x))).length:=by simp [hk]
 rw [List.drop_eq_getElem_cons hz]
 have he:((l.map (Tr.wy x)).zip (l.map (Tr.al x)))[k]=(Tr.wy x u,Tr.al x u):=by
   have:l[k]=u:=by rw [List.getElem?_eq_getElem hk] at h;exact Option.some.inj h
   simp [this]
 rw [he,Ps.picks]
theorem pstellpicks_any (x:Sc) (lo m:Nat) (hlo:lo+m ≤ 1000) (t:Tr) (hk:t.kind=6 ∨ t.kind=7) (hlen:t.subs.length ≤ 100000) (hIH:∀ u,u ∈ t.subs→TellDoes x lo m u) :
   ByEnd 160 x lo m t (fun i j=>(Ps.picks i j 0 ((t.subs.map (Tr.wy x)).zip (t.subs.map (Tr.al x)))).map fun q=>(q.1,[q.2])):=by
 intro i j hi hij hj σ K caps base Rg Inv Stop step hE s w B b htk hBR hbase hI
 have hts:t.tkSubs=t.subs:=by unfold Tr.tkSubs;rw [if_neg (by rcases hk with h | h <;> rw [h] <;> simp)]
 obtain ⟨p,cap,gw,rv,S,hBb,-,hc,-,-,hp,hs⟩:=htk.here
 rw [hts] at hc hp hs
 unfold tkC at hc
 rw [runC_map]
 obtain ⟨RR,hRR⟩:∃ RR,runC (fun s (q:Nat × Pa)=>step s q.1 [q.2]) s (Ps.picks i j 0 ((t.subs.map (Tr.wy x)).zip (t.subs.map (Tr.al x))))=RR:=⟨_,rfl⟩
 have hb0:Below w.heap.size w (w.alloc (.cells #[.func (.func K) #[] caps] 219)):=(Below.refl _ _).alloc (Nat.le_refl _) _
 have hs0:(w.alloc (.cells #[.func (.func K) #[] caps] 219)).heap.size=w.heap.size+1:=by simp
 have X7:=Lib.hid (heap_alloc_new w (.cells #[.func (.func K) #[] caps] 219))
 have HI0:=Lib.hid (hE.stable s w _ hI (hb0.mono (by omega)))
 have HCH0:=Lib.hid (Chg.of_below (Rg:=Rg) hb0)
 have HEND:=Lib.hid hE;have HBR:=Lib.hid (fun k hk=>(hBR k hk).1);have HBL:=Lib.hid (fun k hk=>(hBR k hk).2);have IH:=Lib.hid hIH;have HP:=Lib.hid hp;have HS:=Lib.hid hs
 have HBASE:=Lib.hid hbase;have HLO:=Lib.hid hlo;have HIJ:=Lib.hid (And.intro hi (And.intro hij hj))
 have HR0:=Lib.hid (show runC (fun s (q:Nat × Pa)=>step s q.1 [q.2]) s (Ps.picks i j 0 (((t.subs.map (Tr.wy x)).zip (t.subs.map (Tr.al x))).drop 0))=RR by rw [List.drop_zero];exact hRR)
 have HC0:=Lib.hid (keep_blk hb0 hc)
 show Calls _ _ _ w (TellEnd Rg Inv Stop (runC (fun s (q:Nat × Pa)=>step s q.1 [q.2]) s _) w)
 rw [hRR]
 generalize hn:t.subs.length=n at *
 clear htk hBR hI hIH hc hp hs hRR hE hbase hb0 hk hts hi hij hj
 go_enter Tryd.func160,Tryd.ntmps160
 go_upto_region 1 with (fail)
 generalize w.alloc _=W0 at *
 obtain ⟨d0,d1,d2,d3,d4,d5,d6,d7,-⟩:=tk8 HC0.out
 clear d0 d2 d3 d4 d5 d6 d7
 go_wp2
 clear d1
 go_loopw [16] (fun iv wr=>∃ (k:Nat) (sk:σ),iv=.int .i64 k∧k ≤ n∧Hid (Inv sk wr)∧Hid (Chg Rg w wr)∧Hid (runC (fun s (q:Nat × Pa)=>step s q.1 [q.2]) sk (Ps.picks i j k (((t.subs.map (Tr.wy x)).zip (t.subs.map (Tr.al x))).drop k))=RR)∧Hid (wr.heap[w.heap.size]? = some (.cells #[.func (.func K) #[] caps] 219))∧w.heap.size < wr.heap.size) (fun iv _=>n - (intOf iv).toNat)
 case atStart=>exact ⟨0,s,rfl,Nat.zero_le _,HI0,HCH0,HR0,X7,by omega⟩
 case round =>
   clear HI0 HCH0 HR0 X7 hs0
   obtain ⟨k,sk,rfl,hkn,HI,HCH,HR,X7,hsz⟩:=hrel
   have wk:IntKind.i64.wrap ((k:Int)+1)=(k:Int)+1:=IntWalk.i64_in _ (by omega)
   by_cases hlt:k < n
   case neg =>
     obtain rfl:k=n:=by omega
     have hdl:decide ((k:Int) < (k:Int))=false:=decide_eq_false (by omega)
     have hr:RR=(true,sk):=by rw [← HR.out,List.drop_eq_nil_of_le (by simp [hn]),Ps.picks,runC]
     subst hr
     go_wp2
     go_ret
     exact ⟨rfl,Tld.yes HI.out HCH.out⟩
   obtain ⟨u,hu⟩:∃ u,t.subs[k]? = some u:=⟨_,List.getElem?_eq_getElem (by omega)⟩
   have hdl:decide ((k:Int) < (n:Int))=true:=decide_eq_true (by omega)
   obtain ⟨g,o,rfl,hBg,hcell⟩:=HP.out k u hu
   have hcell':wr.cell? ⟨g,o+k,none⟩=some (.pointer (some ⟨S k,0,none⟩)):=by
     rw [← hcell];unfold World.cell?
     rw [HCH.out.block g (block_lt_of_cell hcell) (HBR.out g hBg)]
   have htu:=(HS.out k u hu).keep (w':=wr) (fun b hb hB=>HCH.out.block b hb (HBR.out b hB))
   have HTU:=Lib.hid htu
   have HR2:=Lib.hid (show runC (fun s (q:Nat × Pa)=>step s q.1 [q.2]) sk ((if Tr.wy x u i j=0 then [] else (Tr.al x u i j).map fun p=>(k,p)) ++ Ps.picks i j (k+1) (((t.subs.map (Tr.wy x)).zip (t.subs.map (Tr.al x))).drop (k+1)))=RR by rw [← Ps.picks_drop x t.subs i j k u hu k];exact HR.out)
   have HU:=Lib.hid (List.mem_of_getElem? hu)
   obtain ⟨pu,cu,gu,ru,Su,-,-,hcu,htab,-,-,-⟩:=htu.here
   have hba:Below wr.heap.size wr (wr.alloc (.cells #[.int .i64 (k:Int)] 3)):=(Below.refl _ _).alloc (Nat.le_refl _) _
   have X9:=Lib.hid (heap_alloc_new wr (.cells #[.int .i64 (k:Int)] 3))
   have XE:=Lib.hid (keep_blk hba X7.out)
   have HBA:=Lib.hid hba
   have hsa:(wr.alloc (.cells #[.int .i64 (k:Int)] 3)).heap.size=wr.heap.size+1:=by simp
   have HTA:=Lib.hid (htu.later hba)
   have HIA:=Lib.hid (HEND.out.stable sk wr _ HI.out (hba.mono (by have:=HBASE.out;omega)))
   unfold tkC at hcu
   have HCU:=Lib.hid (keep_blk hba hcu)
   have hat:=psat_any gu lo m (i - lo) (j - lo) (by have:=HLO.out;omega) (by have:=HIJ.out;omega) (by have:=HIJ.out;omega) (Ps.rel lo (u.wy x)) (by unfold Ps.rel;exact Ps.sat_le _) _ (htab.later hba)
   rw [show (lo:Int)+((i - lo:Nat):Int)=(i:Int) by have:=HIJ.out;omega,show (lo:Int)+((j - lo:Nat):Int)=(j:Int) by have:=HIJ.out;omega,show Ps.rel lo (u.wy x) (i - lo) (j - lo)=Ps.sat (u.wy x i j) by unfold Ps.rel;rw [show lo+(i - lo)=i by have:=HIJ.out;omega,show lo+(j - lo)=j by have:=HIJ.out;omega]] at hat
   have HAT:=Lib.hid hat
   unfold Ps.tabV at HAT
   clear hcell htu hu hcu htab hba hat
   go_upto_region 4 with (fail)
   generalize wr.alloc _=w1 at *
   obtain ⟨e0,e1,e2,e3,e4,e5,e6,e7,-⟩:=tk8 HCU.out
   clear e0 e1 e5 e6 e7 hcell'
   go_wp2_with fail
   clear e2 e3 e4
   refine HAT.out.mono ?_
   rintro e w2 ⟨rfl,hb2⟩
   have HB2:=Lib.hid hb2
   have HI2:=Lib.hid (HEND.out.stable sk w1 w2 HIA.out (hb2.mono (by have:=HBASE.out;omega)))
   have XE2:=Lib.hid (keep_blk hb2 XE.out);have X92:=Lib.hid (keep_blk hb2 X9.out)
   have HT2:=Lib.hid (HTA.out.later hb2)
   have HCH2:=Lib.hid (HCH.out.trans ((Chg.of_below HBA.out).trans (Chg.of_below hb2)))
   have hs2:=hb2.size
   clear hb2 HAT HIA XE X9 HTA HBA HCU HCH HI X7
   by_cases h0:Tr.wy x u i j=0
   · have ez:((Ps.sat (Tr.wy x u i j):Nat):Int)=0:=by rw [h0];rfl
     have HRN:=Lib.hid (show runC (fun s (q:Nat × Pa)=>step s q.1 [q.2]) sk (Ps.picks i j (k+1) (((t.subs.map (Tr.wy x)).zip (t.subs.map (Tr.al x))).drop (k+1)))=RR by have:=HR2.out;rw [if_pos h0,List.nil_append] at this;exact this)
     rw [ez]
     clear ez h0
     go_wp2
     exact ⟨⟨k+1,sk,by go_num,by omega,HI2,HCH2,HRN,XE2,by omega⟩,by simp [intOf];omega⟩
   · have ez:(((Ps.sat (Tr.wy x u i j):Nat):Int) == 0)=false:=by
       rw [beq_eq_false_iff_ne];unfold Ps.sat;omega
     have hrn:=HR2.out
     rw [if_neg h0,runC_append,runC_map] at hrn
     have HCALL:=Lib.hid (IH.out u HU.out i j HIJ.out.1 HIJ.out.2.1 HIJ.out.2.2 h0 σ _ _ _ Rg _ _ _ (fnd_pick HEND.out w.heap.size wr.heap.size k w2.heap.size (by have:=HBASE.out;omega) (by omega) (by omega) (by have:=HBASE.out;omega)) sk w2 B (S k) HT2.out (fun k hk=>⟨HBR.out k hk,by have:=HBL.out k hk;omega⟩) (Nat.le_refl _) ⟨HI2.out,XE2.out,X92.out⟩)
     unfold TellEnd at HCALL
     generalize runC (fun s p=>step s k [p]) sk (Tr.al x u i j)=r1 at *
     have HRN:=Lib.hid hrn
     clear h0 hrn
     go_wp2_with fail
     refine HCALL.out.mono ?_
     rintro e w3 ⟨rfl,ht⟩
     clear HCALL
     obtain ⟨rb,rs⟩:=r1
     cases rb with
     | false =>
       have HST:=Lib.hid (ht.2 rfl)
       clear ht
       have hr:RR=(false,rs):=by rw [← HRN.out];rfl
       subst hr
       go_wp2
       go_ret
       exact ⟨rfl,Tld.no HST.out⟩
     | true =>
       obtain ⟨hI3,hch⟩:=ht.1 rfl
       have HI3:=Lib.hid hI3
       have HCH3:=Lib.hid (HCH2.out.trans hch)
       have hs3:=hch.size
       clear hch hI3 ht
       have HRN2:=Lib.hid (show runC (fun s (q:Nat × Pa)=>step s q.1 [q.2]) rs (Ps.picks i j (k+1) (((t.subs.map (Tr.wy x)).zip (t.subs.map (Tr.al x))).drop (k+1)))=RR from by rw [← HRN.out];rfl)
       have HI4:=Lib.hid HI3.out.1;have XE4:=Lib.hid HI3.out.2.1
       clear HI3 HRN
       go_wp2
       exact ⟨⟨k+1,rs,by go_num,by omega,HI4,HCH3,HRN2,XE4,by omega⟩,by simp [intOf];omega⟩
end Go.Proofs.YtedjkbmfpjmlpaaDoor
namespace Go.Proofs.YtedjkbmfpjmlpaaDoor
open Go.RowKit
theorem pstell_alt (x:Sc) (lo m:Nat) (hlo:lo+m ≤ 1000) (t:Tr) (hk:t.kind=6 ∨ t.kind=7) (hlen:t.subs.length ≤ 100000) (hIH:∀ u,u ∈ t.subs→TellDoes x lo m u):TellDoes x lo m t:=by
 intro i j hi hij hj _ σ K caps base Rg Inv Stop step hF s w B b htk hBR hbase hI
 have hal:t.al x i j=(Ps.picks i j 0 ((t.subs.map (Tr.wy x)).zip (t.subs.map (Tr.al x)))).map fun q=>.node i j q.1 [q.2]:=by
   rw [Tr.al_eq]
   unfold Tr.alOf
   rw [if_pos hk]
 rw [hal,runC_map]
 obtain ⟨p,cap,gw,rv,S,hBb,-,hc,-,-,-,-⟩:=htk.here
 unfold tkC at hc
 have hE:=endr_of hF i j w.heap.size hbase
 obtain ⟨n0,n1,n2⟩:=three_new w (.cells #[.int .i64 (i:Int)] 3) (.cells #[.int .i64 (j:Int)] 3) (.cells #[.func (.func K) #[] caps] 208)
 have hbw:Below w.heap.size w (((w.alloc (.cells #[.int .i64 (i:Int)] 3)).alloc (.cells #[.int .i64 (j:Int)] 3)).alloc (.cells #[.func (.func K) #[] caps] 208)):=by go_grown
 have hsz:(((w.alloc (.cells #[.int .i64 (i:Int)] 3)).alloc (.cells #[.int .i64 (j:Int)] 3)).alloc (.cells #[.func (.func K) #[] caps] 208)).heap.size=w.heap.size+3:=by simp
 have hI3:=hF.stable s w _ hI (hbw.mono (by omega))
 have HC:=Lib.hid (pstellpicks_any x lo m hlo t hk hlen hIH i j hi hij hj σ _ _ _ Rg _ _ _ hE s _ B b (htk.later hbw) (fun k hk=>⟨(hBR k hk).1,by have:=(hBR k hk).2;omega⟩) (by omega) ⟨hI3,n0,n1,n2⟩)
 unfold TellEnd at HC
 rw [runC_map] at HC
 obtain ⟨d0,-⟩:=tk8 (keep_blk hbw hc)
 have c5:(((w.alloc (.cells #[.int .i64 (i:Int)] 3)).alloc (.cells #[.int .i64 (j:Int)] 3)).alloc (.cells #[.func (.func K) #[] caps] 208)).cell? ⟨w.heap.size,0,none⟩=some (.int .i64 (i:Int)):=by unfold World.cell?;rw [n0];rfl
 have c6:(((w.alloc (.cells #[.int .i64 (i:Int)] 3)).alloc (.cells #[.int .i64 (j:Int)] 3)).alloc (.cells #[.func (.func K) #[] caps] 208)).cell? ⟨w.heap.size+1,0,none⟩=some (.int .i64 (j:Int)):=by unfold World.cell?;rw [n1];rfl
 have HBW:=Lib.hid hbw
 clear hal htk hbase hI hE n0 n1 n2 hbw hsz hI3 hc hF hi hij hj hIH hBR
 unfold TellEnd
 generalize runC (fun s (b:Nat × Pa)=>step s (.node i j b.1 [b.2])) s _=RR at *
 rcases hk with hk | hk
 · have e6:(t.kind == 6)=true:=by rw [hk];rfl
   clear hk
   go_enter Tryd.func144,Tryd.ntmps144
   go_upto_region 1 with (fail)
   generalize ((w.alloc _).alloc _).alloc _=W3 at *
   go_wp2_with fail
   refine HC.out.mono ?_
   rintro e w2 ⟨rfl,ht⟩
   have HT:=Lib.hid (ht.map (Chg.of_below HBW.out) (Inv':=Inv) fun hI2 _=>hI2.1)
   clear ht HC
   go_wp2
   go_ret
   exact ⟨rfl,HT.out⟩
 · have e6:(t.kind == 6)=false:=by rw [hk];rfl
   have e7:(t.kind == 7)=true:=by rw [hk];rfl
   clear hk
   go_enter Tryd.func144,Tryd.ntmps144
   go_upto_region 1 with (fail)
   generalize ((w.alloc _).alloc _).alloc _=W3 at *
   go_wp2_with fail
   refine HC.out.mono ?_
   rintro e w2 ⟨rfl,ht⟩
   have HT:=Lib.hid (ht.map (Chg.of_below HBW.out) (Inv':=Inv) fun hI2 _=>hI2.1)
   clear ht HC
   go_wp2
   go_ret
   exact ⟨rfl,HT.out⟩
def Ps.aloneL (x:Sc) (t:Tr) (i j:Nat):List (Nat × List Pa):=if t.aloneB=true∧i=j∧Tr.wyHead x t.subs i j ≠ 0 then ((t.subs.map (Tr.al x)).headD Ps.noPas i j).map fun p=>(0,[p]) else []
theorem pstellalone_any (x:Sc) (lo m:Nat) (hlo:lo+m ≤ 1000) (t u:Tr) (hsub:t.kind=8→t.subs=[u]) (hIH:t.kind=8→t.most ≠ 0→TellDoes x lo m u) :
   ByEnd 162 x lo m t (Ps.aloneL x t):=by
 intro i j hi hij hj σ K caps base Rg Inv Stop step hE s w B b htk hBR hbase hI
 obtain ⟨p,cap,gw,rv,S,hBb,-,hc,-,-,hp,hs⟩:=htk.here
 unfold tkC at hc
 have hb0:Below w.heap.size w (w.alloc (.cells #[.func (.func K) #[] caps] 219)):=(Below.refl _ _).alloc (Nat.le_refl _) _
 have hs0:(w.alloc (.cells #[.func (.func K) #[] caps] 219)).heap.size=w.heap.size+1:=by simp
 have X7:=Lib.hid (heap_alloc_new w (.cells #[.func (.func K) #[] caps] 219))
 have HI0:=Lib.hid (hE.stable s w _ hI (hb0.mono (by omega)))
 have HB0:=Lib.hid hb0
 have HC0:=Lib.hid (keep_blk hb0 hc)
 unfold Ps.aloneL
 by_cases ha:t.aloneB=true
 case neg =>
   have hb:t.aloneB=false:=by simpa using ha
   rw [if_neg (fun h=>ha h.1),runC]
   rw [hb] at HC0
   clear ha hb htk hp hs hI hE hb0 hc hbase hsub hIH hBR hi hij hj hs0
   go_enter Tryd.func162,Tryd.ntmps162
   go_upto_region 1 with (fail)
   generalize w.alloc _=W0 at *
   obtain ⟨d0,d1,d2,d3,d4,d5,d6,d7,-⟩:=tk8 HC0.out
   clear d0 d1 d2 d3 d4 d5 d6
   go_wp2
   go_ret
   exact ⟨rfl,Tld.yes HI0.out (Chg.of_below HB0.out)⟩
 have hal:=ha
 unfold Tr.aloneB at hal
 simp only [Bool.and_eq_true,decide_eq_true_eq,Bool.not_eq_true',decide_eq_false_iff_not] at hal
 obtain ⟨⟨⟨h8,hm0⟩,-⟩,-⟩:=hal
 rw [ha] at HC0
 by_cases hne:i=j
 case neg =>
   rw [if_neg (fun h=>hne h.2.1),runC]
   have ej:((i:Int) != (j:Int))=true:=by rw [bne_iff_ne];omega
   have ej2:(i != j)=true:=by rw [bne_iff_ne];exact hne
   clear ha htk hp hs hI hE hb0 hc hbase hsub hIH hBR hi hij hj hs0 h8 hm0 hne
   go_enter Tryd.func162,Tryd.ntmps162
   go_upto_region 1 with (fail)
   generalize w.alloc _=W0 at *
   obtain ⟨d0,d1,d2,d3,d4,d5,d6,d7,-⟩:=tk8 HC0.out
   clear d0 d1 d2 d3 d4 d5 d6
   go_wp2
   go_ret
   exact ⟨rfl,Tld.yes HI0.out (Chg.of_below HB0.out)⟩
 subst hne
 have hu:=hsub h8
 have hts:t.tkSubs=[u]:=by unfold Tr.tkSubs;rw [if_neg (fun h=>hm0 h.2),hu]
 rw [hts] at HC0 hp hs
 obtain ⟨g,o,rfl,hBg,hcell⟩:=hp 0 u rfl
 have htu:=hs 0 u rfl
 have hcell':=(show (w.alloc (.cells #[.func (.func K) #[] caps] 219)).cell? ⟨g,o,none⟩=some (.pointer (some ⟨S 0,0,none⟩)) by
   have h0:w.cell? ⟨g,o,none⟩=some (.pointer (some ⟨S 0,0,none⟩)):=hcell
   rw [← h0];unfold World.cell?;rw [hb0.block g (block_lt_of_cell h0)])
 obtain ⟨pu,cu,gu,ru,Su,-,-,hcu,htab,-,-,-⟩:=htu.here
 unfold tkC at hcu
 have HCU:=Lib.hid (keep_blk hb0 hcu)
 have hat:=psat_any gu lo m (i - lo) (i - lo) (by omega) (by omega) (by omega) (Ps.rel lo (u.wy x)) (by unfold Ps.rel;exact Ps.sat_le _) _ (htab.later hb0)
 rw [show (lo:Int)+((i - lo:Nat):Int)=(i:Int) by omega,show Ps.rel lo (u.wy x) (i - lo) (i - lo)=Ps.sat (u.wy x i i) by unfold Ps.rel;rw [show lo+(i - lo)=i by omega]] at hat
 have HAT:=Lib.hid hat
 unfold Ps.tabV at HAT
 have HTU:=Lib.hid (htu.later hb0)
 have HEND:=Lib.hid hE;have HBR:=Lib.hid hBR;have HBASE:=Lib.hid hbase;have HIH:=Lib.hid (hIH h8 hm0);have HIJ:=Lib.hid (And.intro hi hj)
 rw [hu,Tr.wyHead]
 have HA:=Lib.hid ha;have HBS:=Lib.hid (hbase);have HSZ:=Lib.hid hs0
 clear ha htk hp hs hI hE hb0 hc hbase hsub hIH hBR hi hij hj h8 hm0 hu hts hcell htu hcu htab hat
 have ej:((i:Int) != (i:Int))=false:=by simp
 by_cases h0:u.wy x i i=0
 · rw [if_neg (fun h=>h.2.2 h0),runC]
   have ez:((Ps.sat (u.wy x i i):Nat):Int)=0:=by rw [h0];rfl
   rw [ez] at HAT
   clear ez h0 HIH HBR HTU
   go_enter Tryd.func162,Tryd.ntmps162
   go_upto_region 1 with (fail)
   generalize w.alloc _=W0 at *
   obtain ⟨d0,d1,d2,d3,d4,d5,d6,d7,-⟩:=tk8 HC0.out
   clear d0 d2 d3 d4 d5 d6
   obtain ⟨e0,e1,e2,e3,e4,e5,e6,e7,-⟩:=tk8 HCU.out
   clear e0 e1 e5 e6 e7
   go_wp2_with fail
   clear d1 d7 e2 e3 e4
   refine HAT.out.mono ?_
   rintro e w2 ⟨rfl,hb2⟩
   have HB2:=Lib.hid (HB0.out.trans (hb2.mono HB0.out.size))
   have HI2:=Lib.hid (HEND.out.stable s W0 w2 HI0.out (hb2.mono (by have:=HBASE.out;have:=HB0.out.size;omega)))
   clear hb2 HAT
   go_wp2
   go_ret
   exact ⟨rfl,Tld.yes HI2.out (Chg.of_below HB2.out)⟩
 · rw [if_pos ⟨HA.out,rfl,h0⟩]
   have ez:(((Ps.sat (u.wy x i i):Nat):Int) == 0)=false:=by rw [beq_eq_false_iff_ne];unfold Ps.sat;omega
   rw [show ([u].map (Tr.al x)).headD Ps.noPas=Tr.al x u from rfl,runC_map]
   have H0:=Lib.hid h0
   obtain ⟨RR,hRR⟩:∃ RR,runC (fun s p=>step s 0 [p]) s (Tr.al x u i i)=RR:=⟨_,rfl⟩
   have HRR:=Lib.hid hRR
   show Calls _ _ _ w (TellEnd Rg Inv Stop (runC (fun s p=>step s 0 [p]) s (Tr.al x u i i)) w)
   rw [hRR]
   clear h0 hRR
   go_enter Tryd.func162,Tryd.ntmps162
   go_upto_region 1 with (fail)
   generalize w.alloc _=W0 at *
   obtain ⟨d0,d1,d2,d3,d4,d5,d6,d7,-⟩:=tk8 HC0.out
   clear d0 d2 d3 d4 d5 d6
   obtain ⟨e0,e1,e2,e3,e4,e5,e6,e7,-⟩:=tk8 HCU.out
   clear e0 e1 e5 e6 e7
   go_wp2_with fail
   clear e2 e3 e4
   refine HAT.out.mono ?_
   rintro e w2 ⟨rfl,hb2⟩
   have HB2:=Lib.hid (HB0.out.trans (hb2.mono HB0.out.size))
   have hs2:=hb2.size
   have HI2:=Lib.hid (HEND.out.stable s W0 w2 HI0.out (hb2.mono (by have:=HBASE.out;have:=HB0.out.size;omega)))
   have X2:=Lib.hid (keep_blk hb2 X7.out)
   have HC2:=Lib.hid (keep_blk hb2 HC0.out)
   have hcell2:w2.cell? ⟨g,o,none⟩=some (.pointer (some ⟨S 0,0,none⟩)):=by
     rw [← hcell'];unfold World.cell?;rw [hb2.block g (block_lt_of_cell hcell')]
   have HCALL:=Lib.hid (HIH.out i i HIJ.out.1 (Nat.le_refl _) HIJ.out.2 H0.out σ _ _ _ Rg _ _ _ (fnd_alone HEND.out w.heap.size w2.heap.size (by have:=HBASE.out;omega) (by have:=HSZ.out;omega)) s w2 B (S 0) (HTU.out.later hb2) (fun k hk=>⟨(HBR.out k hk).1,by have:=(HBR.out k hk).2;have:=HSZ.out;omega⟩) (Nat.le_refl _) ⟨HI2.out,X2.out⟩)
   unfold TellEnd at HCALL
   rw [HRR.out] at HCALL
   clear hb2 HAT d1 d7 hcell'
   obtain ⟨d0,d1,d2,d3,d4,d5,d6,d7,-⟩:=tk8 HC2.out
   clear d0 d2 d3 d4 d5 d6 d7
   go_wp2_with fail
   refine HCALL.out.mono ?_
   rintro e w3 ⟨rfl,ht⟩
   have HT:=Lib.hid (ht.map (Chg.of_below HB2.out) (Inv':=Inv) fun hI3 _=>hI3.1)
   clear ht HCALL d1 hcell2
   go_wp2
   go_ret
   exact ⟨rfl,HT.out⟩
end Go.Proofs.YtedjkbmfpjmlpaaDoor
