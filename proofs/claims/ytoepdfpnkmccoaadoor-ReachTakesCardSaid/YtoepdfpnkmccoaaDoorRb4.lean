/- Part 4 of what these proofs need. -/
import Derived.ChangeOld
import Derived.Deep.Slices
import Derived.Laws.IdiomArrays
import Derived.Lib.SmallJoins
import Derived.SizedLaws
import Derived.DataReads
import Derived.LaidLaws
import Derived.ChangeSame
import Derived.ChangeMaps5
import Derived.Deep.Strs
import Derived.ChangeArms
import Derived.Test.YtoepdfpnkmccoaaDoorRb3
set_option maxRecDepth 100000
set_option maxHeartbeats 16000000
namespace Go.Proofs.YtoepdfpnkmccoaaDoor
open Go.RowKit
theorem sp_part0 (a b:Value) (w:World):(Go.part 3 #[a,b] 0).run Tryd.prog w=.ok a w:=by kernel_rfl
theorem sp_part1 (a b:Value) (w:World):(Go.part 3 #[a,b] 1).run Tryd.prog w=.ok b w:=by kernel_rfl
theorem sp_eqi (a b:Int) (w:World):(Op.equalIn 9999 3 (.int .i64 a) (.int .i64 b)).run Tryd.prog w=.ok (a == b) w:=run_equalIn_int w 9998 3 .i64 .i64 a b Tryd.underlying3
theorem sp_eq2 (a b a' b':Int) (w:World):(Op.equalIn 10000 59 (.agg #[.int .i64 a,.int .i64 b]) (.agg #[.int .i64 a',.int .i64 b'])).run Tryd.prog w=.ok (a == a' && b == b') w:=by
 have h0:=run_underlying (P:=Tryd.prog) (w:=w) Tryd.underlying59
 unfold Op.equalIn
 simp only [Sem.run_bind,h0,Result.andThen_ok]
 simp
 simp only [sp_part0,sp_part1,sp_eqi,Result.andThen_ok]
 by_cases h1:a=a'
 · by_cases h2:b=b' <;> simp [h1,h2]
 · simp [h1]
theorem code_first (t:Tr) (n:Nat):Re.code t n [0,0]=Re.code t n []:=by
 unfold Re.code
 have:Re.okP n 0=true:=by unfold Re.okP;rw [decide_eq_true (by omega),decide_eq_true (by omega)];rfl
 simp only [List.all_cons,List.all_nil,Bool.and_true,this]
theorem first_is {x:Sc} {t:Tr} (hn:x.t.size ≤ 63) (hf:t.InForm) {a b:Nat} {q:Bool}
   (h:if Re.least (Tr.tabT x t) < 64 then q=true∧a=Re.least (Tr.tabT x t)∧b=Re.top (Tr.tabT x t a) else q=false∧a=0∧b=0):Re.FirstIs x.t.size (Tr.tk x t) a b q:=by
 have hm:=Tr.tabT_means x hn t hf
 obtain ⟨-,h2,h3,h4⟩:=Oc.nxt_spec (p:=fun i=>decide (Tr.tabT x t i ≠ 0#64)) 64 0
 have hno:∀ i,i < Re.least (Tr.tabT x t)→i < 64→∀ j,i ≤ x.t.size→¬ Tr.tk x t i j:=fun i hi h64 j hle hk=>by
   have h5:=h3 i (Nat.zero_le _) hi
   have h6:Tr.tabT x t i=0#64:=by simpa using h5
   have h7:=(hm i h64 j).2 ⟨hle,hk⟩
   rw [h6] at h7;simp at h7
 by_cases hl:Re.least (Tr.tabT x t) < 64
 · rw [if_pos hl] at h
   obtain ⟨rfl,rfl,rfl⟩:=h
   have h5:=h4 hl
   have h6:Tr.tabT x t (Re.least (Tr.tabT x t)) ≠ 0#64:=of_decide_eq_true (show decide (Tr.tabT x t (Re.least (Tr.tabT x t)) ≠ 0#64)=true from h5)
   obtain ⟨t1,t2,t3⟩:=Re.top_bits _ h6
   have h7:=(hm _ hl _).1 t2
   have h8:=Tr.tk_on x t _ _ h7.1 h7.2
   unfold Re.FirstIs
   rw [if_pos rfl]
   refine ⟨h7.1,h8.2,h7.2,fun i j hi _=>hno i hi (by omega) j (by omega),fun j hj _ hk=>?_⟩
   have:=(hm _ hl j).2 ⟨h7.1,hk⟩
   rw [t3 j hj] at this;exact absurd this (by decide)
 · rw [if_neg hl] at h
   obtain ⟨rfl,rfl,rfl⟩:=h
   unfold Re.FirstIs
   rw [if_neg (by decide)]
   exact ⟨rfl,rfl,fun i j hi _=>hno i (by omega) (by omega) j hi⟩
theorem reachtakes_any (A:Nat→Addr) (s:ByteArray) (c e0:Int) (t:Tr) (f g:Int) (w:World) (hM:ReMem A w) (B:Nat→Prop) (v:Value) (hv:NodeV w B v t) :
   Calls Tryd.prog 5 #[v,.agg #[.string s,.int .i64 c,.int .i64 e0],.int .i64 f,.int .i64 g] w fun e w'=>e=.returned (.bool true)∧Below w.heap.size w w':=by
 obtain ⟨sv,rfl,hsv⟩:=hv
 obtain ⟨p,cap,rfl,hlen⟩:=hsv.slice
 have HM:=Lib.hid (fun w9 (hb:Below w.heap.size w w9)=>hM.below hb)
 have HV:=Lib.hid (fun w9 (hb:Below w.heap.size w w9)=>(show NodeV w9 B (.agg (t.cells (.slice p t.subs.length cap))) t from ⟨_,rfl,hsv.later hb⟩))
 have HLG:=Lib.hid (fun w9 (hb:Below w.heap.size w w9)=>relong_any s c e0 t w9 B (.agg (t.cells (.slice p t.subs.length cap))) ⟨_,rfl,hsv.later hb⟩)
 have heqs:=sp_eq2
 clear hsv hM
 unfold Tr.cells at *
 go_enter Tryd.func5,Tryd.ntmps5
 have hb1:Below w.heap.size w ((w.alloc (.cells #[.int .i64 t.kind,.int .u64 (Oc.U t.w0),.int .u64 (Oc.U t.w1),.int .u64 (Oc.U t.w2),.int .u64 (Oc.U t.w3),.slice p t.subs.length cap,.int .i64 t.num,.int .i64 t.least,.int .i64 t.most,.bool t.bare] 29)).alloc (.cells #[.string s,.int .i64 c,.int .i64 e0] 41)):=by go_grown
 have Y0:=Lib.hid (show ((w.alloc (.cells #[.int .i64 t.kind,.int .u64 (Oc.U t.w0),.int .u64 (Oc.U t.w1),.int .u64 (Oc.U t.w2),.int .u64 (Oc.U t.w3),.slice p t.subs.length cap,.int .i64 t.num,.int .i64 t.least,.int .i64 t.most,.bool t.bare] 29)).alloc (.cells #[.string s,.int .i64 c,.int .i64 e0] 41)).heap[w.heap.size]? = some (.cells #[.int .i64 t.kind,.int .u64 (Oc.U t.w0),.int .u64 (Oc.U t.w1),.int .u64 (Oc.U t.w2),.int .u64 (Oc.U t.w3),.slice p t.subs.length cap,.int .i64 t.num,.int .i64 t.least,.int .i64 t.most,.bool t.bare] 29) from heap_alloc_lt (heap_alloc_new _ _))
 have Y1:=Lib.hid (show ((w.alloc (.cells #[.int .i64 t.kind,.int .u64 (Oc.U t.w0),.int .u64 (Oc.U t.w1),.int .u64 (Oc.U t.w2),.int .u64 (Oc.U t.w3),.slice p t.subs.length cap,.int .i64 t.num,.int .i64 t.least,.int .i64 t.most,.bool t.bare] 29)).alloc (.cells #[.string s,.int .i64 c,.int .i64 e0] 41)).heap[w.heap.size+1]? = some (.cells #[.string s,.int .i64 c,.int .i64 e0] 41) from new_at _ _ _ (by simp))
 have HB1:=Lib.hid hb1
 clear hb1
 go_upto_region 1 with (fail)
 generalize (w.alloc (.cells #[.int .i64 t.kind,.int .u64 (Oc.U t.w0),.int .u64 (Oc.U t.w1),.int .u64 (Oc.U t.w2),.int .u64 (Oc.U t.w3),.slice p t.subs.length cap,.int .i64 t.num,.int .i64 t.least,.int .i64 t.most,.bool t.bare] 29)).alloc (.cells #[.string s,.int .i64 c,.int .i64 e0] 41)=W1 at *
 go_wp2_with fail
 refine (relives_any A W1 (HM.out W1 HB1.out)).mono ?_
 rintro e w2 ⟨rfl,hb2⟩
 have HB2:=Lib.hid (HB1.out.trans (hb2.mono HB1.out.size));have Z0:=Lib.hid (keep_blk hb2 Y0.out);have Z1:=Lib.hid (keep_blk hb2 Y1.out)
 clear hb2 HB1 Y0 Y1
 go_wp2_with (first
   | (refine wpList_load_row rfl 29 (.tmp 4) rfl w.heap.size rfl 29 #[.int .i64 t.kind,.int .u64 (Oc.U t.w0),.int .u64 (Oc.U t.w1),.int .u64 (Oc.U t.w2),.int .u64 (Oc.U t.w3),.slice p t.subs.length cap,.int .i64 t.num,.int .i64 t.least,.int .i64 t.most,.bool t.bare] (0,0) _ Z0.out Tryd.underlying29 rfl (by kernel_rfl) ?_)
   | (refine wpList_load_row rfl 41 (.tmp 5) rfl (w.heap.size+1) rfl 41 #[.string s,.int .i64 c,.int .i64 e0] (0,0) _ Z1.out Tryd.underlying41 rfl (by kernel_rfl) ?_)
   | fail)
 refine (HLG.out w2 HB2.out).mono ?_
 rintro e w3 ⟨q,rfl,hq,hb3⟩
 have HB3:=Lib.hid (HB2.out.trans (hb3.mono HB2.out.size));have Y0:=Lib.hid (keep_blk hb3 Z0.out);have Y1:=Lib.hid (keep_blk hb3 Z1.out)
 have HQ:=Lib.hid hq
 clear hb3 HB2 Z0 Z1 hq HLG
 cases q with
 | true =>
   go_wp2
   go_ret
   exact ⟨rfl,HB3.out⟩
 | false =>
   have hnd:=HQ.out rfl
   have hd:t.dpT ≤ 1000000:=by have:=Tr.dp_nd t;omega
   have HD:=Lib.hid hd
   clear hnd hd HQ
   obtain ⟨c0,c1,c2⟩:w3.cell? ⟨w.heap.size+1,0,none⟩=some (.string s)∧w3.cell? ⟨w.heap.size+1,1,none⟩=some (.int .i64 c)∧w3.cell? ⟨w.heap.size+1,2,none⟩=some (.int .i64 e0):=by
     simp [World.cell?,Y1.out]
   go_wp2_with fail
   refine (scnew_any s c e0 w3).mono ?_
   rintro e w4 ⟨rfl,hx,hb4,-⟩
   have HB4:=Lib.hid (HB3.out.trans (hb4.mono HB3.out.size));have Z0:=Lib.hid (keep_blk hb4 Y0.out);have Z1:=Lib.hid (keep_blk hb4 Y1.out);have HX:=Lib.hid hx
   clear hb4 hx HB3 Y0 Y1 c0 c1 c2
   generalize w3.heap.size=gx at *
   obtain ⟨c0,c1,c2⟩:w4.cell? ⟨w.heap.size+1,0,none⟩=some (.string s)∧w4.cell? ⟨w.heap.size+1,1,none⟩=some (.int .i64 c)∧w4.cell? ⟨w.heap.size+1,2,none⟩=some (.int .i64 e0):=by
     simp [World.cell?,Z1.out]
   go_upto_region 7 with (first
     | (refine wpList_store_row rfl 50 (.tmp 10) (.tmp 36) rfl w4.heap.size #[.string s,.int .i64 c,.int .i64 e0,.bool false] rfl rfl 50 _ (heap_alloc_new _ _) (by kernel_rfl) rfl (by simp [Value.oneCell']) ?_)
     | fail)
   have hb5:Below w4.heap.size w4 (World.setRow (w4.alloc (.cells #[.string ⟨#[]⟩,.int .i64 0,.int .i64 0,.bool false] 50)) w4.heap.size #[.string s,.int .i64 c,.int .i64 e0,.bool false]):=below_setRow ((Below.refl _ _).alloc (Nat.le_refl _) _) (Nat.le_refl _) _
   have HB5:=Lib.hid (HB4.out.trans (hb5.mono HB4.out.size));have Y0:=Lib.hid (keep_blk hb5 Z0.out);have HX5:=Lib.hid (HX.out.below hb5)
   have YS:=Lib.hid (show (World.setRow (w4.alloc (.cells #[.string ⟨#[]⟩,.int .i64 0,.int .i64 0,.bool false] 50)) w4.heap.size #[.string s,.int .i64 c,.int .i64 e0,.bool false]).heap[w4.heap.size]? = some (.cells #[.string s,.int .i64 c,.int .i64 e0,.bool false] 50) from heap_setRow (heap_alloc_new _ _))
   clear hb5 HB4 Z0 Z1 HX c0 c1 c2
   generalize (World.setRow (w4.alloc (.cells #[.string ⟨#[]⟩,.int .i64 0,.int .i64 0,.bool false] 50)) w4.heap.size #[.string s,.int .i64 c,.int .i64 e0,.bool false])=w5 at *
   try simp only [Act.put]
   go_wp2_with (first
     | (refine wpList_load_row rfl 29 (.tmp 4) rfl w.heap.size rfl 29 #[.int .i64 t.kind,.int .u64 (Oc.U t.w0),.int .u64 (Oc.U t.w1),.int .u64 (Oc.U t.w2),.int .u64 (Oc.U t.w3),.slice p t.subs.length cap,.int .i64 t.num,.int .i64 t.least,.int .i64 t.most,.bool t.bare] (0,0) _ Y0.out Tryd.underlying29 rfl (by kernel_rfl) ?_)
     | fail)
   refine (retakes_any A t HD.out (Sc.new s c e0) gx f g w5 (HM.out w5 HB5.out) HX5.out _ _ (HV.out w5 HB5.out)).mono ?_
   rintro e w6 ⟨rfl,hb6⟩
   have HB6:=Lib.hid (HB5.out.trans (hb6.mono HB5.out.size));have Z0:=Lib.hid (keep_blk hb6 Y0.out);have ZS:=Lib.hid (keep_blk hb6 YS.out);have HX6:=Lib.hid (HX5.out.below hb6)
   clear hb6 HB5 Y0 YS HX5
   have hc2:Re.code t (Sc.new s c e0).t.size [f,g]=Re.code t s.size [f,g]:=rfl
   rw [hc2]
   have HCL:=Lib.hid (Re.code_lt t s.size [f,g])
   have HCZ:=Lib.hid (Re.code_zero (t:=t) (n:=s.size) (ps:=[f,g]))
   have HAS:=Lib.hid (fun w9 (hb:Below w.heap.size w w9)=>rrasked_any s c e0 t HD.out f g w9 B _ (HV.out w9 hb))
   try unfold Tr.cells at HAS
   generalize Re.code t s.size [f,g]=cd at *
   clear hc2
   obtain ⟨P,hP⟩:∃ P,P=(decide (cd=0) && (Tr.tabT (Sc.new s c e0) t f.toNat).getLsbD g.toNat):=⟨_,rfl⟩
   rw [← hP]
   have HP:=Lib.hid hP
   clear hP
   go_wp2_with (first
     | (refine wpList_load_row rfl 29 (.tmp 4) rfl w.heap.size rfl 29 #[.int .i64 t.kind,.int .u64 (Oc.U t.w0),.int .u64 (Oc.U t.w1),.int .u64 (Oc.U t.w2),.int .u64 (Oc.U t.w3),.slice p t.subs.length cap,.int .i64 t.num,.int .i64 t.least,.int .i64 t.most,.bool t.bare] (0,0) _ Z0.out Tryd.underlying29 rfl (by kernel_rfl) ?_)
     | (refine wpList_load_row rfl 50 (.tmp 10) rfl w4.heap.size rfl 50 #[.string s,.int .i64 c,.int .i64 e0,.bool false] (0,0) _ ZS.out Tryd.underlying50 rfl (by kernel_rfl) ?_)
     | fail)
   refine (HAS.out w6 HB6.out).mono ?_
   rintro e w7 ⟨rfl,hb7⟩
   have HB7:=Lib.hid (HB6.out.trans (hb7.mono HB6.out.size));have Y0:=Lib.hid (keep_blk hb7 Z0.out);have YS:=Lib.hid (keep_blk hb7 ZS.out);have HX7:=Lib.hid (HX6.out.below hb7)
   clear hb7 HB6 Z0 ZS HX6 HAS
   go_wp2_with fail
   refine (sentV_num A cd HCL.out w7 (HM.out w7 HB7.out).errs).mono ?_
   rintro e w8 ⟨rfl,hb8⟩
   have HB8:=Lib.hid (HB7.out.trans (hb8.mono HB7.out.size));have Z0:=Lib.hid (keep_blk hb8 Y0.out);have ZS:=Lib.hid (keep_blk hb8 YS.out);have HX8:=Lib.hid (HX7.out.below hb8)
   clear hb8 HB7 Y0 YS HX7
   have heq:((cd:Int) == (cd:Int))=true:=by simp
   have hne:((cd:Int) != (cd:Int))=false:=by simp
   have KEY:∀ (w9:World),Hid (Below w.heap.size w w9)→Hid (w9.heap[w.heap.size]? = some (.cells #[.int .i64 t.kind,.int .u64 (Oc.U t.w0),.int .u64 (Oc.U t.w1),.int .u64 (Oc.U t.w2),.int .u64 (Oc.U t.w3),.slice p t.subs.length cap,.int .i64 t.num,.int .i64 t.least,.int .i64 t.most,.bool t.bare] 29))→Hid (w9.heap[w4.heap.size]? = some (.cells #[.string s,.int .i64 c,.int .i64 e0,.bool false] 50))→Hid (ScAt w9 gx (Sc.new s c e0))→True:=fun _ _ _ _ _=>trivial
   clear KEY
   by_cases h0:cd=0
   · have hz:=HCZ.out.1 h0
     obtain ⟨k,rfl⟩:∃ k:Nat,f=k:=⟨f.toNat,by have:=hz.2.2 f (by simp);omega⟩
     obtain ⟨l,rfl⟩:∃ l:Nat,g=l:=⟨g.toNat,by have:=hz.2.2 g (by simp);omega⟩
     have hk:k ≤ s.size:=by have:=hz.2.2 (k:Int) (by simp);omega
     have hl:l ≤ s.size:=by have:=hz.2.2 (l:Int) (by simp);omega
     have hform:=(Tr.checkC_zero.1 hz.1).1
     have hp:=HP.out
     rw [decide_eq_true h0,Bool.true_and,Int.toNat_natCast,Int.toNat_natCast] at hp
     have hmn:=Tr.tabT_means (Sc.new s c e0) hz.2.1 t hform k (by omega) l
     have HPQ:=Lib.hid (show P=true ↔ Tr.tk (Sc.new s c e0) t k l from by rw [hp];exact hmn.trans ⟨fun h=>h.2,fun h=>⟨hk,h⟩⟩)
     have HRT:=Lib.hid (rrtakes_any s c e0 (by omega) t hform k hk l hl w8 B _ (HV.out w8 HB8.out))
     try unfold Tr.cells at HRT
     subst h0
     clear hz hk hl hform hp hmn HP HCZ
     obtain ⟨n0,n1,n2,n3,n4,n5,n6,n7,n8,n9⟩:=allTen Z0.out
     obtain ⟨d0,d1,d2,d3,-⟩:=four ZS.out
     go_wp2_with fail
     refine HRT.out.mono ?_
     rintro e w9 ⟨q,rfl,hq,hb9⟩
     have hPq:P=q:=by rw [Bool.eq_iff_iff];exact HPQ.out.trans hq.symm
     subst hPq
     have HB:=Lib.hid (HB8.out.trans (hb9.mono HB8.out.size));have Y0:=Lib.hid (keep_blk hb9 Z0.out);have YS:=Lib.hid (keep_blk hb9 ZS.out);have HX:=Lib.hid (HX8.out.below hb9)
     clear hb9 HB8 Z0 ZS HX8 n0 n1 n2 n3 n4 n5 n6 n7 n8 n9 d0 d1 d2 d3 HRT HPQ hq heq hne
     cases P
     all_goals
       go_wp2_with (first
         | (refine wpList_load_row rfl 29 (.tmp 4) rfl w.heap.size rfl 29 #[.int .i64 t.kind,.int .u64 (Oc.U t.w0),.int .u64 (Oc.U t.w1),.int .u64 (Oc.U t.w2),.int .u64 (Oc.U t.w3),.slice p t.subs.length cap,.int .i64 t.num,.int .i64 t.least,.int .i64 t.most,.bool t.bare] (0,0) _ Y0.out Tryd.underlying29 rfl (by kernel_rfl) ?_)
         | fail)
       refine (refirstcall_any A t HD.out (Sc.new s c e0) gx _ (HM.out _ HB.out) HX.out _ _ (HV.out _ HB.out)).mono ?_
       rintro e wa ⟨a,b,q,rfl,hba,hfe⟩
       have HBa:=Lib.hid (HB.out.trans (hba.mono HB.out.size));have Z0:=Lib.hid (keep_blk hba Y0.out);have ZS:=Lib.hid (keep_blk hba YS.out)
       have hc3:Re.code t (Sc.new s c e0).t.size []=Re.code t s.size []:=rfl
       rw [hc3] at hfe ⊢
       have HFE:=Lib.hid hfe
       have HCL2:=Lib.hid (Re.code_lt t s.size [])
       have HCZ2:=Lib.hid (Re.code_zero (t:=t) (n:=s.size) (ps:=[]))
       have HAS:=Lib.hid (fun w9 (hb:Below w.heap.size w w9)=>rrasked_any s c e0 t HD.out 0 0 w9 B _ (HV.out w9 hb))
       rw [code_first] at HAS
       try unfold Tr.cells at HAS
       generalize Re.code t s.size []=c9 at *
       clear hc3 hba hfe HB Y0 YS HX
       go_upto_region 12 with (first
         | (refine wpList_store_row rfl 59 (.tmp 14) (.tmp 71) rfl wa.heap.size #[.int .i64 (a:Int),.int .i64 (b:Int)] rfl rfl 59 _ (heap_alloc_new _ _) (by kernel_rfl) rfl (by simp [Value.oneCell']) ?_)
         | fail)
       have hbb:Below wa.heap.size wa (World.setRow (wa.alloc (.cells #[.int .i64 0,.int .i64 0] 59)) wa.heap.size #[.int .i64 (a:Int),.int .i64 (b:Int)]):=below_setRow ((Below.refl _ _).alloc (Nat.le_refl _) _) (Nat.le_refl _) _
       have HBb:=Lib.hid (HBa.out.trans (hbb.mono HBa.out.size));have Y0:=Lib.hid (keep_blk hbb Z0.out);have YS:=Lib.hid (keep_blk hbb ZS.out)
       have YP:=Lib.hid (show (World.setRow (wa.alloc (.cells #[.int .i64 0,.int .i64 0] 59)) wa.heap.size #[.int .i64 (a:Int),.int .i64 (b:Int)]).heap[wa.heap.size]? = some (.cells #[.int .i64 (a:Int),.int .i64 (b:Int)] 59) from heap_setRow (heap_alloc_new _ _))
       clear hbb HBa Z0 ZS
       generalize (World.setRow (wa.alloc (.cells #[.int .i64 0,.int .i64 0] 59)) wa.heap.size #[.int .i64 (a:Int),.int .i64 (b:Int)])=wb at *
       try simp only [Act.put]
       go_wp2_with (first
         | (refine wpList_load_row rfl 29 (.tmp 4) rfl w.heap.size rfl 29 #[.int .i64 t.kind,.int .u64 (Oc.U t.w0),.int .u64 (Oc.U t.w1),.int .u64 (Oc.U t.w2),.int .u64 (Oc.U t.w3),.slice p t.subs.length cap,.int .i64 t.num,.int .i64 t.least,.int .i64 t.most,.bool t.bare] (0,0) _ Y0.out Tryd.underlying29 rfl (by kernel_rfl) ?_)
         | (refine wpList_load_row rfl 50 (.tmp 10) rfl w4.heap.size rfl 50 #[.string s,.int .i64 c,.int .i64 e0,.bool false] (0,0) _ YS.out Tryd.underlying50 rfl (by kernel_rfl) ?_)
         | fail)
       refine (HAS.out wb HBb.out).mono ?_
       rintro e wc ⟨rfl,hbc⟩
       have HBc:=Lib.hid (HBb.out.trans (hbc.mono HBb.out.size));have Z0:=Lib.hid (keep_blk hbc Y0.out);have ZS:=Lib.hid (keep_blk hbc YS.out);have ZP:=Lib.hid (keep_blk hbc YP.out)
       clear hbc HBb Y0 YS YP HAS
       go_wp2_with fail
       refine (sentV_num A c9 HCL2.out wc (HM.out wc HBc.out).errs).mono ?_
       rintro e wd ⟨rfl,hbd⟩
       have HBd:=Lib.hid (HBc.out.trans (hbd.mono HBc.out.size));have Y0:=Lib.hid (keep_blk hbd Z0.out);have YS:=Lib.hid (keep_blk hbd ZS.out);have YP:=Lib.hid (keep_blk hbd ZP.out)
       clear hbd HBc Z0 ZS ZP
       have heq:((c9:Int) == (c9:Int))=true:=by simp
       have hne:((c9:Int) != (c9:Int))=false:=by simp
       by_cases h9:c9=0
       · have hz:=HCZ2.out.1 h9
         have hform:=(Tr.checkC_zero.1 hz.1).1
         have hfe:=HFE.out
         have HFI:=Lib.hid (first_is (x:=Sc.new s c e0) (t:=t) hz.2.1 hform (a:=a) (b:=b) (q:=q) (by
           by_cases hl:Re.least (Tr.tabT (Sc.new s c e0) t) < 64
           · rw [if_pos ⟨h9,hl⟩] at hfe;rw [if_pos hl];exact hfe
           · rw [if_neg (fun h=>hl h.2)] at hfe;rw [if_neg hl];exact hfe))
         have HRF:=Lib.hid (rrfirst_any s c e0 (by omega) t hform wd B _ (HV.out wd HBd.out))
         try unfold Tr.cells at HRF
         subst h9
         clear hz hform hfe HFE HCZ2
         go_wp2_with (first
           | (refine wpList_load_row rfl 29 (.tmp 4) rfl w.heap.size rfl 29 #[.int .i64 t.kind,.int .u64 (Oc.U t.w0),.int .u64 (Oc.U t.w1),.int .u64 (Oc.U t.w2),.int .u64 (Oc.U t.w3),.slice p t.subs.length cap,.int .i64 t.num,.int .i64 t.least,.int .i64 t.most,.bool t.bare] (0,0) _ Y0.out Tryd.underlying29 rfl (by kernel_rfl) ?_)
           | (refine wpList_load_row rfl 50 (.tmp 10) rfl w4.heap.size rfl 50 #[.string s,.int .i64 c,.int .i64 e0,.bool false] (0,0) _ YS.out Tryd.underlying50 rfl (by kernel_rfl) ?_)
           | fail)
         refine HRF.out.mono ?_
         rintro e we ⟨a',b',q',rfl,hfi,hbe⟩
         obtain ⟨ea,eb,eq⟩:=HFI.out.uniq (show Re.FirstIs (Sc.new s c e0).t.size _ a' b' q' from hfi)
         subst ea eb eq
         have HBe:=Lib.hid (HBd.out.trans (hbe.mono HBd.out.size));have ZP:=Lib.hid (keep_blk hbe YP.out)
         clear hbe hfi HBd Y0 YS YP HRF HFI
         go_upto_region 18 with (first
           | (refine wpList_store_row rfl 59 (.tmp 16) (.tmp 94) rfl we.heap.size #[.int .i64 (a:Int),.int .i64 (b:Int)] rfl rfl 59 _ (heap_alloc_new _ _) (by kernel_rfl) rfl (by simp [Value.oneCell']) ?_)
           | fail)
         have hbf:Below we.heap.size we (World.setRow (we.alloc (.cells #[.int .i64 0,.int .i64 0] 59)) we.heap.size #[.int .i64 (a:Int),.int .i64 (b:Int)]):=below_setRow ((Below.refl _ _).alloc (Nat.le_refl _) _) (Nat.le_refl _) _
         have HBf:=Lib.hid (HBe.out.trans (hbf.mono HBe.out.size));have YP:=Lib.hid (keep_blk hbf ZP.out)
         have YQ:=Lib.hid (show (World.setRow (we.alloc (.cells #[.int .i64 0,.int .i64 0] 59)) we.heap.size #[.int .i64 (a:Int),.int .i64 (b:Int)]).heap[we.heap.size]? = some (.cells #[.int .i64 (a:Int),.int .i64 (b:Int)] 59) from heap_setRow (heap_alloc_new _ _))
         clear hbf HBe ZP
         generalize (World.setRow (we.alloc (.cells #[.int .i64 0,.int .i64 0] 59)) we.heap.size #[.int .i64 (a:Int),.int .i64 (b:Int)])=wf at *
         try simp only [Act.put]
         have haa:((a:Int) == (a:Int))=true:=by simp
         have hbb:((b:Int) == (b:Int))=true:=by simp
         cases q
         all_goals
           go_wp2_with (first
             | (refine wpList_load_row rfl 59 (.tmp 14) rfl wa.heap.size rfl 59 #[.int .i64 (a:Int),.int .i64 (b:Int)] (0,0) _ YP.out Tryd.underlying59 rfl (by kernel_rfl) ?_)
             | (refine wpList_load_row rfl 59 (.tmp 16) rfl we.heap.size rfl 59 #[.int .i64 (a:Int),.int .i64 (b:Int)] (0,0) _ YQ.out Tryd.underlying59 rfl (by kernel_rfl) ?_)
             | fail)
           go_ret
           exact ⟨rfl,HBf.out⟩
       · have hfe:=HFE.out
         rw [if_neg (fun h=>h9 h.1)] at hfe
         obtain ⟨rfl,rfl,rfl⟩:=hfe
         have hci9:¬ ((c9:Int)=0):=by omega
         have hci92:((c9:Int) == 0)=false:=by rw [beq_eq_false_iff_ne];exact hci9
         clear h9 HFE HCZ2
         go_wp2_with (first
           | (refine wpList_load_row rfl 59 (.tmp 14) rfl wa.heap.size rfl 59 #[.int .i64 ((0:Nat):Int),.int .i64 ((0:Nat):Int)] (0,0) _ YP.out Tryd.underlying59 rfl (by kernel_rfl) ?_)
           | fail)
         go_ret
         exact ⟨rfl,HBd.out⟩
   · have hp:=HP.out
     rw [decide_eq_false h0,Bool.false_and] at hp
     subst hp
     have hci:¬ ((cd:Int)=0):=by omega
     have hci2:((cd:Int) == 0)=false:=by rw [beq_eq_false_iff_ne];exact hci
     have HB:=Lib.hid HB8.out;have Y0:=Lib.hid Z0.out;have YS:=Lib.hid ZS.out;have HX:=Lib.hid HX8.out
     clear h0 HB8 Z0 ZS HX8 HP HCZ
     go_wp2_with (first
       | (refine wpList_load_row rfl 29 (.tmp 4) rfl w.heap.size rfl 29 #[.int .i64 t.kind,.int .u64 (Oc.U t.w0),.int .u64 (Oc.U t.w1),.int .u64 (Oc.U t.w2),.int .u64 (Oc.U t.w3),.slice p t.subs.length cap,.int .i64 t.num,.int .i64 t.least,.int .i64 t.most,.bool t.bare] (0,0) _ Y0.out Tryd.underlying29 rfl (by kernel_rfl) ?_)
       | fail)
     refine (refirstcall_any A t HD.out (Sc.new s c e0) gx _ (HM.out _ HB.out) HX.out _ _ (HV.out _ HB.out)).mono ?_
     rintro e wa ⟨a,b,q,rfl,hba,hfe⟩
     have HBa:=Lib.hid (HB.out.trans (hba.mono HB.out.size));have Z0:=Lib.hid (keep_blk hba Y0.out);have ZS:=Lib.hid (keep_blk hba YS.out)
     have hc3:Re.code t (Sc.new s c e0).t.size []=Re.code t s.size []:=rfl
     rw [hc3] at hfe ⊢
     have HFE:=Lib.hid hfe
     have HCL2:=Lib.hid (Re.code_lt t s.size [])
     have HCZ2:=Lib.hid (Re.code_zero (t:=t) (n:=s.size) (ps:=[]))
     have HAS:=Lib.hid (fun w9 (hb:Below w.heap.size w w9)=>rrasked_any s c e0 t HD.out 0 0 w9 B _ (HV.out w9 hb))
     rw [code_first] at HAS
     try unfold Tr.cells at HAS
     generalize Re.code t s.size []=c9 at *
     clear hc3 hba hfe HB Y0 YS HX
     go_upto_region 12 with (first
       | (refine wpList_store_row rfl 59 (.tmp 14) (.tmp 71) rfl wa.heap.size #[.int .i64 (a:Int),.int .i64 (b:Int)] rfl rfl 59 _ (heap_alloc_new _ _) (by kernel_rfl) rfl (by simp [Value.oneCell']) ?_)
       | fail)
     have hbb:Below wa.heap.size wa (World.setRow (wa.alloc (.cells #[.int .i64 0,.int .i64 0] 59)) wa.heap.size #[.int .i64 (a:Int),.int .i64 (b:Int)]):=below_setRow ((Below.refl _ _).alloc (Nat.le_refl _) _) (Nat.le_refl _) _
     have HBb:=Lib.hid (HBa.out.trans (hbb.mono HBa.out.size));have Y0:=Lib.hid (keep_blk hbb Z0.out);have YS:=Lib.hid (keep_blk hbb ZS.out)
     have YP:=Lib.hid (show (World.setRow (wa.alloc (.cells #[.int .i64 0,.int .i64 0] 59)) wa.heap.size #[.int .i64 (a:Int),.int .i64 (b:Int)]).heap[wa.heap.size]? = some (.cells #[.int .i64 (a:Int),.int .i64 (b:Int)] 59) from heap_setRow (heap_alloc_new _ _))
     clear hbb HBa Z0 ZS
     generalize (World.setRow (wa.alloc (.cells #[.int .i64 0,.int .i64 0] 59)) wa.heap.size #[.int .i64 (a:Int),.int .i64 (b:Int)])=wb at *
     try simp only [Act.put]
     go_wp2_with (first
       | (refine wpList_load_row rfl 29 (.tmp 4) rfl w.heap.size rfl 29 #[.int .i64 t.kind,.int .u64 (Oc.U t.w0),.int .u64 (Oc.U t.w1),.int .u64 (Oc.U t.w2),.int .u64 (Oc.U t.w3),.slice p t.subs.length cap,.int .i64 t.num,.int .i64 t.least,.int .i64 t.most,.bool t.bare] (0,0) _ Y0.out Tryd.underlying29 rfl (by kernel_rfl) ?_)
       | (refine wpList_load_row rfl 50 (.tmp 10) rfl w4.heap.size rfl 50 #[.string s,.int .i64 c,.int .i64 e0,.bool false] (0,0) _ YS.out Tryd.underlying50 rfl (by kernel_rfl) ?_)
       | fail)
     refine (HAS.out wb HBb.out).mono ?_
     rintro e wc ⟨rfl,hbc⟩
     have HBc:=Lib.hid (HBb.out.trans (hbc.mono HBb.out.size));have Z0:=Lib.hid (keep_blk hbc Y0.out);have ZS:=Lib.hid (keep_blk hbc YS.out);have ZP:=Lib.hid (keep_blk hbc YP.out)
     clear hbc HBb Y0 YS YP HAS
     go_wp2_with fail
     refine (sentV_num A c9 HCL2.out wc (HM.out wc HBc.out).errs).mono ?_
     rintro e wd ⟨rfl,hbd⟩
     have HBd:=Lib.hid (HBc.out.trans (hbd.mono HBc.out.size));have Y0:=Lib.hid (keep_blk hbd Z0.out);have YS:=Lib.hid (keep_blk hbd ZS.out);have YP:=Lib.hid (keep_blk hbd ZP.out)
     clear hbd HBc Z0 ZS ZP
     have heq:((c9:Int) == (c9:Int))=true:=by simp
     have hne:((c9:Int) != (c9:Int))=false:=by simp
     by_cases h9:c9=0
     · have hz:=HCZ2.out.1 h9
       have hform:=(Tr.checkC_zero.1 hz.1).1
       have hfe:=HFE.out
       have HFI:=Lib.hid (first_is (x:=Sc.new s c e0) (t:=t) hz.2.1 hform (a:=a) (b:=b) (q:=q) (by
         by_cases hl:Re.least (Tr.tabT (Sc.new s c e0) t) < 64
         · rw [if_pos ⟨h9,hl⟩] at hfe;rw [if_pos hl];exact hfe
         · rw [if_neg (fun h=>hl h.2)] at hfe;rw [if_neg hl];exact hfe))
       have HRF:=Lib.hid (rrfirst_any s c e0 (by omega) t hform wd B _ (HV.out wd HBd.out))
       try unfold Tr.cells at HRF
       subst h9
       clear hz hform hfe HFE HCZ2
       go_wp2_with (first
         | (refine wpList_load_row rfl 29 (.tmp 4) rfl w.heap.size rfl 29 #[.int .i64 t.kind,.int .u64 (Oc.U t.w0),.int .u64 (Oc.U t.w1),.int .u64 (Oc.U t.w2),.int .u64 (Oc.U t.w3),.slice p t.subs.length cap,.int .i64 t.num,.int .i64 t.least,.int .i64 t.most,.bool t.bare] (0,0) _ Y0.out Tryd.underlying29 rfl (by kernel_rfl) ?_)
         | (refine wpList_load_row rfl 50 (.tmp 10) rfl w4.heap.size rfl 50 #[.string s,.int .i64 c,.int .i64 e0,.bool false] (0,0) _ YS.out Tryd.underlying50 rfl (by kernel_rfl) ?_)
         | fail)
       refine HRF.out.mono ?_
       rintro e we ⟨a',b',q',rfl,hfi,hbe⟩
       obtain ⟨ea,eb,eq⟩:=HFI.out.uniq (show Re.FirstIs (Sc.new s c e0).t.size _ a' b' q' from hfi)
       subst ea eb eq
       have HBe:=Lib.hid (HBd.out.trans (hbe.mono HBd.out.size));have ZP:=Lib.hid (keep_blk hbe YP.out)
       clear hbe hfi HBd Y0 YS YP HRF HFI
       go_upto_region 18 with (first
         | (refine wpList_store_row rfl 59 (.tmp 16) (.tmp 94) rfl we.heap.size #[.int .i64 (a:Int),.int .i64 (b:Int)] rfl rfl 59 _ (heap_alloc_new _ _) (by kernel_rfl) rfl (by simp [Value.oneCell']) ?_)
         | fail)
       have hbf:Below we.heap.size we (World.setRow (we.alloc (.cells #[.int .i64 0,.int .i64 0] 59)) we.heap.size #[.int .i64 (a:Int),.int .i64 (b:Int)]):=below_setRow ((Below.refl _ _).alloc (Nat.le_refl _) _) (Nat.le_refl _) _
       have HBf:=Lib.hid (HBe.out.trans (hbf.mono HBe.out.size));have YP:=Lib.hid (keep_blk hbf ZP.out)
       have YQ:=Lib.hid (show (World.setRow (we.alloc (.cells #[.int .i64 0,.int .i64 0] 59)) we.heap.size #[.int .i64 (a:Int),.int .i64 (b:Int)]).heap[we.heap.size]? = some (.cells #[.int .i64 (a:Int),.int .i64 (b:Int)] 59) from heap_setRow (heap_alloc_new _ _))
       clear hbf HBe ZP
       generalize (World.setRow (we.alloc (.cells #[.int .i64 0,.int .i64 0] 59)) we.heap.size #[.int .i64 (a:Int),.int .i64 (b:Int)])=wf at *
       try simp only [Act.put]
       have haa:((a:Int) == (a:Int))=true:=by simp
       have hbb:((b:Int) == (b:Int))=true:=by simp
       cases q
       all_goals
         go_wp2_with (first
           | (refine wpList_load_row rfl 59 (.tmp 14) rfl wa.heap.size rfl 59 #[.int .i64 (a:Int),.int .i64 (b:Int)] (0,0) _ YP.out Tryd.underlying59 rfl (by kernel_rfl) ?_)
           | (refine wpList_load_row rfl 59 (.tmp 16) rfl we.heap.size rfl 59 #[.int .i64 (a:Int),.int .i64 (b:Int)] (0,0) _ YQ.out Tryd.underlying59 rfl (by kernel_rfl) ?_)
           | fail)
         go_ret
         exact ⟨rfl,HBf.out⟩
     · have hfe:=HFE.out
       rw [if_neg (fun h=>h9 h.1)] at hfe
       obtain ⟨rfl,rfl,rfl⟩:=hfe
       have hci9:¬ ((c9:Int)=0):=by omega
       have hci92:((c9:Int) == 0)=false:=by rw [beq_eq_false_iff_ne];exact hci9
       clear h9 HFE HCZ2
       go_wp2_with (first
         | (refine wpList_load_row rfl 59 (.tmp 14) rfl wa.heap.size rfl 59 #[.int .i64 ((0:Nat):Int),.int .i64 ((0:Nat):Int)] (0,0) _ YP.out Tryd.underlying59 rfl (by kernel_rfl) ?_)
         | fail)
       go_ret
       exact ⟨rfl,HBd.out⟩
end Go.Proofs.YtoepdfpnkmccoaaDoor
namespace Go.Proofs.YtoepdfpnkmccoaaDoor
open Go.ChangeShapes Go.WideShapes Go.ChangeAt Go.RowKit
theorem Tryd.cellsSet:Tryd.prog.cellsOf 26=4:=by kernel_rfl
theorem Tryd.cellsU64:Tryd.prog.cellsOf 24=1:=by kernel_rfl
theorem word_of {n:Int} (h:(Lit.int .u64 n).wf=true):∃ x:BitVec 64,n=Oc.U x:=by
 simp only [Lit.wf,IntKind.min,IntKind.max,IntKind.signed,IntKind.bits,Bool.and_eq_true] at h
 refine ⟨BitVec.ofInt 64 n, ?_⟩
 unfold Oc.U;rw [BitVec.toNat_ofInt]
 have h1:=h.1;have h2:=h.2
 simp at h1 h2
 omega
theorem open_words {H:Type} {enc:TypeId × Value→H} {w:World} {base:Nat} {spare:Nat→Bool} {held:Bool} {fuel:Nat} {c0 c1 c2 c3:Value} {x:DataW H × List MemPlace}
   (h:DataW.trod enc Tryd.prog w base spare held fuel 26 [c0,c1,c2,c3]=some x):∃ a b c d:BitVec 64,c0=.int .u64 (Oc.U a)∧c1=.int .u64 (Oc.U b)∧c2=.int .u64 (Oc.U c)∧c3=.int .u64 (Oc.U d):=by
 obtain ⟨y0,y1,y2,y3,n,_,h0,h1,h2,h3⟩:=trod_array4 Tryd.underlying26 Tryd.cellsU64 h
 obtain ⟨n0,e0,-,w0⟩:=DataW.trod_int Tryd.underlying24 h0
 obtain ⟨n1,e1,-,w1⟩:=DataW.trod_int Tryd.underlying24 h1
 obtain ⟨n2,e2,-,w2⟩:=DataW.trod_int Tryd.underlying24 h2
 obtain ⟨n3,e3,-,w3⟩:=DataW.trod_int Tryd.underlying24 h3
 obtain ⟨a,rfl⟩:=word_of w0
 obtain ⟨b,rfl⟩:=word_of w1
 obtain ⟨c,rfl⟩:=word_of w2
 obtain ⟨d,rfl⟩:=word_of w3
 simp only [List.cons.injEq,and_true] at e0 e1 e2 e3
 exact ⟨a,b,c,d,e0,e1,e2,e3⟩
theorem Tryd.own:ownKnob Tryd.prog.godebug=none:=by kernel_rfl
theorem Tryd.laidOut:laidOutB Tryd.prog=true:=by kernel_rfl
end Go.Proofs.YtoepdfpnkmccoaaDoor
namespace Go.Proofs.YtoepdfpnkmccoaaDoor
open Go.ChangeShapes Go.WideShapes Go.ChangeAt Go.RowKit
theorem Tryd.cellsNodeO:Tryd.prog.cellsOf 29=10:=by kernel_rfl
theorem Tryd.cellsIntO:Tryd.prog.cellsOf 3=1:=by kernel_rfl
theorem Tryd.cellsBoolO:Tryd.prog.cellsOf 4=1:=by kernel_rfl
theorem Tryd.cellsNodesO:Tryd.prog.cellsOf 27=1:=by kernel_rfl
theorem Tryd.bytesNodeO:Tryd.prog.bytesOf 29=96:=by kernel_rfl
theorem list10 {α:Type} {l:List α} (h:l.length=10):∃ a0 a1 a2 a3 a4 a5 a6 a7 a8 a9,l=[a0,a1,a2,a3,a4,a5,a6,a7,a8,a9]:=by
 match l,h with
 | [a0,a1,a2,a3,a4,a5,a6,a7,a8,a9],_=>exact ⟨a0,a1,a2,a3,a4,a5,a6,a7,a8,a9,rfl⟩
theorem list7 {α:Type} {l:List α} (h:l.length=7):∃ a0 a1 a2 a3 a4 a5 a6,l=[a0,a1,a2,a3,a4,a5,a6]:=by
 match l,h with
 | [a0,a1,a2,a3,a4,a5,a6],_=>exact ⟨a0,a1,a2,a3,a4,a5,a6,rfl⟩
theorem weightsAll_mem {H:Type} {P:Program} {e:TypeId} {k:Nat} {d:DataW H} : ∀ {l:List (DataW H)},d ∈ l→k ∈ d.weights P e→k ∈ DataW.weightsAll P e l
 | [],h,_=>by cases h
 | x :: l,h,hk=>by
   rw [DataW.weightsAll]
   rcases List.mem_cons.1 h with rfl | h
   · exact List.mem_append_left _ hk
   · exact List.mem_append_right _ (weightsAll_mem h hk)
theorem add_at {a:Addr} (h:a.spot=none) (m:Nat):a.add m=⟨a.block,a.off+m,none⟩:=by
 unfold Addr.add
 split
 · rename_i h0;subst h0;cases a;simp_all
 · rfl
theorem open_node {H:Type} {enc:TypeId × Value→H} {W:World} {base:Nat} {spare:Nat→Bool} {held:Bool} : ∀ (fuel:Nat) (cs:List Value) (x:DataW H × List MemPlace),
   DataW.trod enc Tryd.prog W base spare held fuel 29 cs=some x→(∀ k,k ∈ x.1.weights Tryd.prog 29→k ≤ 140737488351232) →
   ∃ (t:Tr) (s:Value),cs=(t.cells s).toList∧TreesAt W (fun _=>True) s t.subs:=by
 intro fuel
 induction fuel using Nat.strongRecOn with
 | _ fuel ih =>
   intro cs x h hw
   obtain ⟨xs,n,rfl,rfl,hlen,hxs,hf⟩:=DataW.trod_struct Tryd.underlying29 h
   rw [Tryd.cellsNodeO] at hlen
   obtain ⟨c0,c1,c2,c3,c4,c5,c6,c7,c8,c9,rfl⟩:=list10 hlen
   obtain ⟨y0,y1,y2,y3,y4,y5,y6,rfl⟩:=list7 (by simpa using hxs)
   have f0:=hf 0 _ rfl;have f1:=hf 1 _ rfl;have f2:=hf 2 _ rfl;have f3:=hf 3 _ rfl;have f4:=hf 4 _ rfl;have f5:=hf 5 _ rfl;have f6:=hf 6 _ rfl
   simp only [List.getElem_toArray,List.getElem_cons_zero,List.getElem_cons_succ,Tryd.cellsIntO,Tryd.cellsBoolO,Tryd.cellsNodesO,Tryd.cellsSet,List.drop_zero,List.drop_succ_cons,List.take_succ_cons,List.take_zero,List.getElem?_cons_zero,List.getElem?_cons_succ] at f0 f1 f2 f3 f4 f5 f6
   obtain ⟨k,e0,-,-⟩:=DataW.trod_int Tryd.underlying3 f0
   obtain ⟨a,b,c,d,rfl,rfl,rfl,rfl⟩:=open_words f1
   obtain ⟨nn,e3,-,-⟩:=DataW.trod_int Tryd.underlying3 f3
   obtain ⟨lo,e4,-,-⟩:=DataW.trod_int Tryd.underlying3 f4
   obtain ⟨hi,e5,-,-⟩:=DataW.trod_int Tryd.underlying3 f5
   obtain ⟨br,e6,-⟩:=DataW.trod_bool Tryd.underlying4 f6
   simp only [List.cons.injEq,and_true] at e0 e3 e4 e5 e6
   subst e0 e3 e4 e5 e6
   have fin:∀ (ts:List Tr),TreesAt W (fun _=>True) c5 ts→∃ (t:Tr) (s:Value),[.int .i64 k,.int .u64 (Oc.U a),.int .u64 (Oc.U b),.int .u64 (Oc.U c),.int .u64 (Oc.U d),c5,.int .i64 nn,.int .i64 lo,.int .i64 hi,.bool br]=(t.cells s).toList∧TreesAt W (fun _=>True) s t.subs :=
     fun ts hts=>⟨.node k a b c d ts nn lo hi br,c5,rfl,hts⟩
   rcases DataW.trod_slice Tryd.underlying27 f2 with ⟨hc5,-⟩ | ⟨ad,len,cap,elems,rest,n',rfl,hc5,hx,-,-,-,hel,hall,-,-⟩
   · simp only [List.cons.injEq,and_true] at hc5
     subst hc5
     exact fin [] TreesAt.nil
   · simp only [List.cons.injEq,and_true] at hc5
     subst hc5
     rw [Tryd.cellsNodeO] at hall
     have hwn:∀ k,k ∈ y2.1.weights Tryd.prog 27→k ≤ 140737488351232:=fun k hk=>hw k (by
       rw [DataW.weights,Tryd.underlying29]
       exact DataW.weights_mem_each (j:=2) rfl rfl k hk)
     have hlen96:len * 96 ≤ 140737488351232:=by
       have:=hwn ((elems.length+rest.length) * 96) (by
         rw [hx]
         simp only [DataW.weights,Tryd.underlying27,Tryd.bytesNodeO,List.length_map]
         exact List.mem_cons_self)
       rw [hel] at this
       have h2:len * 96 ≤ (len+rest.length) * 96:=Nat.mul_le_mul_right _ (by omega)
       omega
     have key:∀ i,∃ (t:Tr) (s:Value),i < len→(∃ b o,some ad=some ⟨b,o,none⟩∧TenAt W b (o+i * 10) t s)∧TreesAt W (fun _=>True) s t.subs:=by
       intro i
       by_cases hi:i < len
       · have h1:=hall i hi
         rw [List.getElem?_eq_getElem (by omega)] at h1
         obtain ⟨csi,hcs,htr⟩:=Option.bind_eq_some_iff.1 h1
         obtain ⟨t,s,hts,hsub⟩:=ih n' (by omega) csi _ htr (fun k hk=>hwn k (by
           rw [hx]
           simp only [DataW.weights,Tryd.underlying27]
           refine List.mem_cons_of_mem _ (List.mem_append_left _ (weightsAll_mem (d:=elems[i].1) ?_ hk))
           exact List.mem_map.2 ⟨elems[i],List.getElem_mem _,rfl⟩))
         obtain ⟨-,-,hcell⟩:=World.cells?_some hcs
         have hspot:ad.spot=none:=by
           have h0:=hall 0 (by omega)
           rw [List.getElem?_eq_getElem (by omega)] at h0
           obtain ⟨cs0,hcs0,htr0⟩:=Option.bind_eq_some_iff.1 h0
           obtain ⟨t0,s0,hts0,-⟩:=ih n' (by omega) cs0 _ htr0 (fun k hk=>hwn k (by
             rw [hx]
             simp only [DataW.weights,Tryd.underlying27]
             refine List.mem_cons_of_mem _ (List.mem_append_left _ (weightsAll_mem (d:=elems[0].1) ?_ hk))
             exact List.mem_map.2 ⟨elems[0],List.getElem_mem _,rfl⟩))
           have h2:=(World.cells?_some hcs0).2.2 0 (by omega)
           rw [hts0] at h2
           have e:(ad.add (0 * 10)).add 0=ad:=by simp [Addr.add]
           rw [e] at h2
           cases hsp:ad.spot with
           | none=>rfl
           | some z =>
             unfold World.cell? at h2
             rw [hsp] at h2
             split at h2 <;> simp [Tr.cells] at h2
         have hadd:∀ j,(ad.add (i * 10)).add j=⟨ad.block,ad.off+i * 10+j,none⟩:=fun j=>by
           rw [add_at hspot,add_at (a:=⟨ad.block,ad.off+i * 10,none⟩) rfl]
         refine ⟨t,s,fun _=>⟨⟨ad.block,ad.off,by cases ad;simp_all, ?_⟩,hsub⟩⟩
         rw [hts] at hcell
         have get:∀ j u,j < 10→(t.cells s).toList[j]? = some u→W.cell? ⟨ad.block,ad.off+i * 10+j,none⟩=some u:=fun j u hj hu=>by
           rw [← hadd j,hcell j hj,hu]
         exact ⟨get 0 _ (by omega) rfl,get 1 _ (by omega) rfl,get 2 _ (by omega) rfl,get 3 _ (by omega) rfl,get 4 _ (by omega) rfl,get 5 _ (by omega) rfl,get 6 _ (by omega) rfl,get 7 _ (by omega) rfl,get 8 _ (by omega) rfl,get 9 _ (by omega) rfl⟩
       · exact ⟨.node 0 0#64 0#64 0#64 0#64 [] 0 0 0 false,.nilIface,fun h=>absurd h hi⟩
     obtain ⟨T,hT⟩:=Classical.axiomOfChoice key
     obtain ⟨S,hS⟩:=Classical.axiomOfChoice hT
     have hl:((List.range len).map T).length=len:=by simp
     have hg:∀ i t,((List.range len).map T)[i]? = some t→i < len∧t=T i:=fun i t h=>by
       rw [List.getElem?_map] at h
       by_cases hi:i < len
       · rw [List.getElem?_range hi] at h
         exact ⟨hi,(Option.some.inj h).symm⟩
       · rw [List.getElem?_eq_none (by simp;omega)] at h;cases h
     have:=TreesAt.mk (w:=W) (B:=fun _=>True) (some ad) cap ((List.range len).map T) S (by rw [hl];exact hlen96) (fun i t h=>by
       obtain ⟨hi,rfl⟩:=hg i t h
       obtain ⟨⟨b,o,e,ht⟩,-⟩:=hS i hi
       exact ⟨b,o,e,trivial,ht⟩) (fun i t h=>by
       obtain ⟨hi,rfl⟩:=hg i t h
       exact (hS i hi).2)
     rw [hl] at this
     exact fin _ this
theorem open_tree {H:Type} {enc:TypeId × Value→H} {w:World} {base b0:Nat} {spare:Nat→Bool} {held:Bool} {v:Value} {y:DataW H} {ps:List MemPlace} {r:Reach}
   (hv:Value.okWide Tryd.prog w r b0 29 v) (h:DataW.Trod enc Tryd.prog w base spare held 29 v y ps) (hw:∀ k,k ∈ y.weights Tryd.prog 29→k ≤ 140737488351232):∃ t,NodeV w (fun _=>True) v t:=by
 unfold Value.okWide at hv
 rw [Tryd.underlying29] at hv
 obtain ⟨cs,rfl,hsz,-⟩:=hv
 obtain ⟨fuel,hf⟩:=h
 obtain ⟨t,s,e,hs⟩:=open_node fuel _ _ hf hw
 refine ⟨t,s, ?_,hs⟩
 simp only [Value.cells] at e
 exact congrArg Value.agg (Array.toList_inj.1 e)
end Go.Proofs.YtoepdfpnkmccoaaDoor
namespace Go.Proofs.YtoepdfpnkmccoaaDoor
open Go.ChangeShapes Go.WideShapes Go.ChangeAt Go.RowKit
theorem im_laid_split {P:Program} {l:List (String × DataW Unit)} {W:World} (h:laidMetH P l W):laidMet P (l.filter fun x=>x.2.handleName?.isNone) W:=by
 unfold laidMetH at h
 generalize hfl:(l.filter fun x=>x.2.handleName?.isSome)=fl at h
 cases fl with
 | nil =>
   have e:(l.filter fun x=>x.2.handleName?.isNone)=l:=by
     rw [List.filter_eq_self]
     intro x hx
     have:=List.filter_eq_nil_iff.1 hfl x hx
     cases hh:x.2.handleName? with
     | none=>rfl
     | some y=>rw [hh] at this;simp at this
   rw [e]
   exact h
 | cons x r=>exact h.1
theorem im_errList_plain:∀ x,x ∈ errList→x.2.handleName?.isNone=true:=by
 have h:(errList.all fun x=>x.2.handleName?.isNone)=true:=by kernel_rfl
 intro x hx
 exact List.all_eq_true.1 h x hx
theorem im_env_of {l:List (String × DataW Unit)} {W:World} (h:laidMetH Tryd.prog l W) (hl:∀ x,x ∈ errList→x ∈ l):∃ A,Errs W A :=
 errs_of (im_laid_split h) fun x hx=>List.mem_filter.2 ⟨hl x hx,im_errList_plain x hx⟩
end Go.Proofs.YtoepdfpnkmccoaaDoor
namespace Go.Proofs.YtoepdfpnkmccoaaDoor
open Go.ChangeShapes Go.WideShapes Go.ChangeAt Go.RowKit
theorem Tryd.cellsViewR:Tryd.prog.cellsOf 41=3:=by kernel_rfl
theorem Tryd.cellsStrR:Tryd.prog.cellsOf 9=1:=by kernel_rfl
theorem Tryd.cellsIntR:Tryd.prog.cellsOf 3=1:=by kernel_rfl
theorem Tryd.gTabR : Tryd.prog.globalNamed "math/bits.deBruijn64tab" = some 21 := by kernel_rfl
theorem Tryd.tTabR:(Tryd.prog.globals[21]?).map (·.type)=some 168:=by kernel_rfl
theorem Tryd.cellsU8R:Tryd.prog.cellsOf 5=1:=by kernel_rfl
theorem tabR_datum {H:Type} : (Rows.laid_math_bits_deBruijn64tab:DataW H)=.agg (Lib.deBruijn64tab.map fun (n:Nat)=>.lit (.int .u8 (n:Int))):=rfl
theorem tabR_length:Lib.deBruijn64tab.length=64:=by decide
theorem tabR_of_head {W : World} {r : List (String × DataW Unit)} (h : laidMet Tryd.prog (("math/bits.deBruijn64tab", Rows.laid_math_bits_deBruijn64tab) :: r) W) : ReEnv W := by
 obtain ⟨ps,⟨g0,t0,cs0,f0,p0,q0,hg0,ht0,hv0,hd0,_,_⟩,_,_⟩:=h
 obtain rfl:=Option.some.inj (Tryd.gTabR.symm.trans hg0)
 obtain rfl:=Option.some.inj (Tryd.tTabR.symm.trans ht0)
 obtain ⟨xs,m,rfl,hx,hlen,hn,hel⟩:=DataW.trod_array Tryd.underlying168 hd0
 rw [tabR_datum] at hx
 simp only [Prod.mk.injEq,DataW.agg.injEq] at hx
 have hT:TabAt 21 Lib.deBruijn64tab W:=by
   intro j hj
   rw [tabR_length] at hj
   have h1:=hel j hj
   have hjx:j < xs.length:=by omega
   rw [Tryd.cellsU8R,Nat.mul_one,List.getElem?_eq_getElem hjx] at h1
   obtain ⟨n,hc,hd,-⟩:=DataW.trod_int Tryd.underlying5 h1
   have h2:(Lib.deBruijn64tab.map fun (n:Nat)=>(DataW.lit (.int .u8 (n:Int)):DataW _))[j]? = some xs[j].1:=by
     rw [hx.1,List.getElem?_map,List.getElem?_eq_getElem hjx];rfl
   rw [List.getElem?_map,List.getElem?_eq_getElem (by rw [tabR_length];exact hj),hd] at h2
   simp only [Option.map_some,Option.some.injEq,DataW.lit.injEq,Lit.int.injEq,true_and] at h2
   have h3:cs0[j]? = some (.int .u8 n):=by
     rw [← Array.getElem?_toList]
     have:(cs0.toList.drop j)[0]? = some (.int .u8 n):=by
       have:=congrArg (fun l=>l[0]?) hc
       simpa [List.getElem?_take] using this
     simpa using this
   rw [World.var?_cell hg0 hv0 j,h3,← h2]
   simp [List.getD,List.getElem?_eq_getElem (show j < Lib.deBruijn64tab.length by rw [tabR_length];exact hj)]
 exact ⟨hT,block_lt_of_cell (hT 0 (by rw [tabR_length];omega))⟩
theorem tabR_of : ∀ {l : List (String × DataW Unit)} {W : World}, laidMet Tryd.prog l W → ("math/bits.deBruijn64tab", Rows.laid_math_bits_deBruijn64tab) ∈ l → ReEnv W
 | [],_,_,hm=>by cases hm
 | x :: l,W,h,hm=>by
   rcases List.mem_cons.1 hm with e | hm
   · subst e;exact tabR_of_head h
   · exact tabR_of h.tail hm
theorem re_env_of {l : List (String × DataW Unit)} {W : World} (h : laidMetH Tryd.prog l W) (hl : ∀ x, x ∈ errList → x ∈ l) (ht : ("math/bits.deBruijn64tab", Rows.laid_math_bits_deBruijn64tab) ∈ l) : ∃ A, ReMem A W := by
 obtain ⟨A,hA⟩:=im_env_of h hl
 exact ⟨A,tabR_of (im_laid_split h) (List.mem_filter.2 ⟨ht,rfl⟩),hA⟩
theorem open_view {H:Type} {enc:TypeId × Value→H} {w:World} {base b0:Nat} {spare:Nat→Bool} {held:Bool} {v:Value} {y:DataW H} {ps:List MemPlace} {r:Reach}
   (hv:Value.okWide Tryd.prog w r b0 41 v) (h:DataW.Trod enc Tryd.prog w base spare held 41 v y ps):∃ (s:ByteArray) (c e:Int),v=.agg #[.string s,.int .i64 c,.int .i64 e]:=by
 unfold Value.okWide at hv
 rw [Tryd.underlying41] at hv
 obtain ⟨cs,rfl,hsz,-⟩:=hv
 rw [Tryd.cellsViewR] at hsz
 obtain ⟨c0,c1,c2,rfl⟩:∃ c0 c1 c2,cs=#[c0,c1,c2]:=by
   obtain ⟨l⟩:=cs
   match l,hsz with
   | [c0,c1,c2],_=>exact ⟨c0,c1,c2,rfl⟩
 obtain ⟨fuel,hf⟩:=h
 obtain ⟨y0,y1,y2,m,_,_,h0,h1,h2⟩:=Deep.trod_struct3 Tryd.underlying41 hf
 simp only [Tryd.cellsStrR,Tryd.cellsIntR,List.drop_zero] at h0 h1 h2
 obtain ⟨s,e0,-⟩:=DataW.trod_string Tryd.underlying9 h0
 obtain ⟨c,e1,-,-⟩:=DataW.trod_int Tryd.underlying3 h1
 obtain ⟨e,e2,-,-⟩:=DataW.trod_int Tryd.underlying3 h2
 have x0:c0=.string s:=(List.cons.inj (show [c0]=[Value.string s] from e0)).1
 have x1:c1=.int .i64 c:=(List.cons.inj (show [c1]=[Value.int .i64 c] from e1)).1
 have x2:c2=.int .i64 e:=(List.cons.inj (show [c2]=[Value.int .i64 e] from e2)).1
 subst x0 x1 x2
 exact ⟨s,c,e,rfl⟩
end Go.Proofs.YtoepdfpnkmccoaaDoor
