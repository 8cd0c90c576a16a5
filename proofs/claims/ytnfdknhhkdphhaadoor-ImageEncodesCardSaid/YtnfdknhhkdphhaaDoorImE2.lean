/- Part 2 of what these proofs need. -/
import Derived.ChangeOld
import Derived.Deep.Slices
import Derived.Laws.IdiomArrays
import Derived.Lib.SmallJoins
import Derived.SizedLaws
import Derived.DataReads
import Derived.LaidLaws
import Derived.Test.YtnfdknhhkdphhaaDoorImE1
set_option maxRecDepth 100000
set_option maxHeartbeats 16000000
namespace Go.Proofs.YtnfdknhhkdphhaaDoor
open Go.RowKit
theorem refnumber_any:∀ n:Nat,n ≤ 9223372036854775807→∀ w:World,Calls Tryd.prog 37 #[.int .i64 n] w (BytesEnd (Im.numB n) w):=by
 intro n
 induction n using Nat.strongRecOn with
 | _ n ih =>
   intro hn w
   by_cases hlt:n < 128
   · have e1:decide ((n:Int) < 128)=true:=by simp;omega
     have e1':decide (n < 128)=true:=by simpa using hlt
     have hu:IntKind.u8.wrap (n:Int)=(n:Int):=by rw [IntKind.wrap_u8];omega
     rw [Im.numB_small hlt]
     have hc:(#[.int .u8 (n:Int)]:Array Value).toList=Lib.byteCells [UInt8.ofNat n]:=by
       show [Value.int .u8 (n:Int)]=[.int .u8 ((UInt8.ofNat n).toNat:Int)]
       rw [UInt8.toNat_ofNat',Nat.mod_eq_of_lt (by omega)]
     have hrow:=BR.new w.heap.size w _ _ 1 hc rfl (Nat.le_refl _) (by simp)
     have HR:=Lib.hid hrow
     clear ih hc hrow
     go_enter Tryd.func37,Tryd.ntmps37
     go_wp2
     go_ret
     exact ⟨_,rfl,HR.out,(Below.refl _ _).alloc (Nat.le_refl _) _⟩
   · obtain ⟨d,hd,hdm,r1⟩:∃ d:Nat,d < 128∧d=n % 128∧(n:Int) % 128=(d:Int):=⟨n % 128,by omega,rfl,by omega⟩
     obtain ⟨q,hqm,q1⟩:∃ q:Nat,q=n / 128∧(n:Int) / 128=(q:Int):=⟨n / 128,rfl,by omega⟩
     have e1:decide ((n:Int) < 128)=false:=by simp;omega
     have e1':decide (n < 128)=false:=by simp;omega
     have hu:IntKind.u8.wrap ((d:Int)+128)=(d:Int)+128:=by rw [IntKind.wrap_u8];omega
     have hu2:IntKind.u8.wrap (128+(d:Int))=128+(d:Int):=by rw [IntKind.wrap_u8];omega
     have hst:Im.numB n=[UInt8.ofNat (128+d)] ++ Im.numB q:=by rw [Im.numB_big hlt,hdm,hqm];rfl
     rw [hst]
     have hl9:=Im.numB_len9 (n:=q) (by omega)
     have HC:=Lib.hid (fun w'=>ih q (by omega) (by omega) w')
     have hc:(#[.int .u8 (128+(d:Int))]:Array Value).toList=Lib.byteCells [UInt8.ofNat (128+d)]:=by
       show [Value.int .u8 (128+(d:Int))]=[.int .u8 ((UInt8.ofNat (128+d)).toNat:Int)]
       rw [UInt8.toNat_ofNat',Nat.mod_eq_of_lt (by omega)];simp
     have HR:=Lib.hid (BR.new w.heap.size w _ _ 1 hc rfl (Nat.le_refl _) (by simp))
     have HB:=Lib.hid (show Below w.heap.size w (w.alloc (.cells #[.int .u8 (128+(d:Int))] 5)) from (Below.refl _ _).alloc (Nat.le_refl _) _)
     clear ih hst hdm hqm hc
     generalize Im.numB q=M at *
     go_enter Tryd.func37,Tryd.ntmps37
     go_wp2_with fail
     refine (HC.out _).mono ?_
     rintro e w2 ⟨v2,rfl,hr2,hb2⟩
     obtain ⟨p2,c2,rfl,hn2,hcl2,-⟩:=hr2.slice
     have HR2:=Lib.hid (HR.out.below hb2)
     have HB2:=Lib.hid (HB.out.trans (hb2.mono HB.out.size))
     have hbs:w.heap.size ≤ w2.heap.size:=HB2.out.size
     have HCL:=Lib.hid hcl2;have HN2:=Lib.hid hn2
     clear hr2 hb2 hcl2 hn2 HC HR HB
     go_wp2_with (first
       | (at_builtin;refine wp_appL (m:=M) rfl _ _ rfl p2 c2 rfl rfl HN2.out HCL.out HR2.out HB2.out hbs (by simp;omega) ?_;intro v' w' hr' hb')
       | fail)
     go_ret
     exact ⟨_,rfl,hr',hb'⟩
theorem pow256r (x:BitVec 64) (j:Nat):x.toNat / 256 ^ (j+1)=x.toNat / 256 ^ j / 256:=by rw [Nat.pow_succ,Nat.div_div_eq_div_mul]
theorem refnode_any:∀ t:Tr,t.InForm→(Im.imT t).length ≤ 35184372088832→∀ (w:World) (C:Nat→Prop) (v:Value),NodeV w C v t→Calls Tryd.prog 22 #[v] w (BytesEnd (Im.imT t) w):=by
 intro t
 induction t using Tr.rec_subs with
 | h t ih =>
   intro hf hlen w C v hv
   have hfl:=hf.fields
   have IH:=Lib.hid (fun u hu=>ih u hu (hf.sub hu))
   obtain ⟨s,rfl,hs⟩:=hv
   obtain ⟨p,cap,rfl,hlens⟩:=hs.slice
   have HS:=Lib.hid hs
   have HW:=Lib.hid (show Below w.heap.size w (w.alloc (.cells (t.cells (.slice p t.subs.length cap)) 27)) from (Below.refl _ _).alloc (Nat.le_refl _) _)
   have Z0:=Lib.hid (heap_alloc_new w (.cells (t.cells (.slice p t.subs.length cap)) 27))
   clear ih hf hs
   rw [Im.imT_eq] at hlen ⊢
   rw [List.length_append] at hlen
   unfold Tr.cells at *
   have hk:t.kind=1 ∨ t.kind=2 ∨ t.kind=3 ∨ t.kind=4 ∨ t.kind=5 ∨ t.kind=6 ∨ (t.kind=7∧1 ≤ t.num∧t.num ≤ 999) ∨ (t.kind=8∧(0 ≤ t.least∧t.least ≤ 255)∧(-1 ≤ t.most∧t.most ≤ 255)):=by
     unfold Tr.fieldsOk at hfl
     rcases hfl with ⟨h | h | h,-⟩ | ⟨h,-⟩ | ⟨h | h,-⟩ | ⟨h,-,-,-,-,-,h1,h2,-⟩ | ⟨h,-,-,-,-,-,-,h1,h2,h3,-⟩
     · exact .inl h
     · exact .inr (.inr (.inl h))
     · exact .inr (.inr (.inr (.inl h)))
     · exact .inr (.inl h)
     · exact .inr (.inr (.inr (.inr (.inl h))))
     · exact .inr (.inr (.inr (.inr (.inr (.inl h)))))
     · exact .inr (.inr (.inr (.inr (.inr (.inr (.inl ⟨h,h1,h2⟩))))))
     · exact .inr (.inr (.inr (.inr (.inr (.inr (.inr ⟨h,⟨h1,h2⟩,by omega⟩))))))
   have hk8:0 ≤ t.kind∧t.kind ≤ 8:=by omega
   have hn:t.subs.length ≤ 9223372036854775807:=by omega
   have hhead:Im.headB t=UInt8.ofNat t.kind.toNat :: (if t.kind=2 then Im.setB t.w0 t.w1 t.w2 t.w3 4 else if t.kind=5 ∨ t.kind=6 then Im.numB t.subs.length else if t.kind=7 then Im.numB t.num.toNat
     else if t.kind=8 then Im.numB t.least.toNat ++ Im.numB (t.most+1).toNat ++ [if t.bare then 1 else 0] else []):=rfl
   have hu:IntKind.u8.wrap t.kind=t.kind:=by rw [IntKind.wrap_u8];omega
   have HKC:=Lib.hid (show (#[.int .u8 t.kind]:Array Value).toList=Lib.byteCells [UInt8.ofNat t.kind.toNat] by
     show [Value.int .u8 t.kind]=[.int .u8 ((UInt8.ofNat t.kind.toNat).toNat:Int)]
     rw [UInt8.toNat_ofNat',Nat.mod_eq_of_lt (by omega)];congr 2;omega)
   have HHEAD:=Lib.hid hhead
   have HLEN:=Lib.hid hlen
   clear hfl hlen hhead
   generalize Im.headB t=HD at *
   generalize hts:t.subs=ts at *
   generalize hW1:w.alloc (.cells #[.int .i64 t.kind,.int .u64 (Oc.U t.w0),.int .u64 (Oc.U t.w1),.int .u64 (Oc.U t.w2),.int .u64 (Oc.U t.w3),.slice p ts.length cap,.int .i64 t.num,.int .i64 t.least,.int .i64 t.most,.bool t.bare] 27)=W1 at *
   have HZ1:=Lib.hid (show W1.heap.size=w.heap.size+1 by rw [← hW1];simp)
   obtain ⟨d0,d1,d2,d3,d4,d5,d6,d7,d8,d9⟩:=allTen Z0.out

   go_enter Tryd.func22,Tryd.ntmps22
   go_upto_region 1 with (fail)
   clear hW1
   have HR1:=Lib.hid (BR.new W1.heap.size W1 _ _ 1 HKC.out rfl (Nat.le_refl _) (by simp))
   have HB1:=Lib.hid (show Below W1.heap.size W1 (W1.alloc (.cells #[.int .u8 t.kind] 5)) from (Below.refl _ _).alloc (Nat.le_refl _) _)
   have Z1:=Lib.hid (heap_alloc_lt (o:=.cells #[.int .u8 t.kind] 5) Z0.out)
   go_upto_region 2 with (fail)
   generalize W1.alloc (.cells #[.int .u8 t.kind] 5)=w1 at *
   clear d0 d1 d2 d3 d4 d5 d6 d7 d8 d9
   obtain ⟨d0,d1,d2,d3,d4,d5,d6,d7,d8,d9⟩:=allTen Z1.out
   go_upto_block 0 with (fail)
   go_cut [3] (fun v3 wx=>Hid (BR W1.heap.size wx v3 HD)∧Hid (Below W1.heap.size W1 wx))
   case first =>
     have hlh:=HLEN.out
     have hh:=HHEAD.out
     have hw1:W1.heap.size ≤ w1.heap.size:=HB1.out.size
     clear HLEN HHEAD IH HS HW HZ1 HKC hu
     generalize t.kind=K at *
     rcases hk with rfl | rfl | rfl | rfl | rfl | rfl | ⟨rfl,hn1,hn2⟩ | ⟨rfl,hlo,hhi⟩
     · simp only [reduceIte,Int.reduceEq,or_self] at hh
       go_wp2
       go_meet
       rw [hh];exact ⟨HR1,HB1⟩
     · simp only [reduceIte,Int.reduceEq] at hh
       have hh2:HD=[UInt8.ofNat (2:Int).toNat] ++ Im.setB t.w0 t.w1 t.w2 t.w3 4:=by rw [hh];rfl
       have HH:=Lib.hid hh2
       clear hh hh2
       generalize t.w0=a at *
       generalize t.w1=b at *
       generalize t.w2=c at *
       generalize t.w3=d at *
       go_wp2
       clear d0 d1 d2 d3 d4 d5 d6 d7 d8 d9
       go_loopw [3,4] (fun sv iv wr=>∃ i:Nat,iv=.int .i64 i∧i ≤ 4∧Hid (BR W1.heap.size wr sv ([UInt8.ofNat (2:Int).toNat] ++ Im.setB a b c d i))∧Hid (Below W1.heap.size W1 wr)) (fun _ iv _=>4 - (intOf iv).toNat)
       case atStart=>exact ⟨0,rfl,by omega,by simpa [Im.setB] using HR1,HB1⟩
       case round =>
         obtain ⟨i,rfl,hi,HA,HBA⟩:=hrel
         have hl2:=Im.setB_len a b c d i
         have ZA:=Lib.hid (keep_blk HBA.out Z0.out)
         obtain ⟨d0,d1,d2,d3,d4,d5,d6,d7,d8,d9⟩:=allTen ZA.out
         by_cases hlt:i < 4
         · have hi4:i=0 ∨ i=1 ∨ i=2 ∨ i=3:=by omega
           rcases hi4 with rfl | rfl | rfl | rfl
           · rw [show ((0:Nat):Int)=(0:Int) from rfl]
             go_wp2
             clear d0 d1 d2 d3 d4 d5 d6 d7 d8 d9 ZA HR1 HB1 Z1
             go_loopw [3,5,6] (fun sv wv jv wr=>∃ (j m:Nat),jv=.int .i64 j∧j ≤ 8∧wv=.int .u64 (m:Int)∧m < 18446744073709551616∧Hid (m=a.toNat / 256 ^ j)∧Hid (BR W1.heap.size wr sv ([UInt8.ofNat (2:Int).toNat] ++ Im.setB a b c d 0 ++ Im.wordB a j))∧Hid (Below W1.heap.size W1 wr)) (fun _ _ jv _=>8 - (intOf jv).toNat)
             case atStart=>exact ⟨0,a.toNat,rfl,by omega,rfl,a.isLt,Lib.hid (by simp),by simpa [Im.wordB_zero] using HA,HBA⟩
             case round =>
               obtain ⟨j,m,rfl,hj,rfl,hm,HM,HA2,HBA2⟩:=hrel
               clear HA HBA
               by_cases hjt:j < 8
               · obtain ⟨bb,hbb,hbm,r1⟩:∃ bb:Nat,bb < 256∧bb=m % 256∧(m:Int) % 256=(bb:Int):=⟨m % 256,by omega,rfl,by omega⟩
                 obtain ⟨q,hqm,q1⟩:∃ q:Nat,q=m / 256∧(m:Int) / 256=(q:Int):=⟨m / 256,rfl,by omega⟩
                 have hu:IntKind.u8.wrap (bb:Int)=(bb:Int):=by rw [IntKind.wrap_u8];omega
                 have hwb:IntKind.u64.wrap (bb:Int)=(bb:Int):=by rw [IntKind.wrap_u64];omega
                 have hwq:IntKind.u64.wrap (q:Int)=(q:Int):=by rw [IntKind.wrap_u64];omega
                 have hlk:([UInt8.ofNat (2:Int).toNat] ++ Im.setB a b c d 0 ++ Im.wordB a j).length+1 ≤ 140737488355328:=by simp only [List.length_append,hl2,Im.wordB_len,List.length_cons,List.length_nil];omega
                 have hst:Im.wordB a (j+1)=Im.wordB a j ++ [UInt8.ofNat bb]:=by rw [Im.wordB_succ,← HM.out,← hbm]
                 have HST:=Lib.hid hst;have HQ:=Lib.hid (hqm.trans (by rw [HM.out,← pow256r]))
                 have hq64:q < 18446744073709551616:=by omega
                 have HBN:=Lib.hid (show (bb:Int)=((UInt8.ofNat bb).toNat:Int) by rw [UInt8.toNat_ofNat'];omega)
                 have hwr:=HBA2.out.size
                 have HBX:=Lib.hid (HBA2.out.alloc hwr (.cells #[.int .u8 (bb:Int)] 5))
                 have HRX:=Lib.hid (HA2.out.below ((Below.refl wr.heap.size wr).alloc (Nat.le_refl _) (.cells #[.int .u8 (bb:Int)] 5)))
                 clear hst hqm hbm HM
                 go_wp2_with (first
                   | (at_builtin;refine wp_app1L rfl _ _ rfl (UInt8.ofNat bb) _ _ HBN.out rfl rfl ((cell_new _ _ _ 0).trans rfl) HRX.out HBX.out HBX.out.size hlk ?_;intro v' w' hr' hb')
                   | fail)
                 have HR3:=Lib.hid hr';have HB3:=Lib.hid hb'
                 clear hr' hb' HRX HBX
                 go_wp2
                 exact ⟨⟨j+1,q,by go_num,by omega,rfl,hq64,HQ,Lib.hid (by rw [HST.out,← List.append_assoc];exact HR3.out),HB3⟩,by simp [intOf];omega⟩
               · obtain rfl:j=8:=by omega
                 go_wp2
                 exact ⟨⟨1,by go_num,by omega,Lib.hid (by rw [show Im.setB a b c d 1=Im.setB a b c d 0 ++ Im.wordB a 8 from rfl,← List.append_assoc];exact HA2.out),HBA2⟩,by simp [intOf]⟩
           · rw [show ((1:Nat):Int)=(1:Int) from rfl]
             go_wp2
             clear d0 d1 d2 d3 d4 d5 d6 d7 d8 d9 ZA HR1 HB1 Z1
             go_loopw [3,5,6] (fun sv wv jv wr=>∃ (j m:Nat),jv=.int .i64 j∧j ≤ 8∧wv=.int .u64 (m:Int)∧m < 18446744073709551616∧Hid (m=b.toNat / 256 ^ j)∧Hid (BR W1.heap.size wr sv ([UInt8.ofNat (2:Int).toNat] ++ Im.setB a b c d 1 ++ Im.wordB b j))∧Hid (Below W1.heap.size W1 wr)) (fun _ _ jv _=>8 - (intOf jv).toNat)
             case atStart=>exact ⟨0,b.toNat,rfl,by omega,rfl,b.isLt,Lib.hid (by simp),by simpa [Im.wordB_zero] using HA,HBA⟩
             case round =>
               obtain ⟨j,m,rfl,hj,rfl,hm,HM,HA2,HBA2⟩:=hrel
               clear HA HBA
               by_cases hjt:j < 8
               · obtain ⟨bb,hbb,hbm,r1⟩:∃ bb:Nat,bb < 256∧bb=m % 256∧(m:Int) % 256=(bb:Int):=⟨m % 256,by omega,rfl,by omega⟩
                 obtain ⟨q,hqm,q1⟩:∃ q:Nat,q=m / 256∧(m:Int) / 256=(q:Int):=⟨m / 256,rfl,by omega⟩
                 have hu:IntKind.u8.wrap (bb:Int)=(bb:Int):=by rw [IntKind.wrap_u8];omega
                 have hwb:IntKind.u64.wrap (bb:Int)=(bb:Int):=by rw [IntKind.wrap_u64];omega
                 have hwq:IntKind.u64.wrap (q:Int)=(q:Int):=by rw [IntKind.wrap_u64];omega
                 have hlk:([UInt8.ofNat (2:Int).toNat] ++ Im.setB a b c d 1 ++ Im.wordB b j).length+1 ≤ 140737488355328:=by simp only [List.length_append,hl2,Im.wordB_len,List.length_cons,List.length_nil];omega
                 have hst:Im.wordB b (j+1)=Im.wordB b j ++ [UInt8.ofNat bb]:=by rw [Im.wordB_succ,← HM.out,← hbm]
                 have HST:=Lib.hid hst;have HQ:=Lib.hid (hqm.trans (by rw [HM.out,← pow256r]))
                 have hq64:q < 18446744073709551616:=by omega
                 have HBN:=Lib.hid (show (bb:Int)=((UInt8.ofNat bb).toNat:Int) by rw [UInt8.toNat_ofNat'];omega)
                 have hwr:=HBA2.out.size
                 have HBX:=Lib.hid (HBA2.out.alloc hwr (.cells #[.int .u8 (bb:Int)] 5))
                 have HRX:=Lib.hid (HA2.out.below ((Below.refl wr.heap.size wr).alloc (Nat.le_refl _) (.cells #[.int .u8 (bb:Int)] 5)))
                 clear hst hqm hbm HM
                 go_wp2_with (first
                   | (at_builtin;refine wp_app1L rfl _ _ rfl (UInt8.ofNat bb) _ _ HBN.out rfl rfl ((cell_new _ _ _ 0).trans rfl) HRX.out HBX.out HBX.out.size hlk ?_;intro v' w' hr' hb')
                   | fail)
                 have HR3:=Lib.hid hr';have HB3:=Lib.hid hb'
                 clear hr' hb' HRX HBX
                 go_wp2
                 exact ⟨⟨j+1,q,by go_num,by omega,rfl,hq64,HQ,Lib.hid (by rw [HST.out,← List.append_assoc];exact HR3.out),HB3⟩,by simp [intOf];omega⟩
               · obtain rfl:j=8:=by omega
                 go_wp2
                 exact ⟨⟨2,by go_num,by omega,Lib.hid (by rw [show Im.setB a b c d 2=Im.setB a b c d 1 ++ Im.wordB b 8 from rfl,← List.append_assoc];exact HA2.out),HBA2⟩,by simp [intOf]⟩
           · rw [show ((2:Nat):Int)=(2:Int) from rfl]
             go_wp2
             clear d0 d1 d2 d3 d4 d5 d6 d7 d8 d9 ZA HR1 HB1 Z1
             go_loopw [3,5,6] (fun sv wv jv wr=>∃ (j m:Nat),jv=.int .i64 j∧j ≤ 8∧wv=.int .u64 (m:Int)∧m < 18446744073709551616∧Hid (m=c.toNat / 256 ^ j)∧Hid (BR W1.heap.size wr sv ([UInt8.ofNat (2:Int).toNat] ++ Im.setB a b c d 2 ++ Im.wordB c j))∧Hid (Below W1.heap.size W1 wr)) (fun _ _ jv _=>8 - (intOf jv).toNat)
             case atStart=>exact ⟨0,c.toNat,rfl,by omega,rfl,c.isLt,Lib.hid (by simp),by simpa [Im.wordB_zero] using HA,HBA⟩
             case round =>
               obtain ⟨j,m,rfl,hj,rfl,hm,HM,HA2,HBA2⟩:=hrel
               clear HA HBA
               by_cases hjt:j < 8
               · obtain ⟨bb,hbb,hbm,r1⟩:∃ bb:Nat,bb < 256∧bb=m % 256∧(m:Int) % 256=(bb:Int):=⟨m % 256,by omega,rfl,by omega⟩
                 obtain ⟨q,hqm,q1⟩:∃ q:Nat,q=m / 256∧(m:Int) / 256=(q:Int):=⟨m / 256,rfl,by omega⟩
                 have hu:IntKind.u8.wrap (bb:Int)=(bb:Int):=by rw [IntKind.wrap_u8];omega
                 have hwb:IntKind.u64.wrap (bb:Int)=(bb:Int):=by rw [IntKind.wrap_u64];omega
                 have hwq:IntKind.u64.wrap (q:Int)=(q:Int):=by rw [IntKind.wrap_u64];omega
                 have hlk:([UInt8.ofNat (2:Int).toNat] ++ Im.setB a b c d 2 ++ Im.wordB c j).length+1 ≤ 140737488355328:=by simp only [List.length_append,hl2,Im.wordB_len,List.length_cons,List.length_nil];omega
                 have hst:Im.wordB c (j+1)=Im.wordB c j ++ [UInt8.ofNat bb]:=by rw [Im.wordB_succ,← HM.out,← hbm]
                 have HST:=Lib.hid hst;have HQ:=Lib.hid (hqm.trans (by rw [HM.out,← pow256r]))
                 have hq64:q < 18446744073709551616:=by omega
                 have HBN:=Lib.hid (show (bb:Int)=((UInt8.ofNat bb).toNat:Int) by rw [UInt8.toNat_ofNat'];omega)
                 have hwr:=HBA2.out.size
                 have HBX:=Lib.hid (HBA2.out.alloc hwr (.cells #[.int .u8 (bb:Int)] 5))
                 have HRX:=Lib.hid (HA2.out.below ((Below.refl wr.heap.size wr).alloc (Nat.le_refl _) (.cells #[.int .u8 (bb:Int)] 5)))
                 clear hst hqm hbm HM
                 go_wp2_with (first
                   | (at_builtin;refine wp_app1L rfl _ _ rfl (UInt8.ofNat bb) _ _ HBN.out rfl rfl ((cell_new _ _ _ 0).trans rfl) HRX.out HBX.out HBX.out.size hlk ?_;intro v' w' hr' hb')
                   | fail)
                 have HR3:=Lib.hid hr';have HB3:=Lib.hid hb'
                 clear hr' hb' HRX HBX
                 go_wp2
                 exact ⟨⟨j+1,q,by go_num,by omega,rfl,hq64,HQ,Lib.hid (by rw [HST.out,← List.append_assoc];exact HR3.out),HB3⟩,by simp [intOf];omega⟩
               · obtain rfl:j=8:=by omega
                 go_wp2
                 exact ⟨⟨3,by go_num,by omega,Lib.hid (by rw [show Im.setB a b c d 3=Im.setB a b c d 2 ++ Im.wordB c 8 from rfl,← List.append_assoc];exact HA2.out),HBA2⟩,by simp [intOf]⟩
           · rw [show ((3:Nat):Int)=(3:Int) from rfl]
             go_wp2
             clear d0 d1 d2 d3 d4 d5 d6 d7 d8 d9 ZA HR1 HB1 Z1
             go_loopw [3,5,6] (fun sv wv jv wr=>∃ (j m:Nat),jv=.int .i64 j∧j ≤ 8∧wv=.int .u64 (m:Int)∧m < 18446744073709551616∧Hid (m=d.toNat / 256 ^ j)∧Hid (BR W1.heap.size wr sv ([UInt8.ofNat (2:Int).toNat] ++ Im.setB a b c d 3 ++ Im.wordB d j))∧Hid (Below W1.heap.size W1 wr)) (fun _ _ jv _=>8 - (intOf jv).toNat)
             case atStart=>exact ⟨0,d.toNat,rfl,by omega,rfl,d.isLt,Lib.hid (by simp),by simpa [Im.wordB_zero] using HA,HBA⟩
             case round =>
               obtain ⟨j,m,rfl,hj,rfl,hm,HM,HA2,HBA2⟩:=hrel
               clear HA HBA
               by_cases hjt:j < 8
               · obtain ⟨bb,hbb,hbm,r1⟩:∃ bb:Nat,bb < 256∧bb=m % 256∧(m:Int) % 256=(bb:Int):=⟨m % 256,by omega,rfl,by omega⟩
                 obtain ⟨q,hqm,q1⟩:∃ q:Nat,q=m / 256∧(m:Int) / 256=(q:Int):=⟨m / 256,rfl,by omega⟩
                 have hu:IntKind.u8.wrap (bb:Int)=(bb:Int):=by rw [IntKind.wrap_u8];omega
                 have hwb:IntKind.u64.wrap (bb:Int)=(bb:Int):=by rw [IntKind.wrap_u64];omega
                 have hwq:IntKind.u64.wrap (q:Int)=(q:Int):=by rw [IntKind.wrap_u64];omega
                 have hlk:([UInt8.ofNat (2:Int).toNat] ++ Im.setB a b c d 3 ++ Im.wordB d j).length+1 ≤ 140737488355328:=by simp only [List.length_append,hl2,Im.wordB_len,List.length_cons,List.length_nil];omega
                 have hst:Im.wordB d (j+1)=Im.wordB d j ++ [UInt8.ofNat bb]:=by rw [Im.wordB_succ,← HM.out,← hbm]
                 have HST:=Lib.hid hst;have HQ:=Lib.hid (hqm.trans (by rw [HM.out,← pow256r]))
                 have hq64:q < 18446744073709551616:=by omega
                 have HBN:=Lib.hid (show (bb:Int)=((UInt8.ofNat bb).toNat:Int) by rw [UInt8.toNat_ofNat'];omega)
                 have hwr:=HBA2.out.size
                 have HBX:=Lib.hid (HBA2.out.alloc hwr (.cells #[.int .u8 (bb:Int)] 5))
                 have HRX:=Lib.hid (HA2.out.below ((Below.refl wr.heap.size wr).alloc (Nat.le_refl _) (.cells #[.int .u8 (bb:Int)] 5)))
                 clear hst hqm hbm HM
                 go_wp2_with (first
                   | (at_builtin;refine wp_app1L rfl _ _ rfl (UInt8.ofNat bb) _ _ HBN.out rfl rfl ((cell_new _ _ _ 0).trans rfl) HRX.out HBX.out HBX.out.size hlk ?_;intro v' w' hr' hb')
                   | fail)
                 have HR3:=Lib.hid hr';have HB3:=Lib.hid hb'
                 clear hr' hb' HRX HBX
                 go_wp2
                 exact ⟨⟨j+1,q,by go_num,by omega,rfl,hq64,HQ,Lib.hid (by rw [HST.out,← List.append_assoc];exact HR3.out),HB3⟩,by simp [intOf];omega⟩
               · obtain rfl:j=8:=by omega
                 go_wp2
                 exact ⟨⟨4,by go_num,by omega,Lib.hid (by rw [show Im.setB a b c d 4=Im.setB a b c d 3 ++ Im.wordB d 8 from rfl,← List.append_assoc];exact HA2.out),HBA2⟩,by simp [intOf]⟩
         · obtain rfl:i=4:=by omega
           go_wp2
           go_meet
           rw [HH.out];exact ⟨HA,HBA⟩
     · simp only [reduceIte,Int.reduceEq,or_self] at hh
       go_wp2
       go_meet
       rw [hh];exact ⟨HR1,HB1⟩
     · simp only [reduceIte,Int.reduceEq,or_self] at hh
       go_wp2
       go_meet
       rw [hh];exact ⟨HR1,HB1⟩
     · simp only [reduceIte,Int.reduceEq,true_or] at hh
       have hh2:HD=[UInt8.ofNat (5:Int).toNat] ++ Im.numB ts.length:=by rw [hh];rfl
       have HH:=Lib.hid hh2
       clear hh hh2
       have HCa:=Lib.hid (refnumber_any ts.length hn w1)
       have hl9a:=Im.numB_len9 (n:=ts.length) hn
       generalize Im.numB ts.length=Ma at *
       go_wp2_with fail
       refine HCa.out.mono ?_
       rintro e wa ⟨va,rfl,hra,hba⟩
       obtain ⟨pa,ca,rfl,hna,hcla,-⟩:=hra.slice
       have HRa:=Lib.hid (HR1.out.below hba)
       have HBa:=Lib.hid (HB1.out.trans (hba.mono HB1.out.size))
       have HCLa:=Lib.hid hcla;have HNa:=Lib.hid hna
       clear hra hba hcla hna HCa d0 d1 d2 d3 d4 d5 d6 d7 d8 d9
       have hsa:=HBa.out.size
       go_wp2_with (first
         | (at_builtin;refine wp_appL (m:=Ma) rfl _ _ rfl pa ca rfl rfl HNa.out HCLa.out HRa.out HBa.out hsa (by simp;omega) ?_;intro v' w' hr' hb')
         | fail)
       have HRxa:=Lib.hid hr';have HBxa:=Lib.hid hb'
       clear hr' hb'
       go_wp2
       go_meet
       rw [HH.out];exact ⟨HRxa,HBxa⟩
     · simp only [reduceIte,Int.reduceEq,or_true] at hh
       have hh2:HD=[UInt8.ofNat (6:Int).toNat] ++ Im.numB ts.length:=by rw [hh];rfl
       have HH:=Lib.hid hh2
       clear hh hh2
       have HCa:=Lib.hid (refnumber_any ts.length hn w1)
       have hl9a:=Im.numB_len9 (n:=ts.length) hn
       generalize Im.numB ts.length=Ma at *
       go_wp2_with fail
       refine HCa.out.mono ?_
       rintro e wa ⟨va,rfl,hra,hba⟩
       obtain ⟨pa,ca,rfl,hna,hcla,-⟩:=hra.slice
       have HRa:=Lib.hid (HR1.out.below hba)
       have HBa:=Lib.hid (HB1.out.trans (hba.mono HB1.out.size))
       have HCLa:=Lib.hid hcla;have HNa:=Lib.hid hna
       clear hra hba hcla hna HCa d0 d1 d2 d3 d4 d5 d6 d7 d8 d9
       have hsa:=HBa.out.size
       go_wp2_with (first
         | (at_builtin;refine wp_appL (m:=Ma) rfl _ _ rfl pa ca rfl rfl HNa.out HCLa.out HRa.out HBa.out hsa (by simp;omega) ?_;intro v' w' hr' hb')
         | fail)
       have HRxa:=Lib.hid hr';have HBxa:=Lib.hid hb'
       clear hr' hb'
       go_wp2
       go_meet
       rw [HH.out];exact ⟨HRxa,HBxa⟩
     · simp only [reduceIte,Int.reduceEq,or_self] at hh
       obtain ⟨nn,hnn⟩:∃ nn:Nat,t.num=(nn:Int):=⟨t.num.toNat,by omega⟩
       have hnb:nn ≤ 9223372036854775807:=by omega
       rw [hnn] at hh d6
       rw [Int.toNat_natCast] at hh
       have hh2:HD=[UInt8.ofNat (7:Int).toNat] ++ Im.numB nn:=by rw [hh];rfl
       have HH:=Lib.hid hh2
       clear hh hh2 hnn hn1 hn2
       have HCa:=Lib.hid (refnumber_any nn hnb w1)
       have hl9a:=Im.numB_len9 (n:=nn) hnb
       generalize Im.numB nn=Ma at *
       go_wp2_with fail
       refine HCa.out.mono ?_
       rintro e wa ⟨va,rfl,hra,hba⟩
       obtain ⟨pa,ca,rfl,hna,hcla,-⟩:=hra.slice
       have HRa:=Lib.hid (HR1.out.below hba)
       have HBa:=Lib.hid (HB1.out.trans (hba.mono HB1.out.size))
       have HCLa:=Lib.hid hcla;have HNa:=Lib.hid hna
       clear hra hba hcla hna HCa d0 d1 d2 d3 d4 d5 d6 d7 d8 d9
       have hsa:=HBa.out.size
       go_wp2_with (first
         | (at_builtin;refine wp_appL (m:=Ma) rfl _ _ rfl pa ca rfl rfl HNa.out HCLa.out HRa.out HBa.out hsa (by simp;omega) ?_;intro v' w' hr' hb')
         | fail)
       have HRxa:=Lib.hid hr';have HBxa:=Lib.hid hb'
       clear hr' hb'
       go_wp2
       go_meet
       rw [HH.out];exact ⟨HRxa,HBxa⟩
     · simp only [reduceIte,Int.reduceEq,or_self] at hh
       obtain ⟨lo,hlo2⟩:∃ lo:Nat,t.least=(lo:Int):=⟨t.least.toNat,by omega⟩
       obtain ⟨hi,hhi2⟩:∃ hi:Nat,t.most+1=(hi:Int):=⟨(t.most+1).toNat,by omega⟩
       have hwr:IntKind.i64.wrap (t.most+1)=(hi:Int):=by rw [hhi2];exact IntWalk.i64_in _ (by omega)
       have hlb:lo ≤ 9223372036854775807:=by omega
       have hhb:hi ≤ 9223372036854775807:=by omega
       rw [hhi2,Int.toNat_natCast,hlo2,Int.toNat_natCast] at hh
       have hh2:HD=[UInt8.ofNat (8:Int).toNat] ++ Im.numB lo ++ Im.numB hi ++ [if t.bare then 1 else 0]:=by rw [hh];simp
       have HH:=Lib.hid hh2
       rw [hlo2] at d7
       have Z0r:=Lib.hid Z0.out
       clear hh hh2 hlo2 hlo hhi hhi2
       have HCa:=Lib.hid (refnumber_any lo hlb w1)
       have hl9a:=Im.numB_len9 (n:=lo) hlb
       generalize Im.numB lo=Ma at *
       go_wp2_with fail
       refine HCa.out.mono ?_
       rintro e wa ⟨va,rfl,hra,hba⟩
       obtain ⟨pa,ca,rfl,hna,hcla,-⟩:=hra.slice
       have HRa:=Lib.hid (HR1.out.below hba)
       have HBa:=Lib.hid (HB1.out.trans (hba.mono HB1.out.size))
       have HCLa:=Lib.hid hcla;have HNa:=Lib.hid hna
       clear hra hba hcla hna HCa d0 d1 d2 d3 d4 d5 d6 d7 d8 d9
       have hsa:=HBa.out.size
       go_upto_region 20 with (first
         | (at_builtin;refine wp_appL (m:=Ma) rfl _ _ rfl pa ca rfl rfl HNa.out HCLa.out HRa.out HBa.out hsa (by simp;omega) ?_;intro v' w' hr' hb')
         | fail)
       have HRxa:=Lib.hid hr';have HBxa:=Lib.hid hb'
       clear hr' hb'
       have Za:=Lib.hid (keep_blk HBxa.out Z0r.out)
       rename World=>wa2
       obtain ⟨d0,d1,d2,d3,d4,d5,d6,d7,d8,d9⟩:=allTen Za.out
       have HCb:=Lib.hid (refnumber_any hi hhb wa2)
       have hl9b:=Im.numB_len9 (n:=hi) hhb
       generalize Im.numB hi=Mb at *
       go_wp2_with fail
       refine HCb.out.mono ?_
       rintro e wb ⟨vb,rfl,hrb,hbb⟩
       obtain ⟨pb,cb,rfl,hnb,hclb,-⟩:=hrb.slice
       have HRb:=Lib.hid (HRxa.out.below hbb)
       have HBb:=Lib.hid (HBxa.out.trans (hbb.mono HBxa.out.size))
       have HCLb:=Lib.hid hclb;have HNb:=Lib.hid hnb
       clear hrb hbb hclb hnb HCb d0 d1 d2 d3 d4 d5 d6 d7 d8 d9
       have hsb:=HBb.out.size
       go_upto_region 21 with (first
         | (at_builtin;refine wp_appL (m:=Mb) rfl _ _ rfl pb cb rfl rfl HNb.out HCLb.out HRb.out HBb.out hsb (by simp;omega) ?_;intro v' w' hr' hb')
         | fail)
       have HRxb:=Lib.hid hr';have HBxb:=Lib.hid hb'
       clear hr' hb'
       have Zb:=Lib.hid (keep_blk HBxb.out Z0r.out)
       rename World=>wb2
       obtain ⟨d0,d1,d2,d3,d4,d5,d6,d7,d8,d9⟩:=allTen Zb.out
       have HBy:=Lib.hid (fun o=>HBxb.out.alloc HBxb.out.size o)
       have HRy:=Lib.hid (fun o=>HRxb.out.below ((Below.refl wb2.heap.size wb2).alloc (Nat.le_refl _) o))
       have hsy:=HBxb.out.size
       have hl9y:([UInt8.ofNat (8:Int).toNat] ++ Ma ++ Mb).length+1 ≤ 140737488355328:=by simp only [List.length_append,List.length_cons,List.length_nil];omega
       rcases Bool.eq_false_or_eq_true t.bare with hbr | hbr
       · rw [hbr] at d9 HH
         have HH2:=Lib.hid (HH.out.trans (by rw [if_pos rfl]))
         clear hbr HH
         go_wp2_with (first
           | (at_builtin;refine wp_app1L rfl _ _ rfl 1 _ _ rfl rfl rfl ((cell_new _ _ _ 0).trans rfl) (HRy.out _) (HBy.out _) (Nat.le_trans hsy (by simp)) hl9y ?_;intro v' w' hr' hb')
           | fail)
         have HRz:=Lib.hid hr';have HBz:=Lib.hid hb'
         clear hr' hb'
         go_wp2
         go_meet
         rw [HH2.out];exact ⟨HRz,HBz⟩
       · rw [hbr] at d9 HH
         have HH2:=Lib.hid (HH.out.trans (by rw [if_neg (by decide)]))
         clear hbr HH
         go_wp2_with (first
           | (at_builtin;refine wp_app1L rfl _ _ rfl 0 _ _ rfl rfl rfl ((cell_new _ _ _ 0).trans rfl) (HRy.out _) (HBy.out _) (Nat.le_trans hsy (by simp)) hl9y ?_;intro v' w' hr' hb')
           | fail)
         have HRz:=Lib.hid hr';have HBz:=Lib.hid hb'
         clear hr' hb'
         go_wp2
         go_meet
         rw [HH2.out];exact ⟨HRz,HBz⟩
   case rest =>
     obtain ⟨HA3,HB3⟩:=hcut
     have hlh:=HLEN.out
     clear HHEAD HKC hu HR1 HB1 Z1 d0 d1 d2 d3 d4 d5 d6 d7 d8 d9 hk hk8 hn
     go_wp2
     go_loopw [3,7] (fun sv iv wr=>∃ m:Nat,iv=.int .i64 m∧m ≤ ts.length∧Hid (BR W1.heap.size wr sv (HD ++ Im.imS (ts.take m)))∧Hid (Below W1.heap.size W1 wr)) (fun _ iv _=>ts.length - (intOf iv).toNat)
     case atStart=>exact ⟨0,rfl,Nat.zero_le _,by simpa [Im.imS] using HA3,HB3⟩
     case round =>
       obtain ⟨m,rfl,hm,HA,HB⟩:=hrel
       clear HA3 HB3
       have wm:IntKind.i64.wrap ((m:Int)+1)=(m:Int)+1:=IntWalk.i64_in _ (by omega)
       have Z2:=Lib.hid (keep_blk HB.out Z0.out)
       obtain ⟨d0,d1,d2,d3,d4,d5,d6,d7,d8,d9⟩:=allTen Z2.out
       by_cases hlt:m < ts.length
       · obtain ⟨x,hx⟩:∃ x,ts[m]? = some x:=⟨_,List.getElem?_eq_getElem hlt⟩
         have HBW:=Lib.hid (HW.out.trans (HB.out.mono HW.out.size))
         obtain ⟨b1,o1,s1,rfl,-,t1,sub1⟩:=HS.out.get hx
         obtain ⟨g0,g1,g2,g3,g4,g5,g6,g7,g8,g9⟩:=t1.keep (HBW.out.block _ t1.lt)
         have hmem:=List.mem_of_getElem? hx
         obtain ⟨p1,c1,rfl,hl1⟩:=sub1.slice
         have hst:=Im.imS_take ts m x hx
         have hle1:=Im.imT_le hmem
         have hle2:=Im.imS_le ts (m+1)
         rw [hst,List.length_append] at hle2
         have HST:=Lib.hid hst
         have HC:=Lib.hid (fun w' h=>IH.out x hmem (by omega) w' C (.agg (x.cells (.slice p1 x.subs.length c1))) ⟨_,rfl,sub1.later (w':=w') h⟩)
         clear t1 sub1 hmem hx hst
         unfold Tr.cells at HC
         generalize Im.imT x=N at *
         go_wp2_with fail
         refine (HC.out wr HBW.out).mono ?_
         rintro e w2 ⟨v2,rfl,hr2,hb2⟩
         obtain ⟨p2,c2,rfl,hn2,hcl2,-⟩:=hr2.slice
         have HR2:=Lib.hid (HA.out.below hb2)
         have HB2:=Lib.hid (HB.out.trans (hb2.mono HB.out.size))
         have HCL:=Lib.hid hcl2;have HN2:=Lib.hid hn2
         have hs2:=HB2.out.size
         clear hr2 hb2 hcl2 hn2 HC g0 g1 g2 g3 g4 g5 g6 g7 g8 g9 d0 d1 d2 d3 d4 d5 d6 d7 d8 d9
         go_wp2_with (first
           | (at_builtin;refine wp_appL (m:=N) rfl _ _ rfl p2 c2 rfl rfl HN2.out HCL.out HR2.out HB2.out hs2 (by simp only [List.length_append] at *;omega) ?_;intro v' w' hr' hb')
           | fail)
         have HRz:=Lib.hid hr';have HBz:=Lib.hid hb'
         clear hr' hb'
         go_wp2
         exact ⟨⟨m+1,by go_num,by omega,Lib.hid (by rw [HST.out,← List.append_assoc];exact HRz.out),HBz⟩,by simp [intOf];omega⟩
       · obtain rfl:m=ts.length:=by omega
         rw [List.take_length] at *
         go_wp2
         go_ret
         exact ⟨_,rfl,HA.out.mono HW.out.size,HW.out.trans (HB.out.mono HW.out.size)⟩
end Go.Proofs.YtnfdknhhkdphhaaDoor
namespace Go.Proofs.YtnfdknhhkdphhaaDoor
open Go.RowKit
namespace Tr
def usedT (t:Tr):Tr:=.node t.kind (if t.kind=2 then t.w0 else 0#64) (if t.kind=2 then t.w1 else 0#64) (if t.kind=2 then t.w2 else 0#64) (if t.kind=2 then t.w3 else 0#64) [] (if t.kind=7 then t.num else 0) (if t.kind=8 then t.least else 0) (if t.kind=8 then t.most else 0) (if t.kind=8 then t.bare else false)
end Tr
theorem refused_plain (k:Int) (a b c d:BitVec 64) (n lo hi:Int) (br:Bool) (p:Option Addr) (l cp:Nat) (w:World):Calls Tryd.prog 50 #[.agg #[.int .i64 k,.int .u64 (Oc.U a),.int .u64 (Oc.U b),.int .u64 (Oc.U c),.int .u64 (Oc.U d),.slice p l cp,.int .i64 n,.int .i64 lo,.int .i64 hi,.bool br]] w fun e w' =>
   e=.returned (.agg #[.int .i64 k,.int .u64 (Oc.U (if k=2 then a else 0#64)),.int .u64 (Oc.U (if k=2 then b else 0#64)),.int .u64 (Oc.U (if k=2 then c else 0#64)),.int .u64 (Oc.U (if k=2 then d else 0#64)),.slice none 0 0,.int .i64 (if k=7 then n else 0),.int .i64 (if k=8 then lo else 0),.int .i64 (if k=8 then hi else 0),.bool (if k=8 then br else false)])∧Below w.heap.size w w':=by
 have u0:Oc.U 0#64=0:=by decide
 by_cases h2:k=2
 · subst h2
   simp only [if_true,reduceIte,Int.reduceEq]
   clear u0
   go_enter Tryd.func50,Tryd.ntmps50
   go_wp2
   exact bodyPost_ret (results_cell_row rfl _ _ (w.heap.size+1) 27 _ (0,0) _ rfl (three_new _ _ _ _).2.1 Tryd.underlying27 rfl (by kernel_rfl)) rfl ⟨rfl,by go_grown⟩
 have e2:(k == 2)=false:=by simpa using h2
 simp only [if_neg h2,u0]
 clear u0 h2
 by_cases h7:k=7
 · subst h7
   simp only [if_true,reduceIte,Int.reduceEq]
   go_enter Tryd.func50,Tryd.ntmps50
   go_wp2
   exact bodyPost_ret (results_cell_row rfl _ _ (w.heap.size+1) 27 _ (0,0) _ rfl (three_new _ _ _ _).2.1 Tryd.underlying27 rfl (by kernel_rfl)) rfl ⟨rfl,by go_grown⟩
 have e7:(k == 7)=false:=by simpa using h7
 simp only [if_neg h7]
 clear h7
 by_cases h8:k=8
 · subst h8
   simp only [if_true]
   go_enter Tryd.func50,Tryd.ntmps50
   go_wp2
   exact bodyPost_ret (results_cell_row rfl _ _ (w.heap.size+1) 27 _ (0,0) _ rfl (three_new _ _ _ _).2.1 Tryd.underlying27 rfl (by kernel_rfl)) rfl ⟨rfl,by go_grown⟩
 have e8:(k == 8)=false:=by simpa using h8
 simp only [if_neg h8]
 clear h8
 go_enter Tryd.func50,Tryd.ntmps50
 go_wp2
 exact bodyPost_ret (results_cell_row rfl _ _ (w.heap.size+1) 27 _ (0,0) _ rfl (three_new _ _ _ _).2.1 Tryd.underlying27 rfl (by kernel_rfl)) rfl ⟨rfl,by go_grown⟩
theorem refused_any (t:Tr) (s:Value) (hs:∃ p l c,s=.slice p l c) (w:World):Calls Tryd.prog 50 #[.agg (t.cells s)] w fun e w'=>e=.returned (.agg (t.usedT.cells (.slice none 0 0)))∧Below w.heap.size w w':=by
 obtain ⟨p,l,c,rfl⟩:=hs
 exact refused_plain t.kind t.w0 t.w1 t.w2 t.w3 t.num t.least t.most t.bare p l c w
end Go.Proofs.YtnfdknhhkdphhaaDoor
namespace Go.Proofs.YtnfdknhhkdphhaaDoor
open Go.RowKit
namespace Tr
def misV (k:Int) (S:Bool) (n un lo ulo hi uhi:Int) (br ubr:Bool):Bool:=decide (k < 1) || decide (8 < k) || !S || (n != un) || (lo != ulo) || (hi != uhi) || (br != ubr)
def badV (k:Int) (len:Nat) (n lo hi:Int) (br:Bool):Bool :=
 if k=5 ∨ k=6 then decide (len < 2)
 else if k=7 then len != 1 || decide (n < 1) || decide (999 < n)
 else if k=8 then len != 1 || decide (lo < 0) || decide (255 < lo) || decide (hi < -1) || decide (255 < hi) || (decide (0 ≤ hi) && decide (hi < lo)) || (br && lo != 0)
 else len != 0
def sameW (a b c d a' b' c' d':BitVec 64):Bool:=Oc.U a == Oc.U a' && (Oc.U b == Oc.U b' && (Oc.U c == Oc.U c' && Oc.U d == Oc.U d'))
theorem sameW_iff {a b c d a' b' c' d':BitVec 64} : sameW a b c d a' b' c' d'=true ↔ a=a'∧b=b'∧c=c'∧d=d':=by
 unfold sameW
 rw [Bool.and_eq_true,Bool.and_eq_true,Bool.and_eq_true,beq_iff_eq,beq_iff_eq,beq_iff_eq,beq_iff_eq]
 exact ⟨fun h=>⟨Oc.U_inj h.1,Oc.U_inj h.2.1,Oc.U_inj h.2.2.1,Oc.U_inj h.2.2.2⟩,fun h=>by rw [h.1,h.2.1,h.2.2.1,h.2.2.2];exact ⟨rfl,rfl,rfl,rfl⟩⟩
def mism (t:Tr):Bool:=misV t.kind (sameW t.w0 t.w1 t.w2 t.w3 t.usedT.w0 t.usedT.w1 t.usedT.w2 t.usedT.w3) t.num t.usedT.num t.least t.usedT.least t.most t.usedT.most t.bare t.usedT.bare
def bad (t:Tr):Bool:=badV t.kind t.subs.length t.num t.least t.most t.bare
theorem mism_iff (t:Tr):t.mism=false ↔ (1 ≤ t.kind∧t.kind ≤ 8)∧(t.kind=2 ∨ (t.w0=0#64∧t.w1=0#64∧t.w2=0#64∧t.w3=0#64))∧(t.kind=7 ∨ t.num=0)∧(t.kind=8 ∨ (t.least=0∧t.most=0∧t.bare=false)):=by
 unfold mism misV usedT
 simp only [Bool.or_eq_false_iff,decide_eq_false_iff_not,Bool.not_eq_false',sameW_iff,bne_eq_false_iff_eq,Tr.w0,Tr.w1,Tr.w2,Tr.w3,Tr.num,Tr.least,Tr.most,Tr.bare]
 by_cases h2:t.kind=2
 · simp only [h2];simp [and_assoc]
 · by_cases h7:t.kind=7
   · simp only [h7];simp [and_assoc]
   · by_cases h8:t.kind=8
     · simp only [h8];simp [and_assoc]
     · simp only [h2,h7,h8];simp [and_assoc]
theorem fieldsB_ref (t:Tr):t.fieldsB=(!t.mism && !t.bad):=by
 rw [Bool.eq_iff_iff,fieldsB_iff,Bool.and_eq_true,Bool.not_eq_true',Bool.not_eq_true',mism_iff]
 unfold bad badV fieldsOk
 have hl:∀ m:Nat,(t.subs.length != m)=false ↔ t.subs.length=m:=fun m=>by simp
 constructor
 · rintro (⟨h | h | h,a,b,c,d,i,e,f,g,j⟩ | ⟨h,i,e,f,g,j⟩ | ⟨h | h,a,b,c,d,i,e,f,g,j⟩ | ⟨h,a,b,c,d,i,e1,e2,f,g,j⟩ | ⟨h,a,b,c,d,i,e,f1,f2,f3,f4⟩) <;> simp only [h] at * <;> simp_all <;> omega
 · rintro ⟨⟨⟨h1,h2⟩,h3,h4,h5⟩,h6⟩
   have hk:t.kind=1 ∨ t.kind=2 ∨ t.kind=3 ∨ t.kind=4 ∨ t.kind=5 ∨ t.kind=6 ∨ t.kind=7 ∨ t.kind=8:=by omega
   rcases hk with h | h | h | h | h | h | h | h <;> simp only [h] at * <;> simp_all <;> omega
end Tr
end Go.Proofs.YtnfdknhhkdphhaaDoor
namespace Go.Proofs.YtnfdknhhkdphhaaDoor
open Go.RowKit
theorem refform_step (k:Int) (a b c d:BitVec 64) (us:List Tr) (n lo hi:Int) (br:Bool) (p:Option Addr) (cap:Nat) (ua ub uc ud:BitVec 64) (un ulo uhi:Int) (ubr:Bool) (w:World) (B:Nat→Prop)
   (HU:Hid (∀ w,Calls Tryd.prog 50 #[.agg #[.int .i64 k,.int .u64 (Oc.U a),.int .u64 (Oc.U b),.int .u64 (Oc.U c),.int .u64 (Oc.U d),.slice p us.length cap,.int .i64 n,.int .i64 lo,.int .i64 hi,.bool br]] w fun e w'=>e=.returned (.agg #[.int .i64 k,.int .u64 (Oc.U ua),.int .u64 (Oc.U ub),.int .u64 (Oc.U uc),.int .u64 (Oc.U ud),.slice none 0 0,.int .i64 un,.int .i64 ulo,.int .i64 uhi,.bool ubr])∧Below w.heap.size w w'))
   (HS:Hid (TreesAt w B (.slice p us.length cap) us)) (hlen:us.length * 96 ≤ 140737488351232)
   (IH:Hid (∀ x,x ∈ us→∀ w B v,NodeV w B v x→Calls Tryd.prog 34 #[v] w fun e w'=>e=.returned (.bool x.formB)∧Below w.heap.size w w')) :
   Calls Tryd.prog 34 #[.agg #[.int .i64 k,.int .u64 (Oc.U a),.int .u64 (Oc.U b),.int .u64 (Oc.U c),.int .u64 (Oc.U d),.slice p us.length cap,.int .i64 n,.int .i64 lo,.int .i64 hi,.bool br]] w fun e w'=>e=.returned (.bool ((!Tr.misV k (Tr.sameW a b c d ua ub uc ud) n un lo ulo hi uhi br ubr && !Tr.badV k us.length n lo hi br) && Tr.formS us))∧Below w.heap.size w w':=by
 have he:=eq4
 obtain ⟨S,hS⟩:∃ S,Tr.sameW a b c d ua ub uc ud=S:=⟨_,rfl⟩
 obtain ⟨M,hM⟩:∃ M,Tr.misV k S n un lo ulo hi uhi br ubr=M:=⟨_,rfl⟩
 obtain ⟨Bd,hB⟩:∃ Bd,Tr.badV k us.length n lo hi br=Bd:=⟨_,rfl⟩
 obtain ⟨R,hR⟩:∃ R,((!M && !Bd) && Tr.formS us)=R:=⟨_,rfl⟩
 rw [hS,hM,hB,hR]
 have HR:=Lib.hid hR
 unfold Tr.sameW at hS
 unfold Tr.misV at hM
 unfold Tr.badV at hB
 have HM:=Lib.hid hM;have HBd:=Lib.hid hB;have HSm:=Lib.hid hS;have HLen:=Lib.hid hlen
 clear hM hB hR hS hlen
 go_enter Tryd.func34,Tryd.ntmps34
 go_wp2_with fail
 refine (HU.out _).mono ?_
 rintro e W0 ⟨rfl,hb1⟩
 have Z1:=Lib.hid (keep_blk hb1 (heap_alloc_new w _))
 have HB1:=Lib.hid (((Below.refl _ _).alloc (Nat.le_refl _) _).trans (hb1.mono (by simp)))
 have hs1:w.heap.size < W0.heap.size:=by have:=hb1.size;simp at this;omega
 clear hb1 HU
 go_upto_region 2 with (fail)
 have Z2:=Lib.hid (heap_alloc_lt (o:=.cells #[.int .i64 k,.int .u64 (Oc.U ua),.int .u64 (Oc.U ub),.int .u64 (Oc.U uc),.int .u64 (Oc.U ud),.slice none 0 0,.int .i64 un,.int .i64 ulo,.int .i64 uhi,.bool ubr] 27) Z1.out)
 have Y2:=Lib.hid (heap_alloc_new W0 (.cells #[.int .i64 k,.int .u64 (Oc.U ua),.int .u64 (Oc.U ub),.int .u64 (Oc.U uc),.int .u64 (Oc.U ud),.slice none 0 0,.int .i64 un,.int .i64 ulo,.int .i64 uhi,.bool ubr] 27))
 have HB2:=Lib.hid (HB1.out.alloc HB1.out.size (.cells #[.int .i64 k,.int .u64 (Oc.U ua),.int .u64 (Oc.U ub),.int .u64 (Oc.U uc),.int .u64 (Oc.U ud),.slice none 0 0,.int .i64 un,.int .i64 ulo,.int .i64 uhi,.bool ubr] 27))
 have hs2:w.heap.size < (W0.alloc (.cells #[.int .i64 k,.int .u64 (Oc.U ua),.int .u64 (Oc.U ub),.int .u64 (Oc.U uc),.int .u64 (Oc.U ud),.slice none 0 0,.int .i64 un,.int .i64 ulo,.int .i64 uhi,.bool ubr] 27)).heap.size:=by simp;omega
 clear Z1 HB1
 generalize W0.alloc (.cells #[.int .i64 k,.int .u64 (Oc.U ua),.int .u64 (Oc.U ub),.int .u64 (Oc.U uc),.int .u64 (Oc.U ud),.slice none 0 0,.int .i64 un,.int .i64 ulo,.int .i64 uhi,.bool ubr] 27)=W2 at *
 go_cut [51] (fun u wx=>u=.bool M∧W2=wx)
 case first =>
   have hM:=HM.out;have hS:=HSm.out
   obtain ⟨d0,d1,d2,d3,d4,d5,d6,d7,d8,d9⟩:=allTen Z2.out
   obtain ⟨u0,u1,u2,u3,u4,u5,u6,u7,u8,u9⟩:=allTen Y2.out
   clear HM HBd HSm HR HS IH HB2 hs2
   rcases bool_or (decide (k < 1)) with q0 | q0
   · rw [q0] at hM
     subst hM
     go_wp2
     go_meet
     exact ⟨rfl,rfl⟩
   rcases bool_or (decide (8 < k)) with q1 | q1
   · rw [q0,q1] at hM
     subst hM
     go_wp2
     go_meet
     exact ⟨rfl,rfl⟩
   cases S with
   | false =>
     rw [q0,q1] at hM
     subst hM
     go_wp2
     go_meet
     exact ⟨rfl,rfl⟩
   | true =>
     rcases bool_or (n != un) with q3 | q3
     · rw [q0,q1,q3] at hM
       subst hM
       go_wp2
       go_meet
       exact ⟨rfl,rfl⟩
     rcases bool_or (lo != ulo) with q4 | q4
     · rw [q0,q1,q3,q4] at hM
       subst hM
       go_wp2
       go_meet
       exact ⟨rfl,rfl⟩
     rcases bool_or (hi != uhi) with q5 | q5
     · rw [q0,q1,q3,q4,q5] at hM
       subst hM
       go_wp2
       go_meet
       exact ⟨rfl,rfl⟩
     cases br <;> cases ubr <;> (
       rw [q0,q1,q3,q4,q5] at hM
       subst hM
       go_wp2
       go_meet
       exact ⟨rfl,rfl⟩)
 case rest =>
   obtain ⟨rfl,rfl⟩:=hcut
   clear HM HSm Y2
   cases M with
   | true =>
     have hr:=HR.out
     rw [Bool.not_true,Bool.false_and,Bool.false_and] at hr
     subst hr
     clear HR HBd HS IH
     go_wp2
     go_ret
     exact ⟨rfl,HB2.out⟩
   | false =>
     have hr:=HR.out
     rw [Bool.not_false,Bool.true_and] at hr
     have HR:=Lib.hid hr
     clear hr
     have hB:=HBd.out
     clear HBd
     have z5:=(allTen Z2.out).2.2.2.2.2.1
     obtain ⟨d0,d1,d2,d3,d4,d5,d6,d7,d8,d9⟩:=allTen Z2.out
     by_cases kk5:k=5
     · subst kk5
       rw [if_pos (by decide)] at hB
       have hl2:decide ((us.length:Int) < 2)=decide (us.length < 2):=by
         by_cases h:us.length < 2
         · rw [decide_eq_true h,decide_eq_true (by omega)]
         · rw [decide_eq_false h,decide_eq_false (by omega)]
       cases Bd with
       | true =>
         have hr:=HR.out
         rw [Bool.not_true,Bool.false_and] at hr
         subst hr
         rw [hB] at hl2
         go_wp2
         go_ret
         exact ⟨rfl,HB2.out⟩
       | false =>
         have hr:=HR.out
         rw [Bool.not_false,Bool.true_and] at hr
         have HR:=Lib.hid hr
         clear hr
         rw [hB] at hl2
         go_wp2
         clear d0 d1 d2 d3 d4 d5 d6 d7 d8 d9
         go_loopw [5] (fun iv wr=>∃ m:Nat,iv=.int .i64 m∧m ≤ us.length∧Hid (Tr.formS (us.take m)=true)∧Hid (Below w.heap.size w wr)∧w.heap.size < wr.heap.size∧Hid (wr.cell? ⟨w.heap.size,5,none⟩=some (.slice p us.length cap))) (fun iv _=>us.length - (intOf iv).toNat)
         case atStart=>exact ⟨0,rfl,Nat.zero_le _,Lib.hid rfl,HB2,hs2,Lib.hid z5⟩
         case round =>
           obtain ⟨m,rfl,hm,HT,HB,hsz,Z0⟩:=hrel
           clear z5
           have wm:IntKind.i64.wrap ((m:Int)+1)=(m:Int)+1:=IntWalk.i64_in _ (by have:=HLen.out;omega)
           by_cases hlt:m < us.length
           · obtain ⟨x,hx⟩:∃ x,us[m]? = some x:=⟨_,List.getElem?_eq_getElem hlt⟩
             obtain ⟨b1,o1,s1,rfl,-,t1,sub1⟩:=HS.out.get hx
             obtain ⟨d0,d1,d2,d3,d4,d5,d6,d7,d8,d9⟩:=t1.keep (HB.out.block _ t1.lt)
             have hmem:=List.mem_of_getElem? hx
             have HC:=Lib.hid (IH.out x hmem wr B (.agg (x.cells s1)) ⟨_,rfl,sub1.later HB.out⟩)
             have hst:=Tr.formS_take us m x hx
             rw [HT.out,Bool.true_and] at hst
             have HST:=Lib.hid hst
             have z5:=Z0.out
             clear t1 sub1 hmem hx hst
             unfold Tr.cells at HC
             go_wp2_with fail
             refine HC.out.mono ?_
             rintro e w2 ⟨rfl,hb2⟩
             have HB2:=Lib.hid (HB.out.trans (hb2.mono HB.out.size));have Y2:=Lib.hid ((hb2.cell (p:=⟨w.heap.size,5,none⟩) hsz).trans z5)
             have hsz2:w.heap.size < w2.heap.size:=Nat.lt_of_lt_of_le hsz hb2.size
             clear d0 d1 d2 d3 d4 d5 d6 d7 d8 d9 z5 hb2 HC
             cases hxf:x.formB with
             | false =>
               rw [hxf] at HST
               have hr:=HR.out
               rw [Tr.formS_no HST.out] at hr
               subst hr
               clear hxf
               go_wp2
               go_ret
               exact ⟨rfl,HB2.out⟩
             | true =>
               rw [hxf] at HST
               clear hxf
               go_wp2
               exact ⟨⟨m+1,by go_num,by omega,HST,HB2,hsz2,Y2⟩,by simp [intOf];omega⟩
           · obtain rfl:m=us.length:=by omega
             rw [List.take_length] at *
             have hr:=HR.out
             rw [HT.out] at hr
             subst hr
             go_wp2
             go_ret
             exact ⟨rfl,HB.out⟩
     have n5:(k == 5)=false:=by simpa using kk5
     by_cases kk6:k=6
     · subst kk6
       rw [if_pos (by decide)] at hB
       have hl2:decide ((us.length:Int) < 2)=decide (us.length < 2):=by
         by_cases h:us.length < 2
         · rw [decide_eq_true h,decide_eq_true (by omega)]
         · rw [decide_eq_false h,decide_eq_false (by omega)]
       cases Bd with
       | true =>
         have hr:=HR.out
         rw [Bool.not_true,Bool.false_and] at hr
         subst hr
         rw [hB] at hl2
         go_wp2
         go_ret
         exact ⟨rfl,HB2.out⟩
       | false =>
         have hr:=HR.out
         rw [Bool.not_false,Bool.true_and] at hr
         have HR:=Lib.hid hr
         clear hr
         rw [hB] at hl2
         go_wp2
         clear d0 d1 d2 d3 d4 d5 d6 d7 d8 d9
         go_loopw [5] (fun iv wr=>∃ m:Nat,iv=.int .i64 m∧m ≤ us.length∧Hid (Tr.formS (us.take m)=true)∧Hid (Below w.heap.size w wr)∧w.heap.size < wr.heap.size∧Hid (wr.cell? ⟨w.heap.size,5,none⟩=some (.slice p us.length cap))) (fun iv _=>us.length - (intOf iv).toNat)
         case atStart=>exact ⟨0,rfl,Nat.zero_le _,Lib.hid rfl,HB2,hs2,Lib.hid z5⟩
         case round =>
           obtain ⟨m,rfl,hm,HT,HB,hsz,Z0⟩:=hrel
           clear z5
           have wm:IntKind.i64.wrap ((m:Int)+1)=(m:Int)+1:=IntWalk.i64_in _ (by have:=HLen.out;omega)
           by_cases hlt:m < us.length
           · obtain ⟨x,hx⟩:∃ x,us[m]? = some x:=⟨_,List.getElem?_eq_getElem hlt⟩
             obtain ⟨b1,o1,s1,rfl,-,t1,sub1⟩:=HS.out.get hx
             obtain ⟨d0,d1,d2,d3,d4,d5,d6,d7,d8,d9⟩:=t1.keep (HB.out.block _ t1.lt)
             have hmem:=List.mem_of_getElem? hx
             have HC:=Lib.hid (IH.out x hmem wr B (.agg (x.cells s1)) ⟨_,rfl,sub1.later HB.out⟩)
             have hst:=Tr.formS_take us m x hx
             rw [HT.out,Bool.true_and] at hst
             have HST:=Lib.hid hst
             have z5:=Z0.out
             clear t1 sub1 hmem hx hst
             unfold Tr.cells at HC
             go_wp2_with fail
             refine HC.out.mono ?_
             rintro e w2 ⟨rfl,hb2⟩
             have HB2:=Lib.hid (HB.out.trans (hb2.mono HB.out.size));have Y2:=Lib.hid ((hb2.cell (p:=⟨w.heap.size,5,none⟩) hsz).trans z5)
             have hsz2:w.heap.size < w2.heap.size:=Nat.lt_of_lt_of_le hsz hb2.size
             clear d0 d1 d2 d3 d4 d5 d6 d7 d8 d9 z5 hb2 HC
             cases hxf:x.formB with
             | false =>
               rw [hxf] at HST
               have hr:=HR.out
               rw [Tr.formS_no HST.out] at hr
               subst hr
               clear hxf
               go_wp2
               go_ret
               exact ⟨rfl,HB2.out⟩
             | true =>
               rw [hxf] at HST
               clear hxf
               go_wp2
               exact ⟨⟨m+1,by go_num,by omega,HST,HB2,hsz2,Y2⟩,by simp [intOf];omega⟩
           · obtain rfl:m=us.length:=by omega
             rw [List.take_length] at *
             have hr:=HR.out
             rw [HT.out] at hr
             subst hr
             go_wp2
             go_ret
             exact ⟨rfl,HB.out⟩
     have n6:(k == 6)=false:=by simpa using kk6
     by_cases kk7:k=7
     · subst kk7
       rw [if_neg (by decide),if_pos rfl] at hB
       have hl1:((us.length:Int) != 1)=(us.length != 1):=by
         by_cases h:us.length=1
         · rw [h];rfl
         · have e1:(us.length != 1)=true:=by simpa using h
           have e2:((us.length:Int) != 1)=true:=by rw [bne_iff_ne];omega
           rw [e1,e2]
       rcases bool_or (us.length != 1) with q0 | q0
       · rw [q0] at hB hl1
         simp only [Bool.true_or] at hB
         subst hB
         have hr:=HR.out
         rw [Bool.not_true,Bool.false_and] at hr
         subst hr
         go_wp2
         go_ret
         exact ⟨rfl,HB2.out⟩
       rw [q0] at hl1
       rcases bool_or (decide (n < 1)) with q1 | q1
       · rw [q0,q1] at hB
         simp only [Bool.true_or,Bool.or_true] at hB
         subst hB
         have hr:=HR.out
         rw [Bool.not_true,Bool.false_and] at hr
         subst hr
         go_wp2
         go_ret
         exact ⟨rfl,HB2.out⟩
       rcases bool_or (decide (999 < n)) with q2 | q2
       · rw [q0,q1,q2] at hB
         simp only [Bool.or_false,Bool.or_true] at hB
         subst hB
         have hr:=HR.out
         rw [Bool.not_true,Bool.false_and] at hr
         subst hr
         go_wp2
         go_ret
         exact ⟨rfl,HB2.out⟩
       rw [q0,q1,q2] at hB
       simp only [Bool.or_false] at hB
       subst hB
       have hr:=HR.out
       rw [Bool.not_false,Bool.true_and] at hr
       have HR:=Lib.hid hr
       clear hr
       go_wp2
       clear d0 d1 d2 d3 d4 d5 d6 d7 d8 d9
       go_loopw [5] (fun iv wr=>∃ m:Nat,iv=.int .i64 m∧m ≤ us.length∧Hid (Tr.formS (us.take m)=true)∧Hid (Below w.heap.size w wr)∧w.heap.size < wr.heap.size∧Hid (wr.cell? ⟨w.heap.size,5,none⟩=some (.slice p us.length cap))) (fun iv _=>us.length - (intOf iv).toNat)
       case atStart=>exact ⟨0,rfl,Nat.zero_le _,Lib.hid rfl,HB2,hs2,Lib.hid z5⟩
       case round =>
         obtain ⟨m,rfl,hm,HT,HB,hsz,Z0⟩:=hrel
         clear z5
         have wm:IntKind.i64.wrap ((m:Int)+1)=(m:Int)+1:=IntWalk.i64_in _ (by have:=HLen.out;omega)
         by_cases hlt:m < us.length
         · obtain ⟨x,hx⟩:∃ x,us[m]? = some x:=⟨_,List.getElem?_eq_getElem hlt⟩
           obtain ⟨b1,o1,s1,rfl,-,t1,sub1⟩:=HS.out.get hx
           obtain ⟨d0,d1,d2,d3,d4,d5,d6,d7,d8,d9⟩:=t1.keep (HB.out.block _ t1.lt)
           have hmem:=List.mem_of_getElem? hx
           have HC:=Lib.hid (IH.out x hmem wr B (.agg (x.cells s1)) ⟨_,rfl,sub1.later HB.out⟩)
           have hst:=Tr.formS_take us m x hx
           rw [HT.out,Bool.true_and] at hst
           have HST:=Lib.hid hst
           have z5:=Z0.out
           clear t1 sub1 hmem hx hst
           unfold Tr.cells at HC
           go_wp2_with fail
           refine HC.out.mono ?_
           rintro e w2 ⟨rfl,hb2⟩
           have HB2:=Lib.hid (HB.out.trans (hb2.mono HB.out.size));have Y2:=Lib.hid ((hb2.cell (p:=⟨w.heap.size,5,none⟩) hsz).trans z5)
           have hsz2:w.heap.size < w2.heap.size:=Nat.lt_of_lt_of_le hsz hb2.size
           clear d0 d1 d2 d3 d4 d5 d6 d7 d8 d9 z5 hb2 HC
           cases hxf:x.formB with
           | false =>
             rw [hxf] at HST
             have hr:=HR.out
             rw [Tr.formS_no HST.out] at hr
             subst hr
             clear hxf
             go_wp2
             go_ret
             exact ⟨rfl,HB2.out⟩
           | true =>
             rw [hxf] at HST
             clear hxf
             go_wp2
             exact ⟨⟨m+1,by go_num,by omega,HST,HB2,hsz2,Y2⟩,by simp [intOf];omega⟩
         · obtain rfl:m=us.length:=by omega
           rw [List.take_length] at *
           have hr:=HR.out
           rw [HT.out] at hr
           subst hr
           go_wp2
           go_ret
           exact ⟨rfl,HB.out⟩
     have n7:(k == 7)=false:=by simpa using kk7
     by_cases kk8:k=8
     · subst kk8
       rw [if_neg (by decide),if_neg (by decide),if_pos rfl] at hB
       have hl1:((us.length:Int) != 1)=(us.length != 1):=by
         by_cases h:us.length=1
         · rw [h];rfl
         · have e1:(us.length != 1)=true:=by simpa using h
           have e2:((us.length:Int) != 1)=true:=by rw [bne_iff_ne];omega
           rw [e1,e2]
       have HB:=Lib.hid hB
       clear hB
       go_upto_region 16 with (fail)
       go_cut [122] (fun u wx=>u=.bool Bd∧W2=wx)
       case first =>
         have hB:=HB.out
         clear HB HR HS IH HB2 hs2
         rcases bool_or (us.length != 1) with q0 | q0
         · rw [q0] at hB hl1
           subst hB
           go_wp2
           go_meet
           exact ⟨rfl,rfl⟩
         rw [q0] at hl1
         rcases bool_or (decide (lo < 0)) with q1 | q1
         · rw [q0,q1] at hB
           subst hB
           go_wp2
           go_meet
           exact ⟨rfl,rfl⟩
         rcases bool_or (decide (255 < lo)) with q2 | q2
         · rw [q0,q1,q2] at hB
           subst hB
           go_wp2
           go_meet
           exact ⟨rfl,rfl⟩
         rcases bool_or (decide (hi < -1)) with q3 | q3
         · rw [q0,q1,q2,q3] at hB
           subst hB
           go_wp2
           go_meet
           exact ⟨rfl,rfl⟩
         rcases bool_or (decide (255 < hi)) with q4 | q4
         · rw [q0,q1,q2,q3,q4] at hB
           subst hB
           go_wp2
           go_meet
           exact ⟨rfl,rfl⟩
         rcases bool_or (decide (0 ≤ hi)) with q5 | q5 <;> rcases bool_or (decide (hi < lo)) with q6 | q6 <;> rcases bool_or (lo != 0) with q7 | q7 <;> cases br <;> (
           rw [q0,q1,q2,q3,q4,q5,q6,q7] at hB
           subst hB
           go_wp2
           go_meet
           exact ⟨rfl,rfl⟩)
       case rest =>
         obtain ⟨rfl,rfl⟩:=hcut
         clear HB hl1
         cases Bd with
         | true =>
           have hr:=HR.out
           rw [Bool.not_true,Bool.false_and] at hr
           subst hr
           go_wp2
           go_ret
           exact ⟨rfl,HB2.out⟩
         | false =>
           have hr:=HR.out
           rw [Bool.not_false,Bool.true_and] at hr
           have HR:=Lib.hid hr
           clear hr
           go_wp2
           clear d0 d1 d2 d3 d4 d5 d6 d7 d8 d9
           go_loopw [5] (fun iv wr=>∃ m:Nat,iv=.int .i64 m∧m ≤ us.length∧Hid (Tr.formS (us.take m)=true)∧Hid (Below w.heap.size w wr)∧w.heap.size < wr.heap.size∧Hid (wr.cell? ⟨w.heap.size,5,none⟩=some (.slice p us.length cap))) (fun iv _=>us.length - (intOf iv).toNat)
           case atStart=>exact ⟨0,rfl,Nat.zero_le _,Lib.hid rfl,HB2,hs2,Lib.hid z5⟩
           case round =>
             obtain ⟨m,rfl,hm,HT,HB,hsz,Z0⟩:=hrel
             clear z5
             have wm:IntKind.i64.wrap ((m:Int)+1)=(m:Int)+1:=IntWalk.i64_in _ (by have:=HLen.out;omega)
             by_cases hlt:m < us.length
             · obtain ⟨x,hx⟩:∃ x,us[m]? = some x:=⟨_,List.getElem?_eq_getElem hlt⟩
               obtain ⟨b1,o1,s1,rfl,-,t1,sub1⟩:=HS.out.get hx
               obtain ⟨d0,d1,d2,d3,d4,d5,d6,d7,d8,d9⟩:=t1.keep (HB.out.block _ t1.lt)
               have hmem:=List.mem_of_getElem? hx
               have HC:=Lib.hid (IH.out x hmem wr B (.agg (x.cells s1)) ⟨_,rfl,sub1.later HB.out⟩)
               have hst:=Tr.formS_take us m x hx
               rw [HT.out,Bool.true_and] at hst
               have HST:=Lib.hid hst
               have z5:=Z0.out
               clear t1 sub1 hmem hx hst
               unfold Tr.cells at HC
               go_wp2_with fail
               refine HC.out.mono ?_
               rintro e w2 ⟨rfl,hb2⟩
               have HB2:=Lib.hid (HB.out.trans (hb2.mono HB.out.size));have Y2:=Lib.hid ((hb2.cell (p:=⟨w.heap.size,5,none⟩) hsz).trans z5)
               have hsz2:w.heap.size < w2.heap.size:=Nat.lt_of_lt_of_le hsz hb2.size
               clear d0 d1 d2 d3 d4 d5 d6 d7 d8 d9 z5 hb2 HC
               cases hxf:x.formB with
               | false =>
                 rw [hxf] at HST
                 have hr:=HR.out
                 rw [Tr.formS_no HST.out] at hr
                 subst hr
                 clear hxf
                 go_wp2
                 go_ret
                 exact ⟨rfl,HB2.out⟩
               | true =>
                 rw [hxf] at HST
                 clear hxf
                 go_wp2
                 exact ⟨⟨m+1,by go_num,by omega,HST,HB2,hsz2,Y2⟩,by simp [intOf];omega⟩
             · obtain rfl:m=us.length:=by omega
               rw [List.take_length] at *
               have hr:=HR.out
               rw [HT.out] at hr
               subst hr
               go_wp2
               go_ret
               exact ⟨rfl,HB.out⟩
     have n8:(k == 8)=false:=by simpa using kk8
     rw [if_neg (by omega),if_neg kk7,if_neg kk8] at hB
     have hl0:((us.length:Int) != 0)=(us.length != 0):=by
       by_cases h:us.length=0
       · rw [h];rfl
       · have e1:(us.length != 0)=true:=by simpa using h
         have e2:((us.length:Int) != 0)=true:=by rw [bne_iff_ne];omega
         rw [e1,e2]
     cases Bd with
     | true =>
       have hr:=HR.out
       rw [Bool.not_true,Bool.false_and] at hr
       subst hr
       rw [hB] at hl0
       clear kk5 kk6 kk7 kk8
       go_wp2
       go_ret
       exact ⟨rfl,HB2.out⟩
     | false =>
       have hr:=HR.out
       rw [Bool.not_false,Bool.true_and] at hr
       have HR:=Lib.hid hr
       clear hr
       rw [hB] at hl0
       clear kk5 kk6 kk7 kk8
       go_wp2
       clear d0 d1 d2 d3 d4 d5 d6 d7 d8 d9
       go_loopw [5] (fun iv wr=>∃ m:Nat,iv=.int .i64 m∧m ≤ us.length∧Hid (Tr.formS (us.take m)=true)∧Hid (Below w.heap.size w wr)∧w.heap.size < wr.heap.size∧Hid (wr.cell? ⟨w.heap.size,5,none⟩=some (.slice p us.length cap))) (fun iv _=>us.length - (intOf iv).toNat)
       case atStart=>exact ⟨0,rfl,Nat.zero_le _,Lib.hid rfl,HB2,hs2,Lib.hid z5⟩
       case round =>
         obtain ⟨m,rfl,hm,HT,HB,hsz,Z0⟩:=hrel
         clear z5
         have wm:IntKind.i64.wrap ((m:Int)+1)=(m:Int)+1:=IntWalk.i64_in _ (by have:=HLen.out;omega)
         by_cases hlt:m < us.length
         · obtain ⟨x,hx⟩:∃ x,us[m]? = some x:=⟨_,List.getElem?_eq_getElem hlt⟩
           obtain ⟨b1,o1,s1,rfl,-,t1,sub1⟩:=HS.out.get hx
           obtain ⟨d0,d1,d2,d3,d4,d5,d6,d7,d8,d9⟩:=t1.keep (HB.out.block _ t1.lt)
           have hmem:=List.mem_of_getElem? hx
           have HC:=Lib.hid (IH.out x hmem wr B (.agg (x.cells s1)) ⟨_,rfl,sub1.later HB.out⟩)
           have hst:=Tr.formS_take us m x hx
           rw [HT.out,Bool.true_and] at hst
           have HST:=Lib.hid hst
           have z5:=Z0.out
           clear t1 sub1 hmem hx hst
           unfold Tr.cells at HC
           go_wp2_with fail
           refine HC.out.mono ?_
           rintro e w2 ⟨rfl,hb2⟩
           have HB2:=Lib.hid (HB.out.trans (hb2.mono HB.out.size));have Y2:=Lib.hid ((hb2.cell (p:=⟨w.heap.size,5,none⟩) hsz).trans z5)
           have hsz2:w.heap.size < w2.heap.size:=Nat.lt_of_lt_of_le hsz hb2.size
           clear d0 d1 d2 d3 d4 d5 d6 d7 d8 d9 z5 hb2 HC
           cases hxf:x.formB with
           | false =>
             rw [hxf] at HST
             have hr:=HR.out
             rw [Tr.formS_no HST.out] at hr
             subst hr
             clear hxf
             go_wp2
             go_ret
             exact ⟨rfl,HB2.out⟩
           | true =>
             rw [hxf] at HST
             clear hxf
             go_wp2
             exact ⟨⟨m+1,by go_num,by omega,HST,HB2,hsz2,Y2⟩,by simp [intOf];omega⟩
         · obtain rfl:m=us.length:=by omega
           rw [List.take_length] at *
           have hr:=HR.out
           rw [HT.out] at hr
           subst hr
           go_wp2
           go_ret
           exact ⟨rfl,HB.out⟩
theorem refform_any:∀ t:Tr,∀ (w:World) (B:Nat→Prop) (v:Value),NodeV w B v t→Calls Tryd.prog 34 #[v] w fun e w'=>e=.returned (.bool t.formB)∧Below w.heap.size w w':=by
 intro t
 induction t using Tr.rec_subs with
 | h t ih =>
   intro w B v hv
   obtain ⟨s,rfl,hs⟩:=hv
   obtain ⟨p,cap,rfl,hlen⟩:=hs.slice
   have h:=refform_step t.kind t.w0 t.w1 t.w2 t.w3 t.subs t.num t.least t.most t.bare p cap t.usedT.w0 t.usedT.w1 t.usedT.w2 t.usedT.w3 t.usedT.num t.usedT.least t.usedT.most t.usedT.bare w B (Lib.hid (fun w=>refused_any t _ ⟨p,t.subs.length,cap,rfl⟩ w)) (Lib.hid hs) hlen (Lib.hid (fun x hx w B v hv=>ih x hx w B v hv))
   rw [Tr.formB_eq,Tr.fieldsB_ref]
   exact h
end Go.Proofs.YtnfdknhhkdphhaaDoor
namespace Go.Proofs.YtnfdknhhkdphhaaDoor
open Go.RowKit
theorem Tr.dpT_ref (t:Tr):t.dpT=Tr.dpS t.subs+(if (((t.kind == 8) && decide (0 < t.subs.length)) && !((t.least == 0) && ((t.most == 1) || (t.most == -1))))=true then 2 else 1):=by
 rw [Tr.dpT_eq]
 by_cases h0:t.subs.length=0
 · have e:t.subs=[]:=List.length_eq_zero_iff.1 h0
   rw [if_pos h0,e]
   simp [Tr.dpS]
 · rw [if_neg h0]
   have e:decide (0 < t.subs.length)=true:=by rw [decide_eq_true_eq];omega
   rw [e]
   congr 1
   have:(t.kind=8∧¬ (t.least=0∧(t.most=1 ∨ t.most = -1))) ↔ ((((t.kind == 8) && true) && !((t.least == 0) && ((t.most == 1) || (t.most == -1))))=true):=by by_cases a:t.least=0 <;> simp [a]
   by_cases h:t.kind=8∧¬ (t.least=0∧(t.most=1 ∨ t.most = -1))
   · rw [if_pos h,if_pos (this.1 h)]
   · rw [if_neg h,if_neg (fun h2=>h (this.2 h2))]
theorem refdepth_any:∀ t:Tr,t.dpT ≤ 1000000→∀ (w:World) (B:Nat→Prop) (v:Value),NodeV w B v t→Calls Tryd.prog 35 #[v] w (SizeEnd t.dpT w):=by
 intro t
 induction t using Tr.rec_subs with
 | h t ih =>
   intro hd w B v hv
   obtain ⟨s,rfl,hs⟩:=hv
   obtain ⟨p,cap,rfl,hlen⟩:=hs.slice
   have heq:=Tr.dpT_ref t
   rw [heq] at hd ⊢
   clear heq
   generalize hts:t.subs=ts at *
   have IH:=Lib.hid ih;have HS:=Lib.hid hs
   clear ih hs hts
   unfold Tr.cells at *
   have hle:Tr.dpS ts ≤ 1000000:=by omega
   generalize hD:Tr.dpS ts+(if (((t.kind == 8) && decide (0 < ts.length)) && !((t.least == 0) && ((t.most == 1) || (t.most == -1))))=true then 2 else 1)=D at *
   have HDE:=Lib.hid hD
   have Z0:=Lib.hid (heap_alloc_new w (.cells #[.int .i64 t.kind,.int .u64 (Oc.U t.w0),.int .u64 (Oc.U t.w1),.int .u64 (Oc.U t.w2),.int .u64 (Oc.U t.w3),.slice p ts.length cap,.int .i64 t.num,.int .i64 t.least,.int .i64 t.most,.bool t.bare] 27))
   have HW:=Lib.hid (show Below w.heap.size w (w.alloc (.cells #[.int .i64 t.kind,.int .u64 (Oc.U t.w0),.int .u64 (Oc.U t.w1),.int .u64 (Oc.U t.w2),.int .u64 (Oc.U t.w3),.slice p ts.length cap,.int .i64 t.num,.int .i64 t.least,.int .i64 t.most,.bool t.bare] 27)) from (Below.refl _ _).alloc (Nat.le_refl _) _)
   have hz:w.heap.size < (w.alloc (.cells #[.int .i64 t.kind,.int .u64 (Oc.U t.w0),.int .u64 (Oc.U t.w1),.int .u64 (Oc.U t.w2),.int .u64 (Oc.U t.w3),.slice p ts.length cap,.int .i64 t.num,.int .i64 t.least,.int .i64 t.most,.bool t.bare] 27)).heap.size:=by simp
   have HD:=Lib.hid hd
   clear hd hD
   go_enter Tryd.func35,Tryd.ntmps35
   go_wp2
   generalize w.alloc (.cells #[.int .i64 t.kind,.int .u64 (Oc.U t.w0),.int .u64 (Oc.U t.w1),.int .u64 (Oc.U t.w2),.int .u64 (Oc.U t.w3),.slice p ts.length cap,.int .i64 t.num,.int .i64 t.least,.int .i64 t.most,.bool t.bare] 27)=W0 at *
   go_loopw [3,4] (fun gv iv wr=>∃ m:Nat,iv=.int .i64 m∧m ≤ ts.length∧gv=.int .i64 (Tr.dpS (ts.take m):Nat)∧Hid (Below W0.heap.size W0 wr)) (fun _ iv _=>ts.length - (intOf iv).toNat)
   case atStart=>exact ⟨0,rfl,Nat.zero_le _,rfl,Lib.hid (Below.refl _ _)⟩
   case round =>
     obtain ⟨m,rfl,hm,rfl,HB⟩:=hrel
     have wm:IntKind.i64.wrap ((m:Int)+1)=(m:Int)+1:=IntWalk.i64_in _ (by omega)
     have HBW:=Lib.hid (HW.out.trans (HB.out.mono HW.out.size))
     have Z1:=Lib.hid (keep_blk (HB.out.mono (Nat.le_refl _)) Z0.out)
     have z5:=(allTen Z1.out).2.2.2.2.2.1
     by_cases hlt:m < ts.length
     · obtain ⟨x,hx⟩:∃ x,ts[m]? = some x:=⟨_,List.getElem?_eq_getElem hlt⟩
       obtain ⟨b1,o1,s1,rfl,-,t1,sub1⟩:=HS.out.get hx
       obtain ⟨d0,d1,d2,d3,d4,d5,d6,d7,d8,d9⟩:=t1.keep (HBW.out.block _ t1.lt)
       have hmem:=List.mem_of_getElem? hx
       obtain ⟨p1,c1,rfl,hl1⟩:=sub1.slice
       have hdx:x.dpT ≤ 1000000:=by have:=Tr.dpT_le_dpS hmem;omega
       have HC:=Lib.hid (fun w9 hb=>IH.out x hmem hdx w9 B (.agg (x.cells (.slice p1 x.subs.length c1))) ⟨_,rfl,sub1.later hb⟩)
       have HSTP:=Lib.hid (Tr.dpS_take ts m x hx)
       clear t1 sub1 hmem hx hdx
       generalize hn:Tr.dpS (ts.take m)=n at *
       clear hn
       unfold Tr.cells at HC
       go_wp2_with fail
       refine (HC.out wr HBW.out).mono ?_
       rintro e w2 ⟨rfl,hb2⟩
       have HB2:=Lib.hid (HB.out.trans (hb2.mono HB.out.size))
       clear d0 d1 d2 d3 d4 d5 d6 d7 d8 d9 z5 hb2 HC
       generalize x.dpT=N at *
       go_wp2
       all_goals
         exact ⟨⟨m+1,by go_num,by omega,by rw [HSTP.out];simp;try omega,HB2⟩,by simp [intOf];omega⟩
     · obtain rfl:m=ts.length:=by omega
       rw [List.take_length] at *
       have w2':IntKind.i64.wrap ((Tr.dpS ts:Int)+2)=(Tr.dpS ts:Int)+2:=IntWalk.i64_in _ (by omega)
       have w1':IntKind.i64.wrap ((Tr.dpS ts:Int)+1)=(Tr.dpS ts:Int)+1:=IntWalk.i64_in _ (by omega)
       have hde:=HDE.out
       clear z5
       obtain ⟨d0,d1,d2,d3,d4,d5,d6,d7,d8,d9⟩:=allTen Z1.out
       have hl:decide ((0:Int) < ts.length)=decide (0 < ts.length):=by
         by_cases h:0 < ts.length
         · rw [decide_eq_true h,decide_eq_true (by omega)]
         · rw [decide_eq_false h,decide_eq_false (by omega)]
       rcases bool_or (t.kind == 8) with q1 | q1 <;> rcases bool_or (decide (0 < ts.length)) with q2 | q2 <;> rcases bool_or (t.least == 0) with q3 | q3 <;> rcases bool_or (t.most == 1) with q4 | q4 <;> rcases bool_or (t.most == -1) with q5 | q5 <;> (
         rw [q1,q2,q3,q4,q5] at hde
         rw [q2] at hl
         simp only [Bool.and_true,Bool.and_false,Bool.or_true,Bool.or_false,Bool.not_true,Bool.not_false,if_true,if_false,Bool.false_eq_true] at hde
         have HDF:=Lib.hid hde
         clear hde
         go_wp2
         go_ret
         exact ⟨ret_int (by have:=HDF.out;omega),HBW.out⟩)
theorem refcheck_any (t:Tr) (hd:t.dpT ≤ 1000000) (w:World) (B:Nat→Prop) (v:Value) (hv:NodeV w B v t):Calls Tryd.prog 21 #[v] w (SizeEnd t.checkC w):=by
 obtain ⟨s,rfl,hs⟩:=hv
 have H1:=Lib.hid (fun w' hb=>refform_any t w' B (.agg (t.cells s)) ⟨s,rfl,TreesAt.later (w':=w') hs hb⟩)
 have H2:=Lib.hid (fun w' hb=>refdepth_any t hd w' B (.agg (t.cells s)) ⟨s,rfl,TreesAt.later (w':=w') hs hb⟩)
 have H3:=Lib.hid (fun (hf:t.InForm) w' hb=>refsize_any t hf w' B (.agg (t.cells s)) ⟨s,rfl,TreesAt.later (w':=w') hs hb⟩)
 obtain ⟨p,cap,rfl,hlen⟩:=hs.slice
 have Z0:=Lib.hid (heap_alloc_new w (.cells (t.cells (.slice p t.subs.length cap)) 27))
 have hfi:=Tr.formB_iff t
 have HFI:=Lib.hid hfi
 have HCC:=Lib.hid (show t.checkC=if t.formB=false then 13 else if 200 < t.dpT then 14 else if 2000 < t.szT then 10 else 0 from rfl)
 clear hs hd hfi
 unfold Tr.cells at *
 go_enter Tryd.func21,Tryd.ntmps21
 go_wp2_with (first
   | (refine wpList_load_row rfl 27 (.tmp 1) rfl w.heap.size rfl 27 _ (0,0) _ Z0.out Tryd.underlying27 rfl (by kernel_rfl) ?_)
   | fail)
 refine (H1.out _ ((Below.refl _ _).alloc (Nat.le_refl _) _)).mono ?_
 rintro e w1 ⟨rfl,hb1⟩
 have Z1:=Lib.hid (keep_blk hb1 Z0.out)
 have HB1:=Lib.hid (((Below.refl w.heap.size w).alloc (Nat.le_refl _) _).trans (hb1.mono (by simp)))
 clear hb1 Z0
 have hcc:=HCC.out
 cases hfb:t.formB with
 | false =>
   rw [if_pos hfb] at hcc
   have HCV:=Lib.hid hcc
   clear hcc HCC HFI hfb
   go_wp2
   go_ret
   exact ⟨ret_int (by rw [HCV.out];rfl),HB1.out⟩
 | true =>
   have hform:=HFI.out.1 hfb
   have H3':=Lib.hid (H3.out hform)
   rw [if_neg (by rw [hfb];decide)] at hcc
   have HC2:=Lib.hid hcc
   clear hcc HCC HFI hfb hform H3
   go_wp2_with (first
     | (refine wpList_load_row rfl 27 (.tmp 1) rfl w.heap.size rfl 27 _ (0,0) _ Z1.out Tryd.underlying27 rfl (by kernel_rfl) ?_)
     | fail)
   refine (H2.out _ HB1.out).mono ?_
   rintro e w2 ⟨rfl,hb2⟩
   have Z2:=Lib.hid (keep_blk hb2 Z1.out)
   have HB2:=Lib.hid (HB1.out.trans (hb2.mono HB1.out.size))
   clear hb2 Z1
   have hcc:=HC2.out
   by_cases hd:200 < t.dpT
   · rw [if_pos hd] at hcc
     have HCV:=Lib.hid hcc
     have e1:decide ((200:Int) < t.dpT)=true:=by simp;omega
     have e1':decide (200 < t.dpT)=true:=by simpa using hd
     clear hcc HC2 hd
     generalize t.dpT=D at *
     go_wp2
     go_ret
     exact ⟨ret_int (by rw [HCV.out];rfl),HB2.out⟩
   · have e1:decide ((200:Int) < t.dpT)=false:=by simp;omega
     have e1':decide (200 < t.dpT)=false:=by simpa using hd
     rw [if_neg hd] at hcc
     have HC3:=Lib.hid hcc
     clear hcc HC2 hd
     generalize t.dpT=D at *
     go_wp2_with (first
       | (refine wpList_load_row rfl 27 (.tmp 1) rfl w.heap.size rfl 27 _ (0,0) _ Z2.out Tryd.underlying27 rfl (by kernel_rfl) ?_)
       | fail)
     refine (H3'.out _ HB2.out).mono ?_
     rintro e w3 ⟨rfl,hb3⟩
     have HB3:=Lib.hid (HB2.out.trans (hb3.mono HB2.out.size))
     clear hb3 Z2
     have hcc:=HC3.out
     by_cases hz:2000 < t.szT
     · rw [if_pos hz] at hcc
       have HCV:=Lib.hid hcc
       have z1:decide ((2000:Int) < t.szT)=true:=by simp;omega
       have z1':decide (2000 < t.szT)=true:=by simpa using hz
       clear hcc HC3 hz
       generalize t.szT=ZT at *
       go_wp2
       go_ret
       exact ⟨ret_int (by rw [HCV.out];rfl),HB3.out⟩
     · rw [if_neg hz] at hcc
       have HCV:=Lib.hid hcc
       have z1:decide ((2000:Int) < t.szT)=false:=by simp;omega
       have z1':decide (2000 < t.szT)=false:=by simpa using hz
       clear hcc HC3 hz
       generalize t.szT=ZT at *
       go_wp2
       go_ret
       exact ⟨ret_int (by rw [HCV.out];rfl),HB3.out⟩
end Go.Proofs.YtnfdknhhkdphhaaDoor
namespace Go.Proofs.YtnfdknhhkdphhaaDoor
open Go.RowKit
def RefEncEnd (t:Tr) (w:World) (e:Ending) (w':World):Prop:=∃ v,e=.returned (.tuple #[v,.int .i64 (t.checkC:Int)])∧BR w.heap.size w' v (if t.checkC=0 then Im.head ++ Im.imT t else [])∧Below w.heap.size w w'
theorem Im.imT_pos (t:Tr):0 < (Im.imT t).length:=by rw [Im.imT_eq,List.length_append];unfold Im.headB;rw [List.length_cons];omega
theorem refencode_any (t:Tr) (hd:t.ndT ≤ 400000) (w:World) (C:Nat→Prop) (v:Value) (hv:NodeV w C v t):Calls Tryd.prog 11 #[v] w (RefEncEnd t w):=by
 have hdp:=Tr.dp_nd t
 have HC:=Lib.hid (fun w' (h:Below w.heap.size w w')=>refcheck_any t (by omega) w' C v (hv.later h))
 have HL:=Lib.hid (show t.checkC=0→(Im.imT t).length ≤ 16000000 from fun h=>by have:=Im.imT_nd t (Tr.checkC_zero.1 h).1 (by omega);omega)
 have HN:=Lib.hid (fun (h:t.checkC=0) w' (hb:Below w.heap.size w w')=>refnode_any t (Tr.checkC_zero.1 h).1 (by have:=HL.out h;omega) w' C v (hv.later hb))
 have hpos:=Im.imT_pos t
 obtain ⟨s,rfl,hs⟩:=hv
 obtain ⟨p,cap,rfl,hlens⟩:=hs.slice
 have Z0:=Lib.hid (heap_alloc_new w (.cells (t.cells (.slice p t.subs.length cap)) 27))
 have HW:=Lib.hid (show Below w.heap.size w (w.alloc (.cells (t.cells (.slice p t.subs.length cap)) 27)) from (Below.refl _ _).alloc (Nat.le_refl _) _)
 clear hs hd hdp
 have hcv:∀ w:World,(convert 31 31 (.slice (some ⟨w.heap.size,0,none⟩) 5 5)).run Tryd.prog (w.alloc (.cells #[.int .u8 84,.int .u8 82,.int .u8 87,.int .u8 76,.int .u8 1] 5))=.ok (.slice (some ⟨w.heap.size,0,none⟩) 5 5) (w.alloc (.cells #[.int .u8 84,.int .u8 82,.int .u8 87,.int .u8 76,.int .u8 1] 5 (5,6))) :=
   fun w=>Lib.run_convert_bytes_const w 31 5 #[.int .u8 84,.int .u8 82,.int .u8 87,.int .u8 76,.int .u8 1] 5 5 Tryd.underlying31 Tryd.underlying5
 unfold Tr.cells at *
 go_enter Tryd.func11,Tryd.ntmps11
 go_wp2_with (first
   | (refine wpList_load_row rfl 27 (.tmp 1) rfl w.heap.size rfl 27 _ (0,0) _ Z0.out Tryd.underlying27 rfl (by kernel_rfl) ?_)
   | fail)
 refine (HC.out _ HW.out).mono ?_
 rintro e w1 ⟨rfl,hb1⟩
 have Z1:=Lib.hid (keep_blk (hb1.mono (Nat.le_refl _)) Z0.out)
 have HB1:=Lib.hid (HW.out.trans (hb1.mono HW.out.size))
 clear hb1 Z0 HC HW
 by_cases h0:t.checkC=0
 · have HN1:=Lib.hid (HN.out h0)
   have hl:=HL.out h0
   have HI:=Lib.hid (show (if t.checkC=0 then Im.head ++ Im.imT t else [])=Im.head ++ Im.imT t from if_pos h0)
   have HBW:=Lib.hid (HB1.out.alloc HB1.out.size (.cells #[.int .u8 84,.int .u8 82,.int .u8 87,.int .u8 76,.int .u8 1] 5 (5,6)))
   have HRW:=Lib.hid (show Full w.heap.size (w1.alloc (.cells #[.int .u8 84,.int .u8 82,.int .u8 87,.int .u8 76,.int .u8 1] 5 (5,6))) (.slice (some ⟨w1.heap.size,0,none⟩) 5 5) Im.head from ⟨w1.heap.size,(5,6),_,rfl,HB1.out.size,heap_alloc_new _ _,head_cells⟩)
   have Z2:=Lib.hid (heap_alloc_lt (o:=.cells #[.int .u8 84,.int .u8 82,.int .u8 87,.int .u8 76,.int .u8 1] 5 (5,6)) Z1.out)
   have HE0:=Lib.hid h0
   rw [h0]
   clear h0 HL HN
   obtain ⟨M,hM⟩:∃ M,Im.imT t=M:=⟨_,rfl⟩
   have HI2:=Lib.hid (HI.out.trans (by rw [hM]))
   rw [hM] at hl hpos HN1
   clear hM HI
   go_wp2_with (first
     | (refine wpList_load_row rfl 27 (.tmp 1) rfl w.heap.size rfl 27 _ (0,0) _ Z2.out Tryd.underlying27 rfl (by kernel_rfl) ?_)
     | fail)
   refine (HN1.out _ HBW.out).mono ?_
   rintro e w2 ⟨v2,rfl,hr2,hb2⟩
   obtain ⟨p2,c2,rfl,hn2,hcl2,-⟩:=hr2.slice
   have HR2:=Lib.hid (show Full w.heap.size w2 _ Im.head from (HRW.out.elim fun g h=>h.elim fun fz h=>h.elim fun cs h=>⟨g,fz,cs,h.1,h.2.1,keep_blk hb2 h.2.2.1,h.2.2.2⟩))
   have HB2:=Lib.hid (HBW.out.trans (hb2.mono HBW.out.size))
   have HCL:=Lib.hid hcl2;have HNN:=Lib.hid hn2
   have hs2:=HB2.out.size
   clear hr2 hb2 hcl2 hn2 HN1 HRW
   go_wp2_with (first
     | (at_builtin;refine wp_appLF (m:=M) rfl _ _ rfl p2 c2 rfl rfl HNN.out hpos HCL.out HR2.out HB2.out hs2 (by simp [Im.head];omega) ?_;intro v' w' hr' hb')
     | fail)
   have HRz:=Lib.hid hr';have HBz:=Lib.hid hb'
   clear hr' hb'
   go_ret2
   exact ⟨v',congrArg (fun x:Nat=>Ending.returned (.tuple #[v',.int .i64 (x:Int)])) HE0.out.symm,by rw [HI2.out];exact HRz.out,HBz.out⟩
 · have HI:=Lib.hid (show (if t.checkC=0 then Im.head ++ Im.imT t else [])=[] from if_neg h0)
   have e1:((t.checkC:Int) != 0)=true:=by rw [bne_iff_ne];omega
   clear HL HN
   go_wp2
   go_ret2
   exact ⟨.slice none 0 0,rfl,by rw [HI.out];exact BR.nil _ _,HB1.out⟩
end Go.Proofs.YtnfdknhhkdphhaaDoor
namespace Go.Proofs.YtnfdknhhkdphhaaDoor
open Go.RowKit
theorem BR.set {B:Nat} {w:World} {v:Value} {l:List UInt8} (h:BR B w v l) {i:Nat} (hi:i < l.length) (c:UInt8) (n:Int) (hn:n=(c.toNat:Int)):∃ g cap,v=.slice (some ⟨g,0,none⟩) l.length cap∧B ≤ g∧l.length ≤ cap∧(∃ u,w.cell? ⟨g,i,none⟩=some u)∧w.frozen? ⟨g,i,none⟩=false ∧
   BR B (w.setCell ⟨g,i,none⟩ (.int .u8 n)) v (l.set i c)∧g < w.heap.size:=by
 rcases h.2 with ⟨rfl,hn0⟩ | ⟨g,cap,cur,rfl,hb,hg,hnc,hcm,hcs,ht⟩
 · omega
 · have hlt:i < cur.size:=by rw [hcs];omega
   have hgl:=(Array.getElem?_eq_some_iff.1 hg).1
   refine ⟨g,cap,rfl,hb,hnc,⟨cur[i], ?_⟩, ?_, ?_,hgl⟩
   · simp [World.cell?,hg,hlt]
   · simp [World.frozen?,hg]
   · have hs:(w.setCell ⟨g,i,none⟩ (.int .u8 n)).heap[g]? = some (.cells (cur.setIfInBounds i (.int .u8 n)) 5 (0,0)):=by
       simp [World.setCell,Array.getElem?_modify,hg]
     unfold BR
     rw [List.length_set]
     refine ⟨by rw [byteCells_len,List.length_set];omega,.inr ⟨g,cap,_,rfl,hb,hs,hnc,hcm,by rw [Array.size_setIfInBounds];exact hcs, ?_⟩⟩
     rw [Array.toList_setIfInBounds,List.take_set,ht]
     unfold Lib.byteCells
     rw [List.map_set,hn]
theorem BR.kept {B:Nat} {w w':World} {v:Value} {l:List UInt8} {row:Option Nat} (h:BR B w v l) (hg:w.grownBy w' row) (hne:∀ k,v.ownBlock=some k→row ≠ some k):BR B w' v l :=
 World.ownsRow.kept h hg (by
   cases h2:Value.ownBlock v with
   | none=>exact .inl rfl
   | some g=>exact .inr (Ne.symm (hne g h2)))
theorem BR.last {B:Nat} {w:World} {v:Value} {l:List UInt8} {c:UInt8} (h:BR B w v (l ++ [c])):∃ g cap,v=.slice (some ⟨g,0,none⟩) (l.length+1) cap∧w.cell? ⟨g,l.length,none⟩=some (.int .u8 (c.toNat:Int)):=by
 have hl:(l ++ [c]).length=l.length+1:=by simp
 rcases h.2 with ⟨rfl,hn0⟩ | ⟨g,cap,cur,rfl,hb,hg,hnc,hcm,hcs,ht⟩
 · omega
 · refine ⟨g,cap,by rw [hl], ?_⟩
   have:=World.ownsRow.cells h (g:=g) rfl l.length _ (byteCells_get (by omega))
   have hadd:(⟨g,0,none⟩:Addr).add l.length=⟨g,l.length,none⟩:=by unfold Addr.add;split <;> simp_all
   rw [hadd] at this
   simpa using this
theorem imageencodes_any (A:Nat→Addr) (t:Tr) (w:World) (hE:Errs w A) (C:Nat→Prop) (v:Value) (hv:NodeV w C v t):Calls Tryd.prog 3 #[v] w fun e w'=>e=.returned (.bool true)∧Below w.heap.size w w':=by
 have HLI:=Lib.hid (fun w' (h:Below w.heap.size w w')=>imlives_any A w' (hE.below h))
 have HFE:=Lib.hid (fun w' (h:Below w.heap.size w w')=>few_any t 3000 (by omega) w' C v (hv.later h))
 have HCP:=Lib.hid (fun w' (h:Below w.heap.size w w')=>copynode_any t w' C v (hv.later h))
 have HEN:=Lib.hid (fun (hd:t.ndT ≤ 3000) w' (h:Below w.heap.size w w') C' v' (hv':NodeV w' C' v' t)=>encode_any A t (by omega) w' (hE.below h) C' v' hv')
 have HRE:=Lib.hid (fun (hd:t.ndT ≤ 3000) w' (h:Below w.heap.size w w')=>refencode_any t (by omega) w' C v (hv.later h))
 have HNU:=Lib.hid (fun w' (h:Below w.heap.size w w')=>sentV_num A t.checkC (Tr.checkC_lt t) w' (hE.below h))
 have HSN:=Lib.hid (fun w' (h:Below w.heap.size w w') C' v' (hv':NodeV w' C' v' t)=>samenodes_any t t w' C' C v' v hv' (hv.later h))
 obtain ⟨s,rfl,hs⟩:=hv
 obtain ⟨p,cap,rfl,hlens⟩:=hs.slice
 have Z0:=Lib.hid (heap_alloc_new w (.cells (t.cells (.slice p t.subs.length cap)) 27))
 have HW:=Lib.hid (show Below w.heap.size w (w.alloc (.cells (t.cells (.slice p t.subs.length cap)) 27)) from (Below.refl _ _).alloc (Nat.le_refl _) _)
 clear hs hE
 unfold Tr.cells at *
 go_enter Tryd.func3,Tryd.ntmps3
 go_wp2_with fail
 refine (HLI.out _ HW.out).mono ?_
 rintro e w1 ⟨rfl,hb1⟩
 have Z1:=Lib.hid (keep_blk (hb1.mono (Nat.le_refl _)) Z0.out)
 have HB1:=Lib.hid (HW.out.trans (hb1.mono HW.out.size))
 clear hb1 Z0 HLI HW
 go_wp2_with (first
   | (refine wpList_load_row rfl 27 (.tmp 1) rfl w.heap.size rfl 27 _ (0,0) _ Z1.out Tryd.underlying27 rfl (by kernel_rfl) ?_)
   | fail)
 refine (HFE.out _ HB1.out).mono ?_
 rintro e w2 ⟨rfl,hb2⟩
 have Z2:=Lib.hid (keep_blk hb2 Z1.out)
 have HB2:=Lib.hid (HB1.out.trans (hb2.mono HB1.out.size))
 clear hb2 Z1 HB1 HFE
 by_cases hd:t.ndT ≤ 3000
 case neg =>
   have e1:decide (t.ndT ≤ 3000)=false:=decide_eq_false hd
   rw [e1]
   go_wp2
   go_ret
   exact ⟨rfl,HB2.out⟩
 have e1:decide (t.ndT ≤ 3000)=true:=decide_eq_true hd
 rw [e1]
 have HEN':=Lib.hid (HEN.out hd);have HRE':=Lib.hid (HRE.out hd)
 have hcl:=Tr.checkC_lt t
 have HND:=Lib.hid hd
 have hw40:w.heap.size ≤ w2.heap.size:=HB2.out.size
 clear e1 hd HEN HRE
 go_wp2_with (first
   | (refine wpList_load_row rfl 27 (.tmp 1) rfl w.heap.size rfl 27 _ (0,0) _ Z2.out Tryd.underlying27 rfl (by kernel_rfl) ?_)
   | fail)
 refine (HCP.out _ HB2.out).mono ?_
 rintro e w3 ⟨v3,rfl,hv3,hb3⟩
 have Z3:=Lib.hid (keep_blk hb3 Z2.out)
 have HB3:=Lib.hid (HB2.out.trans (hb3.mono HB2.out.size))
 have HV3:=Lib.hid hv3
 obtain ⟨s3,rfl,hs3⟩:=hv3
 obtain ⟨p3,c3,rfl,-⟩:=hs3.slice
 clear hb3 Z2 HB2 HCP hs3
 unfold Tr.cells at *
 go_upto_region 6 with (fail)
 have HB4':=Lib.hid (fun o=>HB3.out.alloc HB3.out.size o)
 have Z4':=Lib.hid (fun o=>heap_alloc_lt (o:=o) Z3.out)
 have Y4':=Lib.hid (heap_alloc_new w3 (.cells #[.int .i64 t.kind,.int .u64 (Oc.U t.w0),.int .u64 (Oc.U t.w1),.int .u64 (Oc.U t.w2),.int .u64 (Oc.U t.w3),.slice p3 t.subs.length c3,.int .i64 t.num,.int .i64 t.least,.int .i64 t.most,.bool t.bare] 27))
 have HV4':=Lib.hid (fun o=>HV3.out.later ((Below.refl w3.heap.size w3).alloc (Nat.le_refl _) o))
 generalize hW4:World.alloc w3 _=W4 at *
 have HB4:=Lib.hid (show Below w.heap.size w W4 from hW4 ▸ HB4'.out _)
 have Z4:=Lib.hid (hW4 ▸ Z4'.out _)
 have Y4:=Lib.hid Y4'.out
 have HV4:=Lib.hid (hW4 ▸ HV4'.out _)
 clear hW4 HB4' Z4' Y4' HV4' HB3 Z3 HV3
 have hw44:w.heap.size ≤ W4.heap.size:=HB4.out.size
 obtain ⟨L,hL⟩:∃ L,(if t.checkC=0 then Im.head ++ Im.imT t else [])=L:=⟨_,rfl⟩
 have HL:=Lib.hid hL
 have HLL:=Lib.hid (show L.length ≤ 16000000 by
   rw [← hL]
   split
   · rename_i h0
     have:=Im.imT_nd t (Tr.checkC_zero.1 h0).1 (by have:=HND.out;omega)
     have:=HND.out
     simp [Im.head];omega
   · simp)
 clear hL
 go_wp2_with (first
   | (refine wpList_load_row rfl 27 (.tmp 3) rfl w3.heap.size rfl 27 _ (0,0) _ Y4.out Tryd.underlying27 rfl (by kernel_rfl) ?_)
   | fail)
 refine (HEN'.out _ HB4.out _ _ HV4.out).mono ?_
 rintro e w5 ⟨va,rfl,hra,hb5⟩
 rw [HL.out] at hra
 have hs45:W4.heap.size ≤ w5.heap.size:=hb5.size
 have HRA:=Lib.hid hra
 have HB5:=Lib.hid (HB4.out.trans (hb5.mono HB4.out.size))
 have Z5:=Lib.hid (keep_blk hb5 Z4.out);have Y5:=Lib.hid (keep_blk hb5 Y4.out);have HV5:=Lib.hid (HV4.out.later hb5)
 clear hra hb5 Z4 Y4 HV4 HB4
 go_wp2_with (first
   | (refine wpList_load_row rfl 27 (.tmp 3) rfl w3.heap.size rfl 27 _ (0,0) _ Y5.out Tryd.underlying27 rfl (by kernel_rfl) ?_)
   | fail)
 refine (HEN'.out _ HB5.out _ _ HV5.out).mono ?_
 rintro e w6 ⟨vb,rfl,hrb,hb6⟩
 rw [HL.out] at hrb
 have HRB:=Lib.hid hrb
 have HRA6:=Lib.hid (HRA.out.below hb6)
 have HB6:=Lib.hid (HB5.out.trans (hb6.mono HB5.out.size))
 have Z6:=Lib.hid (keep_blk hb6 Z5.out);have Y6:=Lib.hid (keep_blk hb6 Y5.out);have HV6:=Lib.hid (HV5.out.later hb6)
 have hs56:w5.heap.size ≤ w6.heap.size:=hb6.size
 have hab:∀ k,va.ownBlock=some k→k < w5.heap.size:=fun k hk=>(HRA.out.lt k hk).2
 have HAB:=Lib.hid hab
 clear hrb hb6 Z5 Y5 HV5 HB5 HRA hab
 go_wp2_with (first
   | (refine wpList_load_row rfl 27 (.tmp 1) rfl w.heap.size rfl 27 _ (0,0) _ Z6.out Tryd.underlying27 rfl (by kernel_rfl) ?_)
   | fail)
 refine (HRE'.out _ HB6.out).mono ?_
 rintro e w7 ⟨vc,rfl,hrc,hb7⟩
 rw [HL.out] at hrc
 have hs67:w6.heap.size ≤ w7.heap.size:=hb7.size
 have HRC:=Lib.hid hrc
 have HRA7:=Lib.hid (HRA6.out.below hb7);have HRB7:=Lib.hid (HRB.out.below hb7)
 have HB7:=Lib.hid (HB6.out.trans (hb7.mono HB6.out.size))
 have Z7:=Lib.hid (keep_blk hb7 Z6.out);have Y7:=Lib.hid (keep_blk hb7 Y6.out);have HV7:=Lib.hid (HV6.out.later hb7)
 clear hrc hb7 Z6 Y6 HV6 HB6 HRA6 HRB
 go_wp2_with fail
 refine (HNU.out _ HB7.out).mono ?_
 rintro e w8 ⟨rfl,hb8⟩
 have hs78:w7.heap.size ≤ w8.heap.size:=hb8.size
 have HRA8:=Lib.hid (HRA7.out.below hb8);have HRB8:=Lib.hid (HRB7.out.below hb8);have HRC8:=Lib.hid (HRC.out.below hb8)
 have HB8:=Lib.hid (HB7.out.trans (hb8.mono HB7.out.size))
 have Z8:=Lib.hid (keep_blk hb8 Z7.out);have Y8:=Lib.hid (keep_blk hb8 Y7.out);have HV8:=Lib.hid (HV7.out.later hb8)
 clear hb8 HRA7 HRB7 HRC Z7 Y7 HV7 HB7 HNU HEN' HRE'
 obtain ⟨d0,d1,d2,d3,d4,d5,d6,d7,d8,d9⟩:=allTen Z8.out
 obtain ⟨y0,y1,y2,y3,y4,y5,y6,y7,y8,y9⟩:=allTen Y8.out
 have csa:=to_str HRA8.out.reads
 have csc:=to_str HRC8.out.reads
 generalize t.checkC=cc at *
 go_wp2_with fail
 refine (HSN.out _ HB8.out _ _ HV8.out).mono ?_
 intro e w9 hs9
 obtain ⟨rfl,hb9⟩:=hs9.yes rfl
 have hs79:w7.heap.size ≤ w9.heap.size:=Nat.le_trans hs78 hb9.size
 have HRA9:=Lib.hid (HRA8.out.below hb9);have HRB9:=Lib.hid (HRB8.out.below hb9);have HRC9:=Lib.hid (HRC8.out.below hb9)
 have HB9:=Lib.hid (HB8.out.trans (hb9.mono HB8.out.size))
 have hw4:w.heap.size ≤ w9.heap.size:=HB9.out.size
 clear hb9 hs9 HRA8 HRB8 HRC8 Z8 Y8 HV8 HB8 HSN csa csc d0 d1 d2 d3 d4 d5 d6 d7 d8 d9 y0 y1 y2 y3 y4 y5 y6 y7 y8 y9
 obtain ⟨pa,ca,hpa,hca⟩:=HRA9.out.reads.len
 have hbs4:W4.heap.size ≤ w9.heap.size:=Nat.le_trans hs45 (Nat.le_trans hs56 (Nat.le_trans hs67 hs79))
 have hll:L.length ≤ 16000000:=HLL.out
 have HLT:=Lib.hid HRA9.out.lt
 subst hpa
 go_wp2
 go_loopw [52] (fun iv wr=>∃ (m:Nat) (l':List UInt8),iv=.int .i64 m∧m ≤ L.length∧Hid (l'.length=L.length)∧Hid (BR W4.heap.size wr (.slice pa L.length ca) l')∧Hid (w9.grownBy wr (Value.ownBlock (.slice pa L.length ca)))) (fun iv _=>L.length - (intOf iv).toNat)
 case atStart=>exact ⟨0,L,rfl,Nat.zero_le _,Lib.hid rfl,HRA9,Lib.hid ⟨rfl,rfl,rfl,Nat.le_refl _,fun _ _ _=>rfl⟩⟩
 case round =>
   obtain ⟨m,l',rfl,hm,HLE,HR,HG⟩:=hrel
   have wm:IntKind.i64.wrap ((m:Int)+1)=(m:Int)+1:=IntWalk.i64_in _ (by omega)
   by_cases hlt:m < L.length
   · obtain ⟨g,cap',hsl,hgb,hcp,⟨u,hu⟩,hfz,hset,hgl⟩:=HR.out.set (by rw [HLE.out];exact hlt) 7 7 rfl
     have HSET:=Lib.hid hset
     injection hsl with hs1 hs2 hs3
     subst hs1
     clear hset hs2 hs3 hgb hcp
     go_wp2
     exact ⟨⟨m+1,l'.set m 7,by go_num,by omega,Lib.hid (by rw [List.length_set];exact HLE.out),HSET,Lib.hid (grownBy_trans HG.out (r':=some g) ⟨rfl,rfl,rfl,by simp,fun k hk hne=>Below.heap_setCell _ _ _ _ (fun e=>hne (by rw [e]))⟩ (.inl rfl))⟩,by simp [intOf];omega⟩
   · obtain rfl:m=L.length:=by omega
     have HB:=Lib.hid (HB9.out.grown HG.out hw4 (fun k hk=>Nat.le_trans hw44 (HLT.out k hk).1))
     have hwr:W4.heap.size ≤ wr.heap.size:=Nat.le_trans hbs4 HG.out.size
     have hl8:l'.length+1 ≤ 140737488355328:=by have:=HLE.out;omega
     go_upto_region 17 with (first
       | (at_builtin;refine wp_app1 rfl _ _ rfl 8 _ _ rfl rfl rfl ((cell_new _ _ _ 0).trans rfl) ((ApS.refl HR.out).alloc _) hwr hl8 ?_;intro v' w' hap)
       | fail)
     have hgr:=grownBy_trans HG.out hap.grown (.inl rfl)
     have hne5:∀ k,w5.heap.size ≤ k→Value.ownBlock (.slice pa L.length ca) ≠ some k:=fun k hk e=>by have:=HAB.out k e;omega
     have csb:=to_str (HRB9.out.kept hgr fun k hk=>hne5 k (HRB9.out.lt k hk).1).reads
     have csc:=to_str (HRC9.out.kept hgr fun k hk=>hne5 k (by have:=(HRC9.out.lt k hk).1;omega)).reads
     obtain ⟨g8,c8,rfl,h8⟩:=hap.row.last
     rw [HLE.out] at h8 ⊢
     have HBz:=Lib.hid (HB9.out.grown hgr hw4 (fun k hk=>Nat.le_trans hw44 (HLT.out k hk).1))
     have w8':IntKind.i64.wrap (((L.length+1:Nat):Int) - 1)=(L.length:Int):=by rw [show (((L.length+1:Nat):Int) - 1)=(L.length:Int) by omega];exact IntWalk.i64_in _ (by omega)
     have w8'':IntKind.i64.wrap ((L.length:Int)+1 - 1)=(L.length:Int):=by rw [show ((L.length:Int)+1 - 1)=(L.length:Int) by omega];exact IntWalk.i64_in _ (by omega)
     clear hgr hap hne5
     generalize L.length=n at *
     go_wp2
     go_ret
     exact ⟨rfl,HBz.out⟩
end Go.Proofs.YtnfdknhhkdphhaaDoor
namespace Go.Proofs.YtnfdknhhkdphhaaDoor
open Go.ChangeShapes Go.WideShapes Go.ChangeAt Go.RowKit
theorem Tryd.cellsSet:Tryd.prog.cellsOf 24=4:=by kernel_rfl
theorem Tryd.cellsU64:Tryd.prog.cellsOf 22=1:=by kernel_rfl
theorem word_of {n:Int} (h:(Lit.int .u64 n).wf=true):∃ x:BitVec 64,n=Oc.U x:=by
 simp only [Lit.wf,IntKind.min,IntKind.max,IntKind.signed,IntKind.bits,Bool.and_eq_true] at h
 refine ⟨BitVec.ofInt 64 n, ?_⟩
 unfold Oc.U;rw [BitVec.toNat_ofInt]
 have h1:=h.1;have h2:=h.2
 simp at h1 h2
 omega
theorem open_words {H:Type} {enc:TypeId × Value→H} {w:World} {base:Nat} {spare:Nat→Bool} {held:Bool} {fuel:Nat} {c0 c1 c2 c3:Value} {x:DataW H × List MemPlace}
   (h:DataW.trod enc Tryd.prog w base spare held fuel 24 [c0,c1,c2,c3]=some x):∃ a b c d:BitVec 64,c0=.int .u64 (Oc.U a)∧c1=.int .u64 (Oc.U b)∧c2=.int .u64 (Oc.U c)∧c3=.int .u64 (Oc.U d):=by
 obtain ⟨y0,y1,y2,y3,n,_,h0,h1,h2,h3⟩:=trod_array4 Tryd.underlying24 Tryd.cellsU64 h
 obtain ⟨n0,e0,-,w0⟩:=DataW.trod_int Tryd.underlying22 h0
 obtain ⟨n1,e1,-,w1⟩:=DataW.trod_int Tryd.underlying22 h1
 obtain ⟨n2,e2,-,w2⟩:=DataW.trod_int Tryd.underlying22 h2
 obtain ⟨n3,e3,-,w3⟩:=DataW.trod_int Tryd.underlying22 h3
 obtain ⟨a,rfl⟩:=word_of w0
 obtain ⟨b,rfl⟩:=word_of w1
 obtain ⟨c,rfl⟩:=word_of w2
 obtain ⟨d,rfl⟩:=word_of w3
 simp only [List.cons.injEq,and_true] at e0 e1 e2 e3
 exact ⟨a,b,c,d,e0,e1,e2,e3⟩
theorem Tryd.own:ownKnob Tryd.prog.godebug=none:=by kernel_rfl
theorem Tryd.laidOut:laidOutB Tryd.prog=true:=by kernel_rfl
end Go.Proofs.YtnfdknhhkdphhaaDoor
namespace Go.Proofs.YtnfdknhhkdphhaaDoor
open Go.ChangeShapes Go.WideShapes Go.ChangeAt Go.RowKit
theorem Tryd.cellsNodeO:Tryd.prog.cellsOf 27=10:=by kernel_rfl
theorem Tryd.cellsIntO:Tryd.prog.cellsOf 3=1:=by kernel_rfl
theorem Tryd.cellsBoolO:Tryd.prog.cellsOf 4=1:=by kernel_rfl
theorem Tryd.cellsNodesO:Tryd.prog.cellsOf 25=1:=by kernel_rfl
theorem Tryd.bytesNodeO:Tryd.prog.bytesOf 27=96:=by kernel_rfl
theorem list10 {α:Type} {l:List α} (h:l.length=10):∃ a0 a1 a2 a3 a4 a5 a6 a7 a8 a9,l=[a0,a1,a2,a3,a4,a5,a6,a7,a8,a9]:=by
 match l,h with
 | [a0,a1,a2,a3,a4,a5,a6,a7,a8,a9],_=>exact ⟨a0,a1,a2,a3,a4,a5,a6,a7,a8,a9,rfl⟩
theorem list7 {α:Type} {l:List α} (h:l.length=7):∃ a0 a1 a2 a3 a4 a5 a6,l=[a0,a1,a2,a3,a4,a5,a6]:=by
 match l,h with
 | [a0,a1,a2,a3,a4,a5,a6],_=>exact ⟨a0,a1,a2,a3,a4,a5,a6,rfl⟩
theorem weightsAll_mem {H:Type} {P:Program} {e:TypeId} {k:Nat} {d:DataW H} : ∀ {l:List (DataW H)},d ∈ l→k ∈ d.weights P e→k ∈ DataW.weightsAll P e l
 | [],h,_=>by cases h
 | x :: l,h,hk=>by
   rw [DataW.weightsAll]
   rcases List.mem_cons.1 h with rfl | h
   · exact List.mem_append_left _ hk
   · exact List.mem_append_right _ (weightsAll_mem h hk)
theorem add_at {a:Addr} (h:a.spot=none) (m:Nat):a.add m=⟨a.block,a.off+m,none⟩:=by
 unfold Addr.add
 split
 · rename_i h0;subst h0;cases a;simp_all
 · rfl
theorem open_node {H:Type} {enc:TypeId × Value→H} {W:World} {base:Nat} {spare:Nat→Bool} {held:Bool} : ∀ (fuel:Nat) (cs:List Value) (x:DataW H × List MemPlace),
   DataW.trod enc Tryd.prog W base spare held fuel 27 cs=some x→(∀ k,k ∈ x.1.weights Tryd.prog 27→k ≤ 140737488351232) →
   ∃ (t:Tr) (s:Value),cs=(t.cells s).toList∧TreesAt W (fun _=>True) s t.subs:=by
 intro fuel
 induction fuel using Nat.strongRecOn with
 | _ fuel ih =>
   intro cs x h hw
   obtain ⟨xs,n,rfl,rfl,hlen,hxs,hf⟩:=DataW.trod_struct Tryd.underlying27 h
   rw [Tryd.cellsNodeO] at hlen
   obtain ⟨c0,c1,c2,c3,c4,c5,c6,c7,c8,c9,rfl⟩:=list10 hlen
   obtain ⟨y0,y1,y2,y3,y4,y5,y6,rfl⟩:=list7 (by simpa using hxs)
   have f0:=hf 0 _ rfl;have f1:=hf 1 _ rfl;have f2:=hf 2 _ rfl;have f3:=hf 3 _ rfl;have f4:=hf 4 _ rfl;have f5:=hf 5 _ rfl;have f6:=hf 6 _ rfl
   simp only [List.getElem_toArray,List.getElem_cons_zero,List.getElem_cons_succ,Tryd.cellsIntO,Tryd.cellsBoolO,Tryd.cellsNodesO,Tryd.cellsSet,List.drop_zero,List.drop_succ_cons,List.take_succ_cons,List.take_zero,List.getElem?_cons_zero,List.getElem?_cons_succ] at f0 f1 f2 f3 f4 f5 f6
   obtain ⟨k,e0,-,-⟩:=DataW.trod_int Tryd.underlying3 f0
   obtain ⟨a,b,c,d,rfl,rfl,rfl,rfl⟩:=open_words f1
   obtain ⟨nn,e3,-,-⟩:=DataW.trod_int Tryd.underlying3 f3
   obtain ⟨lo,e4,-,-⟩:=DataW.trod_int Tryd.underlying3 f4
   obtain ⟨hi,e5,-,-⟩:=DataW.trod_int Tryd.underlying3 f5
   obtain ⟨br,e6,-⟩:=DataW.trod_bool Tryd.underlying4 f6
   simp only [List.cons.injEq,and_true] at e0 e3 e4 e5 e6
   subst e0 e3 e4 e5 e6
   have fin:∀ (ts:List Tr),TreesAt W (fun _=>True) c5 ts→∃ (t:Tr) (s:Value),[.int .i64 k,.int .u64 (Oc.U a),.int .u64 (Oc.U b),.int .u64 (Oc.U c),.int .u64 (Oc.U d),c5,.int .i64 nn,.int .i64 lo,.int .i64 hi,.bool br]=(t.cells s).toList∧TreesAt W (fun _=>True) s t.subs :=
     fun ts hts=>⟨.node k a b c d ts nn lo hi br,c5,rfl,hts⟩
   rcases DataW.trod_slice Tryd.underlying25 f2 with ⟨hc5,-⟩ | ⟨ad,len,cap,elems,rest,n',rfl,hc5,hx,-,-,-,hel,hall,-,-⟩
   · simp only [List.cons.injEq,and_true] at hc5
     subst hc5
     exact fin [] TreesAt.nil
   · simp only [List.cons.injEq,and_true] at hc5
     subst hc5
     rw [Tryd.cellsNodeO] at hall
     have hwn:∀ k,k ∈ y2.1.weights Tryd.prog 25→k ≤ 140737488351232:=fun k hk=>hw k (by
       rw [DataW.weights,Tryd.underlying27]
       exact DataW.weights_mem_each (j:=2) rfl rfl k hk)
     have hlen96:len * 96 ≤ 140737488351232:=by
       have:=hwn ((elems.length+rest.length) * 96) (by
         rw [hx]
         simp only [DataW.weights,Tryd.underlying25,Tryd.bytesNodeO,List.length_map]
         exact List.mem_cons_self)
       rw [hel] at this
       have h2:len * 96 ≤ (len+rest.length) * 96:=Nat.mul_le_mul_right _ (by omega)
       omega
     have key:∀ i,∃ (t:Tr) (s:Value),i < len→(∃ b o,some ad=some ⟨b,o,none⟩∧TenAt W b (o+i * 10) t s)∧TreesAt W (fun _=>True) s t.subs:=by
       intro i
       by_cases hi:i < len
       · have h1:=hall i hi
         rw [List.getElem?_eq_getElem (by omega)] at h1
         obtain ⟨csi,hcs,htr⟩:=Option.bind_eq_some_iff.1 h1
         obtain ⟨t,s,hts,hsub⟩:=ih n' (by omega) csi _ htr (fun k hk=>hwn k (by
           rw [hx]
           simp only [DataW.weights,Tryd.underlying25]
           refine List.mem_cons_of_mem _ (List.mem_append_left _ (weightsAll_mem (d:=elems[i].1) ?_ hk))
           exact List.mem_map.2 ⟨elems[i],List.getElem_mem _,rfl⟩))
         obtain ⟨-,-,hcell⟩:=World.cells?_some hcs
         have hspot:ad.spot=none:=by
           have h0:=hall 0 (by omega)
           rw [List.getElem?_eq_getElem (by omega)] at h0
           obtain ⟨cs0,hcs0,htr0⟩:=Option.bind_eq_some_iff.1 h0
           obtain ⟨t0,s0,hts0,-⟩:=ih n' (by omega) cs0 _ htr0 (fun k hk=>hwn k (by
             rw [hx]
             simp only [DataW.weights,Tryd.underlying25]
             refine List.mem_cons_of_mem _ (List.mem_append_left _ (weightsAll_mem (d:=elems[0].1) ?_ hk))
             exact List.mem_map.2 ⟨elems[0],List.getElem_mem _,rfl⟩))
           have h2:=(World.cells?_some hcs0).2.2 0 (by omega)
           rw [hts0] at h2
           have e:(ad.add (0 * 10)).add 0=ad:=by simp [Addr.add]
           rw [e] at h2
           cases hsp:ad.spot with
           | none=>rfl
           | some z =>
             unfold World.cell? at h2
             rw [hsp] at h2
             split at h2 <;> simp [Tr.cells] at h2
         have hadd:∀ j,(ad.add (i * 10)).add j=⟨ad.block,ad.off+i * 10+j,none⟩:=fun j=>by
           rw [add_at hspot,add_at (a:=⟨ad.block,ad.off+i * 10,none⟩) rfl]
         refine ⟨t,s,fun _=>⟨⟨ad.block,ad.off,by cases ad;simp_all, ?_⟩,hsub⟩⟩
         rw [hts] at hcell
         have get:∀ j u,j < 10→(t.cells s).toList[j]? = some u→W.cell? ⟨ad.block,ad.off+i * 10+j,none⟩=some u:=fun j u hj hu=>by
           rw [← hadd j,hcell j hj,hu]
         exact ⟨get 0 _ (by omega) rfl,get 1 _ (by omega) rfl,get 2 _ (by omega) rfl,get 3 _ (by omega) rfl,get 4 _ (by omega) rfl,get 5 _ (by omega) rfl,get 6 _ (by omega) rfl,get 7 _ (by omega) rfl,get 8 _ (by omega) rfl,get 9 _ (by omega) rfl⟩
       · exact ⟨.node 0 0#64 0#64 0#64 0#64 [] 0 0 0 false,.nilIface,fun h=>absurd h hi⟩
     obtain ⟨T,hT⟩:=Classical.axiomOfChoice key
     obtain ⟨S,hS⟩:=Classical.axiomOfChoice hT
     have hl:((List.range len).map T).length=len:=by simp
     have hg:∀ i t,((List.range len).map T)[i]? = some t→i < len∧t=T i:=fun i t h=>by
       rw [List.getElem?_map] at h
       by_cases hi:i < len
       · rw [List.getElem?_range hi] at h
         exact ⟨hi,(Option.some.inj h).symm⟩
       · rw [List.getElem?_eq_none (by simp;omega)] at h;cases h
     have:=TreesAt.mk (w:=W) (B:=fun _=>True) (some ad) cap ((List.range len).map T) S (by rw [hl];exact hlen96) (fun i t h=>by
       obtain ⟨hi,rfl⟩:=hg i t h
       obtain ⟨⟨b,o,e,ht⟩,-⟩:=hS i hi
       exact ⟨b,o,e,trivial,ht⟩) (fun i t h=>by
       obtain ⟨hi,rfl⟩:=hg i t h
       exact (hS i hi).2)
     rw [hl] at this
     exact fin _ this
theorem open_tree {H:Type} {enc:TypeId × Value→H} {w:World} {base b0:Nat} {spare:Nat→Bool} {held:Bool} {v:Value} {y:DataW H} {ps:List MemPlace} {r:Reach}
   (hv:Value.okWide Tryd.prog w r b0 27 v) (h:DataW.Trod enc Tryd.prog w base spare held 27 v y ps) (hw:∀ k,k ∈ y.weights Tryd.prog 27→k ≤ 140737488351232):∃ t,NodeV w (fun _=>True) v t:=by
 unfold Value.okWide at hv
 rw [Tryd.underlying27] at hv
 obtain ⟨cs,rfl,hsz,-⟩:=hv
 obtain ⟨fuel,hf⟩:=h
 obtain ⟨t,s,e,hs⟩:=open_node fuel _ _ hf hw
 refine ⟨t,s, ?_,hs⟩
 simp only [Value.cells] at e
 exact congrArg Value.agg (Array.toList_inj.1 e)
end Go.Proofs.YtnfdknhhkdphhaaDoor
namespace Go.Proofs.YtnfdknhhkdphhaaDoor
open Go.ChangeShapes Go.WideShapes Go.ChangeAt Go.RowKit
theorem im_laid_split {P:Program} {l:List (String × DataW Unit)} {W:World} (h:laidMetH P l W):laidMet P (l.filter fun x=>x.2.handleName?.isNone) W:=by
 unfold laidMetH at h
 generalize hfl:(l.filter fun x=>x.2.handleName?.isSome)=fl at h
 cases fl with
 | nil =>
   have e:(l.filter fun x=>x.2.handleName?.isNone)=l:=by
     rw [List.filter_eq_self]
     intro x hx
     have:=List.filter_eq_nil_iff.1 hfl x hx
     cases hh:x.2.handleName? with
     | none=>rfl
     | some y=>rw [hh] at this;simp at this
   rw [e]
   exact h
 | cons x r=>exact h.1
theorem im_errList_plain:∀ x,x ∈ errList→x.2.handleName?.isNone=true:=by
 have h:(errList.all fun x=>x.2.handleName?.isNone)=true:=by kernel_rfl
 intro x hx
 exact List.all_eq_true.1 h x hx
theorem im_env_of {l:List (String × DataW Unit)} {W:World} (h:laidMetH Tryd.prog l W) (hl:∀ x,x ∈ errList→x ∈ l):∃ A,Errs W A :=
 errs_of (im_laid_split h) fun x hx=>List.mem_filter.2 ⟨hl x hx,im_errList_plain x hx⟩
end Go.Proofs.YtnfdknhhkdphhaaDoor
