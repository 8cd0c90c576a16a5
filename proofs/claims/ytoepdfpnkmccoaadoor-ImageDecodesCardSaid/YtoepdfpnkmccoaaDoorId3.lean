/- Part 3 of what these proofs need. -/
import Derived.ChangeOld
import Derived.Deep.Slices
import Derived.Laws.IdiomArrays
import Derived.Lib.SmallJoins
import Derived.SizedLaws
import Derived.DataReads
import Derived.ChangeSlices
import Derived.LaidLaws
import Derived.Test.YtoepdfpnkmccoaaDoorId2
set_option maxRecDepth 100000
set_option maxHeartbeats 16000000
namespace Go.Proofs.YtoepdfpnkmccoaaDoor
open Go.RowKit
theorem Im.part_val (l:List UInt8) (j i:Nat):(Im.partW l j i).toNat=Im.valW (((l.take j).drop (8 * i)).take 8):=by
 unfold Im.partW
 have h:=Im.valW_lt (((l.take j).drop (8 * i)).take 8)
 have hl:(((l.take j).drop (8 * i)).take 8).length ≤ 8:=by rw [List.length_take];omega
 have hp:256 ^ (((l.take j).drop (8 * i)).take 8).length ≤ 256 ^ 8:=Nat.pow_le_pow_right (by omega) hl
 rw [BitVec.toNat_ofNat]
 exact Nat.mod_eq_of_lt (Nat.lt_of_lt_of_le h (by omega))
theorem Im.part_add (l:List UInt8) (j i:Nat) (hj:j < l.length) (h:j / 8=i):Oc.U (Im.partW l (j+1) i)=Oc.U (Im.partW l j i)+((l[j].toNat * 256 ^ (j % 8):Nat):Int)∧Oc.U (Im.partW l (j+1) i) < 18446744073709551616:=by
 unfold Oc.U
 refine ⟨?_,by have:=(Im.partW l (j+1) i).isLt;omega⟩
 rw [Im.part_val,Im.part_val]
 have hd:((l.take (j+1)).drop (8 * i)).take 8=((l.take j).drop (8 * i)).take 8 ++ [l[j]]:=by
   have hm:j % 8 < 8:=by omega
   rw [List.take_succ_eq_append_getElem hj,List.drop_append_of_le_length (by rw [List.length_take];omega)]
   have h1:((l.take j).drop (8 * i)).length=j % 8:=by rw [List.length_drop,List.length_take];omega
   rw [List.take_of_length_le (by rw [List.length_append,h1];simp;omega),List.take_of_length_le (l:=(l.take j).drop (8 * i)) (by omega)]
 rw [hd,Im.valW_snoc]
 have h1:(((l.take j).drop (8 * i)).take 8).length=j % 8:=by rw [List.length_take,List.length_drop,List.length_take];omega
 rw [h1]
 simp
theorem frFour {w:World} {b:Nat} {x0 x1 x2 x3 x4 x5 x6 x7 x8 x9:Value} {t:TypeId} (h:w.heap[b]? = some (.cells #[x0,x1,x2,x3,x4,x5,x6,x7,x8,x9] t)) :
   w.frozen? ⟨b,1,none⟩=false∧w.frozen? ⟨b,2,none⟩=false∧w.frozen? ⟨b,3,none⟩=false∧w.frozen? ⟨b,4,none⟩=false:=by
 simp [World.frozen?,h]
theorem Im.shl_add {x y:BitVec 64} {b m:Nat} (_hm:m < 8) (_hb:b < 256) (h:Oc.U y=Oc.U x+((b * 256 ^ m:Nat):Int)∧Oc.U y < 18446744073709551616):IntKind.u64.wrap (Oc.U x+IntKind.u64.wrap ((b:Int) * 2 ^ (8 * m)))=Oc.U y:=by
 have e:(b:Int) * 2 ^ (8 * m)=((b * 256 ^ m:Nat):Int):=by
   rw [show ((2:Int) ^ (8 * m))=((2 ^ (8 * m):Nat):Int) by simp,Nat.pow_mul]
   simp
 have hx:0 ≤ Oc.U x:=by unfold Oc.U;omega
 rw [e]
 generalize b * 256 ^ m=z at *
 rw [IntKind.wrap_u64,IntKind.wrap_u64]
 omega
def NrEnd (W0:World) (R:Nat) (bs:List UInt8) (room:Nat) (l:List UInt8) (w:World) (e:Ending) (w':World):Prop :=
 w.grownBy w' (some R)∧match Im.rN room l with
   | some (t,r)=>(∃ s,e=.returned (.tuple #[.agg (t.cells s),.bool true])∧TreesAt w' (fun b=>w.heap.size ≤ b) s t.subs)∧RdQ W0 w' R bs r 0
   | none=>∃ (t:Tr) (p:Option Addr) (n c:Nat),e=.returned (.tuple #[.agg (t.cells (.slice p n c)),.bool false])
theorem noderef_nil (W0 w:World) (R:Nat) (hR:W0.heap.size ≤ R) (bs:List UInt8) (hbl:bs.length ≤ 140737488351232) (lev:Int) (hb:Below W0.heap.size W0 w) (hr:RdQ W0 w R bs [] 0) :
   Calls Tryd.prog 35 #[.pointer (some ⟨R,0,none⟩),.int .i64 lev] w fun e w'=>(∃ (t:Tr) (p:Option Addr) (n c:Nat),e=.returned (.tuple #[.agg (t.cells (.slice p n c)),.bool false]))∧w.grownBy w' (some R):=by
 have hRw:R < w.heap.size:=hr.lt
 have HB0:=Lib.hid hb
 have HRI:=Lib.hid (fun o=>show RdQ W0 (w.alloc o) R bs [] 0 from hr.other (heap_alloc_lt (o:=o) (show w.heap[R]? = some _ from Array.getElem?_eq_getElem hRw) |>.trans (Array.getElem?_eq_getElem hRw).symm))
 have HWB:=Lib.hid (fun o=>(Below.refl w.heap.size w).alloc (Nat.le_refl _) o)
 clear hb hr
 go_enter Tryd.func35,Tryd.ntmps35
 go_upto_region 1 with (fail)
 have Z1':=Lib.hid (heap_alloc_new w (.cells #[.int .i64 0,.int .u64 0,.int .u64 0,.int .u64 0,.int .u64 0,.slice none 0 0,.int .i64 0,.int .i64 0,.int .i64 0,.bool false] 29))
 generalize hW1:World.alloc w _=W1 at *
 have HB1:=Lib.hid (show Below w.heap.size w W1 from hW1 ▸ HWB.out _)
 have HR1:=Lib.hid (show RdQ W0 W1 R bs [] 0 from hW1 ▸ HRI.out _)
 have HZ1:=Lib.hid (show W1.heap.size=w.heap.size+1 by rw [← hW1];simp)
 clear hW1 HWB HRI
 have HNX:=Lib.hid (nextQ_any W0 W1 R hR (HB0.out.trans (HB1.out.mono HB0.out.size)) bs [] 0 hbl HR1.out)
 go_wp2_with fail
 refine HNX.out.mono ?_
 rintro e w3 ⟨hg3,rfl,hr3⟩
 have hz1:=HZ1.out
 have hs3:w.heap.size+1 ≤ w3.heap.size:=by have:=hg3.size;omega
 have Y3:=Lib.hid ((hg3.block w.heap.size (by omega) (by intro e;injection e;omega)).trans Z1'.out)
 have hgw:w.grownBy w3 (some R):=grownBy_trans (r':=some R) ⟨HB1.out.os,HB1.out.tape,HB1.out.output,HB1.out.size,fun k hk _=>HB1.out.block k hk⟩ hg3 (.inl rfl)
 have HGW3:=Lib.hid hgw
 have HR3:=Lib.hid hr3
 clear hg3 hgw hr3 HNX hz1 HZ1 HB1 Z1' HR1
 have HZ3:=Lib.hid (heap_alloc_new w3 (.cells #[.int .i64 0,.int .u64 0,.int .u64 0,.int .u64 0,.int .u64 0,.slice none 0 0,.int .i64 0,.int .i64 0,.int .i64 0,.bool false] 29))
 have HA3:=Lib.hid (show ∀ o cs,Below w3.heap.size w3 ((w3.alloc o).setRow w3.heap.size cs) from fun o cs=>⟨rfl,rfl,rfl,by simp,fun k hk=>(heap_setRow_other _ _ _ (by omega)).trans ((World.grownBy_alloc w3 o none).block k hk (by simp))⟩)
 have HS3:=Lib.hid (show ∀ o cs,((w3.alloc o).setRow w3.heap.size cs).heap.size=w3.heap.size+1 from fun o cs=>by simp)
 go_upto_region 2 with (first
   | (refine wpList_store_row rfl 29 (.tmp 6) (.tmp 16) rfl w3.heap.size #[.int .i64 (-1),.int .u64 0,.int .u64 0,.int .u64 0,.int .u64 0,.slice none 0 0,.int .i64 0,.int .i64 0,.int .i64 0,.bool false] rfl rfl 29 _ HZ3.out (by kernel_rfl) (by kernel_rfl) (by simp [Value.oneCell']) ?_)
   | fail)
 generalize hWA:World.setRow _ _ _=WA at *
 have HBA:=Lib.hid (show Below w3.heap.size w3 WA from hWA ▸ HA3.out _ _)
 have HTA:=Lib.hid (show WA.heap[w3.heap.size]? = some (.cells #[.int .i64 (-1),.int .u64 0,.int .u64 0,.int .u64 0,.int .u64 0,.slice none 0 0,.int .i64 0,.int .i64 0,.int .i64 0,.bool false] 29) from hWA ▸ heap_setRow HZ3.out)
 have HSA:=Lib.hid (show WA.heap.size=w3.heap.size+1 from hWA ▸ HS3.out _ _)
 clear hWA HZ3 HA3 HS3
 have hRw3:R < w3.heap.size:=HR3.out.lt
 obtain ⟨left,cl,fl,hl0,hl1⟩:=(HR3.out.other (HBA.out.block R hRw3)).less0
 have wl:wrap64 (left - 1)=left - 1:=by unfold wrap64;omega
 go_upto_region 3 with (fail)
 generalize hW4:World.setCell _ _ _=W4 at *
 have HBX:=Lib.hid (show ∀ k,k < WA.heap.size→k ≠ R→W4.heap[k]? = WA.heap[k]? from fun k hk hk2=>hW4 ▸ Below.heap_setCell _ _ _ _ (by exact hk2))
 have HZ4:=Lib.hid (show W4.heap.size=w3.heap.size+1 by rw [← hW4];simpa using HSA.out)
 have HT4:=Lib.hid ((HBX.out w3.heap.size (by have:=HSA.out;omega) (by omega)).trans HTA.out)
 have HO4:=Lib.hid (show W4.os=WA.os∧W4.tape=WA.tape∧W4.output=WA.output from hW4 ▸ ⟨rfl,rfl,rfl⟩)
 have HGW:=Lib.hid (show w.grownBy W4 (some R) from ⟨HO4.out.1.trans (HBA.out.os.trans HGW3.out.os),HO4.out.2.1.trans (HBA.out.tape.trans HGW3.out.tape),HO4.out.2.2.trans (HBA.out.output.trans HGW3.out.output),by have:=HZ4.out;have:=HGW3.out.size;omega,
   fun k hk hne=>(HBX.out k (by have:=HSA.out;have:=HGW3.out.size;omega) (fun e=>hne (by rw [e]))).trans ((HBA.out.block k (by have:=HGW3.out.size;omega)).trans (HGW3.out.block k hk hne))⟩)
 have HY4:=Lib.hid ((HBX.out w.heap.size (by have:=HSA.out;omega) (by omega)).trans ((HBA.out.block w.heap.size (by omega)).trans Y3.out))
 have HBW4:=Lib.hid (HB0.out.grown HGW.out HB0.out.size (fun k e=>by injection e;omega))
 clear hW4 HBX HO4 HBA HTA HSA Y3 HGW3 
 generalize hTT:w3.heap.size=T at *
 obtain ⟨d0,d1,d2,d3,d4,d5,d6,d7,d8,d9⟩:=allTen HT4.out
 clear cl fl
 have HFIN:=Lib.hid (show ∀ cs,w.grownBy (W4.setRow w.heap.size cs) (some R) from fun cs=>⟨HGW.out.os,HGW.out.tape,HGW.out.output,by simpa using HGW.out.size,fun k hk hne=>(heap_setRow_other _ _ _ (by omega)).trans (HGW.out.block k hk hne)⟩)
 go_wp2_with (first
   | (refine wpList_load_row rfl 29 (.tmp 6) rfl T rfl 29 _ (0,0) _ HT4.out Tryd.underlying29 rfl (by kernel_rfl) ?_)
   | (refine wpList_store_row rfl 29 (.tmp 4) (.tmp 38) rfl w.heap.size #[.int .i64 (-1),.int .u64 0,.int .u64 0,.int .u64 0,.int .u64 0,.slice none 0 0,.int .i64 0,.int .i64 0,.int .i64 0,.bool false] rfl rfl 29 _ HY4.out (by kernel_rfl) (by kernel_rfl) (by simp [Value.oneCell']) ?_)
   | fail)
 refine bodyPost_ret (results_row_one rfl _ _ w.heap.size 29 #[.int .i64 (-1),.int .u64 0,.int .u64 0,.int .u64 0,.int .u64 0,.slice none 0 0,.int .i64 0,.int .i64 0,.int .i64 0,.bool false] (0,0) _ (.bool false) rfl rfl (heap_setRow HY4.out) Tryd.underlying29 rfl (by kernel_rfl)) rfl ⟨⟨.node (-1) 0#64 0#64 0#64 0#64 [] 0 0 0 false,none,0,0,rfl⟩, ?_⟩
 exact HFIN.out _
theorem noderef_deep (W0 w:World) (R:Nat) (hR:W0.heap.size ≤ R) (bs:List UInt8) (hbl:bs.length ≤ 140737488351232) (k:UInt8) (l:List UInt8) (lev:Int) (hlev:200 < lev) (hb:Below W0.heap.size W0 w) (hr:RdQ W0 w R bs (k :: l) 0) :
   Calls Tryd.prog 35 #[.pointer (some ⟨R,0,none⟩),.int .i64 lev] w fun e w'=>(∃ (t:Tr) (p:Option Addr) (n c:Nat),e=.returned (.tuple #[.agg (t.cells (.slice p n c)),.bool false]))∧w.grownBy w' (some R):=by
 have hRw:R < w.heap.size:=hr.lt
 have HB0:=Lib.hid hb
 have HRI:=Lib.hid (fun o=>show RdQ W0 (w.alloc o) R bs (k :: l) 0 from hr.other (heap_alloc_lt (o:=o) (show w.heap[R]? = some _ from Array.getElem?_eq_getElem hRw) |>.trans (Array.getElem?_eq_getElem hRw).symm))
 have HWB:=Lib.hid (fun o=>(Below.refl w.heap.size w).alloc (Nat.le_refl _) o)
 have hk8:=k.toNat_lt
 have e1:decide ((k.toNat:Int) < 0)=false:=decide_eq_false (by omega)
 have e2:decide ((200:Int) < lev)=true:=decide_eq_true hlev
 clear hb hr
 go_enter Tryd.func35,Tryd.ntmps35
 go_upto_region 1 with (fail)
 have Z1':=Lib.hid (heap_alloc_new w (.cells #[.int .i64 0,.int .u64 0,.int .u64 0,.int .u64 0,.int .u64 0,.slice none 0 0,.int .i64 0,.int .i64 0,.int .i64 0,.bool false] 29))
 generalize hW1:World.alloc w _=W1 at *
 have HB1:=Lib.hid (show Below w.heap.size w W1 from hW1 ▸ HWB.out _)
 have HR1:=Lib.hid (show RdQ W0 W1 R bs (k :: l) 0 from hW1 ▸ HRI.out _)
 have HZ1:=Lib.hid (show W1.heap.size=w.heap.size+1 by rw [← hW1];simp)
 clear hW1 HWB HRI
 have HNX:=Lib.hid (nextQ_any W0 W1 R hR (HB0.out.trans (HB1.out.mono HB0.out.size)) bs (k :: l) 0 hbl HR1.out)
 go_wp2_with fail
 refine HNX.out.mono ?_
 rintro e w3 ⟨hg3,rfl,hr3⟩
 have hz1:=HZ1.out
 have hs3:w.heap.size+1 ≤ w3.heap.size:=by have:=hg3.size;omega
 have Y3:=Lib.hid ((hg3.block w.heap.size (by omega) (by intro e;injection e;omega)).trans Z1'.out)
 have hgw:w.grownBy w3 (some R):=grownBy_trans (r':=some R) ⟨HB1.out.os,HB1.out.tape,HB1.out.output,HB1.out.size,fun k hk _=>HB1.out.block k hk⟩ hg3 (.inl rfl)
 have HGW3:=Lib.hid hgw
 have HR3:=Lib.hid hr3
 clear hg3 hgw hr3 HNX hz1 HZ1 HB1 Z1' HR1
 have HZ3:=Lib.hid (heap_alloc_new w3 (.cells #[.int .i64 0,.int .u64 0,.int .u64 0,.int .u64 0,.int .u64 0,.slice none 0 0,.int .i64 0,.int .i64 0,.int .i64 0,.bool false] 29))
 have HA3:=Lib.hid (show ∀ o cs,Below w3.heap.size w3 ((w3.alloc o).setRow w3.heap.size cs) from fun o cs=>⟨rfl,rfl,rfl,by simp,fun k hk=>(heap_setRow_other _ _ _ (by omega)).trans ((World.grownBy_alloc w3 o none).block k hk (by simp))⟩)
 have HS3:=Lib.hid (show ∀ o cs,((w3.alloc o).setRow w3.heap.size cs).heap.size=w3.heap.size+1 from fun o cs=>by simp)
 go_upto_region 2 with (first
   | (refine wpList_store_row rfl 29 (.tmp 6) (.tmp 16) rfl w3.heap.size #[.int .i64 (k.toNat:Int),.int .u64 0,.int .u64 0,.int .u64 0,.int .u64 0,.slice none 0 0,.int .i64 0,.int .i64 0,.int .i64 0,.bool false] rfl rfl 29 _ HZ3.out (by kernel_rfl) (by kernel_rfl) (by simp [Value.oneCell']) ?_)
   | fail)
 generalize hWA:World.setRow _ _ _=WA at *
 have HBA:=Lib.hid (show Below w3.heap.size w3 WA from hWA ▸ HA3.out _ _)
 have HTA:=Lib.hid (show WA.heap[w3.heap.size]? = some (.cells #[.int .i64 (k.toNat:Int),.int .u64 0,.int .u64 0,.int .u64 0,.int .u64 0,.slice none 0 0,.int .i64 0,.int .i64 0,.int .i64 0,.bool false] 29) from hWA ▸ heap_setRow HZ3.out)
 have HSA:=Lib.hid (show WA.heap.size=w3.heap.size+1 from hWA ▸ HS3.out _ _)
 clear hWA HZ3 HA3 HS3
 have hRw3:R < w3.heap.size:=HR3.out.lt
 obtain ⟨left,cl,fl,hl0,hl1,hrl,cl2⟩:=(HR3.out.other (HBA.out.block R hRw3)).less
 have HRL:=Lib.hid hrl;have HCL:=Lib.hid cl2
 clear hrl cl2
 have wl:wrap64 (left - 1)=left - 1:=by unfold wrap64;omega
 go_upto_region 3 with (fail)
 generalize hW4:World.setCell _ _ _=W4 at *
 have HBX:=Lib.hid (show ∀ k,k < WA.heap.size→k ≠ R→W4.heap[k]? = WA.heap[k]? from fun k hk hk2=>hW4 ▸ Below.heap_setCell _ _ _ _ (by exact hk2))
 have HZ4:=Lib.hid (show W4.heap.size=w3.heap.size+1 by rw [← hW4];simpa using HSA.out)
 have HT4:=Lib.hid ((HBX.out w3.heap.size (by have:=HSA.out;omega) (by omega)).trans HTA.out)
 have HO4:=Lib.hid (show W4.os=WA.os∧W4.tape=WA.tape∧W4.output=WA.output from hW4 ▸ ⟨rfl,rfl,rfl⟩)
 have HGW:=Lib.hid (show w.grownBy W4 (some R) from ⟨HO4.out.1.trans (HBA.out.os.trans HGW3.out.os),HO4.out.2.1.trans (HBA.out.tape.trans HGW3.out.tape),HO4.out.2.2.trans (HBA.out.output.trans HGW3.out.output),by have:=HZ4.out;have:=HGW3.out.size;omega,
   fun k hk hne=>(HBX.out k (by have:=HSA.out;have:=HGW3.out.size;omega) (fun e=>hne (by rw [e]))).trans ((HBA.out.block k (by have:=HGW3.out.size;omega)).trans (HGW3.out.block k hk hne))⟩)
 have HY4:=Lib.hid ((HBX.out w.heap.size (by have:=HSA.out;omega) (by omega)).trans ((HBA.out.block w.heap.size (by omega)).trans Y3.out))
 have HBW4:=Lib.hid (HB0.out.grown HGW.out HB0.out.size (fun k e=>by injection e;omega))
 clear hW4 HBX HO4 HBA HTA HSA Y3 HGW3 HR3
 generalize hTT:w3.heap.size=T at *
 obtain ⟨d0,d1,d2,d3,d4,d5,d6,d7,d8,d9⟩:=allTen HT4.out
 clear cl fl
 have HFIN:=Lib.hid (show ∀ cs,w.grownBy (W4.setRow w.heap.size cs) (some R) from fun cs=>⟨HGW.out.os,HGW.out.tape,HGW.out.output,by simpa using HGW.out.size,fun k hk hne=>(heap_setRow_other _ _ _ (by omega)).trans (HGW.out.block k hk hne)⟩)
 go_wp2_with (first
   | (refine wpList_load_row rfl 29 (.tmp 6) rfl T rfl 29 _ (0,0) _ HT4.out Tryd.underlying29 rfl (by kernel_rfl) ?_)
   | (refine wpList_store_row rfl 29 (.tmp 4) (.tmp 38) rfl w.heap.size #[.int .i64 (k.toNat:Int),.int .u64 0,.int .u64 0,.int .u64 0,.int .u64 0,.slice none 0 0,.int .i64 0,.int .i64 0,.int .i64 0,.bool false] rfl rfl 29 _ HY4.out (by kernel_rfl) (by kernel_rfl) (by simp [Value.oneCell']) ?_)
   | fail)
 refine bodyPost_ret (results_row_one rfl _ _ w.heap.size 29 #[.int .i64 (k.toNat:Int),.int .u64 0,.int .u64 0,.int .u64 0,.int .u64 0,.slice none 0 0,.int .i64 0,.int .i64 0,.int .i64 0,.bool false] (0,0) _ (.bool false) rfl rfl (heap_setRow HY4.out) Tryd.underlying29 rfl (by kernel_rfl)) rfl ⟨⟨.node (k.toNat:Int) 0#64 0#64 0#64 0#64 [] 0 0 0 false,none,0,0,rfl⟩, ?_⟩
 exact HFIN.out _
def HeadR (W0 W4:World) (R T:Nat) (bs:List UInt8) (k:Int) (l:List UInt8) (v7:Value) (w:World):Prop :=
 Gr W4 w R T∧∃ h n r,Im.rH k l=some (h,n,r)∧(∃ z:Int,v7=.int .i64 z∧z.toNat=n∧-1 ≤ z∧z < 2097152)∧h.subs=[]∧RdQ W0 w R bs r 0∧w.heap[T]? = some (.cells (h.cells (.slice none 0 0)) 29)
structure SubsR (W0 W4:World) (R T:Nat) (bs:List UInt8) (room:Nat) (h:Tr) (n:Nat) (r:List UInt8) (ps:List (Tr × Value)) (rr:List UInt8) (u:Value) (w:World):Prop where
 read:Im.rdS (Im.rN room) n r=match Im.rdS (Im.rN room) (n - ps.length) rr with
   | none=>none
   | some (ts,r')=>some (ps.map (·.1) ++ ts,r')
 rest:RdQ W0 w R bs rr 0
 len:ps.length+rr.length ≤ 999999
 cell:w.heap[T]? = some (.cells (h.cells u) 29)
 row:w.ownsRow (T+1) 29 10 u ps.length (rowOf ps)
 subs:∀ (i:Nat) (t:Tr) (s:Value),ps[i]? = some (t,s)→TreesAt w (fun b=>T+1 ≤ b∧u.ownBlock ≠ some b) s t.subs
 gr:Gr W4 w R T
theorem SubsR.next {W0 W4 W6 w9:World} {R T room n m Z:Nat} {bs r rr r1:List UInt8} {ps:List (Tr × Value)} {t:Tr} {s u v':Value} {kd:Int} {a b c d:BitVec 64} {sb:List Tr} {nu lo hi:Int} {br:Bool}
   (h4:W4.heap.size=T+1) (hRT:R < T) (hown:∀ g,u.ownBlock=some g→T+1 ≤ g∧g < Z) (_hZ6:Z ≤ W6.heap.size) (hZ:T+1 ≤ Z) (hm:n - ps.length=m+1)
   (hread:Im.rdS (Im.rN room) n r=match (match Im.rdS (Im.rN room) m r1 with | none=>none | some (ts,r')=>some (t :: ts,r')) with | none=>none | some (ts,r')=>some (ps.map (·.1) ++ ts,r'))
   (hr:RdQ W0 W6 R bs r1 0) (hlen:ps.length+rr.length ≤ 999999) (hr1:r1.length < rr.length)
   (hcell:W6.heap[T]? = some (.cells (Tr.cells (.node kd a b c d sb nu lo hi br) u) 29)) (_hrow:W6.ownsRow (T+1) 29 10 u ps.length (rowOf ps))
   (hsu:∀ (i:Nat) (t:Tr) (s:Value),ps[i]? = some (t,s)→TreesAt W6 (fun b=>T+1 ≤ b∧u.ownBlock ≠ some b) s t.subs) (hsn:TreesAt W6 (fun b=>Z ≤ b) s t.subs) (hg:Gr W4 W6 R T)
   (h9:w9.ownsRow (T+1) 29 10 v' (ps.length+1) (rowOf ps ++ (t.cells s).toList)) (hgr:(W6.alloc (.cells (t.cells s) 29)).grownBy w9 u.ownBlock)
   (hwh:v'.ownBlock=u.ownBlock ∨ v'.ownBlock=some (W6.alloc (.cells (t.cells s) 29)).heap.size) :
   SubsR W0 W4 R T bs room (.node kd a b c d sb nu lo hi br) n r (ps ++ [(t,s)]) r1 v' (w9.setCell ⟨T,5,none⟩ v'):=by
 have hba:Below W6.heap.size W6 (W6.alloc (.cells (t.cells s) 29)):=(Below.refl _ _).alloc (Nat.le_refl _) _
 have key:∀ k,k < W6.heap.size→u.ownBlock ≠ some k→w9.heap[k]? = W6.heap[k]?:=fun k hk hne=>(hgr.block k (Nat.lt_of_lt_of_le hk hba.size) (fun e=>hne e.symm)).trans (hba.block k hk)
 have keyC:∀ k,k ≠ T→(w9.setCell ⟨T,5,none⟩ v').heap[k]? = w9.heap[k]?:=fun k hk=>Below.heap_setCell _ _ _ _ (by exact hk)
 have hT6:=(Array.getElem?_eq_some_iff.1 hcell).1
 have huT:u.ownBlock ≠ some T:=fun e=>by have:=(hown T e).1;omega
 have hstep:∀ (ts:List Tr) (s:Value),TreesAt W6 (fun b=>T+1 ≤ b∧u.ownBlock ≠ some b) s ts→TreesAt (w9.setCell ⟨T,5,none⟩ v') (fun b=>T+1 ≤ b∧v'.ownBlock ≠ some b) s ts:=fun ts s h =>
   (subs_step (h.later hba) hgr hwh).keep fun b _ hB=>keyC b (by have:=hB.1;omega)
 refine ⟨?_,hr.other ((keyC R (by omega)).trans (key R (by omega) fun e=>by have:=(hown R e).1;omega)), ?_, ?_, ?_, ?_, ?_⟩
 · rw [hread,show n - (ps ++ [(t,s)]).length=m by rw [List.length_append];simp;omega]
   cases Im.rdS (Im.rN room) m r1 with
   | none=>rfl
   | some x=>simp
 · rw [List.length_append];simp;omega
 · exact set5 ((key T hT6 huT).trans hcell)
 · rw [rowOf_snoc,List.length_append];exact owns_setCell h9 (by omega)
 · intro i t' s' hi
   by_cases hip:i < ps.length
   · rw [List.getElem?_append_left hip] at hi
     exact hstep _ _ (hsu i t' s' hi)
   · rw [List.getElem?_append_right (by omega)] at hi
     rcases hz:i - ps.length with _ | q
     · rw [hz] at hi
       simp only [List.getElem?_cons_zero,Option.some.injEq,Prod.mk.injEq] at hi
       obtain ⟨rfl,rfl⟩:=hi
       exact hstep _ _ (hsn.mono fun b _ hb=>⟨by omega,fun e=>by have:=(hown b e).2;omega⟩)
     · rw [hz] at hi;simp at hi
 · exact ⟨hgr.os.trans (hba.os.trans hg.os),hgr.tape.trans (hba.tape.trans hg.tape),hgr.output.trans (hba.output.trans hg.output),by have:=hg.size;have:=hgr.size;have:=hba.size;simpa using (by omega:W4.heap.size ≤ w9.heap.size),
     fun k hk h1 h2=>(keyC k h2).trans ((key k (by have:=hg.size;omega) fun e=>by have:=(hown k e).1;omega).trans (hg.block k hk h1 h2))⟩
theorem cI_nat (o:Option Nat):(Im.cI o).toNat=o.getD 0:=by
 cases o <;> rfl
theorem RdQ.slack {W0 w:World} {R s:Nat} {bs rr:List UInt8} (h:RdQ W0 w R bs rr s):RdQ W0 w R bs rr 0:=by
 obtain ⟨q,left,h1,h2,h3,h4⟩:=h
 exact ⟨q,left,h1,h2,by omega,h4⟩
theorem noderef_any (W0:World) (R:Nat) (hR:W0.heap.size ≤ R) (bs:List UInt8) (hbl:bs.length ≤ 140737488351232):∀ (room:Nat) (l:List UInt8) (w:World) (lev:Int),lev=201 - (room:Int)→room ≤ 200→l.length ≤ 1000000→Below W0.heap.size W0 w→RdQ W0 w R bs l 0 →
   Calls Tryd.prog 35 #[.pointer (some ⟨R,0,none⟩),.int .i64 lev] w (NrEnd W0 R bs room l w):=by
 intro room
 induction room with
 | zero =>
   intro l w lev hlev hroom hll hb hr
   have hn:Im.rN 0 l=none:=by rw [Im.rN]
   cases l with
   | nil =>
     refine (noderef_nil W0 w R hR bs hbl lev hb hr).mono ?_
     rintro e w' ⟨hv,hg⟩
     exact ⟨hg,by rw [hn];exact hv⟩
   | cons k l =>
     refine (noderef_deep W0 w R hR bs hbl k l lev (by omega) hb hr).mono ?_
     rintro e w' ⟨hv,hg⟩
     exact ⟨hg,by rw [hn];exact hv⟩
 | succ room ih =>
   intro l w lev hlev hroom hll hb hr
   cases l with
   | nil =>
     have hn:Im.rN (room+1) []=none:=by rw [Im.rN]
     refine (noderef_nil W0 w R hR bs hbl lev hb hr).mono ?_
     rintro e w' ⟨hv,hg⟩
     exact ⟨hg,by rw [hn];exact hv⟩
   | cons k l =>
     have hRw:R < w.heap.size:=hr.lt
     have hl1:l.length ≤ 999999:=by simp at hll;omega
     have IH:=Lib.hid ih
     have HB0:=Lib.hid hb
     have HRI:=Lib.hid (fun o=>show RdQ W0 (w.alloc o) R bs (k :: l) 0 from hr.other (heap_alloc_lt (o:=o) (show w.heap[R]? = some _ from Array.getElem?_eq_getElem hRw) |>.trans (Array.getElem?_eq_getElem hRw).symm))
     have HWB:=Lib.hid (fun o=>(Below.refl w.heap.size w).alloc (Nat.le_refl _) o)
     have hk8:=k.toNat_lt
     have e1:decide ((k.toNat:Int) < 0)=false:=decide_eq_false (by omega)
     have e2:decide ((200:Int) < lev)=false:=decide_eq_false (by omega)
     have HRT:=Lib.hid (show Im.rN (room+1) (k :: l)=match Im.rH (k.toNat:Int) l with
       | none=>none
       | some (h,n,r)=>match Im.rdS (Im.rN room) n r with
         | none=>none
         | some (ts,r')=>some (Im.withSubs h ts,r') from by rw [Im.rN];first | done | rfl)
     have HLEV:=Lib.hid hlev
     clear ih hb hr hll hlev
     go_enter Tryd.func35,Tryd.ntmps35
     go_upto_region 1 with (fail)
     have Z1':=Lib.hid (heap_alloc_new w (.cells #[.int .i64 0,.int .u64 0,.int .u64 0,.int .u64 0,.int .u64 0,.slice none 0 0,.int .i64 0,.int .i64 0,.int .i64 0,.bool false] 29))
     generalize hW1:World.alloc w _=W1 at *
     have HB1:=Lib.hid (show Below w.heap.size w W1 from hW1 ▸ HWB.out _)
     have HR1:=Lib.hid (show RdQ W0 W1 R bs (k :: l) 0 from hW1 ▸ HRI.out _)
     have HZ1:=Lib.hid (show W1.heap.size=w.heap.size+1 by rw [← hW1];simp)
     clear hW1 HWB HRI
     have HNX:=Lib.hid (nextQ_any W0 W1 R hR (HB0.out.trans (HB1.out.mono HB0.out.size)) bs (k :: l) 0 hbl HR1.out)
     go_wp2_with fail
     refine HNX.out.mono ?_
     rintro e w3 ⟨hg3,rfl,hr3⟩
     have hz1:=HZ1.out
     have hs3:w.heap.size+1 ≤ w3.heap.size:=by have:=hg3.size;omega
     have Y3:=Lib.hid ((hg3.block w.heap.size (by omega) (by intro e;injection e;omega)).trans Z1'.out)
     have hgw:w.grownBy w3 (some R):=grownBy_trans (r':=some R) ⟨HB1.out.os,HB1.out.tape,HB1.out.output,HB1.out.size,fun k hk _=>HB1.out.block k hk⟩ hg3 (.inl rfl)
     have HGW3:=Lib.hid hgw
     have HR3:=Lib.hid hr3
     clear hg3 hgw hr3 HNX hz1 HZ1 HB1 Z1' HR1
     have HZ3:=Lib.hid (heap_alloc_new w3 (.cells #[.int .i64 0,.int .u64 0,.int .u64 0,.int .u64 0,.int .u64 0,.slice none 0 0,.int .i64 0,.int .i64 0,.int .i64 0,.bool false] 29))
     have HA3:=Lib.hid (show ∀ o cs,Below w3.heap.size w3 ((w3.alloc o).setRow w3.heap.size cs) from fun o cs=>⟨rfl,rfl,rfl,by simp,fun k hk=>(heap_setRow_other _ _ _ (by omega)).trans ((World.grownBy_alloc w3 o none).block k hk (by simp))⟩)
     have HS3:=Lib.hid (show ∀ o cs,((w3.alloc o).setRow w3.heap.size cs).heap.size=w3.heap.size+1 from fun o cs=>by simp)
     go_upto_region 2 with (first
       | (refine wpList_store_row rfl 29 (.tmp 6) (.tmp 16) rfl w3.heap.size #[.int .i64 (k.toNat:Int),.int .u64 0,.int .u64 0,.int .u64 0,.int .u64 0,.slice none 0 0,.int .i64 0,.int .i64 0,.int .i64 0,.bool false] rfl rfl 29 _ HZ3.out (by kernel_rfl) (by kernel_rfl) (by simp [Value.oneCell']) ?_)
       | fail)
     generalize hWA:World.setRow _ _ _=WA at *
     have HBA:=Lib.hid (show Below w3.heap.size w3 WA from hWA ▸ HA3.out _ _)
     have HTA:=Lib.hid (show WA.heap[w3.heap.size]? = some (.cells #[.int .i64 (k.toNat:Int),.int .u64 0,.int .u64 0,.int .u64 0,.int .u64 0,.slice none 0 0,.int .i64 0,.int .i64 0,.int .i64 0,.bool false] 29) from hWA ▸ heap_setRow HZ3.out)
     have HSA:=Lib.hid (show WA.heap.size=w3.heap.size+1 from hWA ▸ HS3.out _ _)
     clear hWA HZ3 HA3 HS3
     have hRw3:R < w3.heap.size:=HR3.out.lt
     obtain ⟨left,cl,fl,hl0,hl2,hrl,cl2⟩:=(HR3.out.other (HBA.out.block R hRw3)).less
     have HRL:=Lib.hid hrl;have HCL:=Lib.hid cl2
     clear hrl cl2
     have wl:wrap64 (left - 1)=left - 1:=by unfold wrap64;omega
     go_upto_region 3 with (fail)
     generalize hW4:World.setCell _ _ _=W4 at *
     have HBX:=Lib.hid (show ∀ k,k < WA.heap.size→k ≠ R→W4.heap[k]? = WA.heap[k]? from fun k hk hk2=>hW4 ▸ Below.heap_setCell _ _ _ _ (by exact hk2))
     have HZ4:=Lib.hid (show W4.heap.size=w3.heap.size+1 by rw [← hW4];simpa using HSA.out)
     have HT4:=Lib.hid ((HBX.out w3.heap.size (by have:=HSA.out;omega) (by omega)).trans HTA.out)
     have HO4:=Lib.hid (show W4.os=WA.os∧W4.tape=WA.tape∧W4.output=WA.output from hW4 ▸ ⟨rfl,rfl,rfl⟩)
     have HR4:=Lib.hid (show RdQ W0 W4 R bs l 0 from hW4 ▸ HRL.out)
     have hc2:W4.cell? ⟨R,2,none⟩=some (.int .i64 (left - 1)):=hW4 ▸ HCL.out
     have HGW:=Lib.hid (show w.grownBy W4 (some R) from ⟨HO4.out.1.trans (HBA.out.os.trans HGW3.out.os),HO4.out.2.1.trans (HBA.out.tape.trans HGW3.out.tape),HO4.out.2.2.trans (HBA.out.output.trans HGW3.out.output),by have:=HZ4.out;have:=HGW3.out.size;omega,
       fun k hk hne=>(HBX.out k (by have:=HSA.out;have:=HGW3.out.size;omega) (fun e=>hne (by rw [e]))).trans ((HBA.out.block k (by have:=HGW3.out.size;omega)).trans (HGW3.out.block k hk hne))⟩)
     have HY4:=Lib.hid ((HBX.out w.heap.size (by have:=HSA.out;omega) (by omega)).trans ((HBA.out.block w.heap.size (by omega)).trans Y3.out))
     have HBW4:=Lib.hid (HB0.out.grown HGW.out HB0.out.size (fun k e=>by injection e;omega))
     clear hW4 HBX HO4 HBA HTA HSA Y3 HGW3 HR3
     clear HRL HCL
     have e3:decide (left - 1 < 0)=false:=decide_eq_false (by omega)
     have hRT:R ≠ w3.heap.size:=by omega
     have hW0T:W0.heap.size ≤ w3.heap.size:=by omega
     have hwT:w.heap.size < w3.heap.size:=by omega
     generalize hTT:w3.heap.size=T at *
     obtain ⟨d0,d1,d2,d3,d4,d5,d6,d7,d8,d9⟩:=allTen HT4.out
     clear cl fl hs3 hTT
     generalize k.toNat=kk at *
     have HG4:=Lib.hid (show Gr W4 W4 R T from ⟨rfl,rfl,rfl,Nat.le_refl _,fun _ _ _ _=>rfl⟩)
     have HFIN:=Lib.hid (show ∀ w' cs,Gr W4 w' R T→w.grownBy (w'.setRow w.heap.size cs) (some R) from fun w' cs hg=>⟨hg.os.trans HGW.out.os,hg.tape.trans HGW.out.tape,hg.output.trans HGW.out.output,
       by simp;exact Nat.le_trans HGW.out.size hg.size,fun k hk hne=>(heap_setRow_other _ _ _ (by omega)).trans ((hg.block k (by have:=HZ4.out;omega) (fun e=>hne (by rw [e])) (by omega)).trans (HGW.out.block k hk hne))⟩)
     have HYF:=Lib.hid (show ∀ w',Gr W4 w' R T→w'.heap[w.heap.size]? = some (.cells #[.int .i64 0,.int .u64 0,.int .u64 0,.int .u64 0,.int .u64 0,.slice none 0 0,.int .i64 0,.int .i64 0,.int .i64 0,.bool false] 29) from fun w' hg=>(hg.block w.heap.size (by have:=HZ4.out;omega) (by omega) (by omega)).trans HY4.out)
     go_upto_block 0 with (fail)
     go_cut [7] (fun v7 wx=>Hid (HeadR W0 W4 R T bs (kk:Int) l v7 wx))
     case first =>
       by_cases k2:kk=2
       · have n2:((kk:Int) == 2)=true:=by rw [k2];rfl
         have K2:=Lib.hid k2
         clear k2
         go_wp2
         go_loopw [8] (fun iv wr=>∃ j:Nat,iv=.int .i64 (j:Int)∧j ≤ 32∧j ≤ l.length∧Hid (RdQ W0 wr R bs (l.drop j) 0)∧Hid (Gr W4 wr R T)∧Hid (wr.heap[T]? = some (.cells #[.int .i64 ((kk:Int)),.int .u64 (Oc.U (Im.partW l j 0)),.int .u64 (Oc.U (Im.partW l j 1)),.int .u64 (Oc.U (Im.partW l j 2)),.int .u64 (Oc.U (Im.partW l j 3)),.slice none 0 0,.int .i64 0,.int .i64 0,.int .i64 0,.bool false] 29))) (fun iv _=>32 - (intOf iv).toNat)
         case atStart=>exact ⟨0,rfl,by omega,by omega,Lib.hid HR4.out,HG4,Lib.hid (by simp only [Im.partW_zero];exact HT4.out)⟩
         case round =>
           obtain ⟨j,rfl,hj,hjl0,HQ,HG,HT⟩:=hrel
           have wj:IntKind.i64.wrap ((j:Int)+1)=(j:Int)+1:=IntWalk.i64_in _ (by omega)
           by_cases hlt:j < 32
           · have HNX:=Lib.hid (nextQ_any W0 wr R hR (HG.out.below HBW4.out hR hW0T) bs (l.drop j) 0 hbl HQ.out)
             by_cases hjl:j < l.length
             · rw [List.drop_eq_getElem_cons hjl] at HNX
               go_wp2_with fail
               refine HNX.out.mono ?_
               rintro e w6 ⟨hg6,rfl,hr6⟩
               have hT6:=(hg6.block T (Array.getElem?_eq_some_iff.1 HT.out).1 (by intro e;injection e;omega)).trans HT.out
               have HT6:=Lib.hid hT6;have HG6:=Lib.hid (HG.out.trans (Gr.of T hg6));have HR6:=Lib.hid hr6.slack
               clear hg6 hr6 HNX HT HG HQ
               have q8:=Im.part_other l j
               have q9:=fun i=>Im.part_add l j i hjl
               have hb8:=(l[j]).toNat_lt
               obtain ⟨m,hm,hmm⟩:∃ m:Nat,m < 8∧j % 8=m:=⟨j % 8,by omega,rfl⟩
               rw [hmm] at q9
               have rm:(j:Int) % 8=(m:Int):=by omega
               have rm':(j:Int).tmod 8=(m:Int):=by rw [Int.tmod_eq_emod_of_nonneg (by omega)];exact rm
               have hcc:decide ((l[j].toNat:Int) < 0)=false:=decide_eq_false (by omega)
               obtain ⟨c0,c1,c2,c3,c4,c5,c6,c7,c8,c9⟩:=allTen hT6
               obtain ⟨f1,f2,f3,f4⟩:=frFour hT6
               generalize l[j].toNat=b at *
               clear hT6
               have hq:j / 8=0 ∨ j / 8=1 ∨ j / 8=2 ∨ j / 8=3:=by omega
               rcases hq with hq | hq | hq | hq
               · have rq:(j:Int) / 8=0:=by omega
                 have rq':(j:Int).tdiv 8=0:=by rw [Int.tdiv_eq_ediv_of_nonneg (by omega)];exact rq
                 have HO1:=Lib.hid (q8 1 hjl (by omega));have HO2:=Lib.hid (q8 2 hjl (by omega));have HO3:=Lib.hid (q8 3 hjl (by omega))
                 have HSH:=Lib.hid (Im.shl_add hm hb8 (q9 0 hq))
                 have HNW:=Lib.hid (show ∀ v,RdQ W0 (w6.drew.setCell ⟨T,1,none⟩ v) R bs (l.drop (j+1)) 0∧Gr W4 (w6.drew.setCell ⟨T,1,none⟩ v) R T∧(w6.drew.setCell ⟨T,1,none⟩ v).heap[T]? = some (.cells #[.int .i64 ((kk:Int)),v,.int .u64 (Oc.U (Im.partW l j 1)),.int .u64 (Oc.U (Im.partW l j 2)),.int .u64 (Oc.U (Im.partW l j 3)),.slice none 0 0,.int .i64 0,.int .i64 0,.int .i64 0,.bool false] 29) from fun v =>
                   ⟨HR6.out.other (Below.heap_setCell _ _ _ _ (by exact hRT)),(show Gr W4 w6.drew R T from ⟨HG6.out.os,HG6.out.tape,HG6.out.output,HG6.out.size,HG6.out.block⟩).setCell,by
                     have h:w6.drew.heap[T]? = _:=HT6.out
                     simp [World.setCell,Array.getElem?_modify,h]⟩)
                 clear q8 q9 hq
                 go_wp2_with fail
                 go_region
                 rw [HSH.out]
                 go_wp2
                 obtain ⟨n1,n2,n3⟩:=HNW.out (.int .u64 (Oc.U (Im.partW l (j+1) 0)))
                 exact ⟨⟨j+1,by go_num,by omega,by omega,Lib.hid n1,Lib.hid n2,Lib.hid (by rw [HO1.out,HO2.out,HO3.out];exact n3)⟩,by simp [intOf];omega⟩
               · have rq:(j:Int) / 8=1:=by omega
                 have rq':(j:Int).tdiv 8=1:=by rw [Int.tdiv_eq_ediv_of_nonneg (by omega)];exact rq
                 have HO0:=Lib.hid (q8 0 hjl (by omega));have HO2:=Lib.hid (q8 2 hjl (by omega));have HO3:=Lib.hid (q8 3 hjl (by omega))
                 have HSH:=Lib.hid (Im.shl_add hm hb8 (q9 1 hq))
                 have HNW:=Lib.hid (show ∀ v,RdQ W0 (w6.drew.setCell ⟨T,2,none⟩ v) R bs (l.drop (j+1)) 0∧Gr W4 (w6.drew.setCell ⟨T,2,none⟩ v) R T∧(w6.drew.setCell ⟨T,2,none⟩ v).heap[T]? = some (.cells #[.int .i64 ((kk:Int)),.int .u64 (Oc.U (Im.partW l j 0)),v,.int .u64 (Oc.U (Im.partW l j 2)),.int .u64 (Oc.U (Im.partW l j 3)),.slice none 0 0,.int .i64 0,.int .i64 0,.int .i64 0,.bool false] 29) from fun v =>
                   ⟨HR6.out.other (Below.heap_setCell _ _ _ _ (by exact hRT)),(show Gr W4 w6.drew R T from ⟨HG6.out.os,HG6.out.tape,HG6.out.output,HG6.out.size,HG6.out.block⟩).setCell,by
                     have h:w6.drew.heap[T]? = _:=HT6.out
                     simp [World.setCell,Array.getElem?_modify,h]⟩)
                 clear q8 q9 hq
                 go_wp2_with fail
                 go_region
                 rw [HSH.out]
                 go_wp2
                 obtain ⟨n1,n2,n3⟩:=HNW.out (.int .u64 (Oc.U (Im.partW l (j+1) 1)))
                 exact ⟨⟨j+1,by go_num,by omega,by omega,Lib.hid n1,Lib.hid n2,Lib.hid (by rw [HO0.out,HO2.out,HO3.out];exact n3)⟩,by simp [intOf];omega⟩
               · have rq:(j:Int) / 8=2:=by omega
                 have rq':(j:Int).tdiv 8=2:=by rw [Int.tdiv_eq_ediv_of_nonneg (by omega)];exact rq
                 have HO0:=Lib.hid (q8 0 hjl (by omega));have HO1:=Lib.hid (q8 1 hjl (by omega));have HO3:=Lib.hid (q8 3 hjl (by omega))
                 have HSH:=Lib.hid (Im.shl_add hm hb8 (q9 2 hq))
                 have HNW:=Lib.hid (show ∀ v,RdQ W0 (w6.drew.setCell ⟨T,3,none⟩ v) R bs (l.drop (j+1)) 0∧Gr W4 (w6.drew.setCell ⟨T,3,none⟩ v) R T∧(w6.drew.setCell ⟨T,3,none⟩ v).heap[T]? = some (.cells #[.int .i64 ((kk:Int)),.int .u64 (Oc.U (Im.partW l j 0)),.int .u64 (Oc.U (Im.partW l j 1)),v,.int .u64 (Oc.U (Im.partW l j 3)),.slice none 0 0,.int .i64 0,.int .i64 0,.int .i64 0,.bool false] 29) from fun v =>
                   ⟨HR6.out.other (Below.heap_setCell _ _ _ _ (by exact hRT)),(show Gr W4 w6.drew R T from ⟨HG6.out.os,HG6.out.tape,HG6.out.output,HG6.out.size,HG6.out.block⟩).setCell,by
                     have h:w6.drew.heap[T]? = _:=HT6.out
                     simp [World.setCell,Array.getElem?_modify,h]⟩)
                 clear q8 q9 hq
                 go_wp2_with fail
                 go_region
                 rw [HSH.out]
                 go_wp2
                 obtain ⟨n1,n2,n3⟩:=HNW.out (.int .u64 (Oc.U (Im.partW l (j+1) 2)))
                 exact ⟨⟨j+1,by go_num,by omega,by omega,Lib.hid n1,Lib.hid n2,Lib.hid (by rw [HO0.out,HO1.out,HO3.out];exact n3)⟩,by simp [intOf];omega⟩
               · have rq:(j:Int) / 8=3:=by omega
                 have rq':(j:Int).tdiv 8=3:=by rw [Int.tdiv_eq_ediv_of_nonneg (by omega)];exact rq
                 have HO0:=Lib.hid (q8 0 hjl (by omega));have HO1:=Lib.hid (q8 1 hjl (by omega));have HO2:=Lib.hid (q8 2 hjl (by omega))
                 have HSH:=Lib.hid (Im.shl_add hm hb8 (q9 3 hq))
                 have HNW:=Lib.hid (show ∀ v,RdQ W0 (w6.drew.setCell ⟨T,4,none⟩ v) R bs (l.drop (j+1)) 0∧Gr W4 (w6.drew.setCell ⟨T,4,none⟩ v) R T∧(w6.drew.setCell ⟨T,4,none⟩ v).heap[T]? = some (.cells #[.int .i64 ((kk:Int)),.int .u64 (Oc.U (Im.partW l j 0)),.int .u64 (Oc.U (Im.partW l j 1)),.int .u64 (Oc.U (Im.partW l j 2)),v,.slice none 0 0,.int .i64 0,.int .i64 0,.int .i64 0,.bool false] 29) from fun v =>
                   ⟨HR6.out.other (Below.heap_setCell _ _ _ _ (by exact hRT)),(show Gr W4 w6.drew R T from ⟨HG6.out.os,HG6.out.tape,HG6.out.output,HG6.out.size,HG6.out.block⟩).setCell,by
                     have h:w6.drew.heap[T]? = _:=HT6.out
                     simp [World.setCell,Array.getElem?_modify,h]⟩)
                 clear q8 q9 hq
                 go_wp2_with fail
                 go_region
                 rw [HSH.out]
                 go_wp2
                 obtain ⟨n1,n2,n3⟩:=HNW.out (.int .u64 (Oc.U (Im.partW l (j+1) 3)))
                 exact ⟨⟨j+1,by go_num,by omega,by omega,Lib.hid n1,Lib.hid n2,Lib.hid (by rw [HO0.out,HO1.out,HO2.out];exact n3)⟩,by simp [intOf];omega⟩
             · rw [List.drop_eq_nil_of_le (by omega)] at HNX
               have HH:=Lib.hid (show Im.rH (kk:Int) l=none by unfold Im.rH;rw [if_pos (show (kk:Int)=2 by rw [K2.out];rfl),if_neg (by omega)])
               go_wp2_with fail
               refine HNX.out.mono ?_
               rintro e w6 ⟨hg6,rfl,hr6⟩
               have hT6:=(hg6.block T (Array.getElem?_eq_some_iff.1 HT.out).1 (by intro e;injection e;omega)).trans HT.out
               have HT6:=Lib.hid hT6;have HG6:=Lib.hid (HG.out.trans (Gr.of T hg6))
               have HY6:=Lib.hid (HYF.out _ HG6.out)
               clear hg6 hr6 HNX HT HG HQ hT6
               go_wp2_with (first
                 | (refine wpList_load_row rfl 29 (.tmp 6) rfl T rfl 29 _ (0,0) _ HT6.out Tryd.underlying29 rfl (by kernel_rfl) ?_)
                 | (refine wpList_store_row rfl 29 (.tmp 4) (.tmp 51) rfl w.heap.size #[.int .i64 ((kk:Int)),.int .u64 (Oc.U (Im.partW l j 0)),.int .u64 (Oc.U (Im.partW l j 1)),.int .u64 (Oc.U (Im.partW l j 2)),.int .u64 (Oc.U (Im.partW l j 3)),.slice none 0 0,.int .i64 0,.int .i64 0,.int .i64 0,.bool false] rfl rfl 29 _ HY6.out (by kernel_rfl) (by kernel_rfl) (by simp [Value.oneCell']) ?_)
                 | fail)
               refine bodyPost_ret (results_row_one rfl _ _ w.heap.size 29 #[.int .i64 ((kk:Int)),.int .u64 (Oc.U (Im.partW l j 0)),.int .u64 (Oc.U (Im.partW l j 1)),.int .u64 (Oc.U (Im.partW l j 2)),.int .u64 (Oc.U (Im.partW l j 3)),.slice none 0 0,.int .i64 0,.int .i64 0,.int .i64 0,.bool false] (0,0) _ (.bool false) rfl rfl (heap_setRow HY6.out) Tryd.underlying29 rfl (by kernel_rfl)) rfl ⟨HFIN.out _ _ HG6.out, ?_⟩
               rw [HRT.out,HH.out];exact ⟨.node (kk:Int) (Im.partW l j 0) (Im.partW l j 1) (Im.partW l j 2) (Im.partW l j 3) [] 0 0 0 false,none,0,0,rfl⟩
           · obtain rfl:j=32:=by omega
             have HH:=Lib.hid (show Im.rH (kk:Int) l=some (.node 2 (Im.wordOf l 0) (Im.wordOf l 1) (Im.wordOf l 2) (Im.wordOf l 3) [] 0 0 0 false,0,l.drop 32) by unfold Im.rH;rw [if_pos (show (kk:Int)=2 by rw [K2.out];rfl),if_pos hjl0])
             have hT:=HT.out
             rw [Im.partW_end l 0 (by omega),Im.partW_end l 1 (by omega),Im.partW_end l 2 (by omega),Im.partW_end l 3 (by omega),show (kk:Int)=2 by rw [K2.out];rfl] at hT
             have HTE:=Lib.hid hT
             clear hT HT
             go_wp2
             go_meet
             exact Lib.hid ⟨HG.out,_,_,_,HH.out,⟨0,rfl,rfl,by omega,by omega⟩,rfl,HQ.out,HTE.out⟩
       by_cases k5:kk=5
       · have n2:((kk:Int) == 2)=false:=by rw [beq_eq_false_iff_ne];omega
         have n5:((kk:Int) == 5)=true:=by rw [k5];rfl
         have n6:((kk:Int) == 6)=false:=by rw [beq_eq_false_iff_ne];omega
         have n7:((kk:Int) == 7)=false:=by rw [beq_eq_false_iff_ne];omega
         have n8:((kk:Int) == 8)=false:=by rw [beq_eq_false_iff_ne];omega
         have HH:=Lib.hid (show Im.rH (kk:Int) l=some (.node (kk:Int) 0#64 0#64 0#64 0#64 [] 0 0 0 false,(Im.rC l).1.getD 0,(Im.rC l).2) by unfold Im.rH;rw [if_neg (by omega),if_pos (by omega)])
         have HC:=Lib.hid (countQ_any W0 W4 R hR HBW4.out bs l 0 hbl HR4.out)
         have hz:=cI_le l
         have hzn:=cI_nat (Im.rC l).1
         clear k5
         go_wp2_with fail
         refine HC.out.mono ?_
         rintro e w6 ⟨hg6,rfl,hr6⟩
         have HT6:=Lib.hid ((hg6.block T (by have:=HZ4.out;omega) (by intro e;injection e;omega)).trans HT4.out);have HG6:=Lib.hid (HG4.out.trans (Gr.of T hg6));have HR6:=Lib.hid hr6
         clear hg6 hr6 HC
         generalize Im.cI (Im.rC l).1=z at *
         go_wp2
         go_meet
         exact Lib.hid ⟨HG6.out,_,_,_,HH.out,⟨z,rfl,hzn,hz.1,hz.2⟩,rfl,HR6.out,HT6.out⟩
       by_cases k6:kk=6
       · have n2:((kk:Int) == 2)=false:=by rw [beq_eq_false_iff_ne];omega
         have n5:((kk:Int) == 5)=false:=by rw [beq_eq_false_iff_ne];omega
         have n6:((kk:Int) == 6)=true:=by rw [k6];rfl
         have n7:((kk:Int) == 7)=false:=by rw [beq_eq_false_iff_ne];omega
         have n8:((kk:Int) == 8)=false:=by rw [beq_eq_false_iff_ne];omega
         have HH:=Lib.hid (show Im.rH (kk:Int) l=some (.node (kk:Int) 0#64 0#64 0#64 0#64 [] 0 0 0 false,(Im.rC l).1.getD 0,(Im.rC l).2) by unfold Im.rH;rw [if_neg (by omega),if_pos (by omega)])
         have HC:=Lib.hid (countQ_any W0 W4 R hR HBW4.out bs l 0 hbl HR4.out)
         have hz:=cI_le l
         have hzn:=cI_nat (Im.rC l).1
         clear k6
         go_wp2_with fail
         refine HC.out.mono ?_
         rintro e w6 ⟨hg6,rfl,hr6⟩
         have HT6:=Lib.hid ((hg6.block T (by have:=HZ4.out;omega) (by intro e;injection e;omega)).trans HT4.out);have HG6:=Lib.hid (HG4.out.trans (Gr.of T hg6));have HR6:=Lib.hid hr6
         clear hg6 hr6 HC
         generalize Im.cI (Im.rC l).1=z at *
         go_wp2
         go_meet
         exact Lib.hid ⟨HG6.out,_,_,_,HH.out,⟨z,rfl,hzn,hz.1,hz.2⟩,rfl,HR6.out,HT6.out⟩
       by_cases k7:kk=7
       · have n2:((kk:Int) == 2)=false:=by rw [beq_eq_false_iff_ne];omega
         have n5:((kk:Int) == 5)=false:=by rw [beq_eq_false_iff_ne];omega
         have n6:((kk:Int) == 6)=false:=by rw [beq_eq_false_iff_ne];omega
         have n7:((kk:Int) == 7)=true:=by rw [k7];rfl
         have n8:((kk:Int) == 8)=false:=by rw [beq_eq_false_iff_ne];omega
         have HH:=Lib.hid (show Im.rH (kk:Int) l=some (.node 7 0#64 0#64 0#64 0#64 [] (Im.cI (Im.rC l).1) 0 0 false,1,(Im.rC l).2) by unfold Im.rH;rw [if_neg (by omega),if_neg (by omega),if_pos (by omega)])
         have K7:=Lib.hid k7
         have HC:=Lib.hid (countQ_any W0 W4 R hR HBW4.out bs l 0 hbl HR4.out)
         clear k7
         go_wp2_with fail
         refine HC.out.mono ?_
         rintro e w6 ⟨hg6,rfl,hr6⟩
         have hT6:=(hg6.block T (by have:=HZ4.out;omega) (by intro e;injection e;omega)).trans HT4.out
         have hG6:=HG4.out.trans (Gr.of T hg6)
         have c6:w6.cell? ⟨T,6,none⟩=some (.int .i64 0):=by simp [World.cell?,hT6]
         have f6:w6.frozen? ⟨T,6,none⟩=false:=by simp [World.frozen?,hT6]
         have HWA:=Lib.hid (show ∀ v,RdQ W0 (w6.setCell ⟨T,6,none⟩ v) R bs (Im.rC l).2 0∧Gr W4 (w6.setCell ⟨T,6,none⟩ v) R T∧(w6.setCell ⟨T,6,none⟩ v).heap[T]? = some (.cells #[.int .i64 ((kk:Int)),.int .u64 0,.int .u64 0,.int .u64 0,.int .u64 0,.slice none 0 0,v,.int .i64 0,.int .i64 0,.bool false] 29) from fun v =>
           ⟨RdQ.other hr6 (Below.heap_setCell _ _ _ _ (by exact hRT)),Gr.setCell hG6,by simp [World.setCell,Array.getElem?_modify,hT6]⟩)
         clear hg6 hr6 HC hT6 hG6
         generalize Im.cI (Im.rC l).1=z at *
         go_wp2
         go_meet
         obtain ⟨ra,ga,ta⟩:=HWA.out (.int .i64 z)
         rw [show (kk:Int)=7 by rw [K7.out];rfl] at ta
         exact Lib.hid ⟨ga,_,_,_,HH.out,⟨1,rfl,rfl,by omega,by omega⟩,rfl,ra,ta⟩
       by_cases k8:kk=8
       · have n2:((kk:Int) == 2)=false:=by rw [beq_eq_false_iff_ne];omega
         have n5:((kk:Int) == 5)=false:=by rw [beq_eq_false_iff_ne];omega
         have n6:((kk:Int) == 6)=false:=by rw [beq_eq_false_iff_ne];omega
         have n7:((kk:Int) == 7)=false:=by rw [beq_eq_false_iff_ne];omega
         have n8:((kk:Int) == 8)=true:=by rw [k8];rfl
         have K8:=Lib.hid k8
         have HC:=Lib.hid (countQ_any W0 W4 R hR HBW4.out bs l 0 hbl HR4.out)
         clear k8
         go_wp2_with fail
         refine HC.out.mono ?_
         rintro e w6 ⟨hg6,rfl,hr6⟩
         have hT6:=(hg6.block T (by have:=HZ4.out;omega) (by intro e;injection e;omega)).trans HT4.out
         have hG6:=HG4.out.trans (Gr.of T hg6)
         have c7:w6.cell? ⟨T,7,none⟩=some (.int .i64 0):=by simp [World.cell?,hT6]
         have f7:w6.frozen? ⟨T,7,none⟩=false:=by simp [World.frozen?,hT6]
         have HWA:=Lib.hid (show ∀ v,RdQ W0 (w6.setCell ⟨T,7,none⟩ v) R bs (Im.rC l).2 0∧Gr W4 (w6.setCell ⟨T,7,none⟩ v) R T∧(w6.setCell ⟨T,7,none⟩ v).heap[T]? = some (.cells #[.int .i64 ((kk:Int)),.int .u64 0,.int .u64 0,.int .u64 0,.int .u64 0,.slice none 0 0,.int .i64 0,v,.int .i64 0,.bool false] 29) from fun v =>
           ⟨RdQ.other hr6 (Below.heap_setCell _ _ _ _ (by exact hRT)),Gr.setCell hG6,by simp [World.setCell,Array.getElem?_modify,hT6]⟩)
         clear hg6 hr6 HC hT6 hG6
         have hz1:=cI_le l
         generalize hZ1:Im.cI (Im.rC l).1=z1 at *
         go_upto_region 23 with (fail)
         obtain ⟨ra,ga,ta⟩:=HWA.out (.int .i64 z1)
         generalize World.setCell _ _ _=WA at *
         have RA:=Lib.hid ra;have GA:=Lib.hid ga;have TA:=Lib.hid ta
         clear ra ga ta HWA c7 f7
         have HC2:=Lib.hid (countQ_any W0 WA R hR (GA.out.below HBW4.out hR hW0T) bs (Im.rC l).2 0 hbl RA.out)
         go_wp2_with fail
         refine HC2.out.mono ?_
         rintro e w7 ⟨hg7,rfl,hr7⟩
         have hT7:=(hg7.block T (Array.getElem?_eq_some_iff.1 TA.out).1 (by intro e;injection e;omega)).trans TA.out
         have hG7:=GA.out.trans (Gr.of T hg7)
         have c8:w7.cell? ⟨T,8,none⟩=some (.int .i64 0):=by simp [World.cell?,hT7]
         have f8:w7.frozen? ⟨T,8,none⟩=false:=by simp [World.frozen?,hT7]
         have HWB:=Lib.hid (show ∀ v,RdQ W0 (w7.setCell ⟨T,8,none⟩ v) R bs (Im.rC (Im.rC l).2).2 0∧Gr W4 (w7.setCell ⟨T,8,none⟩ v) R T∧(w7.setCell ⟨T,8,none⟩ v).heap[T]? = some (.cells #[.int .i64 ((kk:Int)),.int .u64 0,.int .u64 0,.int .u64 0,.int .u64 0,.slice none 0 0,.int .i64 0,.int .i64 z1,v,.bool false] 29) from fun v =>
           ⟨RdQ.other hr7 (Below.heap_setCell _ _ _ _ (by exact hRT)),Gr.setCell hG7,by simp [World.setCell,Array.getElem?_modify,hT7]⟩)
         clear hg7 hr7 HC2 hT7 hG7 RA GA TA
         have hz2:=cI_le (Im.rC l).2
         generalize hZ2:Im.cI (Im.rC (Im.rC l).2).1=z2 at *
         have wz:wrap64 (z2 - 1)=z2 - 1:=by unfold wrap64;omega
         go_upto_region 24 with (fail)
         obtain ⟨ra,ga,ta⟩:=HWB.out (.int .i64 (z2 - 1))
         generalize World.setCell _ _ _=WB at *
         have RB:=Lib.hid ra;have GB:=Lib.hid ga;have TB:=Lib.hid ta
         clear ra ga ta HWB c8 f8 wz
         have HNX:=Lib.hid (nextQ_any W0 WB R hR (GB.out.below HBW4.out hR hW0T) bs (Im.rC (Im.rC l).2).2 0 hbl RB.out)
         clear RB
         have hm1:decide ((-1:Int) < 0)=true:=by decide
         cases h1:(Im.rC l).1 with
         | none =>
           rw [h1] at hZ1
           have d1:decide (z1 < 0)=true:=by rw [← hZ1];decide
           clear hZ1 hZ2 hz1 hz2
           cases h3:(Im.rC (Im.rC l).2).2 with
           | nil =>
             rw [h3] at HNX
             have HH:=Lib.hid (show Im.rH (kk:Int) l=none by unfold Im.rH;rw [if_neg (by rw [K8.out];decide),if_neg (by rw [K8.out];decide),if_neg (by rw [K8.out];decide),if_pos (by rw [K8.out];rfl),h1])
             go_wp2_with fail
             refine HNX.out.mono ?_
             rintro e w8 ⟨hg8,rfl,hr8⟩
             have hT8:=(hg8.block T (Array.getElem?_eq_some_iff.1 TB.out).1 (by intro e;injection e;omega)).trans TB.out
             have HT8:=Lib.hid hT8;have HG8:=Lib.hid (GB.out.trans (Gr.of T hg8))
             have HY8:=Lib.hid (HYF.out _ HG8.out)
             obtain ⟨-,-,-,-,-,-,-,c7,c8,-⟩:=allTen hT8
             clear hg8 hr8 HNX hT8 TB GB
             go_wp2_with (first
               | (refine wpList_load_row rfl 29 (.tmp 6) rfl T rfl 29 _ (0,0) _ HT8.out Tryd.underlying29 rfl (by kernel_rfl) ?_)
               | (refine wpList_store_row rfl 29 (.tmp 4) (.tmp 105) rfl w.heap.size #[.int .i64 ((kk:Int)),.int .u64 0,.int .u64 0,.int .u64 0,.int .u64 0,.slice none 0 0,.int .i64 0,.int .i64 z1,.int .i64 (z2 - 1),.bool false] rfl rfl 29 _ HY8.out (by kernel_rfl) (by kernel_rfl) (by simp [Value.oneCell']) ?_)
               | fail)
             refine bodyPost_ret (results_row_one rfl _ _ w.heap.size 29 #[.int .i64 ((kk:Int)),.int .u64 0,.int .u64 0,.int .u64 0,.int .u64 0,.slice none 0 0,.int .i64 0,.int .i64 z1,.int .i64 (z2 - 1),.bool false] (0,0) _ (.bool false) rfl rfl (heap_setRow HY8.out) Tryd.underlying29 rfl (by kernel_rfl)) rfl ⟨HFIN.out _ _ HG8.out, ?_⟩
             rw [HRT.out,HH.out];exact ⟨.node (kk:Int) 0#64 0#64 0#64 0#64 [] 0 z1 (z2 - 1) false,none,0,0,rfl⟩
           | cons b r =>
             rw [h3] at HNX
             have HH:=Lib.hid (show Im.rH (kk:Int) l=none by unfold Im.rH;rw [if_neg (by rw [K8.out];decide),if_neg (by rw [K8.out];decide),if_neg (by rw [K8.out];decide),if_pos (by rw [K8.out];rfl),h1])
             go_wp2_with fail
             refine HNX.out.mono ?_
             rintro e w8 ⟨hg8,rfl,hr8⟩
             have hT8:=(hg8.block T (Array.getElem?_eq_some_iff.1 TB.out).1 (by intro e;injection e;omega)).trans TB.out
             have HT8:=Lib.hid hT8;have HG8:=Lib.hid (GB.out.trans (Gr.of T hg8))
             have HY8:=Lib.hid (HYF.out _ HG8.out)
             obtain ⟨-,-,-,-,-,-,-,c7,c8,-⟩:=allTen hT8
             clear hg8 hr8 HNX hT8 TB GB
             go_wp2_with (first
               | (refine wpList_load_row rfl 29 (.tmp 6) rfl T rfl 29 _ (0,0) _ HT8.out Tryd.underlying29 rfl (by kernel_rfl) ?_)
               | (refine wpList_store_row rfl 29 (.tmp 4) (.tmp 105) rfl w.heap.size #[.int .i64 ((kk:Int)),.int .u64 0,.int .u64 0,.int .u64 0,.int .u64 0,.slice none 0 0,.int .i64 0,.int .i64 z1,.int .i64 (z2 - 1),.bool false] rfl rfl 29 _ HY8.out (by kernel_rfl) (by kernel_rfl) (by simp [Value.oneCell']) ?_)
               | fail)
             refine bodyPost_ret (results_row_one rfl _ _ w.heap.size 29 #[.int .i64 ((kk:Int)),.int .u64 0,.int .u64 0,.int .u64 0,.int .u64 0,.slice none 0 0,.int .i64 0,.int .i64 z1,.int .i64 (z2 - 1),.bool false] (0,0) _ (.bool false) rfl rfl (heap_setRow HY8.out) Tryd.underlying29 rfl (by kernel_rfl)) rfl ⟨HFIN.out _ _ HG8.out, ?_⟩
             rw [HRT.out,HH.out];exact ⟨.node (kk:Int) 0#64 0#64 0#64 0#64 [] 0 z1 (z2 - 1) false,none,0,0,rfl⟩
         | some lo =>
           rw [h1] at hZ1
           have d1:decide (z1 < 0)=false:=by rw [← hZ1];exact decide_eq_false (by simp [Im.cI])
           cases h2:(Im.rC (Im.rC l).2).1 with
           | none =>
             rw [h2] at hZ2
             have d2:decide (z2 - 1 < -1)=true:=by rw [← hZ2];decide
             clear hZ1 hZ2 hz1 hz2
             cases h3:(Im.rC (Im.rC l).2).2 with
             | nil =>
               rw [h3] at HNX
               have HH:=Lib.hid (show Im.rH (kk:Int) l=none by unfold Im.rH;rw [if_neg (by rw [K8.out];decide),if_neg (by rw [K8.out];decide),if_neg (by rw [K8.out];decide),if_pos (by rw [K8.out];rfl),h1,h2])
               go_wp2_with fail
               refine HNX.out.mono ?_
               rintro e w8 ⟨hg8,rfl,hr8⟩
               have hT8:=(hg8.block T (Array.getElem?_eq_some_iff.1 TB.out).1 (by intro e;injection e;omega)).trans TB.out
               have HT8:=Lib.hid hT8;have HG8:=Lib.hid (GB.out.trans (Gr.of T hg8))
               have HY8:=Lib.hid (HYF.out _ HG8.out)
               obtain ⟨-,-,-,-,-,-,-,c7,c8,-⟩:=allTen hT8
               clear hg8 hr8 HNX hT8 TB GB
               go_wp2_with (first
                 | (refine wpList_load_row rfl 29 (.tmp 6) rfl T rfl 29 _ (0,0) _ HT8.out Tryd.underlying29 rfl (by kernel_rfl) ?_)
                 | (refine wpList_store_row rfl 29 (.tmp 4) (.tmp 105) rfl w.heap.size #[.int .i64 ((kk:Int)),.int .u64 0,.int .u64 0,.int .u64 0,.int .u64 0,.slice none 0 0,.int .i64 0,.int .i64 z1,.int .i64 (z2 - 1),.bool false] rfl rfl 29 _ HY8.out (by kernel_rfl) (by kernel_rfl) (by simp [Value.oneCell']) ?_)
                 | fail)
               refine bodyPost_ret (results_row_one rfl _ _ w.heap.size 29 #[.int .i64 ((kk:Int)),.int .u64 0,.int .u64 0,.int .u64 0,.int .u64 0,.slice none 0 0,.int .i64 0,.int .i64 z1,.int .i64 (z2 - 1),.bool false] (0,0) _ (.bool false) rfl rfl (heap_setRow HY8.out) Tryd.underlying29 rfl (by kernel_rfl)) rfl ⟨HFIN.out _ _ HG8.out, ?_⟩
               rw [HRT.out,HH.out];exact ⟨.node (kk:Int) 0#64 0#64 0#64 0#64 [] 0 z1 (z2 - 1) false,none,0,0,rfl⟩
             | cons b r =>
               rw [h3] at HNX
               have HH:=Lib.hid (show Im.rH (kk:Int) l=none by unfold Im.rH;rw [if_neg (by rw [K8.out];decide),if_neg (by rw [K8.out];decide),if_neg (by rw [K8.out];decide),if_pos (by rw [K8.out];rfl),h1,h2])
               go_wp2_with fail
               refine HNX.out.mono ?_
               rintro e w8 ⟨hg8,rfl,hr8⟩
               have hT8:=(hg8.block T (Array.getElem?_eq_some_iff.1 TB.out).1 (by intro e;injection e;omega)).trans TB.out
               have HT8:=Lib.hid hT8;have HG8:=Lib.hid (GB.out.trans (Gr.of T hg8))
               have HY8:=Lib.hid (HYF.out _ HG8.out)
               obtain ⟨-,-,-,-,-,-,-,c7,c8,-⟩:=allTen hT8
               clear hg8 hr8 HNX hT8 TB GB
               go_wp2_with (first
                 | (refine wpList_load_row rfl 29 (.tmp 6) rfl T rfl 29 _ (0,0) _ HT8.out Tryd.underlying29 rfl (by kernel_rfl) ?_)
                 | (refine wpList_store_row rfl 29 (.tmp 4) (.tmp 105) rfl w.heap.size #[.int .i64 ((kk:Int)),.int .u64 0,.int .u64 0,.int .u64 0,.int .u64 0,.slice none 0 0,.int .i64 0,.int .i64 z1,.int .i64 (z2 - 1),.bool false] rfl rfl 29 _ HY8.out (by kernel_rfl) (by kernel_rfl) (by simp [Value.oneCell']) ?_)
                 | fail)
               refine bodyPost_ret (results_row_one rfl _ _ w.heap.size 29 #[.int .i64 ((kk:Int)),.int .u64 0,.int .u64 0,.int .u64 0,.int .u64 0,.slice none 0 0,.int .i64 0,.int .i64 z1,.int .i64 (z2 - 1),.bool false] (0,0) _ (.bool false) rfl rfl (heap_setRow HY8.out) Tryd.underlying29 rfl (by kernel_rfl)) rfl ⟨HFIN.out _ _ HG8.out, ?_⟩
               rw [HRT.out,HH.out];exact ⟨.node (kk:Int) 0#64 0#64 0#64 0#64 [] 0 z1 (z2 - 1) false,none,0,0,rfl⟩
           | some hi =>
             rw [h2] at hZ2
             have d2:decide (z2 - 1 < -1)=false:=by rw [← hZ2];exact decide_eq_false (by simp only [Im.cI];omega)
             cases h3:(Im.rC (Im.rC l).2).2 with
             | nil =>
               rw [h3] at HNX
               clear hZ1 hZ2 hz1 hz2
               have HH:=Lib.hid (show Im.rH (kk:Int) l=none by unfold Im.rH;rw [if_neg (by rw [K8.out];decide),if_neg (by rw [K8.out];decide),if_neg (by rw [K8.out];decide),if_pos (by rw [K8.out];rfl),h1,h2,h3])
               go_wp2_with fail
               refine HNX.out.mono ?_
               rintro e w8 ⟨hg8,rfl,hr8⟩
               have hT8:=(hg8.block T (Array.getElem?_eq_some_iff.1 TB.out).1 (by intro e;injection e;omega)).trans TB.out
               have HT8:=Lib.hid hT8;have HG8:=Lib.hid (GB.out.trans (Gr.of T hg8))
               have HY8:=Lib.hid (HYF.out _ HG8.out)
               obtain ⟨-,-,-,-,-,-,-,c7,c8,-⟩:=allTen hT8
               clear hg8 hr8 HNX hT8 TB GB
               go_wp2_with (first
                 | (refine wpList_load_row rfl 29 (.tmp 6) rfl T rfl 29 _ (0,0) _ HT8.out Tryd.underlying29 rfl (by kernel_rfl) ?_)
                 | (refine wpList_store_row rfl 29 (.tmp 4) (.tmp 105) rfl w.heap.size #[.int .i64 ((kk:Int)),.int .u64 0,.int .u64 0,.int .u64 0,.int .u64 0,.slice none 0 0,.int .i64 0,.int .i64 z1,.int .i64 (z2 - 1),.bool false] rfl rfl 29 _ HY8.out (by kernel_rfl) (by kernel_rfl) (by simp [Value.oneCell']) ?_)
                 | fail)
               refine bodyPost_ret (results_row_one rfl _ _ w.heap.size 29 #[.int .i64 ((kk:Int)),.int .u64 0,.int .u64 0,.int .u64 0,.int .u64 0,.slice none 0 0,.int .i64 0,.int .i64 z1,.int .i64 (z2 - 1),.bool false] (0,0) _ (.bool false) rfl rfl (heap_setRow HY8.out) Tryd.underlying29 rfl (by kernel_rfl)) rfl ⟨HFIN.out _ _ HG8.out, ?_⟩
               rw [HRT.out,HH.out];exact ⟨.node (kk:Int) 0#64 0#64 0#64 0#64 [] 0 z1 (z2 - 1) false,none,0,0,rfl⟩
             | cons b r =>
               rw [h3] at HNX
               have d3:decide ((b.toNat:Int) < 0)=false:=decide_eq_false (by omega)
               by_cases hb1:1 < b.toNat
               · have d4:decide ((1:Int) < (b.toNat:Int))=true:=decide_eq_true (by omega)
                 clear hZ1 hZ2 hz1 hz2
                 have HH:=Lib.hid (show Im.rH (kk:Int) l=none by unfold Im.rH;rw [if_neg (by rw [K8.out];decide),if_neg (by rw [K8.out];decide),if_neg (by rw [K8.out];decide),if_pos (by rw [K8.out];rfl),h1,h2,h3];exact if_pos hb1)
                 go_wp2_with fail
                 refine HNX.out.mono ?_
                 rintro e w8 ⟨hg8,rfl,hr8⟩
                 have hT8:=(hg8.block T (Array.getElem?_eq_some_iff.1 TB.out).1 (by intro e;injection e;omega)).trans TB.out
                 have HT8:=Lib.hid hT8;have HG8:=Lib.hid (GB.out.trans (Gr.of T hg8))
                 have HY8:=Lib.hid (HYF.out _ HG8.out)
                 obtain ⟨-,-,-,-,-,-,-,c7,c8,-⟩:=allTen hT8
                 clear hg8 hr8 HNX hT8 TB GB
                 go_wp2_with (first
                   | (refine wpList_load_row rfl 29 (.tmp 6) rfl T rfl 29 _ (0,0) _ HT8.out Tryd.underlying29 rfl (by kernel_rfl) ?_)
                   | (refine wpList_store_row rfl 29 (.tmp 4) (.tmp 105) rfl w.heap.size #[.int .i64 ((kk:Int)),.int .u64 0,.int .u64 0,.int .u64 0,.int .u64 0,.slice none 0 0,.int .i64 0,.int .i64 z1,.int .i64 (z2 - 1),.bool false] rfl rfl 29 _ HY8.out (by kernel_rfl) (by kernel_rfl) (by simp [Value.oneCell']) ?_)
                   | fail)
                 refine bodyPost_ret (results_row_one rfl _ _ w.heap.size 29 #[.int .i64 ((kk:Int)),.int .u64 0,.int .u64 0,.int .u64 0,.int .u64 0,.slice none 0 0,.int .i64 0,.int .i64 z1,.int .i64 (z2 - 1),.bool false] (0,0) _ (.bool false) rfl rfl (heap_setRow HY8.out) Tryd.underlying29 rfl (by kernel_rfl)) rfl ⟨HFIN.out _ _ HG8.out, ?_⟩
                 rw [HRT.out,HH.out];exact ⟨.node (kk:Int) 0#64 0#64 0#64 0#64 [] 0 z1 (z2 - 1) false,none,0,0,rfl⟩
               · have d4:decide ((1:Int) < (b.toNat:Int))=false:=decide_eq_false (by omega)
                 have HH:=Lib.hid (show Im.rH (kk:Int) l=some (.node 8 0#64 0#64 0#64 0#64 [] 0 z1 (z2 - 1) (b.toNat == 1),1,r) by
                   unfold Im.rH
                   rw [if_neg (by rw [K8.out];decide),if_neg (by rw [K8.out];decide),if_neg (by rw [K8.out];decide),if_pos (by rw [K8.out];rfl),h1,h2,h3]
                   show (if 1 < b.toNat then none else _)=_
                   rw [if_neg hb1,← hZ1,← hZ2];rfl)
                 have hbb:((b.toNat:Int) == 1)=(b.toNat == 1):=by rw [Bool.eq_iff_iff];simp only [beq_iff_eq];omega
                 clear hZ1 hZ2 hz1 hz2
                 go_wp2_with fail
                 refine HNX.out.mono ?_
                 rintro e w8 ⟨hg8,rfl,hr8⟩
                 have hT8:=(hg8.block T (Array.getElem?_eq_some_iff.1 TB.out).1 (by intro e;injection e;omega)).trans TB.out
                 have hG8:=GB.out.trans (Gr.of T hg8)
                 obtain ⟨-,-,-,-,-,-,-,c7,c8,-⟩:=allTen hT8
                 have c9:w8.cell? ⟨T,9,none⟩=some (.bool false):=by simp [World.cell?,hT8]
                 have f9:w8.frozen? ⟨T,9,none⟩=false:=by simp [World.frozen?,hT8]
                 have HWC:=Lib.hid (show ∀ v,RdQ W0 (w8.setCell ⟨T,9,none⟩ v) R bs r 0∧Gr W4 (w8.setCell ⟨T,9,none⟩ v) R T∧(w8.setCell ⟨T,9,none⟩ v).heap[T]? = some (.cells #[.int .i64 ((kk:Int)),.int .u64 0,.int .u64 0,.int .u64 0,.int .u64 0,.slice none 0 0,.int .i64 0,.int .i64 z1,.int .i64 (z2 - 1),v] 29) from fun v =>
                   ⟨RdQ.other hr8.slack (Below.heap_setCell _ _ _ _ (by exact hRT)),Gr.setCell hG8,by simp [World.setCell,Array.getElem?_modify,hT8]⟩)
                 clear hg8 hr8 HNX hT8 hG8 TB GB
                 generalize (b.toNat == 1)=BB at *
                 go_wp2
                 go_meet
                 obtain ⟨ra,ga,ta⟩:=HWC.out (.bool BB)
                 rw [show (kk:Int)=8 by rw [K8.out];rfl] at ta
                 exact Lib.hid ⟨ga,_,_,_,HH.out,⟨1,rfl,rfl,by omega,by omega⟩,rfl,ra,ta⟩
       have n2:((kk:Int) == 2)=false:=by rw [beq_eq_false_iff_ne];omega
       have n5:((kk:Int) == 5)=false:=by rw [beq_eq_false_iff_ne];omega
       have n6:((kk:Int) == 6)=false:=by rw [beq_eq_false_iff_ne];omega
       have n7:((kk:Int) == 7)=false:=by rw [beq_eq_false_iff_ne];omega
       have n8:((kk:Int) == 8)=false:=by rw [beq_eq_false_iff_ne];omega
       have HH:=Lib.hid (show Im.rH (kk:Int) l=some (.node kk 0#64 0#64 0#64 0#64 [] 0 0 0 false,0,l) by unfold Im.rH;rw [if_neg (by omega),if_neg (by omega),if_neg (by omega),if_neg (by omega)])
       clear k2 k5 k6 k7 k8
       go_wp2
       go_meet
       exact Lib.hid ⟨HG4.out,_,_,_,HH.out,⟨0,rfl,rfl,by omega,by omega⟩,rfl,HR4.out,HT4.out⟩
     case rest =>
       rename World=>wx
       have HX:=hcut
       have hz4:=HZ4.out
       have hgr:Gr W4 wx R T:=HX.out.1
       obtain ⟨h,n,r,hh,⟨z,rfl,hzn,hz0,hz1⟩,hsub,hrx,htx⟩:=HX.out.2
       have hrl:=Im.rH_len hh
       have HN:=Lib.hid (HRT.out.trans (by rw [hh]))
       have HS0:=Lib.hid (show SubsR W0 W4 R T bs room h n r [] r (.slice none 0 0) wx from ⟨by
           rw [show n - ([]:List (Tr × Value)).length=n from rfl]
           cases Im.rdS (Im.rN room) n r with
           | none=>rfl
           | some x=>rfl,hrx,by simp;omega,htx,World.ownsRow_nil _ _ _ _,fun i t s hi=>by simp at hi,hgr⟩)
       clear HX hgr hh hcut hrx htx HG4 HR4 HT4 d0 d1 d2 d3 d4 d5 d6 d7 d8 d9
       obtain ⟨hk,hw0,hw1,hw2,hw3,hsb,hnum,hlo,hhi,hbr,hcells⟩:∃ a b c d e f g i j k,h=.node a b c d e f g i j k:=by cases h;exact ⟨_,_,_,_,_,_,_,_,_,_,rfl⟩
       subst hcells
       unfold Tr.cells at *
       obtain ⟨ie,hi0,hq0,hq1,hq2⟩:=info_parts Tryd.infoNode
       have HI:=Lib.hid hi0;have HQ0:=Lib.hid hq0;have HQ1:=Lib.hid hq1;have HQ2:=Lib.hid hq2
       clear hi0 hq0 hq1 hq2
       go_wp2
       go_loopw [11] (fun iv wr=>∃ (ps:List (Tr × Value)) (rr:List UInt8) (u:Value),iv=.int .i64 (ps.length:Int)∧ps.length ≤ n∧Hid (SubsR W0 W4 R T bs room (.node hk hw0 hw1 hw2 hw3 hsb hnum hlo hhi hbr) n r ps rr u wr)) (fun iv _=>n - (intOf iv).toNat)
       case atStart=>exact ⟨[],r,.slice none 0 0,rfl,by simp,HS0⟩
       case round =>
         obtain ⟨ps,rr,u,rfl,hi,HSP⟩:=hrel
         clear HS0
         have hlr:=HSP.out.len
         have wi:IntKind.i64.wrap ((ps.length:Int)+1)=(ps.length:Int)+1:=IntWalk.i64_in _ (by omega)
         by_cases hlt:ps.length < n
         · have e4:decide ((ps.length:Int) < z)=true:=decide_eq_true (by omega)
           have wl1:wrap64 (lev+1)=lev+1:=by have:=HLEV.out;unfold wrap64;omega
           have HCALL:=Lib.hid (IH.out rr wr (lev+1) (by have:=HLEV.out;omega) (by omega) (by omega) (HSP.out.gr.below HBW4.out hR hW0T) HSP.out.rest)
           have hsp:=HSP.out.read
           obtain ⟨m,hm⟩:∃ m,n - ps.length=m+1:=⟨n - ps.length - 1,by omega⟩
           rw [hm,Im.rdS] at hsp
           have hT5l:=(Array.getElem?_eq_some_iff.1 HSP.out.cell).1
           obtain ⟨pu,cu,rfl⟩:∃ p c,u=.slice p ps.length c:=by
             rcases HSP.out.row.2 with ⟨e,h0⟩ | ⟨g,cap,cur,e,-⟩
             · exact ⟨none,0,by rw [e,h0]⟩
             · exact ⟨_,_,e⟩
           go_wp2_with fail
           refine HCALL.out.mono ?_
           rintro e w5 ⟨hg5,he5⟩
           have hT5:w5.heap[T]? = wr.heap[T]?:=hg5.block T hT5l (by intro e;injection e;omega)
           have hw5s:=hg5.size
           have hgr5:=HSP.out.gr.trans (Gr.of T hg5)
           have HZA:=Lib.hid (heap_alloc_new w5 (.cells #[.int .i64 0,.int .u64 0,.int .u64 0,.int .u64 0,.int .u64 0,.slice none 0 0,.int .i64 0,.int .i64 0,.int .i64 0,.bool false] 29))
           have HW6:=Lib.hid (show ∀ o cs,Below w5.heap.size w5 ((w5.alloc o).setRow w5.heap.size cs) from fun o cs=>⟨rfl,rfl,rfl,by simp,fun k hk=>(heap_setRow_other _ _ _ (by omega)).trans ((World.grownBy_alloc w5 o none).block k hk (by simp))⟩)
           have HS6:=Lib.hid (show ∀ o cs,((w5.alloc o).setRow w5.heap.size cs).heap.size=w5.heap.size+1 from fun o cs=>by simp)
           cases ht:Im.rN room rr with
           | none =>
             rw [ht] at he5 hsp
             obtain ⟨t5,p5,n5,c5,rfl⟩:=he5
             have HNN:=Lib.hid (HN.out.trans (by rw [hsp]))
             have HG5:=Lib.hid hgr5;have HT5:=Lib.hid (hT5.trans HSP.out.cell)
             clear hgr5 hT5 hg5 hsp ht HCALL HSP
             go_upto_region 33 with (first
               | (refine wpList_store_row rfl 29 (.tmp 12) (.tmp 119) rfl w5.heap.size (t5.cells (.slice p5 n5 c5)) rfl rfl 29 _ HZA.out (by kernel_rfl) (by kernel_rfl) (by simp [Tr.cells,Value.oneCell']) ?_)
               | fail)
             generalize hW6:World.setRow _ _ _=W6 at *
             have hb6:Below w5.heap.size w5 W6:=hW6 ▸ HW6.out _ _
             have HT6:=Lib.hid (keep_blk hb6 HT5.out)
             have HG6:=Lib.hid (show Gr W4 W6 R T from HG5.out.trans ⟨hb6.os,hb6.tape,hb6.output,hb6.size,fun k hk _ _=>hb6.block k hk⟩)
             have HY6:=Lib.hid (HYF.out _ HG6.out)
             clear hW6 hb6 HW6 HS6 HZA HT5 HG5
             unfold Tr.cells at *
             go_wp2_with (first
               | (refine wpList_load_row rfl 29 (.tmp 6) rfl T rfl 29 _ (0,0) _ HT6.out Tryd.underlying29 rfl (by kernel_rfl) ?_)
               | (refine wpList_store_row rfl 29 (.tmp 4) (.tmp 123) rfl w.heap.size #[.int .i64 hk,.int .u64 (Oc.U hw0),.int .u64 (Oc.U hw1),.int .u64 (Oc.U hw2),.int .u64 (Oc.U hw3),(.slice pu ps.length cu),.int .i64 hnum,.int .i64 hlo,.int .i64 hhi,.bool hbr] rfl rfl 29 _ HY6.out (by kernel_rfl) (by kernel_rfl) (by simp [Value.oneCell']) ?_)
               | fail)
             refine bodyPost_ret (results_row_one rfl _ _ w.heap.size 29 #[.int .i64 hk,.int .u64 (Oc.U hw0),.int .u64 (Oc.U hw1),.int .u64 (Oc.U hw2),.int .u64 (Oc.U hw3),(.slice pu ps.length cu),.int .i64 hnum,.int .i64 hlo,.int .i64 hhi,.bool hbr] (0,0) _ (.bool false) rfl rfl (heap_setRow HY6.out) Tryd.underlying29 rfl (by kernel_rfl)) rfl ⟨HFIN.out _ _ HG6.out, ?_⟩
             rw [HNN.out];exact ⟨.node hk hw0 hw1 hw2 hw3 hsb hnum hlo hhi hbr,pu,ps.length,cu,rfl⟩
           | some y =>
             obtain ⟨t,r1⟩:=y
             rw [ht] at he5 hsp
             obtain ⟨⟨s5,rfl,hs5⟩,hr5⟩:=he5
             have hlen5:=Im.rN_len room rr t r1 ht
             obtain ⟨p5,c5,rfl,hl5⟩:=hs5.slice
             have hgT:=HSP.out.row.lt
             have hk5:∀ k,k < wr.heap.size→k ≠ R→w5.heap[k]? = wr.heap[k]?:=fun k hk hk2=>hg5.block k hk (by intro e;injection e;omega)
             have hrow5:w5.ownsRow (T+1) 29 10 (.slice pu ps.length cu) ps.length (rowOf ps):=HSP.out.row.kept hg5 (by
               cases hub:Value.ownBlock (.slice pu ps.length cu) with
               | none=>exact .inl rfl
               | some g=>exact .inr (by intro e;injection e with e;have:=(hgT g hub).1;omega))
             have hsub5:∀ (i:Nat) (t:Tr) (s:Value),ps[i]? = some (t,s)→TreesAt w5 (fun b=>T+1 ≤ b∧(Value.slice pu ps.length cu).ownBlock ≠ some b) s t.subs:=fun i t s hi=>(HSP.out.subs i t s hi).keep fun b hb hB=>hk5 b hb (by have:=hB.1;omega)
             have HT5:=Lib.hid (hT5.trans HSP.out.cell);have HG5:=Lib.hid hgr5
             have HROW5:=Lib.hid hrow5;have HSUB5:=Lib.hid hsub5;have HS5:=Lib.hid hs5;have HR5:=Lib.hid hr5;have HGT:=Lib.hid hgT
             have HSPR:=Lib.hid hsp
             have hwT:T < w5.heap.size:=by omega
             clear hgT hk5 hrow5 hsub5 hs5 hr5 hgr5 hT5 hg5 hsp ht HCALL HSP
             go_upto_region 33 with (first
               | (refine wpList_store_row rfl 29 (.tmp 12) (.tmp 119) rfl w5.heap.size (t.cells (.slice p5 t.subs.length c5)) rfl rfl 29 _ HZA.out (by kernel_rfl) (by kernel_rfl) (by simp [Tr.cells,Value.oneCell']) ?_)
               | fail)
             generalize hW6:World.setRow _ _ _=W6 at *
             have hb6:Below w5.heap.size w5 W6:=hW6 ▸ HW6.out _ _
             have hz6:W6.heap.size=w5.heap.size+1:=by rw [← hW6];exact HS6.out _ _
             have HX6:=Lib.hid (show W6.heap[w5.heap.size]? = some (.cells (t.cells (.slice p5 t.subs.length c5)) 29) from hW6 ▸ heap_setRow HZA.out)
             have HT6:=Lib.hid (keep_blk hb6 HT5.out)
             have hrow6:W6.ownsRow (T+1) 29 10 (.slice pu ps.length cu) ps.length (rowOf ps):=World.ownsRow.kept HROW5.out (row:=none) ⟨hb6.os,hb6.tape,hb6.output,hb6.size,fun k hk _=>hb6.block k hk⟩ (by
               cases hub:Value.ownBlock (.slice pu ps.length cu) with
               | none=>exact .inl rfl
               | some g=>exact .inr (by simp))
             have HROW6:=Lib.hid hrow6
             have HOWA:=Lib.hid (hrow6.alloc (.cells (t.cells (.slice p5 t.subs.length c5)) 29))
             have HSU:=Lib.hid (fun i t s hi=>(HSUB5.out i t s hi).later hb6)
             have HSN:=Lib.hid (HS5.out.later hb6)
             have HR6:=Lib.hid (HR5.out.other (hb6.block R (by omega)))
             have HG6:=Lib.hid (show Gr W4 W6 R T from HG5.out.trans ⟨hb6.os,hb6.tape,hb6.output,hb6.size,fun k hk _ _=>hb6.block k hk⟩)
             have HNW:Hid (∀ (jz:Nat) (zv:Value),(t.cells (.slice p5 t.subs.length c5)).toList[jz]? = some zv→(W6.alloc (.cells (t.cells (.slice p5 t.subs.length c5)) 29)).cell? ((⟨W6.heap.size,0,none⟩:Addr).add jz)=some zv):=Lib.hid (fun jz zv hu=>by
               have ea:(⟨W6.heap.size,0,none⟩:Addr).add jz=⟨W6.heap.size,jz,none⟩:=by unfold Addr.add;split <;> simp_all
               rw [ea,cell_new];simpa using hu)
             have HBA9:Hid (T+1 ≤ (W6.alloc (.cells (t.cells (.slice p5 t.subs.length c5)) 29)).heap.size):=Lib.hid (by simp;omega)
             have hml:ps.length+1 ≤ maxLen:=by unfold maxLen;omega
             have hbyt:(ps.length+1) * 96 ≤ 140737488355328:=by omega
             have HZT:=Lib.hid (show ∀ o,(W6.alloc o).heap[T]? = some (.cells (Tr.cells (.node hk hw0 hw1 hw2 hw3 hsb hnum hlo hhi hbr) (.slice pu ps.length cu)) 29) from fun o=>heap_alloc_lt HT6.out)
             have hu5:=field5 HT6.out
             have hTa:T < W6.heap.size+1:=by omega
             have hz6':=Lib.hid hz6
             clear hb6 hW6 HW6 HS6 HZA hrow6 HROW5 HSUB5 HS5 HR5 HT5 HG5 hz6
             go_wp2_with (first
               | (refine wpList_load_row rfl 29 (.tmp 12) rfl w5.heap.size rfl 29 _ (0,0) _ HX6.out Tryd.underlying29 rfl (by kernel_rfl) ?_)
               | (refine wpList_node1 rfl (.tmp 126) t p5 t.subs.length c5 rfl rfl ?_)
               | (refine wpList_append_fresh _ rfl (.tmp 125) (.tmp 127) 27 rfl (T+1) 29 ie _ 10 96 Tryd.underlying27 HI.out HQ0.out HQ1.out HQ2.out rfl (by decide) (.slice pu ps.length cu) ps.length (rowOf ps) rfl HOWA.out ⟨W6.heap.size,0,none⟩ 1 1 (t.cells (.slice p5 t.subs.length c5)).toList rfl rfl HNW.out (nodeC_one _ _ _ _) (by decide) hml hbyt HBA9.out ?_
                  intro v' w9 hown9 hgrow9 hwhere9
                  obtain ⟨g9,c9,hv9⟩:=owns_slice hown9
                  have hT9:=(hgrow9.block T (by simp;omega) (fun e=>by have:=(HGT.out T e.symm).1;omega)).trans (HZT.out _)
                  have u9:=at5 hT9
                  obtain ⟨u91,u92⟩:=u9
                  subst hv9)
               | fail)
             exact ⟨⟨ps ++ [(t,.slice p5 t.subs.length c5)],r1,_,by rw [List.length_append];go_num,by rw [List.length_append];simp;omega,
               Lib.hid (SubsR.next HZ4.out (by omega) HGT.out (by have:=hz6'.out;omega) (by omega) hm HSPR.out HR6.out hlr hlen5 HT6.out HROW6.out HSU.out HSN.out HG6.out hown9 hgrow9 hwhere9)⟩,by simp [intOf];omega⟩
         · have hin:ps.length=n:=by omega
           obtain ⟨pu,cu,rfl⟩:∃ p c,u=.slice p ps.length c:=by
             rcases HSP.out.row.2 with ⟨e,h0⟩ | ⟨g,cap,cur,e,-⟩
             · exact ⟨none,0,by rw [e,h0]⟩
             · exact ⟨_,_,e⟩
           have hsp:=HSP.out.read
           rw [show n - ps.length=0 by omega,Im.rdS] at hsp
           have HNN:=Lib.hid (HN.out.trans (by rw [hsp]))
           have HTW:=Lib.hid HSP.out.cell
           have HY:=Lib.hid (HYF.out wr HSP.out.gr);have HF:=Lib.hid (fun cs=>HFIN.out wr cs HSP.out.gr)
           have HTR:=Lib.hid (trees_of_row (B':=fun b=>T+1 ≤ b) HSP.out.row (by have:=HSP.out.len;omega) HSP.out.subs (fun b hb=>hb.1) (fun g hg=>(HSP.out.row.lt g hg).1))
           have HRR:=Lib.hid HSP.out.rest
           have e4:decide ((ps.length:Int) < z)=false:=decide_eq_false (by omega)
           clear hsp HSP hin
           unfold Tr.cells at *
           go_wp2_with (first
             | (refine wpList_load_row rfl 29 (.tmp 6) rfl T rfl 29 _ (0,0) _ HTW.out Tryd.underlying29 rfl (by kernel_rfl) ?_)
             | (refine wpList_store_row rfl 29 (.tmp 4) (.tmp 130) rfl w.heap.size _ rfl rfl 29 _ HY.out (by kernel_rfl) (by kernel_rfl) (by simp [Value.oneCell']) ?_)
             | fail)
           refine bodyPost_ret (results_row_one rfl _ _ w.heap.size 29 _ (0,0) _ (.bool true) rfl rfl (heap_setRow HY.out) Tryd.underlying29 rfl (by kernel_rfl)) rfl ⟨HF.out _, ?_⟩
           rw [HNN.out]
           refine ⟨⟨.slice pu ps.length cu,rfl, ?_⟩,HRR.out.other (heap_setRow_other _ _ _ (by omega))⟩
           rw [List.append_nil]
           exact (HTR.out.keep (w':=wr.setRow w.heap.size _) fun b _ hb=>heap_setRow_other _ _ _ (by omega)).mono fun b _ hb=>by omega
end Go.Proofs.YtoepdfpnkmccoaaDoor
namespace Go.Proofs.YtoepdfpnkmccoaaDoor
open Go.RowKit
def ImN (W0:World) (t:Tr):Prop:=∀ (vt:Value) (C:Nat→Prop) (w:World) (v:Value) (l:List UInt8),NodeV W0 C vt t→Below W0.heap.size W0 w→BRs W0.heap.size w v l→l.length+(Im.imT t).length ≤ 35184372088832 →
 Calls Tryd.prog 55 #[v,vt] w (AppEnd W0.heap.size (l ++ Im.imT t) v w)
theorem appendnode_any (W0:World):∀ t:Tr,t.InForm→ImN W0 t:=by
 intro t
 induction t using Tr.rec_subs with
 | h t ih =>
   intro hf vt C w v l hv hb hrow hlen
   have hfl:=hf.fields
   have IH:=Lib.hid (fun u hu=>ih u hu (hf.sub hu))
   obtain ⟨s,rfl,hs⟩:=hv
   obtain ⟨p,cap,rfl,hlens⟩:=hs.slice
   have HS:=Lib.hid hs
   have hwz:=hb.size
   have hne:v.ownBlock ≠ some w.heap.size:=fun e=>by have:=hrow.lt _ e;omega
   have H0:=Lib.hid (hrow.alloc (.cells (t.cells (.slice p t.subs.length cap)) 29))
   have HEA:=Lib.hid (fun w' v' l'=>ApS.early (B:=W0.heap.size) (w:=w) (w':=w') (v0:=v) (v:=v') (l:=l') (o:=.cells (t.cells (.slice p t.subs.length cap)) 29))
   have HW:=Lib.hid (show Below w.heap.size w (w.alloc (.cells (t.cells (.slice p t.subs.length cap)) 29)) from (Below.refl _ _).alloc (Nat.le_refl _) _)
   have Z0:=Lib.hid (heap_alloc_new w (.cells (t.cells (.slice p t.subs.length cap)) 29))
   have HB0:=Lib.hid (hb.trans (HW.out.mono hwz))
   clear ih hf hs hb hrow
   rw [Im.imT_eq] at hlen ⊢
   rw [List.length_append] at hlen
   unfold Tr.cells at *
   go_enter Tryd.func55,Tryd.ntmps55
   go_upto_region 1 with (fail)
   have hk:t.kind=1 ∨ t.kind=2 ∨ t.kind=3 ∨ t.kind=4 ∨ t.kind=5 ∨ t.kind=6 ∨ (t.kind=7∧1 ≤ t.num∧t.num ≤ 999) ∨ (t.kind=8∧(0 ≤ t.least∧t.least ≤ 255)∧(-1 ≤ t.most∧t.most ≤ 255)):=by
     unfold Tr.fieldsOk at hfl
     rcases hfl with ⟨h | h | h,-⟩ | ⟨h,-⟩ | ⟨h | h,-⟩ | ⟨h,-,-,-,-,-,h1,h2,-⟩ | ⟨h,-,-,-,-,-,-,h1,h2,h3,-⟩
     · exact .inl h
     · exact .inr (.inr (.inl h))
     · exact .inr (.inr (.inr (.inl h)))
     · exact .inr (.inl h)
     · exact .inr (.inr (.inr (.inr (.inl h))))
     · exact .inr (.inr (.inr (.inr (.inr (.inl h)))))
     · exact .inr (.inr (.inr (.inr (.inr (.inr (.inl ⟨h,h1,h2⟩))))))
     · exact .inr (.inr (.inr (.inr (.inr (.inr (.inr ⟨h,⟨h1,h2⟩,by omega⟩))))))
   have hk8:0 ≤ t.kind∧t.kind ≤ 8:=by omega
   have hn:t.subs.length ≤ 9223372036854775807:=by omega
   have hhead:Im.headB t=UInt8.ofNat t.kind.toNat :: (if t.kind=2 then Im.setB t.w0 t.w1 t.w2 t.w3 4 else if t.kind=5 ∨ t.kind=6 then Im.numB t.subs.length else if t.kind=7 then Im.numB t.num.toNat
     else if t.kind=8 then Im.numB t.least.toNat ++ Im.numB (t.most+1).toNat ++ [if t.bare then 1 else 0] else []):=rfl
   have hu:IntKind.u8.wrap t.kind=t.kind:=by rw [IntKind.wrap_u8];omega
   have HNK:=Lib.hid (show t.kind=((UInt8.ofNat t.kind.toNat).toNat:Int) by rw [UInt8.toNat_ofNat'];omega)
   have hlk:l.length+1 ≤ 140737488355328:=by omega
   have hbase:W0.heap.size ≤ w.heap.size:=hwz
   have HHEAD:=Lib.hid hhead
   have HLEN:=Lib.hid hlen
   clear hfl hlen hhead
   generalize Im.headB t=HD at *
   generalize hts:t.subs=ts at *
   generalize hW1:w.alloc (.cells #[.int .i64 t.kind,.int .u64 (Oc.U t.w0),.int .u64 (Oc.U t.w1),.int .u64 (Oc.U t.w2),.int .u64 (Oc.U t.w3),.slice p ts.length cap,.int .i64 t.num,.int .i64 t.least,.int .i64 t.most,.bool t.bare] 29)=W1 at *
   have HZ1:=Lib.hid (show W1.heap.size=w.heap.size+1 by rw [← hW1];simp)
   obtain ⟨d0,d1,d2,d3,d4,d5,d6,d7,d8,d9⟩:=allTen Z0.out
   clear hW1
   have hbase1:W0.heap.size ≤ W1.heap.size:=by have:=HZ1.out;omega
   go_upto_region 2 with (first
     | (at_builtin;refine wp_app1s rfl _ _ rfl (UInt8.ofNat t.kind.toNat) _ t.kind HNK.out rfl rfl ((cell_new _ _ _ 0).trans rfl) (H0.out.alloc _) (Nat.le_trans hbase1 (by simp)) hlk ?_;intro v1 w1 hap1)
     | fail)
   have HA1:=Lib.hid (ApS.early hap1)
   have Z1:=Lib.hid (HA1.out.keep Z0.out hne)
   clear d0 d1 d2 d3 d4 d5 d6 d7 d8 d9 hap1
   obtain ⟨d0,d1,d2,d3,d4,d5,d6,d7,d8,d9⟩:=allTen Z1.out
   go_upto_block 0 with (fail)
   go_cut [0] (fun v3 wx=>Hid (ApS W0.heap.size W1 v wx v3 (l ++ HD)))
   case first =>
     have hlh:=HLEN.out
     have hh:=HHEAD.out
     have hzz:=HZ1.out
     have hw1:W0.heap.size ≤ w1.heap.size:=Nat.le_trans hbase1 HA1.out.grown.size
     clear HLEN HHEAD IH HS H0 HEA HW HB0 HZ1 HNK hu hlk
     generalize t.kind=K at *
     rcases hk with rfl | rfl | rfl | rfl | rfl | rfl | ⟨rfl,hn1,hn2⟩ | ⟨rfl,hlo,hhi⟩
     · simp only [reduceIte,Int.reduceEq,or_self] at hh
       go_wp2
       go_meet
       rw [hh];exact HA1
     · simp only [reduceIte,Int.reduceEq,or_self] at hh
       have HC:=Lib.hid (fun h=>appendset_any t.w0 t.w1 t.w2 t.w3 W0.heap.size w1 v1 _ HA1.out.row hw1 h)
       have hh2:l ++ HD=l ++ [UInt8.ofNat (2:Int).toNat] ++ Im.setB t.w0 t.w1 t.w2 t.w3 4:=by rw [hh];simp
       have HH:=Lib.hid hh2
       clear hh hh2
       go_wp2_with fail
       refine (HC.out (by simp;omega)).mono ?_
       rintro e w2 ⟨v2,rfl,hap2⟩
       have HA2:=Lib.hid (HA1.out.trans hap2)
       clear hap2
       go_wp2
       go_meet
       rw [HH.out];exact HA2
     · simp only [reduceIte,Int.reduceEq,or_self] at hh
       go_wp2
       go_meet
       rw [hh];exact HA1
     · simp only [reduceIte,Int.reduceEq,or_self] at hh
       go_wp2
       go_meet
       rw [hh];exact HA1
     · simp only [reduceIte,Int.reduceEq,true_or] at hh
       have HC:=Lib.hid (fun h=>appendnumber_any ts.length hn W0.heap.size w1 v1 _ HA1.out.row hw1 h)
       have hh2:l ++ HD=l ++ [UInt8.ofNat (5:Int).toNat] ++ Im.numB ts.length:=by rw [hh];simp
       have HH:=Lib.hid hh2
       clear hh hh2
       go_wp2_with fail
       refine (HC.out (by simp;omega)).mono ?_
       rintro e w2 ⟨v2,rfl,hap2⟩
       have HA2:=Lib.hid (HA1.out.trans hap2)
       clear hap2
       go_wp2
       go_meet
       rw [HH.out];exact HA2
     · simp only [reduceIte,Int.reduceEq,or_true] at hh
       have HC:=Lib.hid (fun h=>appendnumber_any ts.length hn W0.heap.size w1 v1 _ HA1.out.row hw1 h)
       have hh2:l ++ HD=l ++ [UInt8.ofNat (6:Int).toNat] ++ Im.numB ts.length:=by rw [hh];simp
       have HH:=Lib.hid hh2
       clear hh hh2
       go_wp2_with fail
       refine (HC.out (by simp;omega)).mono ?_
       rintro e w2 ⟨v2,rfl,hap2⟩
       have HA2:=Lib.hid (HA1.out.trans hap2)
       clear hap2
       go_wp2
       go_meet
       rw [HH.out];exact HA2
     · simp only [reduceIte,Int.reduceEq,or_self] at hh
       obtain ⟨nn,hnn⟩:∃ nn:Nat,t.num=(nn:Int):=⟨t.num.toNat,by omega⟩
       rw [hnn] at hh d6
       rw [Int.toNat_natCast] at hh
       have HC:=Lib.hid (fun h=>appendnumber_any nn (by omega) W0.heap.size w1 v1 _ HA1.out.row hw1 h)
       have hh2:l ++ HD=l ++ [UInt8.ofNat (7:Int).toNat] ++ Im.numB nn:=by rw [hh];simp
       have HH:=Lib.hid hh2
       clear hh hh2 hnn hn1 hn2
       go_wp2_with fail
       refine (HC.out (by simp;omega)).mono ?_
       rintro e w2 ⟨v2,rfl,hap2⟩
       have HA2:=Lib.hid (HA1.out.trans hap2)
       clear hap2
       go_wp2
       go_meet
       rw [HH.out];exact HA2
     · simp only [reduceIte,Int.reduceEq,or_self] at hh
       obtain ⟨lo,hlo2⟩:∃ lo:Nat,t.least=(lo:Int):=⟨t.least.toNat,by omega⟩
       obtain ⟨hi,hhi2⟩:∃ hi:Nat,t.most+1=(hi:Int):=⟨(t.most+1).toNat,by omega⟩
       have hwr:IntKind.i64.wrap (t.most+1)=(hi:Int):=by rw [hhi2];exact IntWalk.i64_in _ (by omega)
       rw [hhi2,Int.toNat_natCast,hlo2,Int.toNat_natCast] at hh
       have hlb:=Im.numB_len9 (n:=lo) (by omega)
       have hhb:=Im.numB_len9 (n:=hi) (by omega)
       have hloc:Hid (Value.int .i64 t.least=Value.int .i64 (lo:Int)):=Lib.hid (by rw [hlo2])
       have HC:=Lib.hid (fun h=>appendnumber_any lo (by omega) W0.heap.size w1 v1 _ HA1.out.row hw1 h)
       have HDN:=Lib.hid (fun w' v' l' h1 h2 h3=>appendnumber_any hi (by omega) W0.heap.size w' v' l' h1 h2 h3)
       have HF:=Lib.hid (fun w' v' l' h1 h2 h3=>appendbare_any t.bare W0.heap.size w' v' l' h1 h2 h3)
       have hh2:l ++ HD=l ++ [UInt8.ofNat (8:Int).toNat] ++ Im.numB lo ++ Im.numB hi ++ [if t.bare then 1 else 0]:=by rw [hh];simp
       have HH:=Lib.hid hh2
       rw [hlo2] at d7
       clear hh hh2 hlo2 hlo hhi hhi2
       go_wp2_with fail
       refine (HC.out (by simp;omega)).mono ?_
       rintro e w2 ⟨v2,rfl,hap2⟩
       have HA2:=Lib.hid (HA1.out.trans hap2)
       have Z2:=Lib.hid (HA2.out.keep Z0.out hne)
       have hw2:W0.heap.size ≤ w2.heap.size:=Nat.le_trans hbase1 HA2.out.grown.size
       clear hap2 d0 d1 d2 d3 d4 d5 d6 d7 d8 d9 HC
       obtain ⟨d0,d1,d2,d3,d4,d5,d6,d7,d8,d9⟩:=allTen Z2.out
       go_wp2_with fail
       refine (HDN.out w2 v2 _ HA2.out.row hw2 (by simp;omega)).mono ?_
       rintro e w3 ⟨v3,rfl,hap3⟩
       have HA3:=Lib.hid (HA2.out.trans hap3)
       have Z3:=Lib.hid (HA3.out.keep Z0.out hne)
       have hw3:W0.heap.size ≤ w3.heap.size:=Nat.le_trans hbase1 HA3.out.grown.size
       clear hap3 d0 d1 d2 d3 d4 d5 d6 d7 d8 d9
       obtain ⟨d0,d1,d2,d3,d4,d5,d6,d7,d8,d9⟩:=allTen Z3.out
       go_wp2_with fail
       refine (HF.out w3 v3 _ HA3.out.row hw3 (by simp;omega)).mono ?_
       rintro e w4 ⟨v4,rfl,hap4⟩
       have HA4:=Lib.hid (HA3.out.trans hap4)
       clear hap4
       go_wp2
       go_meet
       rw [HH.out];exact HA4
   case rest =>
     have HA3:=hcut
     have hlh:=HLEN.out
     clear HHEAD HNK hu hlk HA1 Z1 d0 d1 d2 d3 d4 d5 d6 d7 d8 d9 hk hk8 hn
     have Z2:=Lib.hid (HA3.out.keep Z0.out hne)
     obtain ⟨d0,d1,d2,d3,d4,d5,d6,d7,d8,d9⟩:=allTen Z2.out
     go_wp2
     go_loopw [0,53] (fun sv iv wr=>∃ m:Nat,iv=.int .i64 m∧m ≤ ts.length∧Hid (ApS W0.heap.size W1 v wr sv (l ++ HD ++ Im.imS (ts.take m)))) (fun _ iv _=>ts.length - (intOf iv).toNat)
     case atStart=>exact ⟨0,rfl,Nat.zero_le _,by simpa [Im.imS] using HA3⟩
     case round =>
       obtain ⟨m,rfl,hm,HA⟩:=hrel
       clear HA3 Z2 d0 d1 d2 d3 d4 d5 d6 d7 d8 d9
       have wm:IntKind.i64.wrap ((m:Int)+1)=(m:Int)+1:=IntWalk.i64_in _ (by omega)
       by_cases hlt:m < ts.length
       · obtain ⟨x,hx⟩:∃ x,ts[m]? = some x:=⟨_,List.getElem?_eq_getElem hlt⟩
         have HBW:=Lib.hid (show Below W0.heap.size W0 wr from HB0.out.trans (HA.out.below H0.out.lt hbase1))
         obtain ⟨b1,o1,s1,rfl,-,t1,sub1⟩:=HS.out.get hx
         obtain ⟨g0,g1,g2,g3,g4,g5,g6,g7,g8,g9⟩:=t1.keep (HBW.out.block _ t1.lt)
         have hmem:=List.mem_of_getElem? hx
         obtain ⟨p1,c1,rfl,hl1⟩:=sub1.slice
         have hst:=Im.imS_take ts m x hx
         have hle1:=Im.imT_le hmem
         have hle2:=Im.imS_le ts (m+1)
         rw [hst,List.length_append] at hle2
         have HST:=Lib.hid hst
         have HC:=Lib.hid (fun w' v' l' h1 h2 h3=>IH.out x hmem (.agg (x.cells (.slice p1 x.subs.length c1))) C w' v' l' ⟨_,rfl,sub1⟩ h1 h2 h3)
         clear t1 sub1 hmem hx hst
         unfold Tr.cells at HC
         have HAx:=Lib.hid (fun o=>HA.out.alloc o)
         have HBx:=Lib.hid (fun o=>HBW.out.alloc HBW.out.size o)
         go_wp2_with fail
         generalize hw9:World.alloc wr _=w9
         have HA9:=Lib.hid (show ApS W0.heap.size W1 v w9 _ _ from hw9 ▸ HAx.out _)
         have HB9:=Lib.hid (show Below W0.heap.size W0 w9 from hw9 ▸ HBx.out _)
         clear hw9 HAx HBx g0 g1 g2 g3 g4 g5 g6 g7 g8 g9
         refine (HC.out w9 _ _ HB9.out (.inl HA9.out.row) (by simp only [List.length_append] at *;omega)).mono ?_
         rintro e w2 ⟨v2,rfl,hap2⟩
         have HA2:=Lib.hid (HA9.out.trans hap2)
         clear hap2 HC
         go_wp2
         exact ⟨⟨m+1,by go_num,by omega,Lib.hid (by rw [HST.out,← List.append_assoc];exact HA2.out)⟩,by simp [intOf];omega⟩
       · obtain rfl:m=ts.length:=by omega
         rw [List.take_length] at *
         go_wp2
         go_ret
         exact ⟨_,rfl,by rw [← List.append_assoc];exact HEA.out _ _ _ HA.out⟩
end Go.Proofs.YtoepdfpnkmccoaaDoor
namespace Go.Proofs.YtoepdfpnkmccoaaDoor
namespace Tr
theorem dpS_nd:∀ {l:List Tr},(∀ t,t ∈ l→t.dpT ≤ 2 * t.ndT)→dpS l ≤ 2 * ndS l
 | [],_=>by simp [dpS]
 | t :: l,h=>by
   have h1:=h t List.mem_cons_self
   have h2:=dpS_nd (l:=l) fun u hu=>h u (List.mem_cons_of_mem _ hu)
   rw [dpS,ndS];omega
theorem dp_nd (t:Tr):t.dpT ≤ 2 * t.ndT:=by
 induction t using Tr.rec_subs with
 | h t ih =>
   have h:=dpS_nd ih
   rw [dpT_eq,ndT_eq]
   split
   · omega
   · split <;> omega
end Tr
end Go.Proofs.YtoepdfpnkmccoaaDoor
namespace Go.Proofs.YtoepdfpnkmccoaaDoor
open Go.RowKit
def EncEnd (A:Nat→Addr) (t:Tr) (w:World) (e:Ending) (w':World):Prop:=∃ v,e=.returned (.tuple #[v,sentV A t.checkC])∧BR w.heap.size w' v (if t.checkC=0 then Im.head ++ Im.imT t else [])∧Below w.heap.size w w'
theorem head_cells:(#[.int .u8 84,.int .u8 82,.int .u8 87,.int .u8 76,.int .u8 1]:Array Value).toList=Lib.byteCells Im.head:=rfl
theorem encode_any (A:Nat→Addr) (t:Tr) (hd:t.ndT ≤ 400000) (w:World) (hE:Errs w A) (C:Nat→Prop) (v:Value) (hv:NodeV w C v t) :
   Calls Tryd.prog 32 #[v] w (EncEnd A t w):=by
 have hdp:=Tr.dp_nd t
 have HC:=Lib.hid (fun w' (h:Below w.heap.size w w')=>treecheck_any A t (by omega) w' (hE.below h) C v (hv.later h))
 have HL:=Lib.hid (show t.checkC=0→(Im.imT t).length ≤ 16000000 from fun h=>by have:=Im.imT_nd t (Tr.checkC_zero.1 h).1 (by omega);omega)
 have HN:=Lib.hid (fun (h:t.checkC=0) (w':World) v' l'=>appendnode_any w t (Tr.checkC_zero.1 h).1 v C w' v' l' hv)
 obtain ⟨s,rfl,hs⟩:=hv
 obtain ⟨p,cap,rfl,hlens⟩:=hs.slice
 have Z0:=Lib.hid (heap_alloc_new w (.cells (t.cells (.slice p t.subs.length cap)) 29))
 have HW:=Lib.hid (show Below w.heap.size w (w.alloc (.cells (t.cells (.slice p t.subs.length cap)) 29)) from (Below.refl _ _).alloc (Nat.le_refl _) _)
 clear hs hE hd hdp
 have hcv:∀ w:World,(convert 22 22 (.slice (some ⟨w.heap.size,0,none⟩) 5 5)).run Tryd.prog (w.alloc (.cells #[.int .u8 84,.int .u8 82,.int .u8 87,.int .u8 76,.int .u8 1] 5))=.ok (.slice (some ⟨w.heap.size,0,none⟩) 5 5) (w.alloc (.cells #[.int .u8 84,.int .u8 82,.int .u8 87,.int .u8 76,.int .u8 1] 5 (5,6))) :=
   fun w=>Lib.run_convert_bytes_const w 22 5 #[.int .u8 84,.int .u8 82,.int .u8 87,.int .u8 76,.int .u8 1] 5 5 Tryd.underlying22 Tryd.underlying5
 unfold Tr.cells at *
 go_enter Tryd.func32,Tryd.ntmps32
 go_wp2_with (first
   | (refine wpList_load_row rfl 29 (.tmp 1) rfl w.heap.size rfl 29 _ (0,0) _ Z0.out Tryd.underlying29 rfl (by kernel_rfl) ?_)
   | fail)
 refine (HC.out _ HW.out).mono ?_
 rintro e w1 ⟨rfl,hb1⟩
 have Z1:=Lib.hid (keep_blk (hb1.mono (Nat.le_refl _)) Z0.out)
 have HB1:=Lib.hid (HW.out.trans (hb1.mono HW.out.size))
 clear hb1 Z0 HC HW
 by_cases h0:t.checkC=0
 · have e0:sentV A t.checkC=.nilIface:=by rw [h0];rfl
   have HN1:=Lib.hid (HN.out h0)
   have hl:=HL.out h0
   have HI:=Lib.hid (show (if t.checkC=0 then Im.head ++ Im.imT t else [])=Im.head ++ Im.imT t from if_pos h0)
   have HRW:=Lib.hid (show BRs w.heap.size (w1.alloc (.cells #[.int .u8 84,.int .u8 82,.int .u8 87,.int .u8 76,.int .u8 1] 5 (5,6))) (.slice (some ⟨w1.heap.size,0,none⟩) 5 5) Im.head from .inr ⟨w1.heap.size,(5,6),_,rfl,HB1.out.size,heap_alloc_new _ _,head_cells⟩)
   have HBW:=Lib.hid (HB1.out.alloc HB1.out.size (.cells #[.int .u8 84,.int .u8 82,.int .u8 87,.int .u8 76,.int .u8 1] 5 (5,6)))
   have Z2:=Lib.hid (heap_alloc_lt (o:=.cells #[.int .u8 84,.int .u8 82,.int .u8 87,.int .u8 76,.int .u8 1] 5 (5,6)) Z1.out)
   have HE0:=Lib.hid e0
   rw [e0]
   clear h0 HL HN e0
   go_wp2_with (first
     | (refine wpList_load_row rfl 29 (.tmp 1) rfl w.heap.size rfl 29 _ (0,0) _ Z2.out Tryd.underlying29 rfl (by kernel_rfl) ?_)
     | fail)
   refine (HN1.out _ _ _ HBW.out HRW.out (by simp [Im.head];omega)).mono ?_
   rintro e w3 ⟨v3,rfl,hap⟩
   have HA:=Lib.hid hap
   clear hap
   go_wp2
   go_ret2
   exact ⟨v3,congrArg (fun x=>Ending.returned (.tuple #[v3,x])) HE0.out.symm,by rw [HI.out];exact HA.out.row,HBW.out.trans (HA.out.below HRW.out.lt HBW.out.size)⟩
 · have hcl:=Tr.checkC_lt t
   have HI:=Lib.hid (show (if t.checkC=0 then Im.head ++ Im.imT t else [])=[] from if_neg h0)
   have HE0:=Lib.hid (show sentV A t.checkC=.iface 171 (.pointer (some (A (t.checkC - 1)))) from if_neg h0)
   rw [HE0.out]
   clear h0 hcl HL HN
   generalize A (t.checkC - 1)=ad at *
   go_wp2
   go_ret2
   exact ⟨.slice none 0 0,congrArg (fun x=>Ending.returned (.tuple #[.slice none 0 0,x])) HE0.out.symm,by rw [HI.out];exact BR.nil _ _,HB1.out⟩
end Go.Proofs.YtoepdfpnkmccoaaDoor
namespace Go.Proofs.YtoepdfpnkmccoaaDoor
open Go.RowKit
namespace Im
def livE:Tr:=.node 1 0#64 0#64 0#64 0#64 [] 0 0 0 false
def livT:Tr:=.node 7 0#64 0#64 0#64 0#64 [livE] 300 0 0 false
theorem liv_check:livT.checkC=0:=by
 have f1:livE.InForm:=.mk _ (.inl ⟨.inl rfl,rfl,rfl,rfl,rfl,rfl,rfl,rfl,rfl,rfl⟩) (fun u hu=>by cases hu)
 have f2:livT.InForm:=.mk _ (.inr (.inr (.inr (.inl ⟨rfl,rfl,rfl,rfl,rfl,rfl,by decide,by decide,rfl,rfl,rfl⟩)))) (fun u hu=>by
   rcases List.mem_cons.1 hu with rfl | hu
   · exact f1
   · cases hu)
 refine Tr.checkC_zero.2 ⟨f2, ?_, ?_⟩
 · simp [livT,livE,Tr.dpT,Tr.dpS]
 · simp [livT,livE,Tr.szT,Tr.szS,Tr.sat]
theorem liv_nd:livT.ndT ≤ 400000:=by simp [livT,livE,Tr.ndT,Tr.ndS]
theorem liv_bytes:imT livT=[7,172,2,1]:=by
 have h:numB 300=[172,2]:=by rw [numB_big (by decide),numB_small (by decide)];rfl
 simp [livT,livE,imT,imS,headB,Tr.kind,Tr.num,h]
end Im
theorem liv_node (w:World) (g:Nat) (hg:w.heap.size=g):NodeV (w.alloc (.cells (Im.livE.cells (.slice none 0 0)) 29)) (fun _=>True) (.agg (Im.livT.cells (.slice (some ⟨g,0,none⟩) 1 1))) Im.livT:=by
 subst hg
 have hc:∀ j,(w.alloc (.cells (Im.livE.cells (.slice none 0 0)) 29)).cell? ⟨w.heap.size,j,none⟩=(Im.livE.cells (.slice none 0 0))[j]?:=cell_new w _ _
 refine ⟨_,rfl,.mk (some ⟨w.heap.size,0,none⟩) 1 [Im.livE] (fun _=>.slice none 0 0) (by simp) (fun i u hi=>?_) (fun i u hi=>?_)⟩
 · match i,hi with
   | 0,hi =>
     obtain rfl:Im.livE=u:=Option.some.inj hi
     exact ⟨w.heap.size,0,rfl,trivial,⟨hc 0,hc 1,hc 2,hc 3,hc 4,hc 5,hc 6,hc 7,hc 8,hc 9⟩⟩
 · match i,hi with
   | 0,hi =>
     obtain rfl:Im.livE=u:=Option.some.inj hi
     exact TreesAt.nil
theorem imlives_any (A:Nat→Addr) (w:World) (hE:Errs w A):Calls Tryd.prog 9 #[] w fun e w'=>e=.returned (.bool true)∧Below w.heap.size w w':=by
 have HEN:=Lib.hid (fun w' (h:Below w.heap.size w w') v (hv:NodeV w' (fun _=>True) v Im.livT)=>encode_any A Im.livT Im.liv_nd w' (hE.below h) _ v hv)
 have HDE:=Lib.hid (fun w' (h:Below w.heap.size w w')=>decode_nil A w' (hE.below h))
 have HNU:=Lib.hid (fun w' (h:Below w.heap.size w w')=>sentV_num A 17 (by omega) w' (hE.below h))
 have HB1:=Lib.hid (fun o=>(Below.refl w.heap.size w).alloc (Nat.le_refl _) o)
 have HLN:=Lib.hid (liv_node w _ rfl)
 have e0:sentV A Im.livT.checkC=.nilIface:=by rw [Im.liv_check];rfl
 have HE0:=Lib.hid e0
 have hbs:(if Im.livT.checkC=0 then Im.head ++ Im.imT Im.livT else [])=[84,82,87,76,1,7,172,2,1]:=by rw [if_pos Im.liv_check,Im.liv_bytes];rfl
 have HBS:=Lib.hid hbs
 clear hbs e0 hE
 go_enter Tryd.func9,Tryd.ntmps9
 go_wp2_with fail
 refine (HEN.out _ (HB1.out _) _ HLN.out).mono ?_
 rintro e w1 ⟨v1,rfl,hr1,hb1⟩
 rw [HBS.out] at hr1
 rw [HE0.out]
 have HS:=Lib.hid hr1.reads
 have HBB1:=Lib.hid ((HB1.out _).trans (hb1.mono (by simp)))
 clear hr1 hb1 HEN HLN HBS HE0 HB1
 go_wp2_with fail
 refine (HDE.out _ HBB1.out).mono ?_
 rintro e w2 ⟨rfl,hb2⟩
 have HBB2:=Lib.hid (HBB1.out.trans (hb2.mono HBB1.out.size))
 have HS2:=Lib.hid (HS.out.below hb2)
 clear hb2 HDE HS HBB1
 go_upto_region 3 with (fail)
 have HBB3:=Lib.hid (fun o=>HBB2.out.alloc HBB2.out.size o)
 have HS3:=Lib.hid (fun o=>HS2.out.below ((Below.refl w2.heap.size w2).alloc (Nat.le_refl _) o))
 generalize hW3:World.alloc w2 _=W3 at *
 have cs:=to_str (show BsAt W3 v1 _ from hW3 ▸ HS3.out _)
 have HNU3:=Lib.hid (HNU.out W3 (hW3 ▸ HBB3.out _))
 have HB3:=Lib.hid (show Below w.heap.size w W3 from hW3 ▸ HBB3.out _)
 have hl:=bx_list [84,82,87,76,1,7,172,2,1]
 clear hW3 HBB3 HS3 HS2 HBB2 HNU
 generalize bx [84,82,87,76,1,7,172,2,1]=bxs at *
 go_wp2_with fail
 refine HNU3.out.mono ?_
 rintro e w4 ⟨rfl,hb4⟩
 have HB4:=Lib.hid (HB3.out.trans (hb4.mono HB3.out.size))
 clear hb4
 go_wp2
 go_ret
 exact ⟨rfl,HB4.out⟩
end Go.Proofs.YtoepdfpnkmccoaaDoor
namespace Go.Proofs.YtoepdfpnkmccoaaDoor
open Go.RowKit
namespace Im
theorem ndT_le_imT (t:Tr):t.ndT ≤ (imT t).length:=by
 induction t using Tr.rec_subs with
 | h t ih =>
   have hs:∀ l:List Tr,(∀ u,u ∈ l→u.ndT ≤ (imT u).length)→Tr.ndS l ≤ (imS l).length:=by
     intro l
     induction l with
     | nil=>intro _;simp [Tr.ndS]
     | cons a l ih2 =>
       intro h
       have h1:=h a List.mem_cons_self
       have h2:=ih2 fun u hu=>h u (List.mem_cons_of_mem _ hu)
       rw [Tr.ndS,imS,List.length_append];omega
   have:=hs t.subs ih
   rw [Tr.ndT_eq,imT_eq,headB_eq,List.length_append,List.length_cons];omega
theorem decB_some {l:List UInt8} {t:Tr} (h:decB l=some t):l=head ++ imT t∧t.checkC=0∧t.InForm:=by
 unfold decB at h
 split at h
 · rename_i hh
   split at h
   · rename_i t' hd
     split at h
     · rename_i hc
       obtain rfl:t'=t:=Option.some.inj h
       have hf:=(Tr.checkC_zero.1 hc).1
       have e:=rdT_back _ _ _ _ hd hf
       have h5:l.take 5=head:=of_decide_eq_true hh
       refine ⟨?_,hc,hf⟩
       rw [← List.take_append_drop 5 l,h5,e,List.append_nil]
     · cases h
   · cases h
 · cases h
end Im
end Go.Proofs.YtoepdfpnkmccoaaDoor
namespace Go.Proofs.YtoepdfpnkmccoaaDoor
namespace Im
theorem isHead_head (m:List UInt8):isHead (head ++ m)=true:=decide_eq_true (by simp [head])
theorem drop_head (m:List UInt8):(head ++ m).drop 5=m:=by simp [head]
theorem decB_image {t:Tr} (hc:t.checkC=0) (hn:t.ndT ≤ 2147483647):decB (head ++ imT t)=some t:=by
 obtain ⟨hf,hd,-⟩:=Tr.checkC_zero.1 hc
 have h:=rdT_imT t 200 [] hf hd hn
 rw [List.append_nil] at h
 unfold decB
 rw [if_pos (isHead_head _),drop_head,h]
 exact if_pos hc
end Im
end Go.Proofs.YtoepdfpnkmccoaaDoor
namespace Go.Proofs.YtoepdfpnkmccoaaDoor
namespace Im
theorem rH_tailB (t:Tr) (hf:t.fieldsOk) (hn:t.subs.length < 2097152) (r:List UInt8):rH t.kind (tailB t ++ r)=some (withSubs t [],t.subs.length,r):=by
 obtain ⟨k,a,b,c,d,s,nu,lo,hi,br⟩:=t
 simp only [Tr.fieldsOk,Tr.kind,Tr.w0,Tr.w1,Tr.w2,Tr.w3,Tr.num,Tr.least,Tr.most,Tr.bare,Tr.subs] at hf hn
 show rH k (tailF k a b c d s.length nu lo hi br ++ r)=some (.node k a b c d [] nu lo hi br,s.length,r)
 unfold rH tailF
 rcases hf with ⟨hk,rfl,rfl,rfl,rfl,rfl,rfl,rfl,rfl,rfl⟩ | ⟨rfl,rfl,rfl,rfl,rfl,rfl⟩ | ⟨hk,rfl,rfl,rfl,rfl,h2,rfl,rfl,rfl,rfl⟩ | ⟨rfl,rfl,rfl,rfl,rfl,h1,hn1,hn2,rfl,rfl,rfl⟩ | ⟨rfl,rfl,rfl,rfl,rfl,h1,rfl,hl1,hl2,hm,hbr⟩
 · rw [if_neg (by omega),if_neg (by omega),if_neg (by omega),if_neg (by omega),if_neg (by omega),if_neg (by omega),if_neg (by omega),if_neg (by omega)];rfl
 · obtain ⟨h3,h4⟩:=setB_drop a b c d r
   rw [if_pos rfl,if_pos rfl,if_pos h4,h3,wordOf_setB a b c d r 0 (by omega),wordOf_setB a b c d r 1 (by omega),wordOf_setB a b c d r 2 (by omega),wordOf_setB a b c d r 3 (by omega)]
   rfl
 · rw [if_neg (by omega),if_pos hk,if_neg (by omega),if_pos hk,rC_numB _ hn];rfl
 · rw [if_neg (by decide),if_neg (by decide),if_pos rfl,if_neg (by decide),if_neg (by decide),if_pos rfl,rC_numB _ (by omega),h1]
   simp only [Option.some.injEq,Prod.mk.injEq,and_true,cI]
   rw [show ((nu.toNat:Nat):Int)=nu by omega]
 · rw [if_neg (by decide),if_neg (by decide),if_neg (by decide),if_pos rfl,if_neg (by decide),if_neg (by decide),if_neg (by decide),if_pos rfl]
   rw [List.append_assoc,List.append_assoc,rC_numB _ (by omega)]
   simp only
   rw [rC_numB _ (by omega)]
   simp only [List.cons_append,List.nil_append]
   rw [show ((lo.toNat:Nat):Int)=lo by omega,show (((hi+1).toNat:Nat):Int) - 1=hi by omega,h1]
   cases br <;> rfl
theorem rN_imT (t:Tr):∀ (room:Nat) (r:List UInt8),t.InForm→t.dpT ≤ room→t.ndT ≤ 2097152→rN room (imT t ++ r)=some (t,r):=by
 induction t using Tr.rec_subs with
 | h t ih =>
   intro room r hf hd hn
   have hnd:=Tr.ndT_eq t
   have hl:=ndS_len t.subs
   have hdp:1 ≤ t.dpT∧Tr.dpS t.subs+1 ≤ max t.dpT (Tr.dpS t.subs+1)∧(t.subs ≠ []→Tr.dpS t.subs+1 ≤ t.dpT):=by
     have he:t.dpT=if t.subs.length=0 then 1 else Tr.dpS t.subs+(if t.kind=8∧¬ (t.least=0∧(t.most=1 ∨ t.most = -1)) then 2 else 1):=by cases t;rw [Tr.dpT];rfl
     refine ⟨?_,by omega,fun hne=>?_⟩
     · rw [he];split
       · omega
       · split <;> omega
     · have:t.subs.length ≠ 0:=fun h=>hne (List.length_eq_zero_iff.1 h)
       rw [he,if_neg this];split <;> omega
   obtain ⟨m,rfl⟩:∃ m,room=m+1:=⟨room - 1,by omega⟩
   have hk:1 ≤ t.kind∧t.kind ≤ 8:=by
     rcases hf.fields with ⟨h,-⟩ | ⟨h,-⟩ | ⟨h,-⟩ | ⟨h,-⟩ | ⟨h,-⟩ <;> omega
   have hkk:((UInt8.ofNat t.kind.toNat).toNat:Int)=t.kind:=by rw [UInt8.toNat_ofNat'];omega
   rw [imT_eq,headB_eq,List.cons_append,List.cons_append,rN,hkk,List.append_assoc,rH_tailB t hf.fields (by omega)]
   simp only
   rw [rdS_imS t.subs r fun u hu r=>ih u hu m r (hf.sub hu) (by
     have h1:=Tr.dpT_le_dpS hu
     have h2:=hdp.2.2 (by intro e;rw [e] at hu;cases hu)
     omega) (by have:=ndT_le_ndS hu;omega)]
   simp only [withSubs_self]
theorem rdS_nd {f:List UInt8→Option (Tr × List UInt8)} (hf:∀ l t r,f l=some (t,r)→t.ndT+r.length ≤ l.length):∀ (n:Nat) (l:List UInt8) (ts:List Tr) (r:List UInt8),rdS f n l=some (ts,r)→Tr.ndS ts+r.length ≤ l.length
 | 0,l,ts,r,h=>by
   rw [rdS] at h
   simp only [Option.some.injEq,Prod.mk.injEq] at h
   obtain ⟨rfl,rfl⟩:=h
   simp [Tr.ndS]
 | n+1,l,ts,r,h=>by
   rw [rdS] at h
   split at h
   · cases h
   · rename_i t r1 h1
     split at h
     · cases h
     · rename_i ts' r' h2
       simp only [Option.some.injEq,Prod.mk.injEq] at h
       obtain ⟨rfl,rfl⟩:=h
       have a:=hf _ _ _ h1
       have b:=rdS_nd hf n r1 ts' r' h2
       rw [Tr.ndS]
       omega
theorem rN_nd:∀ (room:Nat) (l:List UInt8) (t:Tr) (r:List UInt8),rN room l=some (t,r)→t.ndT+r.length ≤ l.length
 | 0,l,t,r,h=>by rw [rN] at h;cases h
 | room+1,[],t,r,h=>by rw [rN] at h;cases h
 | room+1,k :: l,t,r,h=>by
   rw [rN] at h
   split at h
   · cases h
   · rename_i hd n r1 h1
     split at h
     · cases h
     · rename_i ts r' h2
       simp only [Option.some.injEq,Prod.mk.injEq] at h
       obtain ⟨rfl,rfl⟩:=h
       have a:=rH_len h1
       have b:=rdS_nd (rN_nd room) n r1 ts r' h2
       have c:(withSubs hd ts).ndT=1+Tr.ndS ts:=by rw [Tr.ndT_eq];rfl
       rw [c]
       simp;omega
end Im
end Go.Proofs.YtoepdfpnkmccoaaDoor
namespace Go.Proofs.YtoepdfpnkmccoaaDoor
open Go.RowKit
theorem refnumber_any:∀ n:Nat,n ≤ 9223372036854775807→∀ w:World,Calls Tryd.prog 99 #[.int .i64 n] w (BytesEnd (Im.numB n) w):=by
 intro n
 induction n using Nat.strongRecOn with
 | _ n ih =>
   intro hn w
   by_cases hlt:n < 128
   · have e1:decide ((n:Int) < 128)=true:=by simp;omega
     have e1':decide (n < 128)=true:=by simpa using hlt
     have hu:IntKind.u8.wrap (n:Int)=(n:Int):=by rw [IntKind.wrap_u8];omega
     rw [Im.numB_small hlt]
     have hc:(#[.int .u8 (n:Int)]:Array Value).toList=Lib.byteCells [UInt8.ofNat n]:=by
       show [Value.int .u8 (n:Int)]=[.int .u8 ((UInt8.ofNat n).toNat:Int)]
       rw [UInt8.toNat_ofNat',Nat.mod_eq_of_lt (by omega)]
     have hrow:=BR.new w.heap.size w _ _ 1 hc rfl (Nat.le_refl _) (by simp)
     have HR:=Lib.hid hrow
     clear ih hc hrow
     go_enter Tryd.func99,Tryd.ntmps99
     go_wp2
     go_ret
     exact ⟨_,rfl,HR.out,(Below.refl _ _).alloc (Nat.le_refl _) _⟩
   · obtain ⟨d,hd,hdm,r1⟩:∃ d:Nat,d < 128∧d=n % 128∧(n:Int) % 128=(d:Int):=⟨n % 128,by omega,rfl,by omega⟩
     obtain ⟨q,hqm,q1⟩:∃ q:Nat,q=n / 128∧(n:Int) / 128=(q:Int):=⟨n / 128,rfl,by omega⟩
     have e1:decide ((n:Int) < 128)=false:=by simp;omega
     have e1':decide (n < 128)=false:=by simp;omega
     have hu:IntKind.u8.wrap ((d:Int)+128)=(d:Int)+128:=by rw [IntKind.wrap_u8];omega
     have hu2:IntKind.u8.wrap (128+(d:Int))=128+(d:Int):=by rw [IntKind.wrap_u8];omega
     have hst:Im.numB n=[UInt8.ofNat (128+d)] ++ Im.numB q:=by rw [Im.numB_big hlt,hdm,hqm];rfl
     rw [hst]
     have hl9:=Im.numB_len9 (n:=q) (by omega)
     have HC:=Lib.hid (fun w'=>ih q (by omega) (by omega) w')
     have hc:(#[.int .u8 (128+(d:Int))]:Array Value).toList=Lib.byteCells [UInt8.ofNat (128+d)]:=by
       show [Value.int .u8 (128+(d:Int))]=[.int .u8 ((UInt8.ofNat (128+d)).toNat:Int)]
       rw [UInt8.toNat_ofNat',Nat.mod_eq_of_lt (by omega)];simp
     have HR:=Lib.hid (BR.new w.heap.size w _ _ 1 hc rfl (Nat.le_refl _) (by simp))
     have HB:=Lib.hid (show Below w.heap.size w (w.alloc (.cells #[.int .u8 (128+(d:Int))] 5)) from (Below.refl _ _).alloc (Nat.le_refl _) _)
     clear ih hst hdm hqm hc
     generalize Im.numB q=M at *
     go_enter Tryd.func99,Tryd.ntmps99
     go_wp2_with fail
     refine (HC.out _).mono ?_
     rintro e w2 ⟨v2,rfl,hr2,hb2⟩
     obtain ⟨p2,c2,rfl,hn2,hcl2,-⟩:=hr2.slice
     have HR2:=Lib.hid (HR.out.below hb2)
     have HB2:=Lib.hid (HB.out.trans (hb2.mono HB.out.size))
     have hbs:w.heap.size ≤ w2.heap.size:=HB2.out.size
     have HCL:=Lib.hid hcl2;have HN2:=Lib.hid hn2
     clear hr2 hb2 hcl2 hn2 HC HR HB
     go_wp2_with (first
       | (at_builtin;refine wp_appL (m:=M) rfl _ _ rfl p2 c2 rfl rfl HN2.out HCL.out HR2.out HB2.out hbs (by simp;omega) ?_;intro v' w' hr' hb')
       | fail)
     go_ret
     exact ⟨_,rfl,hr',hb'⟩
theorem pow256r (x:BitVec 64) (j:Nat):x.toNat / 256 ^ (j+1)=x.toNat / 256 ^ j / 256:=by rw [Nat.pow_succ,Nat.div_div_eq_div_mul]
theorem refnode_any:∀ t:Tr,t.InForm→(Im.imT t).length ≤ 35184372088832→∀ (w:World) (C:Nat→Prop) (v:Value),NodeV w C v t→Calls Tryd.prog 63 #[v] w (BytesEnd (Im.imT t) w):=by
 intro t
 induction t using Tr.rec_subs with
 | h t ih =>
   intro hf hlen w C v hv
   have hfl:=hf.fields
   have IH:=Lib.hid (fun u hu=>ih u hu (hf.sub hu))
   obtain ⟨s,rfl,hs⟩:=hv
   obtain ⟨p,cap,rfl,hlens⟩:=hs.slice
   have HS:=Lib.hid hs
   have HW:=Lib.hid (show Below w.heap.size w (w.alloc (.cells (t.cells (.slice p t.subs.length cap)) 29)) from (Below.refl _ _).alloc (Nat.le_refl _) _)
   have Z0:=Lib.hid (heap_alloc_new w (.cells (t.cells (.slice p t.subs.length cap)) 29))
   clear ih hf hs
   rw [Im.imT_eq] at hlen ⊢
   rw [List.length_append] at hlen
   unfold Tr.cells at *
   have hk:t.kind=1 ∨ t.kind=2 ∨ t.kind=3 ∨ t.kind=4 ∨ t.kind=5 ∨ t.kind=6 ∨ (t.kind=7∧1 ≤ t.num∧t.num ≤ 999) ∨ (t.kind=8∧(0 ≤ t.least∧t.least ≤ 255)∧(-1 ≤ t.most∧t.most ≤ 255)):=by
     unfold Tr.fieldsOk at hfl
     rcases hfl with ⟨h | h | h,-⟩ | ⟨h,-⟩ | ⟨h | h,-⟩ | ⟨h,-,-,-,-,-,h1,h2,-⟩ | ⟨h,-,-,-,-,-,-,h1,h2,h3,-⟩
     · exact .inl h
     · exact .inr (.inr (.inl h))
     · exact .inr (.inr (.inr (.inl h)))
     · exact .inr (.inl h)
     · exact .inr (.inr (.inr (.inr (.inl h))))
     · exact .inr (.inr (.inr (.inr (.inr (.inl h)))))
     · exact .inr (.inr (.inr (.inr (.inr (.inr (.inl ⟨h,h1,h2⟩))))))
     · exact .inr (.inr (.inr (.inr (.inr (.inr (.inr ⟨h,⟨h1,h2⟩,by omega⟩))))))
   have hk8:0 ≤ t.kind∧t.kind ≤ 8:=by omega
   have hn:t.subs.length ≤ 9223372036854775807:=by omega
   have hhead:Im.headB t=UInt8.ofNat t.kind.toNat :: (if t.kind=2 then Im.setB t.w0 t.w1 t.w2 t.w3 4 else if t.kind=5 ∨ t.kind=6 then Im.numB t.subs.length else if t.kind=7 then Im.numB t.num.toNat
     else if t.kind=8 then Im.numB t.least.toNat ++ Im.numB (t.most+1).toNat ++ [if t.bare then 1 else 0] else []):=rfl
   have hu:IntKind.u8.wrap t.kind=t.kind:=by rw [IntKind.wrap_u8];omega
   have HKC:=Lib.hid (show (#[.int .u8 t.kind]:Array Value).toList=Lib.byteCells [UInt8.ofNat t.kind.toNat] by
     show [Value.int .u8 t.kind]=[.int .u8 ((UInt8.ofNat t.kind.toNat).toNat:Int)]
     rw [UInt8.toNat_ofNat',Nat.mod_eq_of_lt (by omega)];congr 2;omega)
   have HHEAD:=Lib.hid hhead
   have HLEN:=Lib.hid hlen
   clear hfl hlen hhead
   generalize Im.headB t=HD at *
   generalize hts:t.subs=ts at *
   generalize hW1:w.alloc (.cells #[.int .i64 t.kind,.int .u64 (Oc.U t.w0),.int .u64 (Oc.U t.w1),.int .u64 (Oc.U t.w2),.int .u64 (Oc.U t.w3),.slice p ts.length cap,.int .i64 t.num,.int .i64 t.least,.int .i64 t.most,.bool t.bare] 29)=W1 at *
   have HZ1:=Lib.hid (show W1.heap.size=w.heap.size+1 by rw [← hW1];simp)
   obtain ⟨d0,d1,d2,d3,d4,d5,d6,d7,d8,d9⟩:=allTen Z0.out

   go_enter Tryd.func63,Tryd.ntmps63
   go_upto_region 1 with (fail)
   clear hW1
   have HR1:=Lib.hid (BR.new W1.heap.size W1 _ _ 1 HKC.out rfl (Nat.le_refl _) (by simp))
   have HB1:=Lib.hid (show Below W1.heap.size W1 (W1.alloc (.cells #[.int .u8 t.kind] 5)) from (Below.refl _ _).alloc (Nat.le_refl _) _)
   have Z1:=Lib.hid (heap_alloc_lt (o:=.cells #[.int .u8 t.kind] 5) Z0.out)
   go_upto_region 2 with (fail)
   generalize W1.alloc (.cells #[.int .u8 t.kind] 5)=w1 at *
   clear d0 d1 d2 d3 d4 d5 d6 d7 d8 d9
   obtain ⟨d0,d1,d2,d3,d4,d5,d6,d7,d8,d9⟩:=allTen Z1.out
   go_upto_block 0 with (fail)
   go_cut [3] (fun v3 wx=>Hid (BR W1.heap.size wx v3 HD)∧Hid (Below W1.heap.size W1 wx))
   case first =>
     have hlh:=HLEN.out
     have hh:=HHEAD.out
     have hw1:W1.heap.size ≤ w1.heap.size:=HB1.out.size
     clear HLEN HHEAD IH HS HW HZ1 HKC hu
     generalize t.kind=K at *
     rcases hk with rfl | rfl | rfl | rfl | rfl | rfl | ⟨rfl,hn1,hn2⟩ | ⟨rfl,hlo,hhi⟩
     · simp only [reduceIte,Int.reduceEq,or_self] at hh
       go_wp2
       go_meet
       rw [hh];exact ⟨HR1,HB1⟩
     · simp only [reduceIte,Int.reduceEq] at hh
       have hh2:HD=[UInt8.ofNat (2:Int).toNat] ++ Im.setB t.w0 t.w1 t.w2 t.w3 4:=by rw [hh];rfl
       have HH:=Lib.hid hh2
       clear hh hh2
       generalize t.w0=a at *
       generalize t.w1=b at *
       generalize t.w2=c at *
       generalize t.w3=d at *
       go_wp2
       clear d0 d1 d2 d3 d4 d5 d6 d7 d8 d9
       go_loopw [3,4] (fun sv iv wr=>∃ i:Nat,iv=.int .i64 i∧i ≤ 4∧Hid (BR W1.heap.size wr sv ([UInt8.ofNat (2:Int).toNat] ++ Im.setB a b c d i))∧Hid (Below W1.heap.size W1 wr)) (fun _ iv _=>4 - (intOf iv).toNat)
       case atStart=>exact ⟨0,rfl,by omega,by simpa [Im.setB] using HR1,HB1⟩
       case round =>
         obtain ⟨i,rfl,hi,HA,HBA⟩:=hrel
         have hl2:=Im.setB_len a b c d i
         have ZA:=Lib.hid (keep_blk HBA.out Z0.out)
         obtain ⟨d0,d1,d2,d3,d4,d5,d6,d7,d8,d9⟩:=allTen ZA.out
         by_cases hlt:i < 4
         · have hi4:i=0 ∨ i=1 ∨ i=2 ∨ i=3:=by omega
           rcases hi4 with rfl | rfl | rfl | rfl
           · rw [show ((0:Nat):Int)=(0:Int) from rfl]
             go_wp2
             clear d0 d1 d2 d3 d4 d5 d6 d7 d8 d9 ZA HR1 HB1 Z1
             go_loopw [3,5,6] (fun sv wv jv wr=>∃ (j m:Nat),jv=.int .i64 j∧j ≤ 8∧wv=.int .u64 (m:Int)∧m < 18446744073709551616∧Hid (m=a.toNat / 256 ^ j)∧Hid (BR W1.heap.size wr sv ([UInt8.ofNat (2:Int).toNat] ++ Im.setB a b c d 0 ++ Im.wordB a j))∧Hid (Below W1.heap.size W1 wr)) (fun _ _ jv _=>8 - (intOf jv).toNat)
             case atStart=>exact ⟨0,a.toNat,rfl,by omega,rfl,a.isLt,Lib.hid (by simp),by simpa [Im.wordB_zero] using HA,HBA⟩
             case round =>
               obtain ⟨j,m,rfl,hj,rfl,hm,HM,HA2,HBA2⟩:=hrel
               clear HA HBA
               by_cases hjt:j < 8
               · obtain ⟨bb,hbb,hbm,r1⟩:∃ bb:Nat,bb < 256∧bb=m % 256∧(m:Int) % 256=(bb:Int):=⟨m % 256,by omega,rfl,by omega⟩
                 obtain ⟨q,hqm,q1⟩:∃ q:Nat,q=m / 256∧(m:Int) / 256=(q:Int):=⟨m / 256,rfl,by omega⟩
                 have hu:IntKind.u8.wrap (bb:Int)=(bb:Int):=by rw [IntKind.wrap_u8];omega
                 have hwb:IntKind.u64.wrap (bb:Int)=(bb:Int):=by rw [IntKind.wrap_u64];omega
                 have hwq:IntKind.u64.wrap (q:Int)=(q:Int):=by rw [IntKind.wrap_u64];omega
                 have hlk:([UInt8.ofNat (2:Int).toNat] ++ Im.setB a b c d 0 ++ Im.wordB a j).length+1 ≤ 140737488355328:=by simp only [List.length_append,hl2,Im.wordB_len,List.length_cons,List.length_nil];omega
                 have hst:Im.wordB a (j+1)=Im.wordB a j ++ [UInt8.ofNat bb]:=by rw [Im.wordB_succ,← HM.out,← hbm]
                 have HST:=Lib.hid hst;have HQ:=Lib.hid (hqm.trans (by rw [HM.out,← pow256r]))
                 have hq64:q < 18446744073709551616:=by omega
                 have HBN:=Lib.hid (show (bb:Int)=((UInt8.ofNat bb).toNat:Int) by rw [UInt8.toNat_ofNat'];omega)
                 have hwr:=HBA2.out.size
                 have HBX:=Lib.hid (HBA2.out.alloc hwr (.cells #[.int .u8 (bb:Int)] 5))
                 have HRX:=Lib.hid (HA2.out.below ((Below.refl wr.heap.size wr).alloc (Nat.le_refl _) (.cells #[.int .u8 (bb:Int)] 5)))
                 clear hst hqm hbm HM
                 go_wp2_with (first
                   | (at_builtin;refine wp_app1L rfl _ _ rfl (UInt8.ofNat bb) _ _ HBN.out rfl rfl ((cell_new _ _ _ 0).trans rfl) HRX.out HBX.out HBX.out.size hlk ?_;intro v' w' hr' hb')
                   | fail)
                 have HR3:=Lib.hid hr';have HB3:=Lib.hid hb'
                 clear hr' hb' HRX HBX
                 go_wp2
                 exact ⟨⟨j+1,q,by go_num,by omega,rfl,hq64,HQ,Lib.hid (by rw [HST.out,← List.append_assoc];exact HR3.out),HB3⟩,by simp [intOf];omega⟩
               · obtain rfl:j=8:=by omega
                 go_wp2
                 exact ⟨⟨1,by go_num,by omega,Lib.hid (by rw [show Im.setB a b c d 1=Im.setB a b c d 0 ++ Im.wordB a 8 from rfl,← List.append_assoc];exact HA2.out),HBA2⟩,by simp [intOf]⟩
           · rw [show ((1:Nat):Int)=(1:Int) from rfl]
             go_wp2
             clear d0 d1 d2 d3 d4 d5 d6 d7 d8 d9 ZA HR1 HB1 Z1
             go_loopw [3,5,6] (fun sv wv jv wr=>∃ (j m:Nat),jv=.int .i64 j∧j ≤ 8∧wv=.int .u64 (m:Int)∧m < 18446744073709551616∧Hid (m=b.toNat / 256 ^ j)∧Hid (BR W1.heap.size wr sv ([UInt8.ofNat (2:Int).toNat] ++ Im.setB a b c d 1 ++ Im.wordB b j))∧Hid (Below W1.heap.size W1 wr)) (fun _ _ jv _=>8 - (intOf jv).toNat)
             case atStart=>exact ⟨0,b.toNat,rfl,by omega,rfl,b.isLt,Lib.hid (by simp),by simpa [Im.wordB_zero] using HA,HBA⟩
             case round =>
               obtain ⟨j,m,rfl,hj,rfl,hm,HM,HA2,HBA2⟩:=hrel
               clear HA HBA
               by_cases hjt:j < 8
               · obtain ⟨bb,hbb,hbm,r1⟩:∃ bb:Nat,bb < 256∧bb=m % 256∧(m:Int) % 256=(bb:Int):=⟨m % 256,by omega,rfl,by omega⟩
                 obtain ⟨q,hqm,q1⟩:∃ q:Nat,q=m / 256∧(m:Int) / 256=(q:Int):=⟨m / 256,rfl,by omega⟩
                 have hu:IntKind.u8.wrap (bb:Int)=(bb:Int):=by rw [IntKind.wrap_u8];omega
                 have hwb:IntKind.u64.wrap (bb:Int)=(bb:Int):=by rw [IntKind.wrap_u64];omega
                 have hwq:IntKind.u64.wrap (q:Int)=(q:Int):=by rw [IntKind.wrap_u64];omega
                 have hlk:([UInt8.ofNat (2:Int).toNat] ++ Im.setB a b c d 1 ++ Im.wordB b j).length+1 ≤ 140737488355328:=by simp only [List.length_append,hl2,Im.wordB_len,List.length_cons,List.length_nil];omega
                 have hst:Im.wordB b (j+1)=Im.wordB b j ++ [UInt8.ofNat bb]:=by rw [Im.wordB_succ,← HM.out,← hbm]
                 have HST:=Lib.hid hst;have HQ:=Lib.hid (hqm.trans (by rw [HM.out,← pow256r]))
                 have hq64:q < 18446744073709551616:=by omega
                 have HBN:=Lib.hid (show (bb:Int)=((UInt8.ofNat bb).toNat:Int) by rw [UInt8.toNat_ofNat'];omega)
                 have hwr:=HBA2.out.size
                 have HBX:=Lib.hid (HBA2.out.alloc hwr (.cells #[.int .u8 (bb:Int)] 5))
                 have HRX:=Lib.hid (HA2.out.below ((Below.refl wr.heap.size wr).alloc (Nat.le_refl _) (.cells #[.int .u8 (bb:Int)] 5)))
                 clear hst hqm hbm HM
                 go_wp2_with (first
                   | (at_builtin;refine wp_app1L rfl _ _ rfl (UInt8.ofNat bb) _ _ HBN.out rfl rfl ((cell_new _ _ _ 0).trans rfl) HRX.out HBX.out HBX.out.size hlk ?_;intro v' w' hr' hb')
                   | fail)
                 have HR3:=Lib.hid hr';have HB3:=Lib.hid hb'
                 clear hr' hb' HRX HBX
                 go_wp2
                 exact ⟨⟨j+1,q,by go_num,by omega,rfl,hq64,HQ,Lib.hid (by rw [HST.out,← List.append_assoc];exact HR3.out),HB3⟩,by simp [intOf];omega⟩
               · obtain rfl:j=8:=by omega
                 go_wp2
                 exact ⟨⟨2,by go_num,by omega,Lib.hid (by rw [show Im.setB a b c d 2=Im.setB a b c d 1 ++ Im.wordB b 8 from rfl,← List.append_assoc];exact HA2.out),HBA2⟩,by simp [intOf]⟩
           · rw [show ((2:Nat):Int)=(2:Int) from rfl]
             go_wp2
             clear d0 d1 d2 d3 d4 d5 d6 d7 d8 d9 ZA HR1 HB1 Z1
             go_loopw [3,5,6] (fun sv wv jv wr=>∃ (j m:Nat),jv=.int .i64 j∧j ≤ 8∧wv=.int .u64 (m:Int)∧m < 18446744073709551616∧Hid (m=c.toNat / 256 ^ j)∧Hid (BR W1.heap.size wr sv ([UInt8.ofNat (2:Int).toNat] ++ Im.setB a b c d 2 ++ Im.wordB c j))∧Hid (Below W1.heap.size W1 wr)) (fun _ _ jv _=>8 - (intOf jv).toNat)
             case atStart=>exact ⟨0,c.toNat,rfl,by omega,rfl,c.isLt,Lib.hid (by simp),by simpa [Im.wordB_zero] using HA,HBA⟩
             case round =>
               obtain ⟨j,m,rfl,hj,rfl,hm,HM,HA2,HBA2⟩:=hrel
               clear HA HBA
               by_cases hjt:j < 8
               · obtain ⟨bb,hbb,hbm,r1⟩:∃ bb:Nat,bb < 256∧bb=m % 256∧(m:Int) % 256=(bb:Int):=⟨m % 256,by omega,rfl,by omega⟩
                 obtain ⟨q,hqm,q1⟩:∃ q:Nat,q=m / 256∧(m:Int) / 256=(q:Int):=⟨m / 256,rfl,by omega⟩
                 have hu:IntKind.u8.wrap (bb:Int)=(bb:Int):=by rw [IntKind.wrap_u8];omega
                 have hwb:IntKind.u64.wrap (bb:Int)=(bb:Int):=by rw [IntKind.wrap_u64];omega
                 have hwq:IntKind.u64.wrap (q:Int)=(q:Int):=by rw [IntKind.wrap_u64];omega
                 have hlk:([UInt8.ofNat (2:Int).toNat] ++ Im.setB a b c d 2 ++ Im.wordB c j).length+1 ≤ 140737488355328:=by simp only [List.length_append,hl2,Im.wordB_len,List.length_cons,List.length_nil];omega
                 have hst:Im.wordB c (j+1)=Im.wordB c j ++ [UInt8.ofNat bb]:=by rw [Im.wordB_succ,← HM.out,← hbm]
                 have HST:=Lib.hid hst;have HQ:=Lib.hid (hqm.trans (by rw [HM.out,← pow256r]))
                 have hq64:q < 18446744073709551616:=by omega
                 have HBN:=Lib.hid (show (bb:Int)=((UInt8.ofNat bb).toNat:Int) by rw [UInt8.toNat_ofNat'];omega)
                 have hwr:=HBA2.out.size
                 have HBX:=Lib.hid (HBA2.out.alloc hwr (.cells #[.int .u8 (bb:Int)] 5))
                 have HRX:=Lib.hid (HA2.out.below ((Below.refl wr.heap.size wr).alloc (Nat.le_refl _) (.cells #[.int .u8 (bb:Int)] 5)))
                 clear hst hqm hbm HM
                 go_wp2_with (first
                   | (at_builtin;refine wp_app1L rfl _ _ rfl (UInt8.ofNat bb) _ _ HBN.out rfl rfl ((cell_new _ _ _ 0).trans rfl) HRX.out HBX.out HBX.out.size hlk ?_;intro v' w' hr' hb')
                   | fail)
                 have HR3:=Lib.hid hr';have HB3:=Lib.hid hb'
                 clear hr' hb' HRX HBX
                 go_wp2
                 exact ⟨⟨j+1,q,by go_num,by omega,rfl,hq64,HQ,Lib.hid (by rw [HST.out,← List.append_assoc];exact HR3.out),HB3⟩,by simp [intOf];omega⟩
               · obtain rfl:j=8:=by omega
                 go_wp2
                 exact ⟨⟨3,by go_num,by omega,Lib.hid (by rw [show Im.setB a b c d 3=Im.setB a b c d 2 ++ Im.wordB c 8 from rfl,← List.append_assoc];exact HA2.out),HBA2⟩,by simp [intOf]⟩
           · rw [show ((3:Nat):Int)=(3:Int) from rfl]
             go_wp2
             clear d0 d1 d2 d3 d4 d5 d6 d7 d8 d9 ZA HR1 HB1 Z1
             go_loopw [3,5,6] (fun sv wv jv wr=>∃ (j m:Nat),jv=.int .i64 j∧j ≤ 8∧wv=.int .u64 (m:Int)∧m < 18446744073709551616∧Hid (m=d.toNat / 256 ^ j)∧Hid (BR W1.heap.size wr sv ([UInt8.ofNat (2:Int).toNat] ++ Im.setB a b c d 3 ++ Im.wordB d j))∧Hid (Below W1.heap.size W1 wr)) (fun _ _ jv _=>8 - (intOf jv).toNat)
             case atStart=>exact ⟨0,d.toNat,rfl,by omega,rfl,d.isLt,Lib.hid (by simp),by simpa [Im.wordB_zero] using HA,HBA⟩
             case round =>
               obtain ⟨j,m,rfl,hj,rfl,hm,HM,HA2,HBA2⟩:=hrel
               clear HA HBA
               by_cases hjt:j < 8
               · obtain ⟨bb,hbb,hbm,r1⟩:∃ bb:Nat,bb < 256∧bb=m % 256∧(m:Int) % 256=(bb:Int):=⟨m % 256,by omega,rfl,by omega⟩
                 obtain ⟨q,hqm,q1⟩:∃ q:Nat,q=m / 256∧(m:Int) / 256=(q:Int):=⟨m / 256,rfl,by omega⟩
                 have hu:IntKind.u8.wrap (bb:Int)=(bb:Int):=by rw [IntKind.wrap_u8];omega
                 have hwb:IntKind.u64.wrap (bb:Int)=(bb:Int):=by rw [IntKind.wrap_u64];omega
                 have hwq:IntKind.u64.wrap (q:Int)=(q:Int):=by rw [IntKind.wrap_u64];omega
                 have hlk:([UInt8.ofNat (2:Int).toNat] ++ Im.setB a b c d 3 ++ Im.wordB d j).length+1 ≤ 140737488355328:=by simp only [List.length_append,hl2,Im.wordB_len,List.length_cons,List.length_nil];omega
                 have hst:Im.wordB d (j+1)=Im.wordB d j ++ [UInt8.ofNat bb]:=by rw [Im.wordB_succ,← HM.out,← hbm]
                 have HST:=Lib.hid hst;have HQ:=Lib.hid (hqm.trans (by rw [HM.out,← pow256r]))
                 have hq64:q < 18446744073709551616:=by omega
                 have HBN:=Lib.hid (show (bb:Int)=((UInt8.ofNat bb).toNat:Int) by rw [UInt8.toNat_ofNat'];omega)
                 have hwr:=HBA2.out.size
                 have HBX:=Lib.hid (HBA2.out.alloc hwr (.cells #[.int .u8 (bb:Int)] 5))
                 have HRX:=Lib.hid (HA2.out.below ((Below.refl wr.heap.size wr).alloc (Nat.le_refl _) (.cells #[.int .u8 (bb:Int)] 5)))
                 clear hst hqm hbm HM
                 go_wp2_with (first
                   | (at_builtin;refine wp_app1L rfl _ _ rfl (UInt8.ofNat bb) _ _ HBN.out rfl rfl ((cell_new _ _ _ 0).trans rfl) HRX.out HBX.out HBX.out.size hlk ?_;intro v' w' hr' hb')
                   | fail)
                 have HR3:=Lib.hid hr';have HB3:=Lib.hid hb'
                 clear hr' hb' HRX HBX
                 go_wp2
                 exact ⟨⟨j+1,q,by go_num,by omega,rfl,hq64,HQ,Lib.hid (by rw [HST.out,← List.append_assoc];exact HR3.out),HB3⟩,by simp [intOf];omega⟩
               · obtain rfl:j=8:=by omega
                 go_wp2
                 exact ⟨⟨4,by go_num,by omega,Lib.hid (by rw [show Im.setB a b c d 4=Im.setB a b c d 3 ++ Im.wordB d 8 from rfl,← List.append_assoc];exact HA2.out),HBA2⟩,by simp [intOf]⟩
         · obtain rfl:i=4:=by omega
           go_wp2
           go_meet
           rw [HH.out];exact ⟨HA,HBA⟩
     · simp only [reduceIte,Int.reduceEq,or_self] at hh
       go_wp2
       go_meet
       rw [hh];exact ⟨HR1,HB1⟩
     · simp only [reduceIte,Int.reduceEq,or_self] at hh
       go_wp2
       go_meet
       rw [hh];exact ⟨HR1,HB1⟩
     · simp only [reduceIte,Int.reduceEq,true_or] at hh
       have hh2:HD=[UInt8.ofNat (5:Int).toNat] ++ Im.numB ts.length:=by rw [hh];rfl
       have HH:=Lib.hid hh2
       clear hh hh2
       have HCa:=Lib.hid (refnumber_any ts.length hn w1)
       have hl9a:=Im.numB_len9 (n:=ts.length) hn
       generalize Im.numB ts.length=Ma at *
       go_wp2_with fail
       refine HCa.out.mono ?_
       rintro e wa ⟨va,rfl,hra,hba⟩
       obtain ⟨pa,ca,rfl,hna,hcla,-⟩:=hra.slice
       have HRa:=Lib.hid (HR1.out.below hba)
       have HBa:=Lib.hid (HB1.out.trans (hba.mono HB1.out.size))
       have HCLa:=Lib.hid hcla;have HNa:=Lib.hid hna
       clear hra hba hcla hna HCa d0 d1 d2 d3 d4 d5 d6 d7 d8 d9
       have hsa:=HBa.out.size
       go_wp2_with (first
         | (at_builtin;refine wp_appL (m:=Ma) rfl _ _ rfl pa ca rfl rfl HNa.out HCLa.out HRa.out HBa.out hsa (by simp;omega) ?_;intro v' w' hr' hb')
         | fail)
       have HRxa:=Lib.hid hr';have HBxa:=Lib.hid hb'
       clear hr' hb'
       go_wp2
       go_meet
       rw [HH.out];exact ⟨HRxa,HBxa⟩
     · simp only [reduceIte,Int.reduceEq,or_true] at hh
       have hh2:HD=[UInt8.ofNat (6:Int).toNat] ++ Im.numB ts.length:=by rw [hh];rfl
       have HH:=Lib.hid hh2
       clear hh hh2
       have HCa:=Lib.hid (refnumber_any ts.length hn w1)
       have hl9a:=Im.numB_len9 (n:=ts.length) hn
       generalize Im.numB ts.length=Ma at *
       go_wp2_with fail
       refine HCa.out.mono ?_
       rintro e wa ⟨va,rfl,hra,hba⟩
       obtain ⟨pa,ca,rfl,hna,hcla,-⟩:=hra.slice
       have HRa:=Lib.hid (HR1.out.below hba)
       have HBa:=Lib.hid (HB1.out.trans (hba.mono HB1.out.size))
       have HCLa:=Lib.hid hcla;have HNa:=Lib.hid hna
       clear hra hba hcla hna HCa d0 d1 d2 d3 d4 d5 d6 d7 d8 d9
       have hsa:=HBa.out.size
       go_wp2_with (first
         | (at_builtin;refine wp_appL (m:=Ma) rfl _ _ rfl pa ca rfl rfl HNa.out HCLa.out HRa.out HBa.out hsa (by simp;omega) ?_;intro v' w' hr' hb')
         | fail)
       have HRxa:=Lib.hid hr';have HBxa:=Lib.hid hb'
       clear hr' hb'
       go_wp2
       go_meet
       rw [HH.out];exact ⟨HRxa,HBxa⟩
     · simp only [reduceIte,Int.reduceEq,or_self] at hh
       obtain ⟨nn,hnn⟩:∃ nn:Nat,t.num=(nn:Int):=⟨t.num.toNat,by omega⟩
       have hnb:nn ≤ 9223372036854775807:=by omega
       rw [hnn] at hh d6
       rw [Int.toNat_natCast] at hh
       have hh2:HD=[UInt8.ofNat (7:Int).toNat] ++ Im.numB nn:=by rw [hh];rfl
       have HH:=Lib.hid hh2
       clear hh hh2 hnn hn1 hn2
       have HCa:=Lib.hid (refnumber_any nn hnb w1)
       have hl9a:=Im.numB_len9 (n:=nn) hnb
       generalize Im.numB nn=Ma at *
       go_wp2_with fail
       refine HCa.out.mono ?_
       rintro e wa ⟨va,rfl,hra,hba⟩
       obtain ⟨pa,ca,rfl,hna,hcla,-⟩:=hra.slice
       have HRa:=Lib.hid (HR1.out.below hba)
       have HBa:=Lib.hid (HB1.out.trans (hba.mono HB1.out.size))
       have HCLa:=Lib.hid hcla;have HNa:=Lib.hid hna
       clear hra hba hcla hna HCa d0 d1 d2 d3 d4 d5 d6 d7 d8 d9
       have hsa:=HBa.out.size
       go_wp2_with (first
         | (at_builtin;refine wp_appL (m:=Ma) rfl _ _ rfl pa ca rfl rfl HNa.out HCLa.out HRa.out HBa.out hsa (by simp;omega) ?_;intro v' w' hr' hb')
         | fail)
       have HRxa:=Lib.hid hr';have HBxa:=Lib.hid hb'
       clear hr' hb'
       go_wp2
       go_meet
       rw [HH.out];exact ⟨HRxa,HBxa⟩
     · simp only [reduceIte,Int.reduceEq,or_self] at hh
       obtain ⟨lo,hlo2⟩:∃ lo:Nat,t.least=(lo:Int):=⟨t.least.toNat,by omega⟩
       obtain ⟨hi,hhi2⟩:∃ hi:Nat,t.most+1=(hi:Int):=⟨(t.most+1).toNat,by omega⟩
       have hwr:IntKind.i64.wrap (t.most+1)=(hi:Int):=by rw [hhi2];exact IntWalk.i64_in _ (by omega)
       have hlb:lo ≤ 9223372036854775807:=by omega
       have hhb:hi ≤ 9223372036854775807:=by omega
       rw [hhi2,Int.toNat_natCast,hlo2,Int.toNat_natCast] at hh
       have hh2:HD=[UInt8.ofNat (8:Int).toNat] ++ Im.numB lo ++ Im.numB hi ++ [if t.bare then 1 else 0]:=by rw [hh];simp
       have HH:=Lib.hid hh2
       rw [hlo2] at d7
       have Z0r:=Lib.hid Z0.out
       clear hh hh2 hlo2 hlo hhi hhi2
       have HCa:=Lib.hid (refnumber_any lo hlb w1)
       have hl9a:=Im.numB_len9 (n:=lo) hlb
       generalize Im.numB lo=Ma at *
       go_wp2_with fail
       refine HCa.out.mono ?_
       rintro e wa ⟨va,rfl,hra,hba⟩
       obtain ⟨pa,ca,rfl,hna,hcla,-⟩:=hra.slice
       have HRa:=Lib.hid (HR1.out.below hba)
       have HBa:=Lib.hid (HB1.out.trans (hba.mono HB1.out.size))
       have HCLa:=Lib.hid hcla;have HNa:=Lib.hid hna
       clear hra hba hcla hna HCa d0 d1 d2 d3 d4 d5 d6 d7 d8 d9
       have hsa:=HBa.out.size
       go_upto_region 20 with (first
         | (at_builtin;refine wp_appL (m:=Ma) rfl _ _ rfl pa ca rfl rfl HNa.out HCLa.out HRa.out HBa.out hsa (by simp;omega) ?_;intro v' w' hr' hb')
         | fail)
       have HRxa:=Lib.hid hr';have HBxa:=Lib.hid hb'
       clear hr' hb'
       have Za:=Lib.hid (keep_blk HBxa.out Z0r.out)
       rename World=>wa2
       obtain ⟨d0,d1,d2,d3,d4,d5,d6,d7,d8,d9⟩:=allTen Za.out
       have HCb:=Lib.hid (refnumber_any hi hhb wa2)
       have hl9b:=Im.numB_len9 (n:=hi) hhb
       generalize Im.numB hi=Mb at *
       go_wp2_with fail
       refine HCb.out.mono ?_
       rintro e wb ⟨vb,rfl,hrb,hbb⟩
       obtain ⟨pb,cb,rfl,hnb,hclb,-⟩:=hrb.slice
       have HRb:=Lib.hid (HRxa.out.below hbb)
       have HBb:=Lib.hid (HBxa.out.trans (hbb.mono HBxa.out.size))
       have HCLb:=Lib.hid hclb;have HNb:=Lib.hid hnb
       clear hrb hbb hclb hnb HCb d0 d1 d2 d3 d4 d5 d6 d7 d8 d9
       have hsb:=HBb.out.size
       go_upto_region 21 with (first
         | (at_builtin;refine wp_appL (m:=Mb) rfl _ _ rfl pb cb rfl rfl HNb.out HCLb.out HRb.out HBb.out hsb (by simp;omega) ?_;intro v' w' hr' hb')
         | fail)
       have HRxb:=Lib.hid hr';have HBxb:=Lib.hid hb'
       clear hr' hb'
       have Zb:=Lib.hid (keep_blk HBxb.out Z0r.out)
       rename World=>wb2
       obtain ⟨d0,d1,d2,d3,d4,d5,d6,d7,d8,d9⟩:=allTen Zb.out
       have HBy:=Lib.hid (fun o=>HBxb.out.alloc HBxb.out.size o)
       have HRy:=Lib.hid (fun o=>HRxb.out.below ((Below.refl wb2.heap.size wb2).alloc (Nat.le_refl _) o))
       have hsy:=HBxb.out.size
       have hl9y:([UInt8.ofNat (8:Int).toNat] ++ Ma ++ Mb).length+1 ≤ 140737488355328:=by simp only [List.length_append,List.length_cons,List.length_nil];omega
       rcases Bool.eq_false_or_eq_true t.bare with hbr | hbr
       · rw [hbr] at d9 HH
         have HH2:=Lib.hid (HH.out.trans (by rw [if_pos rfl]))
         clear hbr HH
         go_wp2_with (first
           | (at_builtin;refine wp_app1L rfl _ _ rfl 1 _ _ rfl rfl rfl ((cell_new _ _ _ 0).trans rfl) (HRy.out _) (HBy.out _) (Nat.le_trans hsy (by simp)) hl9y ?_;intro v' w' hr' hb')
           | fail)
         have HRz:=Lib.hid hr';have HBz:=Lib.hid hb'
         clear hr' hb'
         go_wp2
         go_meet
         rw [HH2.out];exact ⟨HRz,HBz⟩
       · rw [hbr] at d9 HH
         have HH2:=Lib.hid (HH.out.trans (by rw [if_neg (by decide)]))
         clear hbr HH
         go_wp2_with (first
           | (at_builtin;refine wp_app1L rfl _ _ rfl 0 _ _ rfl rfl rfl ((cell_new _ _ _ 0).trans rfl) (HRy.out _) (HBy.out _) (Nat.le_trans hsy (by simp)) hl9y ?_;intro v' w' hr' hb')
           | fail)
         have HRz:=Lib.hid hr';have HBz:=Lib.hid hb'
         clear hr' hb'
         go_wp2
         go_meet
         rw [HH2.out];exact ⟨HRz,HBz⟩
   case rest =>
     obtain ⟨HA3,HB3⟩:=hcut
     have hlh:=HLEN.out
     clear HHEAD HKC hu HR1 HB1 Z1 d0 d1 d2 d3 d4 d5 d6 d7 d8 d9 hk hk8 hn
     go_wp2
     go_loopw [3,7] (fun sv iv wr=>∃ m:Nat,iv=.int .i64 m∧m ≤ ts.length∧Hid (BR W1.heap.size wr sv (HD ++ Im.imS (ts.take m)))∧Hid (Below W1.heap.size W1 wr)) (fun _ iv _=>ts.length - (intOf iv).toNat)
     case atStart=>exact ⟨0,rfl,Nat.zero_le _,by simpa [Im.imS] using HA3,HB3⟩
     case round =>
       obtain ⟨m,rfl,hm,HA,HB⟩:=hrel
       clear HA3 HB3
       have wm:IntKind.i64.wrap ((m:Int)+1)=(m:Int)+1:=IntWalk.i64_in _ (by omega)
       have Z2:=Lib.hid (keep_blk HB.out Z0.out)
       obtain ⟨d0,d1,d2,d3,d4,d5,d6,d7,d8,d9⟩:=allTen Z2.out
       by_cases hlt:m < ts.length
       · obtain ⟨x,hx⟩:∃ x,ts[m]? = some x:=⟨_,List.getElem?_eq_getElem hlt⟩
         have HBW:=Lib.hid (HW.out.trans (HB.out.mono HW.out.size))
         obtain ⟨b1,o1,s1,rfl,-,t1,sub1⟩:=HS.out.get hx
         obtain ⟨g0,g1,g2,g3,g4,g5,g6,g7,g8,g9⟩:=t1.keep (HBW.out.block _ t1.lt)
         have hmem:=List.mem_of_getElem? hx
         obtain ⟨p1,c1,rfl,hl1⟩:=sub1.slice
         have hst:=Im.imS_take ts m x hx
         have hle1:=Im.imT_le hmem
         have hle2:=Im.imS_le ts (m+1)
         rw [hst,List.length_append] at hle2
         have HST:=Lib.hid hst
         have HC:=Lib.hid (fun w' h=>IH.out x hmem (by omega) w' C (.agg (x.cells (.slice p1 x.subs.length c1))) ⟨_,rfl,sub1.later (w':=w') h⟩)
         clear t1 sub1 hmem hx hst
         unfold Tr.cells at HC
         generalize Im.imT x=N at *
         go_wp2_with fail
         refine (HC.out wr HBW.out).mono ?_
         rintro e w2 ⟨v2,rfl,hr2,hb2⟩
         obtain ⟨p2,c2,rfl,hn2,hcl2,-⟩:=hr2.slice
         have HR2:=Lib.hid (HA.out.below hb2)
         have HB2:=Lib.hid (HB.out.trans (hb2.mono HB.out.size))
         have HCL:=Lib.hid hcl2;have HN2:=Lib.hid hn2
         have hs2:=HB2.out.size
         clear hr2 hb2 hcl2 hn2 HC g0 g1 g2 g3 g4 g5 g6 g7 g8 g9 d0 d1 d2 d3 d4 d5 d6 d7 d8 d9
         go_wp2_with (first
           | (at_builtin;refine wp_appL (m:=N) rfl _ _ rfl p2 c2 rfl rfl HN2.out HCL.out HR2.out HB2.out hs2 (by simp only [List.length_append] at *;omega) ?_;intro v' w' hr' hb')
           | fail)
         have HRz:=Lib.hid hr';have HBz:=Lib.hid hb'
         clear hr' hb'
         go_wp2
         exact ⟨⟨m+1,by go_num,by omega,Lib.hid (by rw [HST.out,← List.append_assoc];exact HRz.out),HBz⟩,by simp [intOf];omega⟩
       · obtain rfl:m=ts.length:=by omega
         rw [List.take_length] at *
         go_wp2
         go_ret
         exact ⟨_,rfl,HA.out.mono HW.out.size,HW.out.trans (HB.out.mono HW.out.size)⟩
end Go.Proofs.YtoepdfpnkmccoaaDoor
namespace Go.Proofs.YtoepdfpnkmccoaaDoor
open Go.RowKit
namespace Tr
def usedT (t:Tr):Tr:=.node t.kind (if t.kind=2 then t.w0 else 0#64) (if t.kind=2 then t.w1 else 0#64) (if t.kind=2 then t.w2 else 0#64) (if t.kind=2 then t.w3 else 0#64) [] (if t.kind=7 then t.num else 0) (if t.kind=8 then t.least else 0) (if t.kind=8 then t.most else 0) (if t.kind=8 then t.bare else false)
end Tr
theorem refused_plain (k:Int) (a b c d:BitVec 64) (n lo hi:Int) (br:Bool) (p:Option Addr) (l cp:Nat) (w:World):Calls Tryd.prog 100 #[.agg #[.int .i64 k,.int .u64 (Oc.U a),.int .u64 (Oc.U b),.int .u64 (Oc.U c),.int .u64 (Oc.U d),.slice p l cp,.int .i64 n,.int .i64 lo,.int .i64 hi,.bool br]] w fun e w' =>
   e=.returned (.agg #[.int .i64 k,.int .u64 (Oc.U (if k=2 then a else 0#64)),.int .u64 (Oc.U (if k=2 then b else 0#64)),.int .u64 (Oc.U (if k=2 then c else 0#64)),.int .u64 (Oc.U (if k=2 then d else 0#64)),.slice none 0 0,.int .i64 (if k=7 then n else 0),.int .i64 (if k=8 then lo else 0),.int .i64 (if k=8 then hi else 0),.bool (if k=8 then br else false)])∧Below w.heap.size w w':=by
 have u0:Oc.U 0#64=0:=by decide
 by_cases h2:k=2
 · subst h2
   simp only [if_true,reduceIte,Int.reduceEq]
   clear u0
   go_enter Tryd.func100,Tryd.ntmps100
   go_wp2
   exact bodyPost_ret (results_cell_row rfl _ _ (w.heap.size+1) 29 _ (0,0) _ rfl (three_new _ _ _ _).2.1 Tryd.underlying29 rfl (by kernel_rfl)) rfl ⟨rfl,by go_grown⟩
 have e2:(k == 2)=false:=by simpa using h2
 simp only [if_neg h2,u0]
 clear u0 h2
 by_cases h7:k=7
 · subst h7
   simp only [if_true,reduceIte,Int.reduceEq]
   go_enter Tryd.func100,Tryd.ntmps100
   go_wp2
   exact bodyPost_ret (results_cell_row rfl _ _ (w.heap.size+1) 29 _ (0,0) _ rfl (three_new _ _ _ _).2.1 Tryd.underlying29 rfl (by kernel_rfl)) rfl ⟨rfl,by go_grown⟩
 have e7:(k == 7)=false:=by simpa using h7
 simp only [if_neg h7]
 clear h7
 by_cases h8:k=8
 · subst h8
   simp only [if_true]
   go_enter Tryd.func100,Tryd.ntmps100
   go_wp2
   exact bodyPost_ret (results_cell_row rfl _ _ (w.heap.size+1) 29 _ (0,0) _ rfl (three_new _ _ _ _).2.1 Tryd.underlying29 rfl (by kernel_rfl)) rfl ⟨rfl,by go_grown⟩
 have e8:(k == 8)=false:=by simpa using h8
 simp only [if_neg h8]
 clear h8
 go_enter Tryd.func100,Tryd.ntmps100
 go_wp2
 exact bodyPost_ret (results_cell_row rfl _ _ (w.heap.size+1) 29 _ (0,0) _ rfl (three_new _ _ _ _).2.1 Tryd.underlying29 rfl (by kernel_rfl)) rfl ⟨rfl,by go_grown⟩
theorem refused_any (t:Tr) (s:Value) (hs:∃ p l c,s=.slice p l c) (w:World):Calls Tryd.prog 100 #[.agg (t.cells s)] w fun e w'=>e=.returned (.agg (t.usedT.cells (.slice none 0 0)))∧Below w.heap.size w w':=by
 obtain ⟨p,l,c,rfl⟩:=hs
 exact refused_plain t.kind t.w0 t.w1 t.w2 t.w3 t.num t.least t.most t.bare p l c w
end Go.Proofs.YtoepdfpnkmccoaaDoor
namespace Go.Proofs.YtoepdfpnkmccoaaDoor
open Go.RowKit
namespace Tr
def misV (k:Int) (S:Bool) (n un lo ulo hi uhi:Int) (br ubr:Bool):Bool:=decide (k < 1) || decide (8 < k) || !S || (n != un) || (lo != ulo) || (hi != uhi) || (br != ubr)
def badV (k:Int) (len:Nat) (n lo hi:Int) (br:Bool):Bool :=
 if k=5 ∨ k=6 then decide (len < 2)
 else if k=7 then len != 1 || decide (n < 1) || decide (999 < n)
 else if k=8 then len != 1 || decide (lo < 0) || decide (255 < lo) || decide (hi < -1) || decide (255 < hi) || (decide (0 ≤ hi) && decide (hi < lo)) || (br && lo != 0)
 else len != 0
def sameW (a b c d a' b' c' d':BitVec 64):Bool:=Oc.U a == Oc.U a' && (Oc.U b == Oc.U b' && (Oc.U c == Oc.U c' && Oc.U d == Oc.U d'))
theorem sameW_iff {a b c d a' b' c' d':BitVec 64} : sameW a b c d a' b' c' d'=true ↔ a=a'∧b=b'∧c=c'∧d=d':=by
 unfold sameW
 rw [Bool.and_eq_true,Bool.and_eq_true,Bool.and_eq_true,beq_iff_eq,beq_iff_eq,beq_iff_eq,beq_iff_eq]
 exact ⟨fun h=>⟨Oc.U_inj h.1,Oc.U_inj h.2.1,Oc.U_inj h.2.2.1,Oc.U_inj h.2.2.2⟩,fun h=>by rw [h.1,h.2.1,h.2.2.1,h.2.2.2];exact ⟨rfl,rfl,rfl,rfl⟩⟩
def mism (t:Tr):Bool:=misV t.kind (sameW t.w0 t.w1 t.w2 t.w3 t.usedT.w0 t.usedT.w1 t.usedT.w2 t.usedT.w3) t.num t.usedT.num t.least t.usedT.least t.most t.usedT.most t.bare t.usedT.bare
def bad (t:Tr):Bool:=badV t.kind t.subs.length t.num t.least t.most t.bare
theorem mism_iff (t:Tr):t.mism=false ↔ (1 ≤ t.kind∧t.kind ≤ 8)∧(t.kind=2 ∨ (t.w0=0#64∧t.w1=0#64∧t.w2=0#64∧t.w3=0#64))∧(t.kind=7 ∨ t.num=0)∧(t.kind=8 ∨ (t.least=0∧t.most=0∧t.bare=false)):=by
 unfold mism misV usedT
 simp only [Bool.or_eq_false_iff,decide_eq_false_iff_not,Bool.not_eq_false',sameW_iff,bne_eq_false_iff_eq,Tr.w0,Tr.w1,Tr.w2,Tr.w3,Tr.num,Tr.least,Tr.most,Tr.bare]
 by_cases h2:t.kind=2
 · simp only [h2];simp [and_assoc]
 · by_cases h7:t.kind=7
   · simp only [h7];simp [and_assoc]
   · by_cases h8:t.kind=8
     · simp only [h8];simp [and_assoc]
     · simp only [h2,h7,h8];simp [and_assoc]
theorem fieldsB_ref (t:Tr):t.fieldsB=(!t.mism && !t.bad):=by
 rw [Bool.eq_iff_iff,fieldsB_iff,Bool.and_eq_true,Bool.not_eq_true',Bool.not_eq_true',mism_iff]
 unfold bad badV fieldsOk
 have hl:∀ m:Nat,(t.subs.length != m)=false ↔ t.subs.length=m:=fun m=>by simp
 constructor
 · rintro (⟨h | h | h,a,b,c,d,i,e,f,g,j⟩ | ⟨h,i,e,f,g,j⟩ | ⟨h | h,a,b,c,d,i,e,f,g,j⟩ | ⟨h,a,b,c,d,i,e1,e2,f,g,j⟩ | ⟨h,a,b,c,d,i,e,f1,f2,f3,f4⟩) <;> simp only [h] at * <;> simp_all <;> omega
 · rintro ⟨⟨⟨h1,h2⟩,h3,h4,h5⟩,h6⟩
   have hk:t.kind=1 ∨ t.kind=2 ∨ t.kind=3 ∨ t.kind=4 ∨ t.kind=5 ∨ t.kind=6 ∨ t.kind=7 ∨ t.kind=8:=by omega
   rcases hk with h | h | h | h | h | h | h | h <;> simp only [h] at * <;> simp_all <;> omega
end Tr
end Go.Proofs.YtoepdfpnkmccoaaDoor
namespace Go.Proofs.YtoepdfpnkmccoaaDoor
open Go.RowKit
theorem refform_step (k:Int) (a b c d:BitVec 64) (us:List Tr) (n lo hi:Int) (br:Bool) (p:Option Addr) (cap:Nat) (ua ub uc ud:BitVec 64) (un ulo uhi:Int) (ubr:Bool) (w:World) (B:Nat→Prop)
   (HU:Hid (∀ w,Calls Tryd.prog 100 #[.agg #[.int .i64 k,.int .u64 (Oc.U a),.int .u64 (Oc.U b),.int .u64 (Oc.U c),.int .u64 (Oc.U d),.slice p us.length cap,.int .i64 n,.int .i64 lo,.int .i64 hi,.bool br]] w fun e w'=>e=.returned (.agg #[.int .i64 k,.int .u64 (Oc.U ua),.int .u64 (Oc.U ub),.int .u64 (Oc.U uc),.int .u64 (Oc.U ud),.slice none 0 0,.int .i64 un,.int .i64 ulo,.int .i64 uhi,.bool ubr])∧Below w.heap.size w w'))
   (HS:Hid (TreesAt w B (.slice p us.length cap) us)) (hlen:us.length * 96 ≤ 140737488351232)
   (IH:Hid (∀ x,x ∈ us→∀ w B v,NodeV w B v x→Calls Tryd.prog 68 #[v] w fun e w'=>e=.returned (.bool x.formB)∧Below w.heap.size w w')) :
   Calls Tryd.prog 68 #[.agg #[.int .i64 k,.int .u64 (Oc.U a),.int .u64 (Oc.U b),.int .u64 (Oc.U c),.int .u64 (Oc.U d),.slice p us.length cap,.int .i64 n,.int .i64 lo,.int .i64 hi,.bool br]] w fun e w'=>e=.returned (.bool ((!Tr.misV k (Tr.sameW a b c d ua ub uc ud) n un lo ulo hi uhi br ubr && !Tr.badV k us.length n lo hi br) && Tr.formS us))∧Below w.heap.size w w':=by
 have he:=eq4
 obtain ⟨S,hS⟩:∃ S,Tr.sameW a b c d ua ub uc ud=S:=⟨_,rfl⟩
 obtain ⟨M,hM⟩:∃ M,Tr.misV k S n un lo ulo hi uhi br ubr=M:=⟨_,rfl⟩
 obtain ⟨Bd,hB⟩:∃ Bd,Tr.badV k us.length n lo hi br=Bd:=⟨_,rfl⟩
 obtain ⟨R,hR⟩:∃ R,((!M && !Bd) && Tr.formS us)=R:=⟨_,rfl⟩
 rw [hS,hM,hB,hR]
 have HR:=Lib.hid hR
 unfold Tr.sameW at hS
 unfold Tr.misV at hM
 unfold Tr.badV at hB
 have HM:=Lib.hid hM;have HBd:=Lib.hid hB;have HSm:=Lib.hid hS;have HLen:=Lib.hid hlen
 clear hM hB hR hS hlen
 go_enter Tryd.func68,Tryd.ntmps68
 go_wp2_with fail
 refine (HU.out _).mono ?_
 rintro e W0 ⟨rfl,hb1⟩
 have Z1:=Lib.hid (keep_blk hb1 (heap_alloc_new w _))
 have HB1:=Lib.hid (((Below.refl _ _).alloc (Nat.le_refl _) _).trans (hb1.mono (by simp)))
 have hs1:w.heap.size < W0.heap.size:=by have:=hb1.size;simp at this;omega
 clear hb1 HU
 go_upto_region 2 with (fail)
 have Z2:=Lib.hid (heap_alloc_lt (o:=.cells #[.int .i64 k,.int .u64 (Oc.U ua),.int .u64 (Oc.U ub),.int .u64 (Oc.U uc),.int .u64 (Oc.U ud),.slice none 0 0,.int .i64 un,.int .i64 ulo,.int .i64 uhi,.bool ubr] 29) Z1.out)
 have Y2:=Lib.hid (heap_alloc_new W0 (.cells #[.int .i64 k,.int .u64 (Oc.U ua),.int .u64 (Oc.U ub),.int .u64 (Oc.U uc),.int .u64 (Oc.U ud),.slice none 0 0,.int .i64 un,.int .i64 ulo,.int .i64 uhi,.bool ubr] 29))
 have HB2:=Lib.hid (HB1.out.alloc HB1.out.size (.cells #[.int .i64 k,.int .u64 (Oc.U ua),.int .u64 (Oc.U ub),.int .u64 (Oc.U uc),.int .u64 (Oc.U ud),.slice none 0 0,.int .i64 un,.int .i64 ulo,.int .i64 uhi,.bool ubr] 29))
 have hs2:w.heap.size < (W0.alloc (.cells #[.int .i64 k,.int .u64 (Oc.U ua),.int .u64 (Oc.U ub),.int .u64 (Oc.U uc),.int .u64 (Oc.U ud),.slice none 0 0,.int .i64 un,.int .i64 ulo,.int .i64 uhi,.bool ubr] 29)).heap.size:=by simp;omega
 clear Z1 HB1
 generalize W0.alloc (.cells #[.int .i64 k,.int .u64 (Oc.U ua),.int .u64 (Oc.U ub),.int .u64 (Oc.U uc),.int .u64 (Oc.U ud),.slice none 0 0,.int .i64 un,.int .i64 ulo,.int .i64 uhi,.bool ubr] 29)=W2 at *
 go_cut [51] (fun u wx=>u=.bool M∧W2=wx)
 case first =>
   have hM:=HM.out;have hS:=HSm.out
   obtain ⟨d0,d1,d2,d3,d4,d5,d6,d7,d8,d9⟩:=allTen Z2.out
   obtain ⟨u0,u1,u2,u3,u4,u5,u6,u7,u8,u9⟩:=allTen Y2.out
   clear HM HBd HSm HR HS IH HB2 hs2
   rcases bool_or (decide (k < 1)) with q0 | q0
   · rw [q0] at hM
     subst hM
     go_wp2
     go_meet
     exact ⟨rfl,rfl⟩
   rcases bool_or (decide (8 < k)) with q1 | q1
   · rw [q0,q1] at hM
     subst hM
     go_wp2
     go_meet
     exact ⟨rfl,rfl⟩
   cases S with
   | false =>
     rw [q0,q1] at hM
     subst hM
     go_wp2
     go_meet
     exact ⟨rfl,rfl⟩
   | true =>
     rcases bool_or (n != un) with q3 | q3
     · rw [q0,q1,q3] at hM
       subst hM
       go_wp2
       go_meet
       exact ⟨rfl,rfl⟩
     rcases bool_or (lo != ulo) with q4 | q4
     · rw [q0,q1,q3,q4] at hM
       subst hM
       go_wp2
       go_meet
       exact ⟨rfl,rfl⟩
     rcases bool_or (hi != uhi) with q5 | q5
     · rw [q0,q1,q3,q4,q5] at hM
       subst hM
       go_wp2
       go_meet
       exact ⟨rfl,rfl⟩
     cases br <;> cases ubr <;> (
       rw [q0,q1,q3,q4,q5] at hM
       subst hM
       go_wp2
       go_meet
       exact ⟨rfl,rfl⟩)
 case rest =>
   obtain ⟨rfl,rfl⟩:=hcut
   clear HM HSm Y2
   cases M with
   | true =>
     have hr:=HR.out
     rw [Bool.not_true,Bool.false_and,Bool.false_and] at hr
     subst hr
     clear HR HBd HS IH
     go_wp2
     go_ret
     exact ⟨rfl,HB2.out⟩
   | false =>
     have hr:=HR.out
     rw [Bool.not_false,Bool.true_and] at hr
     have HR:=Lib.hid hr
     clear hr
     have hB:=HBd.out
     clear HBd
     have z5:=(allTen Z2.out).2.2.2.2.2.1
     obtain ⟨d0,d1,d2,d3,d4,d5,d6,d7,d8,d9⟩:=allTen Z2.out
     by_cases kk5:k=5
     · subst kk5
       rw [if_pos (by decide)] at hB
       have hl2:decide ((us.length:Int) < 2)=decide (us.length < 2):=by
         by_cases h:us.length < 2
         · rw [decide_eq_true h,decide_eq_true (by omega)]
         · rw [decide_eq_false h,decide_eq_false (by omega)]
       cases Bd with
       | true =>
         have hr:=HR.out
         rw [Bool.not_true,Bool.false_and] at hr
         subst hr
         rw [hB] at hl2
         go_wp2
         go_ret
         exact ⟨rfl,HB2.out⟩
       | false =>
         have hr:=HR.out
         rw [Bool.not_false,Bool.true_and] at hr
         have HR:=Lib.hid hr
         clear hr
         rw [hB] at hl2
         go_wp2
         clear d0 d1 d2 d3 d4 d5 d6 d7 d8 d9
         go_loopw [5] (fun iv wr=>∃ m:Nat,iv=.int .i64 m∧m ≤ us.length∧Hid (Tr.formS (us.take m)=true)∧Hid (Below w.heap.size w wr)∧w.heap.size < wr.heap.size∧Hid (wr.cell? ⟨w.heap.size,5,none⟩=some (.slice p us.length cap))) (fun iv _=>us.length - (intOf iv).toNat)
         case atStart=>exact ⟨0,rfl,Nat.zero_le _,Lib.hid rfl,HB2,hs2,Lib.hid z5⟩
         case round =>
           obtain ⟨m,rfl,hm,HT,HB,hsz,Z0⟩:=hrel
           clear z5
           have wm:IntKind.i64.wrap ((m:Int)+1)=(m:Int)+1:=IntWalk.i64_in _ (by have:=HLen.out;omega)
           by_cases hlt:m < us.length
           · obtain ⟨x,hx⟩:∃ x,us[m]? = some x:=⟨_,List.getElem?_eq_getElem hlt⟩
             obtain ⟨b1,o1,s1,rfl,-,t1,sub1⟩:=HS.out.get hx
             obtain ⟨d0,d1,d2,d3,d4,d5,d6,d7,d8,d9⟩:=t1.keep (HB.out.block _ t1.lt)
             have hmem:=List.mem_of_getElem? hx
             have HC:=Lib.hid (IH.out x hmem wr B (.agg (x.cells s1)) ⟨_,rfl,sub1.later HB.out⟩)
             have hst:=Tr.formS_take us m x hx
             rw [HT.out,Bool.true_and] at hst
             have HST:=Lib.hid hst
             have z5:=Z0.out
             clear t1 sub1 hmem hx hst
             unfold Tr.cells at HC
             go_wp2_with fail
             refine HC.out.mono ?_
             rintro e w2 ⟨rfl,hb2⟩
             have HB2:=Lib.hid (HB.out.trans (hb2.mono HB.out.size));have Y2:=Lib.hid ((hb2.cell (p:=⟨w.heap.size,5,none⟩) hsz).trans z5)
             have hsz2:w.heap.size < w2.heap.size:=Nat.lt_of_lt_of_le hsz hb2.size
             clear d0 d1 d2 d3 d4 d5 d6 d7 d8 d9 z5 hb2 HC
             cases hxf:x.formB with
             | false =>
               rw [hxf] at HST
               have hr:=HR.out
               rw [Tr.formS_no HST.out] at hr
               subst hr
               clear hxf
               go_wp2
               go_ret
               exact ⟨rfl,HB2.out⟩
             | true =>
               rw [hxf] at HST
               clear hxf
               go_wp2
               exact ⟨⟨m+1,by go_num,by omega,HST,HB2,hsz2,Y2⟩,by simp [intOf];omega⟩
           · obtain rfl:m=us.length:=by omega
             rw [List.take_length] at *
             have hr:=HR.out
             rw [HT.out] at hr
             subst hr
             go_wp2
             go_ret
             exact ⟨rfl,HB.out⟩
     have n5:(k == 5)=false:=by simpa using kk5
     by_cases kk6:k=6
     · subst kk6
       rw [if_pos (by decide)] at hB
       have hl2:decide ((us.length:Int) < 2)=decide (us.length < 2):=by
         by_cases h:us.length < 2
         · rw [decide_eq_true h,decide_eq_true (by omega)]
         · rw [decide_eq_false h,decide_eq_false (by omega)]
       cases Bd with
       | true =>
         have hr:=HR.out
         rw [Bool.not_true,Bool.false_and] at hr
         subst hr
         rw [hB] at hl2
         go_wp2
         go_ret
         exact ⟨rfl,HB2.out⟩
       | false =>
         have hr:=HR.out
         rw [Bool.not_false,Bool.true_and] at hr
         have HR:=Lib.hid hr
         clear hr
         rw [hB] at hl2
         go_wp2
         clear d0 d1 d2 d3 d4 d5 d6 d7 d8 d9
         go_loopw [5] (fun iv wr=>∃ m:Nat,iv=.int .i64 m∧m ≤ us.length∧Hid (Tr.formS (us.take m)=true)∧Hid (Below w.heap.size w wr)∧w.heap.size < wr.heap.size∧Hid (wr.cell? ⟨w.heap.size,5,none⟩=some (.slice p us.length cap))) (fun iv _=>us.length - (intOf iv).toNat)
         case atStart=>exact ⟨0,rfl,Nat.zero_le _,Lib.hid rfl,HB2,hs2,Lib.hid z5⟩
         case round =>
           obtain ⟨m,rfl,hm,HT,HB,hsz,Z0⟩:=hrel
           clear z5
           have wm:IntKind.i64.wrap ((m:Int)+1)=(m:Int)+1:=IntWalk.i64_in _ (by have:=HLen.out;omega)
           by_cases hlt:m < us.length
           · obtain ⟨x,hx⟩:∃ x,us[m]? = some x:=⟨_,List.getElem?_eq_getElem hlt⟩
             obtain ⟨b1,o1,s1,rfl,-,t1,sub1⟩:=HS.out.get hx
             obtain ⟨d0,d1,d2,d3,d4,d5,d6,d7,d8,d9⟩:=t1.keep (HB.out.block _ t1.lt)
             have hmem:=List.mem_of_getElem? hx
             have HC:=Lib.hid (IH.out x hmem wr B (.agg (x.cells s1)) ⟨_,rfl,sub1.later HB.out⟩)
             have hst:=Tr.formS_take us m x hx
             rw [HT.out,Bool.true_and] at hst
             have HST:=Lib.hid hst
             have z5:=Z0.out
             clear t1 sub1 hmem hx hst
             unfold Tr.cells at HC
             go_wp2_with fail
             refine HC.out.mono ?_
             rintro e w2 ⟨rfl,hb2⟩
             have HB2:=Lib.hid (HB.out.trans (hb2.mono HB.out.size));have Y2:=Lib.hid ((hb2.cell (p:=⟨w.heap.size,5,none⟩) hsz).trans z5)
             have hsz2:w.heap.size < w2.heap.size:=Nat.lt_of_lt_of_le hsz hb2.size
             clear d0 d1 d2 d3 d4 d5 d6 d7 d8 d9 z5 hb2 HC
             cases hxf:x.formB with
             | false =>
               rw [hxf] at HST
               have hr:=HR.out
               rw [Tr.formS_no HST.out] at hr
               subst hr
               clear hxf
               go_wp2
               go_ret
               exact ⟨rfl,HB2.out⟩
             | true =>
               rw [hxf] at HST
               clear hxf
               go_wp2
               exact ⟨⟨m+1,by go_num,by omega,HST,HB2,hsz2,Y2⟩,by simp [intOf];omega⟩
           · obtain rfl:m=us.length:=by omega
             rw [List.take_length] at *
             have hr:=HR.out
             rw [HT.out] at hr
             subst hr
             go_wp2
             go_ret
             exact ⟨rfl,HB.out⟩
     have n6:(k == 6)=false:=by simpa using kk6
     by_cases kk7:k=7
     · subst kk7
       rw [if_neg (by decide),if_pos rfl] at hB
       have hl1:((us.length:Int) != 1)=(us.length != 1):=by
         by_cases h:us.length=1
         · rw [h];rfl
         · have e1:(us.length != 1)=true:=by simpa using h
           have e2:((us.length:Int) != 1)=true:=by rw [bne_iff_ne];omega
           rw [e1,e2]
       rcases bool_or (us.length != 1) with q0 | q0
       · rw [q0] at hB hl1
         simp only [Bool.true_or] at hB
         subst hB
         have hr:=HR.out
         rw [Bool.not_true,Bool.false_and] at hr
         subst hr
         go_wp2
         go_ret
         exact ⟨rfl,HB2.out⟩
       rw [q0] at hl1
       rcases bool_or (decide (n < 1)) with q1 | q1
       · rw [q0,q1] at hB
         simp only [Bool.true_or,Bool.or_true] at hB
         subst hB
         have hr:=HR.out
         rw [Bool.not_true,Bool.false_and] at hr
         subst hr
         go_wp2
         go_ret
         exact ⟨rfl,HB2.out⟩
       rcases bool_or (decide (999 < n)) with q2 | q2
       · rw [q0,q1,q2] at hB
         simp only [Bool.or_false,Bool.or_true] at hB
         subst hB
         have hr:=HR.out
         rw [Bool.not_true,Bool.false_and] at hr
         subst hr
         go_wp2
         go_ret
         exact ⟨rfl,HB2.out⟩
       rw [q0,q1,q2] at hB
       simp only [Bool.or_false] at hB
       subst hB
       have hr:=HR.out
       rw [Bool.not_false,Bool.true_and] at hr
       have HR:=Lib.hid hr
       clear hr
       go_wp2
       clear d0 d1 d2 d3 d4 d5 d6 d7 d8 d9
       go_loopw [5] (fun iv wr=>∃ m:Nat,iv=.int .i64 m∧m ≤ us.length∧Hid (Tr.formS (us.take m)=true)∧Hid (Below w.heap.size w wr)∧w.heap.size < wr.heap.size∧Hid (wr.cell? ⟨w.heap.size,5,none⟩=some (.slice p us.length cap))) (fun iv _=>us.length - (intOf iv).toNat)
       case atStart=>exact ⟨0,rfl,Nat.zero_le _,Lib.hid rfl,HB2,hs2,Lib.hid z5⟩
       case round =>
         obtain ⟨m,rfl,hm,HT,HB,hsz,Z0⟩:=hrel
         clear z5
         have wm:IntKind.i64.wrap ((m:Int)+1)=(m:Int)+1:=IntWalk.i64_in _ (by have:=HLen.out;omega)
         by_cases hlt:m < us.length
         · obtain ⟨x,hx⟩:∃ x,us[m]? = some x:=⟨_,List.getElem?_eq_getElem hlt⟩
           obtain ⟨b1,o1,s1,rfl,-,t1,sub1⟩:=HS.out.get hx
           obtain ⟨d0,d1,d2,d3,d4,d5,d6,d7,d8,d9⟩:=t1.keep (HB.out.block _ t1.lt)
           have hmem:=List.mem_of_getElem? hx
           have HC:=Lib.hid (IH.out x hmem wr B (.agg (x.cells s1)) ⟨_,rfl,sub1.later HB.out⟩)
           have hst:=Tr.formS_take us m x hx
           rw [HT.out,Bool.true_and] at hst
           have HST:=Lib.hid hst
           have z5:=Z0.out
           clear t1 sub1 hmem hx hst
           unfold Tr.cells at HC
           go_wp2_with fail
           refine HC.out.mono ?_
           rintro e w2 ⟨rfl,hb2⟩
           have HB2:=Lib.hid (HB.out.trans (hb2.mono HB.out.size));have Y2:=Lib.hid ((hb2.cell (p:=⟨w.heap.size,5,none⟩) hsz).trans z5)
           have hsz2:w.heap.size < w2.heap.size:=Nat.lt_of_lt_of_le hsz hb2.size
           clear d0 d1 d2 d3 d4 d5 d6 d7 d8 d9 z5 hb2 HC
           cases hxf:x.formB with
           | false =>
             rw [hxf] at HST
             have hr:=HR.out
             rw [Tr.formS_no HST.out] at hr
             subst hr
             clear hxf
             go_wp2
             go_ret
             exact ⟨rfl,HB2.out⟩
           | true =>
             rw [hxf] at HST
             clear hxf
             go_wp2
             exact ⟨⟨m+1,by go_num,by omega,HST,HB2,hsz2,Y2⟩,by simp [intOf];omega⟩
         · obtain rfl:m=us.length:=by omega
           rw [List.take_length] at *
           have hr:=HR.out
           rw [HT.out] at hr
           subst hr
           go_wp2
           go_ret
           exact ⟨rfl,HB.out⟩
     have n7:(k == 7)=false:=by simpa using kk7
     by_cases kk8:k=8
     · subst kk8
       rw [if_neg (by decide),if_neg (by decide),if_pos rfl] at hB
       have hl1:((us.length:Int) != 1)=(us.length != 1):=by
         by_cases h:us.length=1
         · rw [h];rfl
         · have e1:(us.length != 1)=true:=by simpa using h
           have e2:((us.length:Int) != 1)=true:=by rw [bne_iff_ne];omega
           rw [e1,e2]
       have HB:=Lib.hid hB
       clear hB
       go_upto_region 16 with (fail)
       go_cut [122] (fun u wx=>u=.bool Bd∧W2=wx)
       case first =>
         have hB:=HB.out
         clear HB HR HS IH HB2 hs2
         rcases bool_or (us.length != 1) with q0 | q0
         · rw [q0] at hB hl1
           subst hB
           go_wp2
           go_meet
           exact ⟨rfl,rfl⟩
         rw [q0] at hl1
         rcases bool_or (decide (lo < 0)) with q1 | q1
         · rw [q0,q1] at hB
           subst hB
           go_wp2
           go_meet
           exact ⟨rfl,rfl⟩
         rcases bool_or (decide (255 < lo)) with q2 | q2
         · rw [q0,q1,q2] at hB
           subst hB
           go_wp2
           go_meet
           exact ⟨rfl,rfl⟩
         rcases bool_or (decide (hi < -1)) with q3 | q3
         · rw [q0,q1,q2,q3] at hB
           subst hB
           go_wp2
           go_meet
           exact ⟨rfl,rfl⟩
         rcases bool_or (decide (255 < hi)) with q4 | q4
         · rw [q0,q1,q2,q3,q4] at hB
           subst hB
           go_wp2
           go_meet
           exact ⟨rfl,rfl⟩
         rcases bool_or (decide (0 ≤ hi)) with q5 | q5 <;> rcases bool_or (decide (hi < lo)) with q6 | q6 <;> rcases bool_or (lo != 0) with q7 | q7 <;> cases br <;> (
           rw [q0,q1,q2,q3,q4,q5,q6,q7] at hB
           subst hB
           go_wp2
           go_meet
           exact ⟨rfl,rfl⟩)
       case rest =>
         obtain ⟨rfl,rfl⟩:=hcut
         clear HB hl1
         cases Bd with
         | true =>
           have hr:=HR.out
           rw [Bool.not_true,Bool.false_and] at hr
           subst hr
           go_wp2
           go_ret
           exact ⟨rfl,HB2.out⟩
         | false =>
           have hr:=HR.out
           rw [Bool.not_false,Bool.true_and] at hr
           have HR:=Lib.hid hr
           clear hr
           go_wp2
           clear d0 d1 d2 d3 d4 d5 d6 d7 d8 d9
           go_loopw [5] (fun iv wr=>∃ m:Nat,iv=.int .i64 m∧m ≤ us.length∧Hid (Tr.formS (us.take m)=true)∧Hid (Below w.heap.size w wr)∧w.heap.size < wr.heap.size∧Hid (wr.cell? ⟨w.heap.size,5,none⟩=some (.slice p us.length cap))) (fun iv _=>us.length - (intOf iv).toNat)
           case atStart=>exact ⟨0,rfl,Nat.zero_le _,Lib.hid rfl,HB2,hs2,Lib.hid z5⟩
           case round =>
             obtain ⟨m,rfl,hm,HT,HB,hsz,Z0⟩:=hrel
             clear z5
             have wm:IntKind.i64.wrap ((m:Int)+1)=(m:Int)+1:=IntWalk.i64_in _ (by have:=HLen.out;omega)
             by_cases hlt:m < us.length
             · obtain ⟨x,hx⟩:∃ x,us[m]? = some x:=⟨_,List.getElem?_eq_getElem hlt⟩
               obtain ⟨b1,o1,s1,rfl,-,t1,sub1⟩:=HS.out.get hx
               obtain ⟨d0,d1,d2,d3,d4,d5,d6,d7,d8,d9⟩:=t1.keep (HB.out.block _ t1.lt)
               have hmem:=List.mem_of_getElem? hx
               have HC:=Lib.hid (IH.out x hmem wr B (.agg (x.cells s1)) ⟨_,rfl,sub1.later HB.out⟩)
               have hst:=Tr.formS_take us m x hx
               rw [HT.out,Bool.true_and] at hst
               have HST:=Lib.hid hst
               have z5:=Z0.out
               clear t1 sub1 hmem hx hst
               unfold Tr.cells at HC
               go_wp2_with fail
               refine HC.out.mono ?_
               rintro e w2 ⟨rfl,hb2⟩
               have HB2:=Lib.hid (HB.out.trans (hb2.mono HB.out.size));have Y2:=Lib.hid ((hb2.cell (p:=⟨w.heap.size,5,none⟩) hsz).trans z5)
               have hsz2:w.heap.size < w2.heap.size:=Nat.lt_of_lt_of_le hsz hb2.size
               clear d0 d1 d2 d3 d4 d5 d6 d7 d8 d9 z5 hb2 HC
               cases hxf:x.formB with
               | false =>
                 rw [hxf] at HST
                 have hr:=HR.out
                 rw [Tr.formS_no HST.out] at hr
                 subst hr
                 clear hxf
                 go_wp2
                 go_ret
                 exact ⟨rfl,HB2.out⟩
               | true =>
                 rw [hxf] at HST
                 clear hxf
                 go_wp2
                 exact ⟨⟨m+1,by go_num,by omega,HST,HB2,hsz2,Y2⟩,by simp [intOf];omega⟩
             · obtain rfl:m=us.length:=by omega
               rw [List.take_length] at *
               have hr:=HR.out
               rw [HT.out] at hr
               subst hr
               go_wp2
               go_ret
               exact ⟨rfl,HB.out⟩
     have n8:(k == 8)=false:=by simpa using kk8
     rw [if_neg (by omega),if_neg kk7,if_neg kk8] at hB
     have hl0:((us.length:Int) != 0)=(us.length != 0):=by
       by_cases h:us.length=0
       · rw [h];rfl
       · have e1:(us.length != 0)=true:=by simpa using h
         have e2:((us.length:Int) != 0)=true:=by rw [bne_iff_ne];omega
         rw [e1,e2]
     cases Bd with
     | true =>
       have hr:=HR.out
       rw [Bool.not_true,Bool.false_and] at hr
       subst hr
       rw [hB] at hl0
       clear kk5 kk6 kk7 kk8
       go_wp2
       go_ret
       exact ⟨rfl,HB2.out⟩
     | false =>
       have hr:=HR.out
       rw [Bool.not_false,Bool.true_and] at hr
       have HR:=Lib.hid hr
       clear hr
       rw [hB] at hl0
       clear kk5 kk6 kk7 kk8
       go_wp2
       clear d0 d1 d2 d3 d4 d5 d6 d7 d8 d9
       go_loopw [5] (fun iv wr=>∃ m:Nat,iv=.int .i64 m∧m ≤ us.length∧Hid (Tr.formS (us.take m)=true)∧Hid (Below w.heap.size w wr)∧w.heap.size < wr.heap.size∧Hid (wr.cell? ⟨w.heap.size,5,none⟩=some (.slice p us.length cap))) (fun iv _=>us.length - (intOf iv).toNat)
       case atStart=>exact ⟨0,rfl,Nat.zero_le _,Lib.hid rfl,HB2,hs2,Lib.hid z5⟩
       case round =>
         obtain ⟨m,rfl,hm,HT,HB,hsz,Z0⟩:=hrel
         clear z5
         have wm:IntKind.i64.wrap ((m:Int)+1)=(m:Int)+1:=IntWalk.i64_in _ (by have:=HLen.out;omega)
         by_cases hlt:m < us.length
         · obtain ⟨x,hx⟩:∃ x,us[m]? = some x:=⟨_,List.getElem?_eq_getElem hlt⟩
           obtain ⟨b1,o1,s1,rfl,-,t1,sub1⟩:=HS.out.get hx
           obtain ⟨d0,d1,d2,d3,d4,d5,d6,d7,d8,d9⟩:=t1.keep (HB.out.block _ t1.lt)
           have hmem:=List.mem_of_getElem? hx
           have HC:=Lib.hid (IH.out x hmem wr B (.agg (x.cells s1)) ⟨_,rfl,sub1.later HB.out⟩)
           have hst:=Tr.formS_take us m x hx
           rw [HT.out,Bool.true_and] at hst
           have HST:=Lib.hid hst
           have z5:=Z0.out
           clear t1 sub1 hmem hx hst
           unfold Tr.cells at HC
           go_wp2_with fail
           refine HC.out.mono ?_
           rintro e w2 ⟨rfl,hb2⟩
           have HB2:=Lib.hid (HB.out.trans (hb2.mono HB.out.size));have Y2:=Lib.hid ((hb2.cell (p:=⟨w.heap.size,5,none⟩) hsz).trans z5)
           have hsz2:w.heap.size < w2.heap.size:=Nat.lt_of_lt_of_le hsz hb2.size
           clear d0 d1 d2 d3 d4 d5 d6 d7 d8 d9 z5 hb2 HC
           cases hxf:x.formB with
           | false =>
             rw [hxf] at HST
             have hr:=HR.out
             rw [Tr.formS_no HST.out] at hr
             subst hr
             clear hxf
             go_wp2
             go_ret
             exact ⟨rfl,HB2.out⟩
           | true =>
             rw [hxf] at HST
             clear hxf
             go_wp2
             exact ⟨⟨m+1,by go_num,by omega,HST,HB2,hsz2,Y2⟩,by simp [intOf];omega⟩
         · obtain rfl:m=us.length:=by omega
           rw [List.take_length] at *
           have hr:=HR.out
           rw [HT.out] at hr
           subst hr
           go_wp2
           go_ret
           exact ⟨rfl,HB.out⟩
theorem refform_any:∀ t:Tr,∀ (w:World) (B:Nat→Prop) (v:Value),NodeV w B v t→Calls Tryd.prog 68 #[v] w fun e w'=>e=.returned (.bool t.formB)∧Below w.heap.size w w':=by
 intro t
 induction t using Tr.rec_subs with
 | h t ih =>
   intro w B v hv
   obtain ⟨s,rfl,hs⟩:=hv
   obtain ⟨p,cap,rfl,hlen⟩:=hs.slice
   have h:=refform_step t.kind t.w0 t.w1 t.w2 t.w3 t.subs t.num t.least t.most t.bare p cap t.usedT.w0 t.usedT.w1 t.usedT.w2 t.usedT.w3 t.usedT.num t.usedT.least t.usedT.most t.usedT.bare w B (Lib.hid (fun w=>refused_any t _ ⟨p,t.subs.length,cap,rfl⟩ w)) (Lib.hid hs) hlen (Lib.hid (fun x hx w B v hv=>ih x hx w B v hv))
   rw [Tr.formB_eq,Tr.fieldsB_ref]
   exact h
end Go.Proofs.YtoepdfpnkmccoaaDoor
namespace Go.Proofs.YtoepdfpnkmccoaaDoor
open Go.RowKit
theorem Tr.dpT_ref (t:Tr):t.dpT=Tr.dpS t.subs+(if (((t.kind == 8) && decide (0 < t.subs.length)) && !((t.least == 0) && ((t.most == 1) || (t.most == -1))))=true then 2 else 1):=by
 rw [Tr.dpT_eq]
 by_cases h0:t.subs.length=0
 · have e:t.subs=[]:=List.length_eq_zero_iff.1 h0
   rw [if_pos h0,e]
   simp [Tr.dpS]
 · rw [if_neg h0]
   have e:decide (0 < t.subs.length)=true:=by rw [decide_eq_true_eq];omega
   rw [e]
   congr 1
   have:(t.kind=8∧¬ (t.least=0∧(t.most=1 ∨ t.most = -1))) ↔ ((((t.kind == 8) && true) && !((t.least == 0) && ((t.most == 1) || (t.most == -1))))=true):=by by_cases a:t.least=0 <;> simp [a]
   by_cases h:t.kind=8∧¬ (t.least=0∧(t.most=1 ∨ t.most = -1))
   · rw [if_pos h,if_pos (this.1 h)]
   · rw [if_neg h,if_neg (fun h2=>h (this.2 h2))]
theorem refdepth_any:∀ t:Tr,t.dpT ≤ 1000000→∀ (w:World) (B:Nat→Prop) (v:Value),NodeV w B v t→Calls Tryd.prog 81 #[v] w (SizeEnd t.dpT w):=by
 intro t
 induction t using Tr.rec_subs with
 | h t ih =>
   intro hd w B v hv
   obtain ⟨s,rfl,hs⟩:=hv
   obtain ⟨p,cap,rfl,hlen⟩:=hs.slice
   have heq:=Tr.dpT_ref t
   rw [heq] at hd ⊢
   clear heq
   generalize hts:t.subs=ts at *
   have IH:=Lib.hid ih;have HS:=Lib.hid hs
   clear ih hs hts
   unfold Tr.cells at *
   have hle:Tr.dpS ts ≤ 1000000:=by omega
   generalize hD:Tr.dpS ts+(if (((t.kind == 8) && decide (0 < ts.length)) && !((t.least == 0) && ((t.most == 1) || (t.most == -1))))=true then 2 else 1)=D at *
   have HDE:=Lib.hid hD
   have Z0:=Lib.hid (heap_alloc_new w (.cells #[.int .i64 t.kind,.int .u64 (Oc.U t.w0),.int .u64 (Oc.U t.w1),.int .u64 (Oc.U t.w2),.int .u64 (Oc.U t.w3),.slice p ts.length cap,.int .i64 t.num,.int .i64 t.least,.int .i64 t.most,.bool t.bare] 29))
   have HW:=Lib.hid (show Below w.heap.size w (w.alloc (.cells #[.int .i64 t.kind,.int .u64 (Oc.U t.w0),.int .u64 (Oc.U t.w1),.int .u64 (Oc.U t.w2),.int .u64 (Oc.U t.w3),.slice p ts.length cap,.int .i64 t.num,.int .i64 t.least,.int .i64 t.most,.bool t.bare] 29)) from (Below.refl _ _).alloc (Nat.le_refl _) _)
   have hz:w.heap.size < (w.alloc (.cells #[.int .i64 t.kind,.int .u64 (Oc.U t.w0),.int .u64 (Oc.U t.w1),.int .u64 (Oc.U t.w2),.int .u64 (Oc.U t.w3),.slice p ts.length cap,.int .i64 t.num,.int .i64 t.least,.int .i64 t.most,.bool t.bare] 29)).heap.size:=by simp
   have HD:=Lib.hid hd
   clear hd hD
   go_enter Tryd.func81,Tryd.ntmps81
   go_wp2
   generalize w.alloc (.cells #[.int .i64 t.kind,.int .u64 (Oc.U t.w0),.int .u64 (Oc.U t.w1),.int .u64 (Oc.U t.w2),.int .u64 (Oc.U t.w3),.slice p ts.length cap,.int .i64 t.num,.int .i64 t.least,.int .i64 t.most,.bool t.bare] 29)=W0 at *
   go_loopw [3,4] (fun gv iv wr=>∃ m:Nat,iv=.int .i64 m∧m ≤ ts.length∧gv=.int .i64 (Tr.dpS (ts.take m):Nat)∧Hid (Below W0.heap.size W0 wr)) (fun _ iv _=>ts.length - (intOf iv).toNat)
   case atStart=>exact ⟨0,rfl,Nat.zero_le _,rfl,Lib.hid (Below.refl _ _)⟩
   case round =>
     obtain ⟨m,rfl,hm,rfl,HB⟩:=hrel
     have wm:IntKind.i64.wrap ((m:Int)+1)=(m:Int)+1:=IntWalk.i64_in _ (by omega)
     have HBW:=Lib.hid (HW.out.trans (HB.out.mono HW.out.size))
     have Z1:=Lib.hid (keep_blk (HB.out.mono (Nat.le_refl _)) Z0.out)
     have z5:=(allTen Z1.out).2.2.2.2.2.1
     by_cases hlt:m < ts.length
     · obtain ⟨x,hx⟩:∃ x,ts[m]? = some x:=⟨_,List.getElem?_eq_getElem hlt⟩
       obtain ⟨b1,o1,s1,rfl,-,t1,sub1⟩:=HS.out.get hx
       obtain ⟨d0,d1,d2,d3,d4,d5,d6,d7,d8,d9⟩:=t1.keep (HBW.out.block _ t1.lt)
       have hmem:=List.mem_of_getElem? hx
       obtain ⟨p1,c1,rfl,hl1⟩:=sub1.slice
       have hdx:x.dpT ≤ 1000000:=by have:=Tr.dpT_le_dpS hmem;omega
       have HC:=Lib.hid (fun w9 hb=>IH.out x hmem hdx w9 B (.agg (x.cells (.slice p1 x.subs.length c1))) ⟨_,rfl,sub1.later hb⟩)
       have HSTP:=Lib.hid (Tr.dpS_take ts m x hx)
       clear t1 sub1 hmem hx hdx
       generalize hn:Tr.dpS (ts.take m)=n at *
       clear hn
       unfold Tr.cells at HC
       go_wp2_with fail
       refine (HC.out wr HBW.out).mono ?_
       rintro e w2 ⟨rfl,hb2⟩
       have HB2:=Lib.hid (HB.out.trans (hb2.mono HB.out.size))
       clear d0 d1 d2 d3 d4 d5 d6 d7 d8 d9 z5 hb2 HC
       generalize x.dpT=N at *
       go_wp2
       all_goals
         exact ⟨⟨m+1,by go_num,by omega,by rw [HSTP.out];simp;try omega,HB2⟩,by simp [intOf];omega⟩
     · obtain rfl:m=ts.length:=by omega
       rw [List.take_length] at *
       have w2':IntKind.i64.wrap ((Tr.dpS ts:Int)+2)=(Tr.dpS ts:Int)+2:=IntWalk.i64_in _ (by omega)
       have w1':IntKind.i64.wrap ((Tr.dpS ts:Int)+1)=(Tr.dpS ts:Int)+1:=IntWalk.i64_in _ (by omega)
       have hde:=HDE.out
       clear z5
       obtain ⟨d0,d1,d2,d3,d4,d5,d6,d7,d8,d9⟩:=allTen Z1.out
       have hl:decide ((0:Int) < ts.length)=decide (0 < ts.length):=by
         by_cases h:0 < ts.length
         · rw [decide_eq_true h,decide_eq_true (by omega)]
         · rw [decide_eq_false h,decide_eq_false (by omega)]
       rcases bool_or (t.kind == 8) with q1 | q1 <;> rcases bool_or (decide (0 < ts.length)) with q2 | q2 <;> rcases bool_or (t.least == 0) with q3 | q3 <;> rcases bool_or (t.most == 1) with q4 | q4 <;> rcases bool_or (t.most == -1) with q5 | q5 <;> (
         rw [q1,q2,q3,q4,q5] at hde
         rw [q2] at hl
         simp only [Bool.and_true,Bool.and_false,Bool.or_true,Bool.or_false,Bool.not_true,Bool.not_false,if_true,if_false,Bool.false_eq_true] at hde
         have HDF:=Lib.hid hde
         clear hde
         go_wp2
         go_ret
         exact ⟨ret_int (by have:=HDF.out;omega),HBW.out⟩)
theorem refcheck_any (t:Tr) (hd:t.dpT ≤ 1000000) (w:World) (B:Nat→Prop) (v:Value) (hv:NodeV w B v t):Calls Tryd.prog 44 #[v] w (SizeEnd t.checkC w):=by
 obtain ⟨s,rfl,hs⟩:=hv
 have H1:=Lib.hid (fun w' hb=>refform_any t w' B (.agg (t.cells s)) ⟨s,rfl,TreesAt.later (w':=w') hs hb⟩)
 have H2:=Lib.hid (fun w' hb=>refdepth_any t hd w' B (.agg (t.cells s)) ⟨s,rfl,TreesAt.later (w':=w') hs hb⟩)
 have H3:=Lib.hid (fun (hf:t.InForm) w' hb=>refsize_any t hf w' B (.agg (t.cells s)) ⟨s,rfl,TreesAt.later (w':=w') hs hb⟩)
 obtain ⟨p,cap,rfl,hlen⟩:=hs.slice
 have Z0:=Lib.hid (heap_alloc_new w (.cells (t.cells (.slice p t.subs.length cap)) 29))
 have hfi:=Tr.formB_iff t
 have HFI:=Lib.hid hfi
 have HCC:=Lib.hid (show t.checkC=if t.formB=false then 13 else if 200 < t.dpT then 14 else if 2000 < t.szT then 10 else 0 from rfl)
 clear hs hd hfi
 unfold Tr.cells at *
 go_enter Tryd.func44,Tryd.ntmps44
 go_wp2_with (first
   | (refine wpList_load_row rfl 29 (.tmp 1) rfl w.heap.size rfl 29 _ (0,0) _ Z0.out Tryd.underlying29 rfl (by kernel_rfl) ?_)
   | fail)
 refine (H1.out _ ((Below.refl _ _).alloc (Nat.le_refl _) _)).mono ?_
 rintro e w1 ⟨rfl,hb1⟩
 have Z1:=Lib.hid (keep_blk hb1 Z0.out)
 have HB1:=Lib.hid (((Below.refl w.heap.size w).alloc (Nat.le_refl _) _).trans (hb1.mono (by simp)))
 clear hb1 Z0
 have hcc:=HCC.out
 cases hfb:t.formB with
 | false =>
   rw [if_pos hfb] at hcc
   have HCV:=Lib.hid hcc
   clear hcc HCC HFI hfb
   go_wp2
   go_ret
   exact ⟨ret_int (by rw [HCV.out];rfl),HB1.out⟩
 | true =>
   have hform:=HFI.out.1 hfb
   have H3':=Lib.hid (H3.out hform)
   rw [if_neg (by rw [hfb];decide)] at hcc
   have HC2:=Lib.hid hcc
   clear hcc HCC HFI hfb hform H3
   go_wp2_with (first
     | (refine wpList_load_row rfl 29 (.tmp 1) rfl w.heap.size rfl 29 _ (0,0) _ Z1.out Tryd.underlying29 rfl (by kernel_rfl) ?_)
     | fail)
   refine (H2.out _ HB1.out).mono ?_
   rintro e w2 ⟨rfl,hb2⟩
   have Z2:=Lib.hid (keep_blk hb2 Z1.out)
   have HB2:=Lib.hid (HB1.out.trans (hb2.mono HB1.out.size))
   clear hb2 Z1
   have hcc:=HC2.out
   by_cases hd:200 < t.dpT
   · rw [if_pos hd] at hcc
     have HCV:=Lib.hid hcc
     have e1:decide ((200:Int) < t.dpT)=true:=by simp;omega
     have e1':decide (200 < t.dpT)=true:=by simpa using hd
     clear hcc HC2 hd
     generalize t.dpT=D at *
     go_wp2
     go_ret
     exact ⟨ret_int (by rw [HCV.out];rfl),HB2.out⟩
   · have e1:decide ((200:Int) < t.dpT)=false:=by simp;omega
     have e1':decide (200 < t.dpT)=false:=by simpa using hd
     rw [if_neg hd] at hcc
     have HC3:=Lib.hid hcc
     clear hcc HC2 hd
     generalize t.dpT=D at *
     go_wp2_with (first
       | (refine wpList_load_row rfl 29 (.tmp 1) rfl w.heap.size rfl 29 _ (0,0) _ Z2.out Tryd.underlying29 rfl (by kernel_rfl) ?_)
       | fail)
     refine (H3'.out _ HB2.out).mono ?_
     rintro e w3 ⟨rfl,hb3⟩
     have HB3:=Lib.hid (HB2.out.trans (hb3.mono HB2.out.size))
     clear hb3 Z2
     have hcc:=HC3.out
     by_cases hz:2000 < t.szT
     · rw [if_pos hz] at hcc
       have HCV:=Lib.hid hcc
       have z1:decide ((2000:Int) < t.szT)=true:=by simp;omega
       have z1':decide (2000 < t.szT)=true:=by simpa using hz
       clear hcc HC3 hz
       generalize t.szT=ZT at *
       go_wp2
       go_ret
       exact ⟨ret_int (by rw [HCV.out];rfl),HB3.out⟩
     · rw [if_neg hz] at hcc
       have HCV:=Lib.hid hcc
       have z1:decide ((2000:Int) < t.szT)=false:=by simp;omega
       have z1':decide (2000 < t.szT)=false:=by simpa using hz
       clear hcc HC3 hz
       generalize t.szT=ZT at *
       go_wp2
       go_ret
       exact ⟨ret_int (by rw [HCV.out];rfl),HB3.out⟩
end Go.Proofs.YtoepdfpnkmccoaaDoor
namespace Go.Proofs.YtoepdfpnkmccoaaDoor
open Go.RowKit
def RefEncEnd (t:Tr) (w:World) (e:Ending) (w':World):Prop:=∃ v,e=.returned (.tuple #[v,.int .i64 (t.checkC:Int)])∧BR w.heap.size w' v (if t.checkC=0 then Im.head ++ Im.imT t else [])∧Below w.heap.size w w'
theorem Im.imT_pos (t:Tr):0 < (Im.imT t).length:=by rw [Im.imT_eq,List.length_append];unfold Im.headB;rw [List.length_cons];omega
theorem refencode_any (t:Tr) (hd:t.ndT ≤ 400000) (w:World) (C:Nat→Prop) (v:Value) (hv:NodeV w C v t):Calls Tryd.prog 36 #[v] w (RefEncEnd t w):=by
 have hdp:=Tr.dp_nd t
 have HC:=Lib.hid (fun w' (h:Below w.heap.size w w')=>refcheck_any t (by omega) w' C v (hv.later h))
 have HL:=Lib.hid (show t.checkC=0→(Im.imT t).length ≤ 16000000 from fun h=>by have:=Im.imT_nd t (Tr.checkC_zero.1 h).1 (by omega);omega)
 have HN:=Lib.hid (fun (h:t.checkC=0) w' (hb:Below w.heap.size w w')=>refnode_any t (Tr.checkC_zero.1 h).1 (by have:=HL.out h;omega) w' C v (hv.later hb))
 have hpos:=Im.imT_pos t
 obtain ⟨s,rfl,hs⟩:=hv
 obtain ⟨p,cap,rfl,hlens⟩:=hs.slice
 have Z0:=Lib.hid (heap_alloc_new w (.cells (t.cells (.slice p t.subs.length cap)) 29))
 have HW:=Lib.hid (show Below w.heap.size w (w.alloc (.cells (t.cells (.slice p t.subs.length cap)) 29)) from (Below.refl _ _).alloc (Nat.le_refl _) _)
 clear hs hd hdp
 have hcv:∀ w:World,(convert 22 22 (.slice (some ⟨w.heap.size,0,none⟩) 5 5)).run Tryd.prog (w.alloc (.cells #[.int .u8 84,.int .u8 82,.int .u8 87,.int .u8 76,.int .u8 1] 5))=.ok (.slice (some ⟨w.heap.size,0,none⟩) 5 5) (w.alloc (.cells #[.int .u8 84,.int .u8 82,.int .u8 87,.int .u8 76,.int .u8 1] 5 (5,6))) :=
   fun w=>Lib.run_convert_bytes_const w 22 5 #[.int .u8 84,.int .u8 82,.int .u8 87,.int .u8 76,.int .u8 1] 5 5 Tryd.underlying22 Tryd.underlying5
 unfold Tr.cells at *
 go_enter Tryd.func36,Tryd.ntmps36
 go_wp2_with (first
   | (refine wpList_load_row rfl 29 (.tmp 1) rfl w.heap.size rfl 29 _ (0,0) _ Z0.out Tryd.underlying29 rfl (by kernel_rfl) ?_)
   | fail)
 refine (HC.out _ HW.out).mono ?_
 rintro e w1 ⟨rfl,hb1⟩
 have Z1:=Lib.hid (keep_blk (hb1.mono (Nat.le_refl _)) Z0.out)
 have HB1:=Lib.hid (HW.out.trans (hb1.mono HW.out.size))
 clear hb1 Z0 HC HW
 by_cases h0:t.checkC=0
 · have HN1:=Lib.hid (HN.out h0)
   have hl:=HL.out h0
   have HI:=Lib.hid (show (if t.checkC=0 then Im.head ++ Im.imT t else [])=Im.head ++ Im.imT t from if_pos h0)
   have HBW:=Lib.hid (HB1.out.alloc HB1.out.size (.cells #[.int .u8 84,.int .u8 82,.int .u8 87,.int .u8 76,.int .u8 1] 5 (5,6)))
   have HRW:=Lib.hid (show Full w.heap.size (w1.alloc (.cells #[.int .u8 84,.int .u8 82,.int .u8 87,.int .u8 76,.int .u8 1] 5 (5,6))) (.slice (some ⟨w1.heap.size,0,none⟩) 5 5) Im.head from ⟨w1.heap.size,(5,6),_,rfl,HB1.out.size,heap_alloc_new _ _,head_cells⟩)
   have Z2:=Lib.hid (heap_alloc_lt (o:=.cells #[.int .u8 84,.int .u8 82,.int .u8 87,.int .u8 76,.int .u8 1] 5 (5,6)) Z1.out)
   have HE0:=Lib.hid h0
   rw [h0]
   clear h0 HL HN
   obtain ⟨M,hM⟩:∃ M,Im.imT t=M:=⟨_,rfl⟩
   have HI2:=Lib.hid (HI.out.trans (by rw [hM]))
   rw [hM] at hl hpos HN1
   clear hM HI
   go_wp2_with (first
     | (refine wpList_load_row rfl 29 (.tmp 1) rfl w.heap.size rfl 29 _ (0,0) _ Z2.out Tryd.underlying29 rfl (by kernel_rfl) ?_)
     | fail)
   refine (HN1.out _ HBW.out).mono ?_
   rintro e w2 ⟨v2,rfl,hr2,hb2⟩
   obtain ⟨p2,c2,rfl,hn2,hcl2,-⟩:=hr2.slice
   have HR2:=Lib.hid (show Full w.heap.size w2 _ Im.head from (HRW.out.elim fun g h=>h.elim fun fz h=>h.elim fun cs h=>⟨g,fz,cs,h.1,h.2.1,keep_blk hb2 h.2.2.1,h.2.2.2⟩))
   have HB2:=Lib.hid (HBW.out.trans (hb2.mono HBW.out.size))
   have HCL:=Lib.hid hcl2;have HNN:=Lib.hid hn2
   have hs2:=HB2.out.size
   clear hr2 hb2 hcl2 hn2 HN1 HRW
   go_wp2_with (first
     | (at_builtin;refine wp_appLF (m:=M) rfl _ _ rfl p2 c2 rfl rfl HNN.out hpos HCL.out HR2.out HB2.out hs2 (by simp [Im.head];omega) ?_;intro v' w' hr' hb')
     | fail)
   have HRz:=Lib.hid hr';have HBz:=Lib.hid hb'
   clear hr' hb'
   go_ret2
   exact ⟨v',congrArg (fun x:Nat=>Ending.returned (.tuple #[v',.int .i64 (x:Int)])) HE0.out.symm,by rw [HI2.out];exact HRz.out,HBz.out⟩
 · have HI:=Lib.hid (show (if t.checkC=0 then Im.head ++ Im.imT t else [])=[] from if_neg h0)
   have e1:((t.checkC:Int) != 0)=true:=by rw [bne_iff_ne];omega
   clear HL HN
   go_wp2
   go_ret2
   exact ⟨.slice none 0 0,rfl,by rw [HI.out];exact BR.nil _ _,HB1.out⟩
end Go.Proofs.YtoepdfpnkmccoaaDoor
namespace Go.Proofs.YtoepdfpnkmccoaaDoor
open Go.RowKit
namespace Im
theorem rN_of_decB {l:List UInt8} {t:Tr} (hl:l.length ≤ 100000) (h:decB l=some t):rN 200 (l.drop 5)=some (t,[])∧l=head ++ imT t∧t.checkC=0:=by
 obtain ⟨rfl,hc,-⟩:=decB_some h
 obtain ⟨hf,hd,-⟩:=Tr.checkC_zero.1 hc
 have hn:=ndT_le_imT t
 have hn2:t.ndT ≤ 100000:=by rw [List.length_append] at hl;omega
 have h2:=rN_imT t 200 [] hf hd (by omega)
 rw [List.append_nil] at h2
 refine ⟨?_,rfl,hc⟩
 rw [drop_head]
 exact h2
end Im
def RdEnd (l:List UInt8) (w:World) (e:Ending) (w':World):Prop :=
 Below w.heap.size w w'∧match Im.decB l with
   | some t=>∃ s,e=.returned (.tuple #[.agg (t.cells s),.int .i64 0])∧TreesAt w' (fun b=>w.heap.size ≤ b) s t.subs
   | none=>e=.returned (.tuple #[.agg #[.int .i64 0,.int .u64 0,.int .u64 0,.int .u64 0,.int .u64 0,.slice none 0 0,.int .i64 0,.int .i64 0,.int .i64 0,.bool false],.int .i64 17])
theorem refdecode_any (l:List UInt8) (hl:l.length ≤ 100000) (w:World) (v:Value) (hv:BsAt w v l):Calls Tryd.prog 11 #[v] w (RdEnd l w):=by
 have HDN:=Lib.hid (fun t=>Im.rN_of_decB (t:=t) hl)
 have hS:=heap_alloc_new w (.cells #[.int .i64 0,.int .u64 0,.int .u64 0,.int .u64 0,.int .u64 0,.slice none 0 0,.int .i64 0,.int .i64 0,.int .i64 0,.bool false] 29)
 have HY:=Lib.hid hS
 have HW1:=Lib.hid (show Below w.heap.size w (w.alloc (.cells #[.int .i64 0,.int .u64 0,.int .u64 0,.int .u64 0,.int .u64 0,.slice none 0 0,.int .i64 0,.int .i64 0,.int .i64 0,.bool false] 29)) from (Below.refl _ _).alloc (Nat.le_refl _) _)
 have HZ1:=Lib.hid (show (w.alloc (.cells #[.int .i64 0,.int .u64 0,.int .u64 0,.int .u64 0,.int .u64 0,.slice none 0 0,.int .i64 0,.int .i64 0,.int .i64 0,.bool false] 29)).heap.size=w.heap.size+1 by simp)
 have HBS:=Lib.hid hv
 clear hS
 by_cases h5:l.length < 5
 · have hn:Im.decB l=none:=by unfold Im.decB;rw [isHead_short h5];rfl
   have HN:=Lib.hid hn
   obtain ⟨p,c,rfl,-⟩:=hv.len
   have d1:decide ((l.length:Int) < 5)=true:=decide_eq_true (by omega)
   have d2:decide (l.length < 5)=true:=decide_eq_true h5
   clear hn hv HZ1
   go_enter Tryd.func11,Tryd.ntmps11
   go_upto_region 1 with (fail)
   generalize World.alloc w _=W1 at *
   go_wp2_with (first
     | (refine wpList_store_row rfl 29 (.tmp 2) (.tmp 18) rfl w.heap.size #[.int .i64 0,.int .u64 0,.int .u64 0,.int .u64 0,.int .u64 0,.slice none 0 0,.int .i64 0,.int .i64 0,.int .i64 0,.bool false] rfl rfl 29 _ HY.out (by kernel_rfl) (by kernel_rfl) (by simp [Value.oneCell']) ?_)
     | fail)
   refine bodyPost_ret (results_row_one rfl _ _ w.heap.size 29 _ (0,0) _ (.int .i64 17) rfl rfl (heap_setRow HY.out) Tryd.underlying29 rfl (by kernel_rfl)) rfl ⟨below_setRow HW1.out (Nat.le_refl _) _, ?_⟩
   rw [HN.out]
 · have d1:decide ((l.length:Int) < 5)=false:=decide_eq_false (by omega)
   have d2:decide (l.length < 5)=false:=decide_eq_false h5
   rcases hv with ⟨rfl,rfl⟩ | ⟨g,o,c,rfl,hc,hrd⟩
   · simp at h5
   have ch:=cut_hi g o l.length c 5 (by omega)
   have HTK:=Lib.hid (show BsAt w (.slice (some ⟨g,o,none⟩) 5 c) (l.take 5) from BsAt.take hrd (by omega) hc)
   have hq:((bx (l.take 5)).toList == [84,82,87,76,1])=isHead l:=by
     rw [bx_list]
     unfold isHead Im.head
     rw [Bool.eq_iff_iff];simp
   clear hrd
   go_enter Tryd.func11,Tryd.ntmps11
   go_upto_region 1 with (fail)
   generalize World.alloc w _=W1 at *
   have cs:=to_str (HTK.out.below HW1.out)
   generalize bx (l.take 5)=xs at *
   cases hh:isHead l with
   | false =>
     rw [hh] at hq
     have HN:=Lib.hid (show Im.decB l=none by unfold Im.decB;rw [hh];rfl)
     clear hh HTK
     go_wp2_with (first
       | (refine wpList_store_row rfl 29 (.tmp 2) (.tmp 18) rfl w.heap.size #[.int .i64 0,.int .u64 0,.int .u64 0,.int .u64 0,.int .u64 0,.slice none 0 0,.int .i64 0,.int .i64 0,.int .i64 0,.bool false] rfl rfl 29 _ HY.out (by kernel_rfl) (by kernel_rfl) (by simp [Value.oneCell']) ?_)
       | fail)
     refine bodyPost_ret (results_row_one rfl _ _ w.heap.size 29 _ (0,0) _ (.int .i64 17) rfl rfl (heap_setRow HY.out) Tryd.underlying29 rfl (by kernel_rfl)) rfl ⟨below_setRow HW1.out (Nat.le_refl _) _, ?_⟩
     rw [HN.out]
   | true =>
     rw [hh] at hq
     clear hh HTK
     go_upto_region 3 with (fail)
     have HX2:=Lib.hid (heap_alloc_new W1 (.cells #[.slice (some ⟨g,o,none⟩) l.length c,.int .i64 5,.int .i64 (l.length:Int)] 86))
     have HW2:=Lib.hid (HW1.out.alloc HW1.out.size (.cells #[.slice (some ⟨g,o,none⟩) l.length c,.int .i64 5,.int .i64 (l.length:Int)] 86))
     have HZ2:=Lib.hid (show (W1.alloc (.cells #[.slice (some ⟨g,o,none⟩) l.length c,.int .i64 5,.int .i64 (l.length:Int)] 86)).heap.size=W1.heap.size+1 by simp)
     have HY2:=Lib.hid (heap_alloc_lt (o:=(.cells #[.slice (some ⟨g,o,none⟩) l.length c,.int .i64 5,.int .i64 (l.length:Int)] 86)) HY.out)
     go_upto_region 4 with (fail)
     generalize World.alloc W1 _=W2 at *
     have hz1:=HZ1.out;have hz2:=HZ2.out
     have HRQ:=Lib.hid (show RdQ w W2 W1.heap.size l (l.drop 5) 0 from ⟨5,l.length,rfl,⟨_,HX2.out,HBS.out⟩,by rw [List.length_drop];omega,by omega⟩)
     have HND:=Lib.hid (noderef_any w W1.heap.size HW1.out.size l (by omega) 200 (l.drop 5) W2 1 (by omega) (by omega) (by rw [List.length_drop];omega) HW2.out HRQ.out)
     clear hq cs ch HX2 HRQ hz1 hz2
     go_wp2_with fail
     refine HND.out.mono ?_
     rintro e w3 ⟨hg3,he3⟩
     have hz1:=HZ1.out;have hz2:=HZ2.out
     have HB3:=Lib.hid (HW2.out.grown hg3 HW2.out.size (fun k e=>by injection e;omega))
     have HY3:=Lib.hid ((hg3.block w.heap.size (by omega) (by intro e;injection e;omega)).trans HY2.out)
     have hs3:=hg3.size
     clear hg3 HND HY2 HY hz1
     cases hrn:Im.rN 200 (l.drop 5) with
     | none =>
       rw [hrn] at he3
       obtain ⟨t5,p5,n5,c5,rfl⟩:=he3
       have HN:=Lib.hid (show Im.decB l=none by
         cases hd:Im.decB l with
         | none=>rfl
         | some t=>have h:=(HDN.out t hd).1;rw [hrn] at h;cases h)
       clear hrn HDN
       have HZA:=Lib.hid (heap_alloc_new w3 (.cells #[.int .i64 0,.int .u64 0,.int .u64 0,.int .u64 0,.int .u64 0,.slice none 0 0,.int .i64 0,.int .i64 0,.int .i64 0,.bool false] 29))
       have HA4:=Lib.hid (show ∀ o cs,Below w3.heap.size w3 ((w3.alloc o).setRow w3.heap.size cs) from fun o cs=>⟨rfl,rfl,rfl,by simp,fun k hk=>(heap_setRow_other _ _ _ (by omega)).trans ((World.grownBy_alloc w3 o none).block k hk (by simp))⟩)
       go_upto_region 5 with (first
         | (refine wpList_store_row rfl 29 (.tmp 5) (.tmp 27) rfl w3.heap.size (t5.cells (.slice p5 n5 c5)) rfl rfl 29 _ HZA.out (by kernel_rfl) (by kernel_rfl) (by simp [Tr.cells,Value.oneCell']) ?_)
         | fail)
       generalize hW4:World.setRow _ _ _=W4 at *
       have hb4:Below w3.heap.size w3 W4:=hW4 ▸ HA4.out _ _
       have HX4:=Lib.hid (show W4.heap[w3.heap.size]? = some (.cells (t5.cells (.slice p5 n5 c5)) 29) from hW4 ▸ heap_setRow HZA.out)
       have HB4:=Lib.hid (HB3.out.trans (hb4.mono HB3.out.size))
       have HY4:=Lib.hid (keep_blk hb4 HY3.out)
       clear hW4 hb4 HA4 HZA HB3 HY3
       go_wp2_with (first
         | (refine wpList_store_row rfl 29 (.tmp 2) (.tmp 31) rfl w.heap.size #[.int .i64 0,.int .u64 0,.int .u64 0,.int .u64 0,.int .u64 0,.slice none 0 0,.int .i64 0,.int .i64 0,.int .i64 0,.bool false] rfl rfl 29 _ HY4.out (by kernel_rfl) (by kernel_rfl) (by simp [Value.oneCell']) ?_)
         | fail)
       refine bodyPost_ret (results_row_one rfl _ _ w.heap.size 29 _ (0,0) _ (.int .i64 17) rfl rfl (heap_setRow HY4.out) Tryd.underlying29 rfl (by kernel_rfl)) rfl ⟨below_setRow HB4.out (Nat.le_refl _) _, ?_⟩
       rw [HN.out]
     | some y =>
       obtain ⟨t,r⟩:=y
       rw [hrn] at he3
       obtain ⟨⟨s5,rfl,hs5⟩,-⟩:=he3
       have hnd:=Im.rN_nd 200 (l.drop 5) t r hrn
       rw [List.length_drop] at hnd
       have hdn:∀ t',Im.decB l=some t'→t'=t∧l=Im.head ++ Im.imT t∧t.checkC=0:=fun t' h=>by
         obtain ⟨h1,h2,h3⟩:=HDN.out t' h
         rw [hrn] at h1
         simp only [Option.some.injEq,Prod.mk.injEq] at h1
         obtain ⟨rfl,-⟩:=h1
         exact ⟨rfl,h2,h3⟩
       have HDT:=Lib.hid hdn
       obtain ⟨p5,c5,rfl,-⟩:=hs5.slice
       have HS3:=Lib.hid hs5
       clear hrn HDN hdn hs5
       have HZA:=Lib.hid (heap_alloc_new w3 (.cells #[.int .i64 0,.int .u64 0,.int .u64 0,.int .u64 0,.int .u64 0,.slice none 0 0,.int .i64 0,.int .i64 0,.int .i64 0,.bool false] 29))
       have HA4:=Lib.hid (show ∀ o cs,Below w3.heap.size w3 ((w3.alloc o).setRow w3.heap.size cs) from fun o cs=>⟨rfl,rfl,rfl,by simp,fun k hk=>(heap_setRow_other _ _ _ (by omega)).trans ((World.grownBy_alloc w3 o none).block k hk (by simp))⟩)
       go_upto_region 5 with (first
         | (refine wpList_store_row rfl 29 (.tmp 5) (.tmp 27) rfl w3.heap.size (t.cells (.slice p5 t.subs.length c5)) rfl rfl 29 _ HZA.out (by kernel_rfl) (by kernel_rfl) (by simp [Tr.cells,Value.oneCell']) ?_)
         | fail)
       generalize hW4:World.setRow _ _ _=W4 at *
       have hb4:Below w3.heap.size w3 W4:=hW4 ▸ HA4.out _ _
       have HX4:=Lib.hid (show W4.heap[w3.heap.size]? = some (.cells (t.cells (.slice p5 t.subs.length c5)) 29) from hW4 ▸ heap_setRow HZA.out)
       have HB4:=Lib.hid (HB3.out.trans (hb4.mono HB3.out.size))
       have HY4:=Lib.hid (keep_blk hb4 HY3.out)
       have HS4:=Lib.hid (HS3.out.later hb4)
       clear hW4 hb4 HA4 HZA HB3 HY3
       have HEN:=Lib.hid (refencode_any t (by omega) W4 _ (.agg (t.cells (.slice p5 t.subs.length c5))) ⟨_,rfl,HS4.out⟩)
       go_wp2_with (first
         | (refine wpList_load_row rfl 29 (.tmp 5) rfl w3.heap.size rfl 29 _ (0,0) _ HX4.out Tryd.underlying29 rfl (by kernel_rfl) ?_)
         | fail)
       refine HEN.out.mono ?_
       rintro e w5 ⟨v5,rfl,hr5,hb5⟩
       have HB5:=Lib.hid (HB4.out.trans (hb5.mono HB4.out.size))
       have HY5:=Lib.hid (keep_blk hb5 HY4.out)
       have HX5:=Lib.hid (keep_blk hb5 HX4.out)
       have HS5:=Lib.hid (HS4.out.later hb5)
       clear hb5 HEN HB4 HY4 HX4 HS4 HS3
       by_cases hc0:t.checkC=0
       · rw [if_pos hc0] at hr5
         rw [show ((t.checkC:Nat):Int)=0 by rw [hc0];rfl]
         have csl:=to_str (HBS.out.below HB5.out)
         have csi:=to_str hr5.reads
         obtain ⟨pv,cv,rfl,-⟩:=hr5.slice
         by_cases he:Im.head ++ Im.imT t=l
         · have hqq:((bx (Im.head ++ Im.imT t)).toList == (bx l).toList)=true:=by rw [he];simp
           have HN:=Lib.hid (show Im.decB l=some t by rw [← he];exact Im.decB_image hc0 (by omega))
           clear hr5 he HDT
           generalize Im.head ++ Im.imT t=M at *
           generalize bx M=xs5 at *
           generalize bx l=ys5 at *
           unfold Tr.cells at *
           go_wp2_with (first
             | (refine wpList_load_row rfl 29 (.tmp 5) rfl w3.heap.size rfl 29 _ (0,0) _ HX5.out Tryd.underlying29 rfl (by kernel_rfl) ?_)
             | (refine wpList_store_row rfl 29 (.tmp 2) (.tmp 47) rfl w.heap.size _ rfl rfl 29 _ HY5.out (by kernel_rfl) (by kernel_rfl) (by simp [Value.oneCell']) ?_)
             | fail)
           refine bodyPost_ret (results_row_one rfl _ _ w.heap.size 29 _ (0,0) _ (.int .i64 0) rfl rfl (heap_setRow HY5.out) Tryd.underlying29 rfl (by kernel_rfl)) rfl ⟨below_setRow HB5.out (Nat.le_refl _) _, ?_⟩
           rw [HN.out]
           refine ⟨.slice p5 t.subs.length c5,rfl, ?_⟩
           exact (HS5.out.keep (w':=w5.setRow w.heap.size _) fun b _ hb=>heap_setRow_other _ _ _ (by have:=HZ1.out;omega)).mono fun b _ hb=>by have:=HZ1.out;omega
         · have hqq:((bx (Im.head ++ Im.imT t)).toList == (bx l).toList)=false:=by
             rw [bx_list,bx_list,beq_eq_false_iff_ne]
             exact he
           have HN:=Lib.hid (show Im.decB l=none by
             cases hd:Im.decB l with
             | none=>rfl
             | some t'=>exact absurd (HDT.out t' hd).2.1.symm he)
           clear hr5 he HDT
           generalize Im.head ++ Im.imT t=M at *
           generalize bx M=xs5 at *
           generalize bx l=ys5 at *
           go_wp2_with (first
             | (refine wpList_store_row rfl 29 (.tmp 2) (.tmp 46) rfl w.heap.size #[.int .i64 0,.int .u64 0,.int .u64 0,.int .u64 0,.int .u64 0,.slice none 0 0,.int .i64 0,.int .i64 0,.int .i64 0,.bool false] rfl rfl 29 _ HY5.out (by kernel_rfl) (by kernel_rfl) (by simp [Value.oneCell']) ?_)
             | fail)
           refine bodyPost_ret (results_row_one rfl _ _ w.heap.size 29 _ (0,0) _ (.int .i64 17) rfl rfl (heap_setRow HY5.out) Tryd.underlying29 rfl (by kernel_rfl)) rfl ⟨below_setRow HB5.out (Nat.le_refl _) _, ?_⟩
           rw [HN.out]
       · have hn0:((t.checkC:Int) == 0)=false:=by rw [beq_eq_false_iff_ne];omega
         have HN:=Lib.hid (show Im.decB l=none by
           cases hd:Im.decB l with
           | none=>rfl
           | some t'=>exact absurd (HDT.out t' hd).2.2 hc0)
         clear hr5 HDT hc0
         generalize ((t.checkC:Nat):Int)=cc at *
         have hn1:(cc != 0)=true:=by rw [bne_iff_ne];exact beq_eq_false_iff_ne.1 hn0
         have hn2:decide (cc=0)=false:=decide_eq_false (beq_eq_false_iff_ne.1 hn0)
         have hn3:¬ cc=0:=beq_eq_false_iff_ne.1 hn0
         go_wp2_with (first
           | (refine wpList_store_row rfl 29 (.tmp 2) (.tmp 46) rfl w.heap.size #[.int .i64 0,.int .u64 0,.int .u64 0,.int .u64 0,.int .u64 0,.slice none 0 0,.int .i64 0,.int .i64 0,.int .i64 0,.bool false] rfl rfl 29 _ HY5.out (by kernel_rfl) (by kernel_rfl) (by simp [Value.oneCell']) ?_)
           | fail)
         refine bodyPost_ret (results_row_one rfl _ _ w.heap.size 29 _ (0,0) _ (.int .i64 17) rfl rfl (heap_setRow HY5.out) Tryd.underlying29 rfl (by kernel_rfl)) rfl ⟨below_setRow HB5.out (Nat.le_refl _) _, ?_⟩
         rw [HN.out]
end Go.Proofs.YtoepdfpnkmccoaaDoor
namespace Go.Proofs.YtoepdfpnkmccoaaDoor
open Go.RowKit
theorem BR.set {B:Nat} {w:World} {v:Value} {l:List UInt8} (h:BR B w v l) {i:Nat} (hi:i < l.length) (c:UInt8) (n:Int) (hn:n=(c.toNat:Int)):∃ g cap,v=.slice (some ⟨g,0,none⟩) l.length cap∧B ≤ g∧l.length ≤ cap∧(∃ u,w.cell? ⟨g,i,none⟩=some u)∧w.frozen? ⟨g,i,none⟩=false ∧
   BR B (w.setCell ⟨g,i,none⟩ (.int .u8 n)) v (l.set i c)∧g < w.heap.size:=by
 rcases h.2 with ⟨rfl,hn0⟩ | ⟨g,cap,cur,rfl,hb,hg,hnc,hcm,hcs,ht⟩
 · omega
 · have hlt:i < cur.size:=by rw [hcs];omega
   have hgl:=(Array.getElem?_eq_some_iff.1 hg).1
   refine ⟨g,cap,rfl,hb,hnc,⟨cur[i], ?_⟩, ?_, ?_,hgl⟩
   · simp [World.cell?,hg,hlt]
   · simp [World.frozen?,hg]
   · have hs:(w.setCell ⟨g,i,none⟩ (.int .u8 n)).heap[g]? = some (.cells (cur.setIfInBounds i (.int .u8 n)) 5 (0,0)):=by
       simp [World.setCell,Array.getElem?_modify,hg]
     unfold BR
     rw [List.length_set]
     refine ⟨by rw [byteCells_len,List.length_set];omega,.inr ⟨g,cap,_,rfl,hb,hs,hnc,hcm,by rw [Array.size_setIfInBounds];exact hcs, ?_⟩⟩
     rw [Array.toList_setIfInBounds,List.take_set,ht]
     unfold Lib.byteCells
     rw [List.map_set,hn]
end Go.Proofs.YtoepdfpnkmccoaaDoor
namespace Go.Proofs.YtoepdfpnkmccoaaDoor
open Go.RowKit
theorem BR.empty (B:Nat) (w:World) (hB:B ≤ w.heap.size):BR B (w.alloc (.cells #[] 5)) (.slice (some ⟨w.heap.size,0,none⟩) 0 0) [] :=
 ⟨rfl,.inr ⟨w.heap.size,0,#[],rfl,hB,heap_alloc_new _ _,Nat.le_refl _,by decide,rfl,rfl⟩⟩
theorem BsAt.arg {w:World} {v:Value} {l:List UInt8} (h:BsAt w v l):∃ p c,v=.slice p l.length c∧(p=none→l.length=0∧c=0)∧∀ ad,p=some ad→∀ j u,(Lib.byteCells l)[j]? = some u→w.cell? (ad.add j)=some u:=by
 rcases h with ⟨rfl,rfl⟩ | ⟨g,o,c,rfl,hc,hr⟩
 · exact ⟨none,0,rfl,fun _=>⟨rfl,rfl⟩,fun ad h=>(by cases h)⟩
 · refine ⟨some ⟨g,o,none⟩,c,rfl,fun h=>(by cases h),fun ad had j u hj=>?_⟩
   obtain rfl:=Option.some.inj had
   have hadd:(⟨g,o,none⟩:Addr).add j=⟨g,o+j,none⟩:=by unfold Addr.add;split <;> simp_all
   have hjl:j < l.length:=by
     have:=(List.getElem?_eq_some_iff.1 hj).1
     rwa [byteCells_len] at this
   rw [byteCells_get hjl] at hj
   rw [hadd,hr j hjl,hj]
end Go.Proofs.YtoepdfpnkmccoaaDoor
namespace Go.Proofs.YtoepdfpnkmccoaaDoor
open Go.RowKit
namespace Im
def treeOf (l:List UInt8):Tr:=(decB l).getD (.node 0 0#64 0#64 0#64 0#64 [] 0 0 0 false)
def numOf (l:List UInt8):Nat:=if (decB l).isSome then 0 else 17
theorem numOf_lt (l:List UInt8):numOf l < 22:=by unfold numOf;split <;> omega
end Im
theorem dec_of {A:Nat→Addr} {l:List UInt8} {w w':World} {e:Ending} (h:DecOwn A l w e w'):Below w.heap.size w w'∧∃ p c,e=.returned (.tuple #[.agg ((Im.treeOf l).cells (.slice p (Im.treeOf l).subs.length c)),sentV A (Im.numOf l)])∧OwnT w' w.heap.size (.slice p (Im.treeOf l).subs.length c) (Im.treeOf l).subs:=by
 obtain ⟨hb,h⟩:=h
 refine ⟨hb, ?_⟩
 unfold Im.treeOf Im.numOf
 cases hd:Im.decB l with
 | none =>
   rw [hd] at h
   exact ⟨none,0,h,[],Owned.nil _ _,fun b hb=>by cases hb⟩
 | some t =>
   rw [hd] at h
   obtain ⟨s,h1,h2⟩:=h
   obtain ⟨p,c,rfl,-⟩:=h2.slice
   exact ⟨p,c,h1,h2⟩
def OwnB (w:World) (n m:Nat) (s:Value) (ts:List Tr):Prop:=∃ F,Owned w s ts F∧∀ b,b ∈ F→n ≤ b∧b < m
theorem OwnB.of {w:World} {n:Nat} {s:Value} {ts:List Tr} (h:OwnT w n s ts):OwnB w n w.heap.size s ts:=by
 obtain ⟨F,h1,h2⟩:=h
 exact ⟨F,h1,fun b hb=>⟨h2 b hb,h1.lt b hb⟩⟩
theorem OwnB.later {w w':World} {n m:Nat} {s:Value} {ts:List Tr} (h:OwnB w n m s ts) (hb:Below w.heap.size w w'):OwnB w' n m s ts:=by
 obtain ⟨F,h1,h2⟩:=h
 exact ⟨F,h1.later hb,h2⟩
theorem OwnB.trees {w:World} {n m:Nat} {s:Value} {ts:List Tr} (h:OwnB w n m s ts):TreesAt w (fun b=>n ≤ b) s ts:=by
 obtain ⟨F,h1,h2⟩:=h
 exact h1.trees.mono fun b _ hb=>(h2 b hb).1
theorem rd_of {l:List UInt8} {w w':World} {e:Ending} (h:RdEnd l w e w'):Below w.heap.size w w'∧∃ p c,e=.returned (.tuple #[.agg ((Im.treeOf l).cells (.slice p (Im.treeOf l).subs.length c)),.int .i64 (Im.numOf l:Int)])∧TreesAt w' (fun b=>w.heap.size ≤ b) (.slice p (Im.treeOf l).subs.length c) (Im.treeOf l).subs:=by
 obtain ⟨hb,h⟩:=h
 refine ⟨hb, ?_⟩
 unfold Im.treeOf Im.numOf
 cases hd:Im.decB l with
 | none =>
   rw [hd] at h
   exact ⟨none,0,h,TreesAt.nil⟩
 | some t =>
   rw [hd] at h
   obtain ⟨s,h1,h2⟩:=h
   obtain ⟨p,c,rfl,-⟩:=h2.slice
   exact ⟨p,c,h1,h2⟩
theorem imagedecodes_any (A:Nat→Addr) (l:List UInt8) (w:World) (hE:Errs w A) (vb:Value) (hv:BsAt w vb l) :
   Calls Tryd.prog 3 #[vb] w fun e w'=>e=.returned (.bool true)∧Below w.heap.size w w':=by
 have HLI:=Lib.hid (imlives_any A w hE)
 obtain ⟨p,c,rfl,hcc⟩:=hv.len
 by_cases hbig:100000 < l.length
 · have d1:decide ((100000:Int) < (l.length:Int))=true:=decide_eq_true (by omega)
   have d2:decide (100000 < l.length)=true:=decide_eq_true hbig
   clear hv hE
   go_enter Tryd.func3,Tryd.ntmps3
   go_wp2_with fail
   refine HLI.out.mono ?_
   rintro e w1 ⟨rfl,hb1⟩
   have HB1:=Lib.hid hb1
   clear hb1 HLI
   go_wp2
   go_ret
   exact ⟨rfl,HB1.out⟩
 · have d1:decide ((100000:Int) < (l.length:Int))=false:=decide_eq_false (by omega)
   have d2:decide (100000 < l.length)=false:=decide_eq_false hbig
   have hl:l.length ≤ 100000:=by omega
   have HDE:=Lib.hid (fun w' (h:Below w.heap.size w w') v (hv:BsAt w' v l)=>(decode_own A l (by omega) w' (hE.below h) v hv).mono fun e w'' h=>dec_of h)
   have HRD:=Lib.hid (fun w' v (hv:BsAt w' v l)=>(refdecode_any l hl w' v hv).mono fun e w'' h=>rd_of h)
   have hq22:=Im.numOf_lt l
   generalize Im.treeOf l=t at *
   generalize Im.numOf l=q at *
   have HNU:=Lib.hid (fun c (hc:c < 22) w' (h:Below w.heap.size w w')=>sentV_num A c hc w' (hE.below h))
   have HVB:=Lib.hid (fun w' (h:Below w.heap.size w w')=>hv.below h)
   clear hv hE hbig
   go_enter Tryd.func3,Tryd.ntmps3
   go_wp2_with fail
   refine HLI.out.mono ?_
   rintro e w1 ⟨rfl,hb1⟩
   have HB1:=Lib.hid hb1
   have hba:Below w1.heap.size w1 (w1.alloc (.cells #[] 5)):=(Below.refl _ _).alloc (Nat.le_refl _) _
   have HX1:=Lib.hid (HVB.out _ (hb1.trans (hba.mono hb1.size)))
   have HBE:=Lib.hid (BR.empty w1.heap.size w1 (Nat.le_refl _))
   have HBA:=Lib.hid hba
   have HBS:=Lib.hid (show w1.heap.size ≤ (w1.alloc (.cells #[] 5)).heap.size by simp)
   have HLE:=Lib.hid (show ([]:List UInt8).length+l.length ≤ 140737488355328 by simp;omega)
   have hln:l.length+1 ≤ 140737488355328:=by omega
   clear hb1 HLI hba
   go_wp2_with (first
     | (refine wp_appL (w0:=w1) (B:=w1.heap.size) (l:=[]) (m:=l) rfl (.tmp 16) (.tmp 17) rfl p c rfl rfl (fun h=>by
           obtain ⟨pp,cc,hv,hn,-⟩:=HX1.out.arg
           injection hv with h1 h2 h3
           subst h1 h3
           exact hn h) (fun ad h=>by
           obtain ⟨pp,cc,hv,-,hcc⟩:=HX1.out.arg
           injection hv with h1 h2 h3
           subst h1
           exact hcc ad h) HBE.out HBA.out HBS.out HLE.out ?_
        intro v2 W2 hrow2 hbel2
        rw [List.nil_append] at hrow2
        have HBX:=Lib.hid (hbel2.alloc hbel2.size (.cells #[.int .u8 9] 5))
        have HRX:=Lib.hid (hrow2.below ((Below.refl W2.heap.size W2).alloc (Nat.le_refl _) (.cells #[.int .u8 9] 5)))
        obtain ⟨p2,c2,rfl,-⟩:=hrow2.slice
        clear hrow2 hbel2 HX1 HBE HBA HBS HLE)
     | (at_builtin;refine wp_app1L (w0:=w1) (B:=w1.heap.size) (l:=l) rfl (.tmp 18) (.tmp 19) rfl 9 _ _ rfl rfl rfl ((cell_new _ _ _ 0).trans rfl) HRX.out HBX.out HBX.out.size hln ?_
        intro v3 W3 hrow3 hbel3
        rcases hrow3.2 with ⟨-,h0⟩ | ⟨g3,c3,cur3,rfl,hg3,-,hnc3,-⟩
        · simp at h0
        have HROW3:=Lib.hid hrow3
        have HB3:=Lib.hid (HB1.out.trans (hbel3.mono HB1.out.size))
        have HBEL3:=Lib.hid hbel3
        have HG3:=Lib.hid (show w1.heap.size ≤ g3∧g3 < W3.heap.size from hrow3.lt g3 rfl)
        have hnc:l.length+1 ≤ c3:=by simpa using hnc3
        have ch:=cut_hi g3 0 (l.length+1) c3 l.length (by omega)
        clear hrow3 hbel3 HBX HRX hnc3 hg3)
     | fail)
   have HV3:=Lib.hid (show ∀ w',BR w1.heap.size w' (.slice (some ⟨g3,0,none⟩) (l ++ [9]).length c3) (l ++ [9])→BsAt w' (.slice (some ⟨g3,0,none⟩) l.length c3) l from fun w' h=>by
     rcases h.reads with ⟨e,-⟩ | ⟨g,o,c,e,hc,hr⟩
     · cases e
     · injection e with e1 e2 e3
       injection e1 with e1
       injection e1 with e1 e4
       subst e1 e3 e4
       have:=BsAt.take hr (n:=l.length) (by simp) hc
       rwa [List.take_left' rfl] at this)
   refine (HDE.out W3 HB3.out _ (HV3.out W3 HROW3.out)).mono ?_
   rintro e w4 ⟨hb4,pt,ct,rfl,ho4⟩
   have HB4:=Lib.hid (HB3.out.trans (hb4.mono HB3.out.size))
   have HROW4:=Lib.hid (HROW3.out.below hb4)
   have HO4:=Lib.hid (OwnB.of ho4)
   have hs34:W3.heap.size ≤ w4.heap.size:=hb4.size
   clear hb4 ho4 HB3
   have HZA4:=Lib.hid (heap_alloc_new w4 (.cells #[.int .i64 0,.int .u64 0,.int .u64 0,.int .u64 0,.int .u64 0,.slice none 0 0,.int .i64 0,.int .i64 0,.int .i64 0,.bool false] 29))
   have HAL4:=Lib.hid (show ∀ o cs,Below w4.heap.size w4 ((w4.alloc o).setRow w4.heap.size cs) from fun o cs=>⟨rfl,rfl,rfl,by simp,fun k hk=>(heap_setRow_other _ _ _ (by omega)).trans ((World.grownBy_alloc w4 o none).block k hk (by simp))⟩)
   go_upto_region 7 with (first
     | (refine wpList_store_row rfl 29 (.tmp 4) (.tmp 27) rfl w4.heap.size (t.cells (.slice pt t.subs.length ct)) rfl rfl 29 _ HZA4.out (by kernel_rfl) (by kernel_rfl) (by simp [Tr.cells,Value.oneCell']) ?_)
     | fail)
   generalize hW5:World.setRow _ _ _=W5 at *
   have hbW5:Below w4.heap.size w4 W5:=hW5 ▸ HAL4.out _ _
   have HC4:=Lib.hid (show W5.heap[w4.heap.size]? = some (.cells (t.cells (.slice pt t.subs.length ct)) 29) from hW5 ▸ heap_setRow HZA4.out)
   clear hW5 HZA4 HAL4
   have HB5:=Lib.hid (HB4.out.trans (hbW5.mono HB4.out.size))
   have HROW5:=Lib.hid (HROW4.out.below hbW5)
   have hs45:w4.heap.size < W5.heap.size:=(Array.getElem?_eq_some_iff.1 HC4.out).1
   have HO5:=Lib.hid (HO4.out.later hbW5)
   clear hbW5 HROW4 HROW3 HB4
   go_wp2_with fail
   refine (HDE.out W5 HB5.out _ (HV3.out W5 HROW5.out)).mono ?_
   rintro e w6 ⟨hb6,pu,cu,rfl,ho6⟩
   have HB6:=Lib.hid (HB5.out.trans (hb6.mono HB5.out.size))
   have HROW6:=Lib.hid (HROW5.out.below hb6)
   have HC46:=Lib.hid (keep_blk hb6 HC4.out)
   have HO6:=Lib.hid (HO5.out.later hb6);have HU6:=Lib.hid ho6
   have hs56:W5.heap.size ≤ w6.heap.size:=hb6.size
   clear hb6 ho6 HB5 HROW5 HC4 HO5
   have HZA6:=Lib.hid (heap_alloc_new w6 (.cells #[.int .i64 0,.int .u64 0,.int .u64 0,.int .u64 0,.int .u64 0,.slice none 0 0,.int .i64 0,.int .i64 0,.int .i64 0,.bool false] 29))
   have HAL6:=Lib.hid (show ∀ o cs,Below w6.heap.size w6 ((w6.alloc o).setRow w6.heap.size cs) from fun o cs=>⟨rfl,rfl,rfl,by simp,fun k hk=>(heap_setRow_other _ _ _ (by omega)).trans ((World.grownBy_alloc w6 o none).block k hk (by simp))⟩)
   go_upto_region 8 with (first
     | (refine wpList_store_row rfl 29 (.tmp 6) (.tmp 35) rfl w6.heap.size (t.cells (.slice pu t.subs.length cu)) rfl rfl 29 _ HZA6.out (by kernel_rfl) (by kernel_rfl) (by simp [Tr.cells,Value.oneCell']) ?_)
     | fail)
   generalize hW7:World.setRow _ _ _=W7 at *
   have hbW7:Below w6.heap.size w6 W7:=hW7 ▸ HAL6.out _ _
   have HC6:=Lib.hid (show W7.heap[w6.heap.size]? = some (.cells (t.cells (.slice pu t.subs.length cu)) 29) from hW7 ▸ heap_setRow HZA6.out)
   clear hW7 HZA6 HAL6
   have HB7:=Lib.hid (HB6.out.trans (hbW7.mono HB6.out.size))
   have HROW7:=Lib.hid (HROW6.out.below hbW7)
   have HC47:=Lib.hid (keep_blk hbW7 HC46.out)
   have HO7:=Lib.hid (HO6.out.later hbW7);have HU7:=Lib.hid (HU6.out.later hbW7)
   have hs67:w6.heap.size < W7.heap.size:=(Array.getElem?_eq_some_iff.1 HC6.out).1
   clear hbW7 HROW6 HB6 HC46 HO6 HU6
   go_wp2_with fail
   refine (HRD.out W7 _ (HVB.out W7 HB7.out)).mono ?_
   rintro e w8 ⟨hb8,px,cx,rfl,hx8⟩
   have HB8:=Lib.hid (HB7.out.trans (hb8.mono HB7.out.size))
   have HROW8:=Lib.hid (HROW7.out.below hb8)
   have HC48:=Lib.hid (keep_blk hb8 HC47.out);have HC68:=Lib.hid (keep_blk hb8 HC6.out)
   have HO8:=Lib.hid (HO7.out.later hb8);have HU8:=Lib.hid (HU7.out.later hb8);have HX8:=Lib.hid hx8
   have hs78:W7.heap.size ≤ w8.heap.size:=hb8.size
   clear hb8 hx8 HB7 HROW7 HC47 HC6 HO7 HU7
   have HZA8:=Lib.hid (heap_alloc_new w8 (.cells #[.int .i64 0,.int .u64 0,.int .u64 0,.int .u64 0,.int .u64 0,.slice none 0 0,.int .i64 0,.int .i64 0,.int .i64 0,.bool false] 29))
   have HAL8:=Lib.hid (show ∀ o cs,Below w8.heap.size w8 ((w8.alloc o).setRow w8.heap.size cs) from fun o cs=>⟨rfl,rfl,rfl,by simp,fun k hk=>(heap_setRow_other _ _ _ (by omega)).trans ((World.grownBy_alloc w8 o none).block k hk (by simp))⟩)
   go_upto_region 9 with (first
     | (refine wpList_store_row rfl 29 (.tmp 8) (.tmp 40) rfl w8.heap.size (t.cells (.slice px t.subs.length cx)) rfl rfl 29 _ HZA8.out (by kernel_rfl) (by kernel_rfl) (by simp [Tr.cells,Value.oneCell']) ?_)
     | fail)
   generalize hW9:World.setRow _ _ _=W9 at *
   have hbW9:Below w8.heap.size w8 W9:=hW9 ▸ HAL8.out _ _
   have HC8:=Lib.hid (show W9.heap[w8.heap.size]? = some (.cells (t.cells (.slice px t.subs.length cx)) 29) from hW9 ▸ heap_setRow HZA8.out)
   clear hW9 HZA8 HAL8
   have HB9:=Lib.hid (HB8.out.trans (hbW9.mono HB8.out.size))
   have HROW9:=Lib.hid (HROW8.out.below hbW9)
   have HC49:=Lib.hid (keep_blk hbW9 HC48.out);have HC69:=Lib.hid (keep_blk hbW9 HC68.out)
   have HO9:=Lib.hid (HO8.out.later hbW9);have HU9:=Lib.hid (HU8.out.later hbW9);have HX9:=Lib.hid (HX8.out.later hbW9)
   have hs89:w8.heap.size < W9.heap.size:=(Array.getElem?_eq_some_iff.1 HC8.out).1
   clear hbW9 HROW8 HB8 HC48 HC68 HO8 HU8 HX8
   have HCA:=Lib.hid (fun w9 (hb:Below W9.heap.size W9 w9)=>to_str (HV3.out w9 (HROW9.out.below hb)))
   have HCB:=Lib.hid (fun w9 (hb:Below W9.heap.size W9 w9)=>to_str (HVB.out w9 (HB9.out.trans (hb.mono HB9.out.size))))
   have HC9:=Lib.hid (show ∀ w9,Below W9.heap.size W9 w9→w9.cell? ⟨g3,l.length,none⟩=some (.int .u8 9) from fun w9 hb=>by
     have h:=World.ownsRow.cells (HROW9.out.below hb) (g:=g3) rfl l.length (.int .u8 9) (by rw [byteCells_append,List.getElem?_append_right (by rw [byteCells_len];omega),byteCells_len,Nat.sub_self];rfl)
     have hadd:(⟨g3,0,none⟩:Addr).add l.length=⟨g3,l.length,none⟩:=by unfold Addr.add;split <;> simp_all
     rw [hadd] at h
     exact h)
   generalize bx l=xs at *
   have hqx:(xs.toList == xs.toList)=true:=by simp
   have hix:(l.length:Int) < (l.length:Int)+1:=by omega
   refine Ri.wp_region_frame (by kernel_rfl) (by kernel_rfl) (by kernel_rfl) (by kernel_rfl)
     (fun L v w'=>Below W9.heap.size W9 w'∧(L 0=true→v 0=sentV A q)∧(L 1=true→v 1=.int .i64 (q:Int))∧(L 2=true→v 2=.int .i64 (q:Int))∧(L 3=true→v 3=.bool false)∧(L 4=true→v 4=.bool false)∧(L 5=true→v 5=.agg (t.cells (.slice pt t.subs.length ct)))∧(L 6=true→v 6=.agg (t.cells (.slice px t.subs.length cx)))∧(L 7=true→v 7=.bool true)∧(L 8=true→v 8=.bool false)∧(L 9=true→v 9=.bool false)∧(L 10=true→v 10=.bool false)∧(L 11=true→v 11=.slice (some ⟨g3,0,none⟩) (l.length+1) c3)∧(L 12=true→v 12=.slice p l.length c)∧(L 13=true→v 13=.int .i64 (l.length:Int))∧(L 14=true→v 14=.slice (some ⟨g3,0,none⟩) l.length c3)∧(L 15=true→v 15=.string xs)∧(L 16=true→v 16=.slice p l.length c)∧(L 17=true→v 17=.string xs)∧(L 18=true→v 18=.bool false)∧(L 19=true→v 19=.bool false)∧(L 20=true→v 20=.bool false)∧(L 21=true→v 21=.slice (some ⟨g3,0,none⟩) (l.length+1) c3)∧(L 22=true→v 22=.slice p l.length c)∧(L 23=true→v 23=.int .i64 (l.length:Int))∧(L 24=true→v 24=.pointer (some ⟨g3,l.length,none⟩))∧(L 25=true→v 25=.int .u8 9)∧(L 26=true→v 26=.bool false)∧(L 27=true→v 27=.bool false))
     ?_ ?_ ?_
   · exact ⟨(Below.refl _ _).drew,by simp,by simp,by simp,by simp,by simp,by simp,by simp,by simp,by simp,by simp,by simp,by simp,by simp,by simp,by simp,by simp,by simp,by simp,by simp,by simp,by simp,by simp,by simp,by simp,by simp,by simp,by simp,by simp⟩
   · intro i hi9 L v w9 xa hI hL hd hv ho
     have hi':i=0 ∨ i=1 ∨ i=2 ∨ i=3 ∨ i=4 ∨ i=5 ∨ i=6 ∨ i=7 ∨ i=8 ∨ i=9 ∨ i=10 ∨ i=11 ∨ i=12 ∨ i=13 ∨ i=14 ∨ i=15 ∨ i=16 ∨ i=17 ∨ i=18 ∨ i=19 ∨ i=20 ∨ i=21 ∨ i=22 ∨ i=23 ∨ i=24 ∨ i=25 ∨ i=26 ∨ i=27:=by simp at hi9;omega
     obtain ⟨hb,q0,q1,q2,q3,q4,q5,q6,q7,q8,q9,q10,q11,q12,q13,q14,q15,q16,q17,q18,q19,q20,q21,q22,q23,q24,q25,q26,q27⟩:=hI
     rcases hi' with rfl | rfl | rfl | rfl | rfl | rfl | rfl | rfl | rfl | rfl | rfl | rfl | rfl | rfl | rfl | rfl | rfl | rfl | rfl | rfl | rfl | rfl | rfl | rfl | rfl | rfl | rfl | rfl
     · have e5:xa.tmps.getD 5 undef=sentV A q:=ho 5 (by kernel_rfl)
       refine Ri.step_plain rfl rfl (fun K' hK=>?_)
       go_simp
       exact hK _ _ ⟨_,_,rfl,rfl,hb,fun _=>rfl,q1,q2,q3,q4,q5,q6,q7,q8,q9,q10,q11,q12,q13,q14,q15,q16,q17,q18,q19,q20,q21,q22,q23,q24,q25,q26,q27⟩
     · have l0:L 0=true:=by have:=hd _ rfl;simp [Region.binds] at this;simp [this]
       have f0:=(hv 0 42 rfl l0).trans (q0 l0)
       refine Ri.step_plain rfl rfl (fun K' hK=>?_)
       go_simp
       refine (HNU.out q hq22 w9 (HB9.out.trans (hb.mono HB9.out.size))).mono ?_
       rintro e w8 ⟨rfl,hb8⟩
       exact hK _ _ ⟨_,_,rfl,rfl,hb.trans (hb8.mono hb.size),q0,fun _=>rfl,q2,q3,q4,q5,q6,q7,q8,q9,q10,q11,q12,q13,q14,q15,q16,q17,q18,q19,q20,q21,q22,q23,q24,q25,q26,q27⟩
     · have e9:xa.tmps.getD 9 undef=.int .i64 (q:Int):=ho 9 (by kernel_rfl)
       refine Ri.step_plain rfl rfl (fun K' hK=>?_)
       go_simp
       exact hK _ _ ⟨_,_,rfl,rfl,hb,q0,q1,fun _=>rfl,q3,q4,q5,q6,q7,q8,q9,q10,q11,q12,q13,q14,q15,q16,q17,q18,q19,q20,q21,q22,q23,q24,q25,q26,q27⟩
     · have l0:L 1=true∧L 2=true:=by have:=hd _ rfl;simp [Region.binds] at this;simp [this]
       have f1:=(hv 1 43 rfl l0.1).trans (q1 l0.1)
       have f2:=(hv 2 44 rfl l0.2).trans (q2 l0.2)
       refine Ri.step_plain rfl rfl (fun K' hK=>?_)
       go_simp
       exact hK _ _ ⟨_,_,rfl,rfl,hb,q0,q1,q2,fun _=>rfl,q4,q5,q6,q7,q8,q9,q10,q11,q12,q13,q14,q15,q16,q17,q18,q19,q20,q21,q22,q23,q24,q25,q26,q27⟩
     · have l0:L 3=true:=by have:=hd _ rfl;simp [Region.binds] at this;simp [this]
       have f3:=(hv 3 45 rfl l0).trans (q3 l0)
       refine Ri.step_plain rfl rfl (fun K' hK=>?_)
       go_simp
       exact hK _ _ ⟨_,_,rfl,rfl,hb,q0,q1,q2,q3,fun _=>rfl,q5,q6,q7,q8,q9,q10,q11,q12,q13,q14,q15,q16,q17,q18,q19,q20,q21,q22,q23,q24,q25,q26,q27⟩
     · have l0:L 4=true:=by have:=hd _ rfl;simp [Region.binds] at this;simp [this]
       have f4:=(hv 4 46 rfl l0).trans (q4 l0)
       have e4:xa.tmps.getD 4 undef=.pointer (some ⟨w4.heap.size,0,none⟩):=ho 4 (by kernel_rfl)
       refine Ri.step_wanted (b:=false) rfl rfl rfl f4 (fun K' hK=>?_)
       refine wp_load_row _ _ rfl _ e4 _ _ _ _ (keep_blk hb HC49.out) Tryd.underlying29 rfl (by kernel_rfl) ?_
       exact hK _ _ ⟨_,_,rfl,rfl,hb,q0,q1,q2,q3,q4,fun _=>rfl,q6,q7,q8,q9,q10,q11,q12,q13,q14,q15,q16,q17,q18,q19,q20,q21,q22,q23,q24,q25,q26,q27⟩
     · have l0:L 4=true:=by have:=hd _ rfl;simp [Region.binds] at this;simp [this]
       have f4:=(hv 4 46 rfl l0).trans (q4 l0)
       have e8:xa.tmps.getD 8 undef=.pointer (some ⟨w8.heap.size,0,none⟩):=ho 8 (by kernel_rfl)
       refine Ri.step_wanted (b:=false) rfl rfl rfl f4 (fun K' hK=>?_)
       refine wp_load_row _ _ rfl _ e8 _ _ _ _ (keep_blk hb HC8.out) Tryd.underlying29 rfl (by kernel_rfl) ?_
       exact hK _ _ ⟨_,_,rfl,rfl,hb,q0,q1,q2,q3,q4,q5,fun _=>rfl,q7,q8,q9,q10,q11,q12,q13,q14,q15,q16,q17,q18,q19,q20,q21,q22,q23,q24,q25,q26,q27⟩
     · have l0:L 4=true∧L 5=true∧L 6=true:=by have:=hd _ rfl;simp [Region.binds] at this;simp [this]
       have f4:=(hv 4 46 rfl l0.1).trans (q4 l0.1)
       have f5:=(hv 5 47 rfl l0.2.1).trans (q5 l0.2.1)
       have f6:=(hv 6 48 rfl l0.2.2).trans (q6 l0.2.2)
       refine Ri.step_wanted (b:=false) rfl rfl rfl f4 (fun K' hK=>?_)
       go_simp
       refine ((samenodes_any t t w9 _ _ _ _ ⟨_,rfl,HO9.out.trees.later hb⟩ ⟨_,rfl,HX9.out.later hb⟩).mono fun _ _ h=>h.yes rfl).mono ?_
       rintro e w8 ⟨rfl,hb8⟩
       exact hK _ _ ⟨_,_,rfl,rfl,hb.trans (hb8.mono hb.size),q0,q1,q2,q3,q4,q5,q6,fun _=>rfl,q8,q9,q10,q11,q12,q13,q14,q15,q16,q17,q18,q19,q20,q21,q22,q23,q24,q25,q26,q27⟩
     · have l0:L 4=true∧L 7=true:=by have:=hd _ rfl;simp [Region.binds] at this;simp [this]
       have f4:=(hv 4 46 rfl l0.1).trans (q4 l0.1)
       have f7:=(hv 7 49 rfl l0.2).trans (q7 l0.2)
       refine Ri.step_wanted (b:=false) rfl rfl rfl f4 (fun K' hK=>?_)
       go_simp
       exact hK _ _ ⟨_,_,rfl,rfl,hb,q0,q1,q2,q3,q4,q5,q6,q7,fun _=>rfl,q9,q10,q11,q12,q13,q14,q15,q16,q17,q18,q19,q20,q21,q22,q23,q24,q25,q26,q27⟩
     · have l0:L 4=true∧L 8=true:=by have:=hd _ rfl;simp [Region.binds] at this;simp [this]
       have f4:=(hv 4 46 rfl l0.1).trans (q4 l0.1)
       have f8:=(hv 8 50 rfl l0.2).trans (q8 l0.2)
       refine Ri.step_plain rfl rfl (fun K' hK=>?_)
       go_simp
       exact hK _ _ ⟨_,_,rfl,rfl,hb,q0,q1,q2,q3,q4,q5,q6,q7,q8,fun _=>rfl,q10,q11,q12,q13,q14,q15,q16,q17,q18,q19,q20,q21,q22,q23,q24,q25,q26,q27⟩
     · have l0:L 9=true:=by have:=hd _ rfl;simp [Region.binds] at this;simp [this]
       have f9:=(hv 9 51 rfl l0).trans (q9 l0)
       refine Ri.step_plain rfl rfl (fun K' hK=>?_)
       go_simp
       exact hK _ _ ⟨_,_,rfl,rfl,hb,q0,q1,q2,q3,q4,q5,q6,q7,q8,q9,fun _=>rfl,q11,q12,q13,q14,q15,q16,q17,q18,q19,q20,q21,q22,q23,q24,q25,q26,q27⟩
     · have l0:L 10=true:=by have:=hd _ rfl;simp [Region.binds] at this;simp [this]
       have f10:=(hv 10 52 rfl l0).trans (q10 l0)
       have e3:xa.tmps.getD 3 undef=.slice (some ⟨g3,0,none⟩) (l.length+1) c3:=ho 3 (by kernel_rfl)
       refine Ri.step_wanted (b:=false) rfl rfl rfl f10 (fun K' hK=>?_)
       go_simp
       exact hK _ _ ⟨_,_,rfl,rfl,hb,q0,q1,q2,q3,q4,q5,q6,q7,q8,q9,q10,fun _=>rfl,q12,q13,q14,q15,q16,q17,q18,q19,q20,q21,q22,q23,q24,q25,q26,q27⟩
     · have l0:L 10=true:=by have:=hd _ rfl;simp [Region.binds] at this;simp [this]
       have f10:=(hv 10 52 rfl l0).trans (q10 l0)
       have e0:xa.tmps.getD 0 undef=.slice p l.length c:=ho 0 (by kernel_rfl)
       refine Ri.step_wanted (b:=false) rfl rfl rfl f10 (fun K' hK=>?_)
       go_simp
       exact hK _ _ ⟨_,_,rfl,rfl,hb,q0,q1,q2,q3,q4,q5,q6,q7,q8,q9,q10,q11,fun _=>rfl,q13,q14,q15,q16,q17,q18,q19,q20,q21,q22,q23,q24,q25,q26,q27⟩
     · have l0:L 10=true∧L 12=true:=by have:=hd _ rfl;simp [Region.binds] at this;simp [this]
       have f10:=(hv 10 52 rfl l0.1).trans (q10 l0.1)
       have f12:=(hv 12 54 rfl l0.2).trans (q12 l0.2)
       refine Ri.step_wanted (b:=false) rfl rfl rfl f10 (fun K' hK=>?_)
       go_simp
       exact hK _ _ ⟨_,_,rfl,rfl,hb,q0,q1,q2,q3,q4,q5,q6,q7,q8,q9,q10,q11,q12,fun _=>rfl,q14,q15,q16,q17,q18,q19,q20,q21,q22,q23,q24,q25,q26,q27⟩
     · have l0:L 10=true∧L 11=true∧L 13=true:=by have:=hd _ rfl;simp [Region.binds] at this;simp [this]
       have f10:=(hv 10 52 rfl l0.1).trans (q10 l0.1)
       have f11:=(hv 11 53 rfl l0.2.1).trans (q11 l0.2.1)
       have f13:=(hv 13 55 rfl l0.2.2).trans (q13 l0.2.2)
       refine Ri.step_wanted (b:=false) rfl rfl rfl f10 (fun K' hK=>?_)
       go_simp
       exact hK _ _ ⟨_,_,rfl,rfl,hb,q0,q1,q2,q3,q4,q5,q6,q7,q8,q9,q10,q11,q12,q13,fun _=>rfl,q15,q16,q17,q18,q19,q20,q21,q22,q23,q24,q25,q26,q27⟩
     · have l0:L 10=true∧L 14=true:=by have:=hd _ rfl;simp [Region.binds] at this;simp [this]
       have f10:=(hv 10 52 rfl l0.1).trans (q10 l0.1)
       have f14:=(hv 14 56 rfl l0.2).trans (q14 l0.2)
       refine Ri.step_wanted (b:=false) rfl rfl rfl f10 (fun K' hK=>?_)
       have cs:=HCA.out w9 hb
       go_simp
       exact hK _ _ ⟨_,_,rfl,rfl,hb,q0,q1,q2,q3,q4,q5,q6,q7,q8,q9,q10,q11,q12,q13,q14,fun _=>rfl,q16,q17,q18,q19,q20,q21,q22,q23,q24,q25,q26,q27⟩
     · have l0:L 10=true:=by have:=hd _ rfl;simp [Region.binds] at this;simp [this]
       have f10:=(hv 10 52 rfl l0).trans (q10 l0)
       have e0:xa.tmps.getD 0 undef=.slice p l.length c:=ho 0 (by kernel_rfl)
       refine Ri.step_wanted (b:=false) rfl rfl rfl f10 (fun K' hK=>?_)
       go_simp
       exact hK _ _ ⟨_,_,rfl,rfl,hb,q0,q1,q2,q3,q4,q5,q6,q7,q8,q9,q10,q11,q12,q13,q14,q15,fun _=>rfl,q17,q18,q19,q20,q21,q22,q23,q24,q25,q26,q27⟩
     · have l0:L 10=true∧L 16=true:=by have:=hd _ rfl;simp [Region.binds] at this;simp [this]
       have f10:=(hv 10 52 rfl l0.1).trans (q10 l0.1)
       have f16:=(hv 16 58 rfl l0.2).trans (q16 l0.2)
       refine Ri.step_wanted (b:=false) rfl rfl rfl f10 (fun K' hK=>?_)
       have cs:=HCB.out w9 hb
       go_simp
       exact hK _ _ ⟨_,_,rfl,rfl,hb,q0,q1,q2,q3,q4,q5,q6,q7,q8,q9,q10,q11,q12,q13,q14,q15,q16,fun _=>rfl,q18,q19,q20,q21,q22,q23,q24,q25,q26,q27⟩
     · have l0:L 10=true∧L 15=true∧L 17=true:=by have:=hd _ rfl;simp [Region.binds] at this;simp [this]
       have f10:=(hv 10 52 rfl l0.1).trans (q10 l0.1)
       have f15:=(hv 15 57 rfl l0.2.1).trans (q15 l0.2.1)
       have f17:=(hv 17 59 rfl l0.2.2).trans (q17 l0.2.2)
       refine Ri.step_wanted (b:=false) rfl rfl rfl f10 (fun K' hK=>?_)
       go_simp
       exact hK _ _ ⟨_,_,rfl,rfl,hb,q0,q1,q2,q3,q4,q5,q6,q7,q8,q9,q10,q11,q12,q13,q14,q15,q16,q17,fun _=>rfl,q19,q20,q21,q22,q23,q24,q25,q26,q27⟩
     · have l0:L 10=true∧L 18=true:=by have:=hd _ rfl;simp [Region.binds] at this;simp [this]
       have f10:=(hv 10 52 rfl l0.1).trans (q10 l0.1)
       have f18:=(hv 18 60 rfl l0.2).trans (q18 l0.2)
       refine Ri.step_plain rfl rfl (fun K' hK=>?_)
       go_simp
       exact hK _ _ ⟨_,_,rfl,rfl,hb,q0,q1,q2,q3,q4,q5,q6,q7,q8,q9,q10,q11,q12,q13,q14,q15,q16,q17,q18,fun _=>rfl,q20,q21,q22,q23,q24,q25,q26,q27⟩
     · have l0:L 19=true:=by have:=hd _ rfl;simp [Region.binds] at this;simp [this]
       have f19:=(hv 19 61 rfl l0).trans (q19 l0)
       refine Ri.step_plain rfl rfl (fun K' hK=>?_)
       go_simp
       exact hK _ _ ⟨_,_,rfl,rfl,hb,q0,q1,q2,q3,q4,q5,q6,q7,q8,q9,q10,q11,q12,q13,q14,q15,q16,q17,q18,q19,fun _=>rfl,q21,q22,q23,q24,q25,q26,q27⟩
     · have l0:L 20=true:=by have:=hd _ rfl;simp [Region.binds] at this;simp [this]
       have f20:=(hv 20 62 rfl l0).trans (q20 l0)
       have e3:xa.tmps.getD 3 undef=.slice (some ⟨g3,0,none⟩) (l.length+1) c3:=ho 3 (by kernel_rfl)
       refine Ri.step_wanted (b:=false) rfl rfl rfl f20 (fun K' hK=>?_)
       go_simp
       exact hK _ _ ⟨_,_,rfl,rfl,hb,q0,q1,q2,q3,q4,q5,q6,q7,q8,q9,q10,q11,q12,q13,q14,q15,q16,q17,q18,q19,q20,fun _=>rfl,q22,q23,q24,q25,q26,q27⟩
     · have l0:L 20=true:=by have:=hd _ rfl;simp [Region.binds] at this;simp [this]
       have f20:=(hv 20 62 rfl l0).trans (q20 l0)
       have e0:xa.tmps.getD 0 undef=.slice p l.length c:=ho 0 (by kernel_rfl)
       refine Ri.step_wanted (b:=false) rfl rfl rfl f20 (fun K' hK=>?_)
       go_simp
       exact hK _ _ ⟨_,_,rfl,rfl,hb,q0,q1,q2,q3,q4,q5,q6,q7,q8,q9,q10,q11,q12,q13,q14,q15,q16,q17,q18,q19,q20,q21,fun _=>rfl,q23,q24,q25,q26,q27⟩
     · have l0:L 20=true∧L 22=true:=by have:=hd _ rfl;simp [Region.binds] at this;simp [this]
       have f20:=(hv 20 62 rfl l0.1).trans (q20 l0.1)
       have f22:=(hv 22 64 rfl l0.2).trans (q22 l0.2)
       refine Ri.step_wanted (b:=false) rfl rfl rfl f20 (fun K' hK=>?_)
       go_simp
       exact hK _ _ ⟨_,_,rfl,rfl,hb,q0,q1,q2,q3,q4,q5,q6,q7,q8,q9,q10,q11,q12,q13,q14,q15,q16,q17,q18,q19,q20,q21,q22,fun _=>rfl,q24,q25,q26,q27⟩
     · have l0:L 20=true∧L 21=true∧L 23=true:=by have:=hd _ rfl;simp [Region.binds] at this;simp [this]
       have f20:=(hv 20 62 rfl l0.1).trans (q20 l0.1)
       have f21:=(hv 21 63 rfl l0.2.1).trans (q21 l0.2.1)
       have f23:=(hv 23 65 rfl l0.2.2).trans (q23 l0.2.2)
       refine Ri.step_wanted (b:=false) rfl rfl rfl f20 (fun K' hK=>?_)
       go_simp
       exact hK _ _ ⟨_,_,rfl,rfl,hb,q0,q1,q2,q3,q4,q5,q6,q7,q8,q9,q10,q11,q12,q13,q14,q15,q16,q17,q18,q19,q20,q21,q22,q23,fun _=>rfl,q25,q26,q27⟩
     · have l0:L 20=true∧L 24=true:=by have:=hd _ rfl;simp [Region.binds] at this;simp [this]
       have f20:=(hv 20 62 rfl l0.1).trans (q20 l0.1)
       have f24:=(hv 24 66 rfl l0.2).trans (q24 l0.2)
       refine Ri.step_wanted (b:=false) rfl rfl rfl f20 (fun K' hK=>?_)
       obtain c9:=HC9.out w9 hb
       go_simp
       exact hK _ _ ⟨_,_,rfl,rfl,hb,q0,q1,q2,q3,q4,q5,q6,q7,q8,q9,q10,q11,q12,q13,q14,q15,q16,q17,q18,q19,q20,q21,q22,q23,q24,fun _=>rfl,q26,q27⟩
     · have l0:L 20=true∧L 25=true:=by have:=hd _ rfl;simp [Region.binds] at this;simp [this]
       have f20:=(hv 20 62 rfl l0.1).trans (q20 l0.1)
       have f25:=(hv 25 67 rfl l0.2).trans (q25 l0.2)
       refine Ri.step_wanted (b:=false) rfl rfl rfl f20 (fun K' hK=>?_)
       go_simp
       exact hK _ _ ⟨_,_,rfl,rfl,hb,q0,q1,q2,q3,q4,q5,q6,q7,q8,q9,q10,q11,q12,q13,q14,q15,q16,q17,q18,q19,q20,q21,q22,q23,q24,q25,fun _=>rfl,q27⟩
     · have l0:L 20=true∧L 26=true:=by have:=hd _ rfl;simp [Region.binds] at this;simp [this]
       have f20:=(hv 20 62 rfl l0.1).trans (q20 l0.1)
       have f26:=(hv 26 68 rfl l0.2).trans (q26 l0.2)
       refine Ri.step_plain rfl rfl (fun K' hK=>?_)
       go_simp
       exact hK _ _ ⟨_,_,rfl,rfl,hb,q0,q1,q2,q3,q4,q5,q6,q7,q8,q9,q10,q11,q12,q13,q14,q15,q16,q17,q18,q19,q20,q21,q22,q23,q24,q25,q26,fun _=>rfl⟩
   · rintro v w9 ⟨hb,-,-,-,-,-,-,-,-,-,-,-,-,-,-,-,-,-,-,-,-,-,-,-,-,-,-,-,q27⟩
     have q27':v 27=.bool false:=q27 rfl
     simp only [Ri.frame,List.zipIdx,List.foldl_cons,List.foldl_nil,if_true,List.setIfInBounds_toArray,List.set_cons_zero,List.set_cons_succ,Nat.reduceAdd,q27']
     clear q27 q27'
     generalize v 0=y0;generalize v 1=y1;generalize v 2=y2;generalize v 3=y3;generalize v 4=y4;generalize v 5=y5;generalize v 6=y6;generalize v 7=y7;generalize v 8=y8;generalize v 9=y9;generalize v 10=y10;generalize v 11=y11;generalize v 12=y12;generalize v 13=y13;generalize v 14=y14;generalize v 15=y15;generalize v 16=y16;generalize v 17=y17;generalize v 18=y18;generalize v 19=y19;generalize v 20=y20;generalize v 21=y21;generalize v 22=y22;generalize v 23=y23;generalize v 24=y24;generalize v 25=y25;generalize v 26=y26
     have HB10:=Lib.hid (HB9.out.trans (hb.mono HB9.out.size))
     have HROW10:=Lib.hid (HROW9.out.below hb)
     have HT10:=Lib.hid (keep_blk hb HC49.out);have HU10:=Lib.hid (keep_blk hb HC69.out);have HX10:=Lib.hid (keep_blk hb HC8.out)
     have HO10:=Lib.hid (HO9.out.later hb);have HUT10:=Lib.hid (HU9.out.later hb);have HXT10:=Lib.hid (HX9.out.later hb)
     have hs910:=hb.size
     rename World=>W10
     clear hb HCA HCB HC9 HB9 HROW9 HC49 HC69 HC8 HO9 HU9 HX9 HNU HDE HRD hqx hix
     have hn9:(l ++ [9]).length=l.length+1:=by simp
     have HN9:=Lib.hid hn9
     have HR10:=Lib.hid (show BR w1.heap.size W10 (.slice (some ⟨g3,0,none⟩) (l.length+1) c3) (l ++ [9]) from hn9 ▸ HROW10.out)
     have hg31:=HG3.out.1;have hg32:=HG3.out.2
     clear HROW10 hn9
     go_wp2
     go_loopw [72] (fun iv wr=>∃ (m:Nat) (l':List UInt8),iv=.int .i64 (m:Int)∧m ≤ l.length+1∧Hid (l'.length=l.length+1)∧Hid (BR w1.heap.size wr (.slice (some ⟨g3,0,none⟩) (l.length+1) c3) l')∧Hid (W10.grownBy wr (some g3))) (fun iv _=>l.length+1 - (intOf iv).toNat)
     case atStart=>exact ⟨0,l ++ [9],rfl,Nat.zero_le _,HN9,HR10,Lib.hid ⟨rfl,rfl,rfl,Nat.le_refl _,fun _ _ _=>rfl⟩⟩
     case round =>
       obtain ⟨m,l',rfl,hm,HLE,HR,HG⟩:=hrel
       have wm:IntKind.i64.wrap ((m:Int)+1)=(m:Int)+1:=IntWalk.i64_in _ (by omega)
       by_cases hlt:m < l.length+1
       · have d3:decide ((m:Int) < (l.length:Int)+1)=true:=decide_eq_true (by omega)
         have hmi:(m:Int) < (l.length:Int)+1:=by omega
         obtain ⟨g,cap',hsl,hgb,hcp,⟨u,hu⟩,hfz,hset,hgl⟩:=HR.out.set (by rw [HLE.out];exact hlt) 1 1 rfl
         have HSET:=Lib.hid hset
         injection hsl with hs1 hs2 hs3
         injection hs1 with hs1
         injection hs1 with hs1
         subst hs1
         clear hset hs2 hs3 hgb hcp
         go_wp2
         exact ⟨⟨m+1,l'.set m 1,by go_num,by omega,Lib.hid (by rw [List.length_set];exact HLE.out),HSET,Lib.hid (grownBy_trans HG.out (r':=some g3) ⟨rfl,rfl,rfl,by simp,fun k hk hne=>Below.heap_setCell _ _ _ _ (fun e=>hne (by rw [e]))⟩ (.inl rfl))⟩,by simp [intOf];omega⟩
       · obtain rfl:m=l.length+1:=by omega
         have d3:decide (((l.length+1:Nat):Int) < (l.length:Int)+1)=false:=decide_eq_false (by omega)
         have hmi:¬ ((l.length+1:Nat):Int) < (l.length:Int)+1:=by omega
         have kp:∀ k x,W10.heap[k]? = some x→W3.heap.size ≤ k→wr.heap[k]? = some x:=fun k x hx hk=>(HG.out.block k (Array.getElem?_eq_some_iff.1 hx).1 (by intro e;injection e;omega)).trans hx
         have HTW:=Lib.hid (kp w4.heap.size _ HT10.out hs34)
         have HUW:=Lib.hid (kp w6.heap.size _ HU10.out (by omega));have HXW:=Lib.hid (kp w8.heap.size _ HX10.out (by omega))
         obtain ⟨F,hF1,hF2⟩:=HO10.out
         have hFW:=hF1.keep (w':=wr) fun b hb=>HG.out.block b (hF1.lt b hb) (by have:=(hF2 b hb).1;intro e;injection e;omega)
         have HUT:=Lib.hid (HUT10.out.trees.keep (w':=wr) fun b hb hb2=>HG.out.block b hb (by intro e;injection e;omega))
         have HXT:=Lib.hid (HXT10.out.keep (w':=wr) fun b hb hb2=>HG.out.block b hb (by intro e;injection e;omega))
         have HBR:=Lib.hid (HB10.out.grown HG.out HB10.out.size (fun k e=>by injection e with e;have:=HB1.out.size;omega))
         have HSP:=Lib.hid (spoil_any t wr (.slice pt t.subs.length ct) F hFW)
         have HF2:=Lib.hid hF2
         clear kp HT10 HU10 HX10 HO10 HUT10 HXT10 HB10 hF1 hF2 hFW HR HLE HG HR10 HN9
         go_wp2_with (first
           | (refine wpList_load_row rfl 29 (.tmp 4) rfl w4.heap.size rfl 29 _ (0,0) _ HTW.out Tryd.underlying29 rfl (by kernel_rfl) ?_)
           | fail)
         refine HSP.out.mono ?_
         rintro e w11 ⟨rfl,ht11⟩
         have HU11:=Lib.hid ((ht11.block w6.heap.size (Array.getElem?_eq_some_iff.1 HUW.out).1 (fun h=>by have:=(HF2.out _ h).2;omega)).trans HUW.out)
         have HX11:=Lib.hid ((ht11.block w8.heap.size (Array.getElem?_eq_some_iff.1 HXW.out).1 (fun h=>by have:=(HF2.out _ h).2;omega)).trans HXW.out)
         have HUT11:=Lib.hid (HUT.out.keep (w':=w11) fun b hb hb2=>ht11.block b hb (fun h=>by have:=(HF2.out _ h).2;omega))
         have HXT11:=Lib.hid (HXT.out.keep (w':=w11) fun b hb hb2=>ht11.block b hb (fun h=>by have:=(HF2.out _ h).2;omega))
         have HB11:=Lib.hid (show Below w.heap.size w w11 from ⟨ht11.os.trans HBR.out.os,ht11.tape.trans HBR.out.tape,ht11.output.trans HBR.out.output,Nat.le_trans HBR.out.size ht11.size,fun k hk=>(ht11.block k (Nat.lt_of_lt_of_le hk HBR.out.size) (fun h=>by have:=(HF2.out _ h).1;have:=HB1.out.size;omega)).trans (HBR.out.block k hk)⟩)
         clear ht11 HSP HTW HUW HXW HUT HXT HBR HF2
         go_wp2_with (first
           | (refine wpList_load_row rfl 29 (.tmp 6) rfl w6.heap.size rfl 29 _ (0,0) _ HU11.out Tryd.underlying29 rfl (by kernel_rfl) ?_)
           | (refine wpList_load_row rfl 29 (.tmp 8) rfl w8.heap.size rfl 29 _ (0,0) _ HX11.out Tryd.underlying29 rfl (by kernel_rfl) ?_)
           | fail)
         refine (samenodes_any t t w11 _ _ _ _ ⟨_,rfl,HUT11.out⟩ ⟨_,rfl,HXT11.out⟩).mono ?_
         intro e w12 h12
         obtain ⟨rfl,hb12⟩:=h12.yes rfl
         have HB12:=Lib.hid (HB11.out.trans (hb12.mono HB11.out.size))
         clear hb12 h12
         go_wp2
         go_ret
         exact ⟨rfl,HB12.out⟩
end Go.Proofs.YtoepdfpnkmccoaaDoor
namespace Go.Proofs.YtoepdfpnkmccoaaDoor
open Go.ChangeShapes Go.WideShapes Go.ChangeAt Go.RowKit
theorem Tryd.own:ownKnob Tryd.prog.godebug=none:=by kernel_rfl
theorem Tryd.laidOut:laidOutB Tryd.prog=true:=by kernel_rfl
end Go.Proofs.YtoepdfpnkmccoaaDoor
namespace Go.Proofs.YtoepdfpnkmccoaaDoor
open Go.ChangeShapes Go.WideShapes Go.ChangeAt Go.RowKit
theorem add_at {a:Addr} (h:a.spot=none) (m:Nat):a.add m=⟨a.block,a.off+m,none⟩:=by
 unfold Addr.add
 split
 · rename_i h0;subst h0;cases a;simp_all
 · rfl
end Go.Proofs.YtoepdfpnkmccoaaDoor
namespace Go.Proofs.YtoepdfpnkmccoaaDoor
open Go.ChangeShapes Go.WideShapes Go.ChangeAt Go.RowKit
theorem byte_of {n:Int} (h:(Lit.int .u8 n).wf=true):0 ≤ n∧n < 256:=by
 simp only [Lit.wf,IntKind.min,IntKind.max,IntKind.signed,IntKind.bits,Bool.and_eq_true] at h
 have h1:=h.1;have h2:=h.2
 simp at h1 h2
 omega
theorem Tryd.cellsU8:Tryd.prog.cellsOf 5=1:=by kernel_rfl
theorem open_bytesV {H:Type} {enc:TypeId × Value→H} {W:World} {base b0:Nat} {spare:Nat→Bool} {held:Bool} {v:Value} {y:DataW H} {ps:List MemPlace} {r:Reach}
   (hv:Value.okWide Tryd.prog W r b0 22 v) (h:DataW.Trod enc Tryd.prog W base spare held 22 v y ps):∃ l:List UInt8,BsAt W v l:=by
 have hspot:∀ a len cap,v=.slice (some a) len cap→a.spot=none:=by
   rintro a len cap rfl
   simp only [Value.okWide,Tryd.underlying22,Cell.okWide,Cell.ok] at hv
   exact hv.2.2.2.1
 obtain ⟨a1,len,cap,rfl⟩:=okWide_slice Tryd.underlying22 hv
 obtain ⟨fuel,hf⟩:=h
 rcases open_ints Tryd.underlying22 Tryd.underlying5 Tryd.cellsU8 hf with ⟨hcs,-⟩ | ⟨a,len',cap',zs,hcs,-,hl,-,hz,-,hcell,hwz⟩
 · simp [Value.cells] at hcs
   obtain ⟨rfl,rfl,rfl⟩:=hcs
   exact ⟨[],.inl ⟨rfl,rfl⟩⟩
 · simp [Value.cells] at hcs
   obtain ⟨rfl,rfl,rfl⟩:=hcs
   have hsp:=hspot a len cap rfl
   have hzl:len ≤ zs.length:=by rw [hz];split <;> omega
   have hlen:((zs.take len).map fun n=>UInt8.ofNat n.toNat).length=len:=by rw [List.length_map,List.length_take];omega
   refine ⟨(zs.take len).map fun n=>UInt8.ofNat n.toNat,.inr ⟨a.block,a.off,cap, ?_, ?_,fun j hj=>?_⟩⟩
   · rw [hlen]
     obtain ⟨b,o,s⟩:=a
     have hs:s=none:=hsp
     rw [hs]
   · rw [hlen];exact hl
   · rw [hlen] at hj
     have hcj:=hcell j (by omega)
     rw [add_at hsp] at hcj
     rw [hcj]
     have hjz:j < zs.length:=by omega
     have hb:=byte_of (hwz zs[j] (List.getElem_mem hjz))
     simp only [List.getElem_map,List.getElem_take,List.getD,List.getElem?_eq_getElem hjz,Option.getD_some,UInt8.toNat_ofNat']
     congr 2
     omega
end Go.Proofs.YtoepdfpnkmccoaaDoor
namespace Go.Proofs.YtoepdfpnkmccoaaDoor
open Go.ChangeShapes Go.WideShapes Go.ChangeAt Go.RowKit
theorem im_laid_split {P:Program} {l:List (String × DataW Unit)} {W:World} (h:laidMetH P l W):laidMet P (l.filter fun x=>x.2.handleName?.isNone) W:=by
 unfold laidMetH at h
 generalize hfl:(l.filter fun x=>x.2.handleName?.isSome)=fl at h
 cases fl with
 | nil =>
   have e:(l.filter fun x=>x.2.handleName?.isNone)=l:=by
     rw [List.filter_eq_self]
     intro x hx
     have:=List.filter_eq_nil_iff.1 hfl x hx
     cases hh:x.2.handleName? with
     | none=>rfl
     | some y=>rw [hh] at this;simp at this
   rw [e]
   exact h
 | cons x r=>exact h.1
theorem im_errList_plain:∀ x,x ∈ errList→x.2.handleName?.isNone=true:=by
 have h:(errList.all fun x=>x.2.handleName?.isNone)=true:=by kernel_rfl
 intro x hx
 exact List.all_eq_true.1 h x hx
theorem im_env_of {l:List (String × DataW Unit)} {W:World} (h:laidMetH Tryd.prog l W) (hl:∀ x,x ∈ errList→x ∈ l):∃ A,Errs W A :=
 errs_of (im_laid_split h) fun x hx=>List.mem_filter.2 ⟨hl x hx,im_errList_plain x hx⟩
end Go.Proofs.YtoepdfpnkmccoaaDoor
