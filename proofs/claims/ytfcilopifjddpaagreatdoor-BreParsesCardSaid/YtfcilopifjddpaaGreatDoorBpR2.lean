/- Part 2 of what these proofs need. -/
import Derived.Deep.Cut
import Derived.Test.YtfcilopifjddpaaGreatDoorChecked
import Derived.LaidEql
import Derived.Stop.Asserts
import Derived.Stop.IfaceNil
import Derived.RowKitTokens
import Derived.Deep.LoopGhost
import Derived.ProofKit
import Derived.LaidMore
import Derived.LaidHandle
import Derived.OpenShut
import Derived.MakeChecks
import Derived.Stop.LaidErr
import Derived.Shelf.Strings.Builder1
import Derived.Shelf.Small.Strs
import Derived.Shelf.Small.Wraps
import Derived.Shelf.Strings.BuilderF
import Derived.Shelf.Strings.BuilderK
import Derived.Shelf.Strconv.Itoa0
import Derived.Shelf.Strconv.Itoa1
import Derived.Shelf.LaysM
import Derived.Shelf.Strconv.Itoa2
import Derived.Shelf.Strconv.Itoa3
import Derived.Shelf.Strings.Search1
import Derived.Shelf.Strings.Search2
import Derived.Shelf.Strings.Cut
import Derived.Shelf.Strings.Shaped
import Derived.Shelf.Strings.Prefix
import Derived.Shelf.Strings.BuilderCap
import Derived.Test.YtfcilopifjddpaaGreatDoorProg
import Derived.Lib.CutLaws
import Derived.Test.YtfcilopifjddpaaGreatDoorBpR1
set_option maxRecDepth 100000
set_option maxHeartbeats 16000000
namespace Go.Proofs.YtfcilopifjddpaaGreatDoor
open Go.RowKit
def ansC:Br.Ans→Array Value
 | .ok P j=>#[.int .u64 (Oc.U (Oc.mk P 0)),.int .u64 (Oc.U (Oc.mk P 1)),.int .u64 (Oc.U (Oc.mk P 2)),.int .u64 (Oc.U (Oc.mk P 3)),.int .i64 j,.int .i64 0,.int .i64 0]
 | .err c p=>#[.int .u64 0,.int .u64 0,.int .u64 0,.int .u64 0,.int .i64 0,.int .i64 c,.int .i64 p]
def ansV (R:Br.Ans):Value:=.agg (ansC R)
theorem ansC_one (R:Br.Ans):(ansC R).all (·.oneCell')=true:=by cases R <;> simp [ansC,Value.oneCell']
theorem dotted_is (s:ByteArray) (hs:s.size ≤ 1152921504606846976) (j:Int) (i:Nat) (hj:j=i) (hi:i ≤ s.size+10) (b:Bool) (hb:Br.dotted (bt s) i=b) (w:World) :
   Calls Tryz.prog 185 #[.string s,.int .i64 j] w fun e w'=>e=.returned (.bool b)∧w=w':=by
 have:=dotted_any s hs j i hj hi w
 rw [hb] at this;exact this
theorem colon_is (s:ByteArray) (hs:s.size ≤ 1152921504606846976) (j:Int) (i:Nat) (hj:j=i) (hi:i ≤ s.size+10) (b:Bool) (hb:Br.colon (bt s) i=b) (w:World) :
   Calls Tryz.prog 186 #[.string s,.int .i64 j] w fun e w'=>e=.returned (.bool b)∧w=w':=by
 have:=colon_any s hs j i hj hi w
 rw [hb] at this;exact this
theorem closing_is (s:ByteArray) (hs:s.size ≤ 1152921504606846976) (j:Int) (i:Nat) (hj:j=i) (hi:i ≤ s.size+10) (o:Option Nat) (ho:Br.clos (bt s) (s.size - (i+1)) i=o) (w:World) :
   Calls Tryz.prog 187 #[.string s,.int .i64 j] w fun e w'=>e=.returned (.int .i64 (optI o))∧w=w':=by
 have:=closing_any s hs j i hj hi w
 rw [ho] at this;exact this
def ItemEnd (R:Br.Ans) (w:World) (e:Ending) (w':World):Prop:=e=.returned (ansV R)∧Below w.heap.size w w'
theorem item_dotted (s:ByteArray) (hs:s.size ≤ 1152921504606846976) (i a:Nat) (hi:i < s.size) (h1:Br.dotted (bt s) i=true) (w:World) :
   Calls Tryz.prog 166 #[.string s,.int .i64 i,.int .i64 a] w (ItemEnd (.err 7 i) w):=by
 have HD:=Lib.hid (dotted_is s hs i i rfl (by omega) true h1)
 clear h1
 go_enter Tryz.func166,Tryz.ntmps166
 go_wp2_with fail
 refine (HD.out _).mono ?_;rintro e w' ⟨rfl,rfl⟩
 go_wp2
 exact bodyPost_ret (v:=ansV (.err 7 i)) (by simp [results,Tryz.results166,go_sem];rfl) rfl ⟨rfl,by go_grown⟩
theorem item_open (s:ByteArray) (hs:s.size ≤ 1152921504606846976) (i a:Nat) (hi:i < s.size) (h1:Br.dotted (bt s) i=false) (h2:Br.colon (bt s) i=true) (h3:Br.clos (bt s) (s.size - (i+3)) (i+2)=none) (w:World) :
   Calls Tryz.prog 166 #[.string s,.int .i64 i,.int .i64 a] w (ItemEnd (.err 1 a) w):=by
 have HD:=Lib.hid (dotted_is s hs i i rfl (by omega) false h1)
 have HC:=Lib.hid (colon_is s hs i i rfl (by omega) true h2)
 have HL:=Lib.hid (closing_is s hs ((i:Int)+2) (i+2) (by omega) (by omega) none h3)
 have hw:IntKind.i64.wrap ((i:Int)+2)=(i:Int)+2:=IntWalk.i64_in _ (by omega)
 clear h1 h2 h3
 go_enter Tryz.func166,Tryz.ntmps166
 go_wp2_with fail
 refine (HD.out _).mono ?_;rintro e w' ⟨rfl,rfl⟩
 go_wp2_with fail
 refine (HC.out _).mono ?_;rintro e w' ⟨rfl,rfl⟩
 go_wp2_with fail
 refine (HL.out _).mono ?_;rintro e w' ⟨rfl,rfl⟩
 unfold optI
 go_wp2
 exact bodyPost_ret (v:=ansV (.err 1 a)) (by simp [results,Tryz.results166,go_sem];rfl) rfl ⟨rfl,by go_grown⟩
theorem name_part (s:ByteArray) (i e:Nat) (h:i ≤ e) (he:e ≤ s.size):Br.part (bt s) i (e - i)=(s.extract i e).data.toList.map (·.toNat):=by
 apply List.ext_getElem
 · unfold Br.part;simp;omega
 · intro k h1 h2
   unfold Br.part at h1 ⊢
   simp at h1
   simp only [List.getElem_map,List.getElem_range]
   have hk:i+k < s.size:=by omega
   rw [bt_in hk]
   unfold byteAt
   congr 1
   simp [hk]
theorem item_name (s:ByteArray) (hs:s.size ≤ 1152921504606846976) (i a e:Nat) (hi:i < s.size) (h1:Br.dotted (bt s) i=false) (h2:Br.colon (bt s) i=true) (h3:Br.clos (bt s) (s.size - (i+3)) (i+2)=some e) (w:World) :
   Calls Tryz.prog 166 #[.string s,.int .i64 i,.int .i64 a] w (ItemEnd (Br.named (bt s) i e) w):=by
 obtain ⟨e1,e2,-⟩:=Br.clos_some h3
 have HD:=Lib.hid (dotted_is s hs i i rfl (by omega) false h1)
 have HC:=Lib.hid (colon_is s hs i i rfl (by omega) true h2)
 have HL:=Lib.hid (closing_is s hs ((i:Int)+2) (i+2) (by omega) (by omega) (some e) h3)
 have hw:IntKind.i64.wrap ((i:Int)+2)=(i:Int)+2:=IntWalk.i64_in _ (by omega)
 have hw2:IntKind.i64.wrap ((e:Int)+2)=(e:Int)+2:=IntWalk.i64_in _ (by omega)
 have hep:=name_part s (i+2) e e1 (by omega)
 clear h1 h2 h3
 unfold Br.named
 rw [hep]
 clear hep
 cases hc:Br.clsAt ((s.extract (i+2) e).data.toList.map (·.toNat)) with
 | none =>
   have HN:=Lib.hid (refnamed_no _ (clsAt_none hc))
   clear hc
   go_enter Tryz.func166,Tryz.ntmps166
   go_wp2_with fail
   refine (HD.out _).mono ?_;rintro e w' ⟨rfl,rfl⟩
   go_wp2_with fail
   refine (HC.out _).mono ?_;rintro e w' ⟨rfl,rfl⟩
   go_wp2_with fail
   refine (HL.out _).mono ?_;rintro e w' ⟨rfl,rfl⟩
   unfold optI
   go_wp2_with fail
   refine (HN.out _).mono ?_;rintro e' w1 ⟨rfl,hb1⟩
   have Z1:=Lib.hid (keep_blk hb1 (heap_alloc_new w _))
   have hb2:Below w.heap.size w w1:=((Below.refl _ _).alloc (Nat.le_refl _) _).trans (hb1.mono (by simp))
   have hsz:w.heap.size < w1.heap.size:=by have:=hb1.size;simp at this;omega
   have Z2:=fun o=>Lib.hid (heap_alloc_lt (o:=o) Z1.out)
   have HB:=fun o=>Lib.hid (hb2.alloc (o:=o) hb2.size)
   clear hb1 hb2
   go_wp2_with (first
     | (refine wpList_store_row rfl 167 (.tmp 6) (.tmp 40) rfl w.heap.size (ansC (.err 6 i)) rfl rfl 167 _ (Z2 _).out (by kernel_rfl) rfl (ansC_one _) ?_)
     | fail)
   exact bodyPost_ret (results_cell_row rfl _ _ w.heap.size 167 (ansC (.err 6 i)) (0,0) _ rfl (heap_setRow (Z2 _).out) Tryz.underlying167 rfl (by kernel_rfl)) rfl ⟨rfl,below_setRow (HB _).out (Nat.le_refl _) _⟩
 | some k =>
   obtain ⟨hk,hnm⟩:=clsAt_some hc
   have HN:=Lib.hid (known k hk).2
   rw [← hnm] at HN
   clear hc hnm
   go_enter Tryz.func166,Tryz.ntmps166
   go_wp2_with fail
   refine (HD.out _).mono ?_;rintro e w' ⟨rfl,rfl⟩
   go_wp2_with fail
   refine (HC.out _).mono ?_;rintro e w' ⟨rfl,rfl⟩
   go_wp2_with fail
   refine (HL.out _).mono ?_;rintro e w' ⟨rfl,rfl⟩
   unfold optI
   go_wp2_with fail
   refine (HN.out _).mono ?_;rintro e' w1 ⟨rfl,hb1⟩
   have Z1:=Lib.hid (keep_blk hb1 (heap_alloc_new w _))
   have hb2:Below w.heap.size w w1:=((Below.refl _ _).alloc (Nat.le_refl _) _).trans (hb1.mono (by simp))
   have hsz:w.heap.size < w1.heap.size:=by have:=hb1.size;simp at this;omega
   have Z2:=fun o=>Lib.hid (heap_alloc_lt (o:=o) Z1.out)
   have HB:=fun o=>Lib.hid (hb2.alloc (o:=o) hb2.size)
   clear hb1 hb2
   go_wp2_with (first
     | (refine wpList_store_row rfl 167 (.tmp 6) (.tmp 44) rfl w.heap.size (ansC (.ok (Cl.cls k) (e+2))) rfl rfl 167 _ (Z2 _).out (by kernel_rfl) rfl (ansC_one _) ?_)
     | fail)
   exact bodyPost_ret (results_cell_row rfl _ _ w.heap.size 167 (ansC (.ok (Cl.cls k) (e+2))) (0,0) _ rfl (heap_setRow (Z2 _).out) Tryz.underlying167 rfl (by kernel_rfl)) rfl ⟨rfl,below_setRow (HB _).out (Nat.le_refl _) _⟩
theorem item_rdotted (s:ByteArray) (hs:s.size ≤ 1152921504606846976) (i a:Nat) (h1:Br.dotted (bt s) i=false) (h2:Br.colon (bt s) i=false) (h3:Br.isRange (bt s) s.size i=true) (h4:Br.dotted (bt s) (i+2)=true) (w:World) :
   Calls Tryz.prog 166 #[.string s,.int .i64 i,.int .i64 a] w (ItemEnd (.err 7 ((i:Int)+2)) w):=by
 unfold Br.isRange at h3
 simp only [Bool.and_eq_true,decide_eq_true_eq,bne_iff_ne,ne_eq] at h3
 obtain ⟨⟨h31,h32⟩,h33⟩:=h3
 have HD:=Lib.hid (dotted_is s hs i i rfl (by omega) false h1)
 have HC:=Lib.hid (colon_is s hs i i rfl (by omega) false h2)
 have HI:=Lib.hid (ris_nat s hs ((i:Int)+1) (i+1) 45 (by omega) (by omega) true h31)
 have HD2:=Lib.hid (dotted_is s hs ((i:Int)+2) (i+2) (by omega) (by omega) true h4)
 have hw1:IntKind.i64.wrap ((i:Int)+1)=(i:Int)+1:=IntWalk.i64_in _ (by omega)
 have hw:IntKind.i64.wrap ((i:Int)+2)=(i:Int)+2:=IntWalk.i64_in _ (by omega)
 have hd:decide ((i:Int)+2 < s.size)=true:=by simp;omega
 have h93:((s[i+2].toNat:Int) != 93)=true:=by rw [bt_at h32];simp;omega
 clear h1 h2 h31 h33 h4
 go_enter Tryz.func166,Tryz.ntmps166
 go_wp2_with fail
 refine (HD.out _).mono ?_;rintro e w' ⟨rfl,rfl⟩
 go_wp2_with fail
 refine (HC.out _).mono ?_;rintro e w' ⟨rfl,rfl⟩
 go_wp2_with fail
 refine (HI.out _).mono ?_;rintro e w' ⟨rfl,rfl⟩
 go_wp2_with fail
 refine (HD2.out _).mono ?_;rintro e w' ⟨rfl,rfl⟩
 go_wp2
 exact bodyPost_ret (v:=ansV (.err 7 ((i:Int)+2))) (by simp [results,Tryz.results166,go_sem];rfl) rfl ⟨rfl,by go_grown⟩
end Go.Proofs.YtfcilopifjddpaaGreatDoor
namespace Go.Proofs.YtfcilopifjddpaaGreatDoor
open Go.RowKit
theorem below_drewN {B n:Nat} {a w:World} (h:Below B a w):Below B a (w.drewN n):=⟨h.os,h.tape,h.output,h.size,h.block⟩
theorem colon_q (s:ByteArray) (hs:s.size ≤ 1152921504606846976) (j:Int) (i:Nat) (hj:j=i) (hi:i ≤ s.size+10) (b:Bool) (hb:Br.colon (bt s) i=b) (w:World) :
   Calls Tryz.prog 186 #[.string s,.int .i64 j] w fun e w'=>e=.returned (.bool b)∧w'=w :=
 (colon_is s hs j i hj hi b hb w).mono fun _ _ h=>⟨h.1,h.2.symm⟩
theorem item_rbad (s:ByteArray) (hs:s.size ≤ 1152921504606846976) (i a:Nat) (h1:Br.dotted (bt s) i=false) (h2:Br.colon (bt s) i=false) (h3:Br.isRange (bt s) s.size i=true) (h4:Br.dotted (bt s) (i+2)=false)
   (h5:(Br.colon (bt s) (i+2) || decide (bt s (i+2) < bt s i))=true) (w:World) :
   Calls Tryz.prog 166 #[.string s,.int .i64 i,.int .i64 a] w (ItemEnd (.err 5 i) w):=by
 unfold Br.isRange at h3
 simp only [Bool.and_eq_true,decide_eq_true_eq,bne_iff_ne,ne_eq] at h3
 obtain ⟨⟨h31,h32⟩,h33⟩:=h3
 have HD:=Lib.hid (dotted_is s hs i i rfl (by omega) false h1)
 have HC:=Lib.hid (colon_is s hs i i rfl (by omega) false h2)
 have HI:=Lib.hid (ris_nat s hs ((i:Int)+1) (i+1) 45 (by omega) (by omega) true h31)
 have HD2:=Lib.hid (dotted_is s hs ((i:Int)+2) (i+2) (by omega) (by omega) false h4)
 have hw1:IntKind.i64.wrap ((i:Int)+1)=(i:Int)+1:=IntWalk.i64_in _ (by omega)
 have hw:IntKind.i64.wrap ((i:Int)+2)=(i:Int)+2:=IntWalk.i64_in _ (by omega)
 have hd:decide ((i:Int)+2 < s.size)=true:=by simp;omega
 have h93:((s[i+2].toNat:Int) != 93)=true:=by rw [bt_at h32];simp;omega
 have HW:=Lib.hid (show IntKind.i64.wrap ((i:Int)+2)=((i+2:Nat):Int) by rw [hw];push_cast;rfl)
 cases hc:Br.colon (bt s) (i+2) with
 | true =>
   have HC2:=Lib.hid (fun j hj=>colon_q s hs j (i+2) hj (by omega) true hc)
   clear h1 h2 h31 h33 h4 h5 hc
   go_enter Tryz.func166,Tryz.ntmps166
   go_wp2_with fail
   refine (HD.out _).mono ?_;rintro e w' ⟨rfl,rfl⟩
   go_wp2_with fail
   refine (HC.out _).mono ?_;rintro e w' ⟨rfl,rfl⟩
   go_wp2_with fail
   refine (HI.out _).mono ?_;rintro e w' ⟨rfl,rfl⟩
   go_wp2_with fail
   refine (HD2.out _).mono ?_;rintro e w' ⟨rfl,rfl⟩
   go_wp2
   go_quiet ((go_at_call 186;exact Calls.quiet_of_same (HC2.out _ (by first | rfl | exact HW.out) _)))
   go_wp2
   exact bodyPost_ret (v:=ansV (.err 5 i)) (by simp [results,Tryz.results166,go_sem];rfl) rfl ⟨rfl,by go_grown;exact below_drewN ((Below.refl _ _).alloc (Nat.le_refl _) _)⟩
 | false =>
   have HC2:=Lib.hid (fun j hj=>colon_q s hs j (i+2) hj (by omega) false hc)
   rw [hc,Bool.false_or,decide_eq_true_eq] at h5
   have n1:0 ≤ (i:Int)+2:=by omega
   have n2:((i:Int)+2).toNat=i+2:=by omega
   have n3:i < s.size:=by omega
   have hlt:decide (s[i+2].toNat < s[i].toNat)=true:=by rw [bt_at h32,bt_at n3];simp;omega
   clear h1 h2 h31 h33 h4 h5 hc
   go_enter Tryz.func166,Tryz.ntmps166
   go_wp2_with fail
   refine (HD.out _).mono ?_;rintro e w' ⟨rfl,rfl⟩
   go_wp2_with fail
   refine (HC.out _).mono ?_;rintro e w' ⟨rfl,rfl⟩
   go_wp2_with fail
   refine (HI.out _).mono ?_;rintro e w' ⟨rfl,rfl⟩
   go_wp2_with fail
   refine (HD2.out _).mono ?_;rintro e w' ⟨rfl,rfl⟩
   go_wp2
   go_quiet ((go_at_call 186;exact Calls.quiet_of_same (HC2.out _ (by first | rfl | exact HW.out) _)))
   go_wp2
   exact bodyPost_ret (v:=ansV (.err 5 i)) (by simp [results,Tryz.results166,go_sem];rfl) rfl ⟨rfl,by go_grown;exact below_drewN ((Below.refl _ _).alloc (Nat.le_refl _) _)⟩
theorem upto_rng (lo hi:Nat):upto lo (hi+1)=Br.rng lo hi:=by
 funext b;unfold upto Br.rng;congr 1;rw [decide_eq_decide];omega
theorem item_range (s:ByteArray) (hs:s.size ≤ 1152921504606846976) (i a:Nat) (h1:Br.dotted (bt s) i=false) (h2:Br.colon (bt s) i=false) (h3:Br.isRange (bt s) s.size i=true) (h4:Br.dotted (bt s) (i+2)=false)
   (h5:(Br.colon (bt s) (i+2) || decide (bt s (i+2) < bt s i))=false) (w:World) :
   Calls Tryz.prog 166 #[.string s,.int .i64 i,.int .i64 a] w (ItemEnd (.ok (Br.rng (bt s i) (bt s (i+2))) (i+3)) w):=by
 unfold Br.isRange at h3
 simp only [Bool.and_eq_true,decide_eq_true_eq,bne_iff_ne,ne_eq] at h3
 obtain ⟨⟨h31,h32⟩,h33⟩:=h3
 have HD:=Lib.hid (dotted_is s hs i i rfl (by omega) false h1)
 have HC:=Lib.hid (colon_is s hs i i rfl (by omega) false h2)
 have HI:=Lib.hid (ris_nat s hs ((i:Int)+1) (i+1) 45 (by omega) (by omega) true h31)
 have HD2:=Lib.hid (dotted_is s hs ((i:Int)+2) (i+2) (by omega) (by omega) false h4)
 have hw1:IntKind.i64.wrap ((i:Int)+1)=(i:Int)+1:=IntWalk.i64_in _ (by omega)
 have hw:IntKind.i64.wrap ((i:Int)+2)=(i:Int)+2:=IntWalk.i64_in _ (by omega)
 have hw3:IntKind.i64.wrap ((i:Int)+3)=(i:Int)+3:=IntWalk.i64_in _ (by omega)
 have hd:decide ((i:Int)+2 < s.size)=true:=by simp;omega
 have h93:((s[i+2].toNat:Int) != 93)=true:=by rw [bt_at h32];simp;omega
 have HW:=Lib.hid (show IntKind.i64.wrap ((i:Int)+2)=((i+2:Nat):Int) by rw [hw];push_cast;rfl)
 simp only [Bool.or_eq_false_iff] at h5
 have HC2:=Lib.hid (fun j hj=>colon_q s hs j (i+2) hj (by omega) false h5.1)
 have n1:0 ≤ (i:Int)+2:=by omega
 have n2:((i:Int)+2).toNat=i+2:=by omega
 have n3:i < s.size:=by omega
 have hlt:decide (s[i+2].toNat < s[i].toNat)=false:=by rw [bt_at h32,bt_at n3];exact h5.2
 have hr:=fun w=>refrange_any (bt s i) (bt s (i+2)) ((bt_txt s).1 i n3) ((bt_txt s).1 (i+2) h32) w
 rw [upto_rng] at hr
 have HR:=Lib.hid hr
 have X1:=Lib.hid (bt_at n3);have X2:=Lib.hid (bt_at h32)
 clear h1 h2 h31 h33 h4 h5 hr
 go_enter Tryz.func166,Tryz.ntmps166
 go_wp2_with fail
 refine (HD.out _).mono ?_;rintro e w' ⟨rfl,rfl⟩
 go_wp2_with fail
 refine (HC.out _).mono ?_;rintro e w' ⟨rfl,rfl⟩
 go_wp2_with fail
 refine (HI.out _).mono ?_;rintro e w' ⟨rfl,rfl⟩
 go_wp2_with fail
 refine (HD2.out _).mono ?_;rintro e w' ⟨rfl,rfl⟩
 go_wp2
 go_quiet ((go_at_call 186;exact Calls.quiet_of_same (HC2.out _ (by first | rfl | exact HW.out) _)))
 go_wp2
 have Z0:=Lib.hid (heap_alloc_new w (.cells #[.int .u64 0,.int .u64 0,.int .u64 0,.int .u64 0,.int .i64 0,.int .i64 0,.int .i64 0] 167))
 have HB0:=Lib.hid (below_drewN (n:=nq) ((Below.refl w.heap.size w).alloc (Nat.le_refl _) (.cells #[.int .u64 0,.int .u64 0,.int .u64 0,.int .u64 0,.int .i64 0,.int .i64 0,.int .i64 0] 167)))
 have Z0:Hid (((w.alloc (.cells #[.int .u64 0,.int .u64 0,.int .u64 0,.int .u64 0,.int .i64 0,.int .i64 0,.int .i64 0] 167)).drewN nq).heap[w.heap.size]? = _):=Z0
 generalize World.drewN _ nq=W at *
 have x1:=X1.out;have x2:=X2.out
 refine Ri.wp_region_frame (by kernel_rfl) (by kernel_rfl) (by kernel_rfl) (by kernel_rfl)
   (fun L v w'=>Below w.heap.size w w'∧W.heap.size ≤ w'.heap.size∧(L 11=true→w'.heap[w.heap.size]? = some (.cells (ansC (.ok (Br.rng (bt s i) (bt s (i+2))) (i+3))) 167))∧(L 11=false→w'.heap[w.heap.size]? = some (.cells #[.int .u64 0,.int .u64 0,.int .u64 0,.int .u64 0,.int .i64 0,.int .i64 0,.int .i64 0] 167))∧(L 0=true→v 0=.string s)∧(L 1=true→v 1=.int .i64 i)∧(L 2=true→v 2=.int .u8 (bt s i))∧(L 3=true→v 3=.string s)∧(L 4=true→v 4=.int .i64 i)∧(L 5=true→v 5=.int .i64 ((i:Int)+2))∧(L 6=true→v 6=.int .u8 (bt s (i+2)))∧(L 7=true→v 7=(.agg #[.int .u64 (Oc.U (Oc.mk (Br.rng (bt s i) (bt s (i+2))) 0)),.int .u64 (Oc.U (Oc.mk (Br.rng (bt s i) (bt s (i+2))) 1)),.int .u64 (Oc.U (Oc.mk (Br.rng (bt s i) (bt s (i+2))) 2)),.int .u64 (Oc.U (Oc.mk (Br.rng (bt s i) (bt s (i+2))) 3))]))∧(L 8=true→v 8=.int .i64 i)∧(L 9=true→v 9=.int .i64 ((i:Int)+3))∧(L 10=true→v 10=.agg #[.int .u64 (Oc.U (Oc.mk (Br.rng (bt s i) (bt s (i+2))) 0)),.int .u64 (Oc.U (Oc.mk (Br.rng (bt s i) (bt s (i+2))) 1)),.int .u64 (Oc.U (Oc.mk (Br.rng (bt s i) (bt s (i+2))) 2)),.int .u64 (Oc.U (Oc.mk (Br.rng (bt s i) (bt s (i+2))) 3)),.int .i64 ((i:Int)+3),.int .i64 0,.int .i64 0]))
   ?_ ?_ ?_
 · exact ⟨HB0.out.drew,Nat.le_refl _,(by simp),(fun _=>Z0.out),by simp,by simp,by simp,by simp,by simp,by simp,by simp,by simp,by simp,by simp,by simp⟩
 · intro i hi9 L v w9 xa hI hL hd hv ho
   have hi':i=0 ∨ i=1 ∨ i=2 ∨ i=3 ∨ i=4 ∨ i=5 ∨ i=6 ∨ i=7 ∨ i=8 ∨ i=9 ∨ i=10 ∨ i=11:=by simp at hi9;omega
   obtain ⟨hb,hz,qn,qo,q0,q1,q2,q3,q4,q5,q6,q7,q8,q9,q10⟩:=hI
   rcases hi' with rfl | rfl | rfl | rfl | rfl | rfl | rfl | rfl | rfl | rfl | rfl | rfl
   · have e0:xa.tmps.getD 0 undef=.string s:=ho 0 (by kernel_rfl)
     refine Ri.step_plain rfl rfl (fun K' hK=>?_)
     go_simp
     exact hK _ _ ⟨_,_,rfl,rfl,hb,hz,qn,qo,fun _=>rfl,q1,q2,q3,q4,q5,q6,q7,q8,q9,q10⟩
   · have e1:xa.tmps.getD 1 undef=.int .i64 i:=ho 1 (by kernel_rfl)
     refine Ri.step_plain rfl rfl (fun K' hK=>?_)
     go_simp
     exact hK _ _ ⟨_,_,rfl,rfl,hb,hz,qn,qo,q0,fun _=>rfl,q2,q3,q4,q5,q6,q7,q8,q9,q10⟩
   · have l0:L 0=true∧L 1=true:=by have:=hd _ rfl;simp [Region.binds] at this;simp [this]
     have f0:=(hv 0 89 rfl l0.1).trans (q0 l0.1)
     have f1:=(hv 1 90 rfl l0.2).trans (q1 l0.2)
     refine Ri.step_plain rfl rfl (fun K' hK=>?_)
     go_simp
     exact hK _ _ ⟨_,_,rfl,rfl,hb,hz,qn,qo,q0,q1,fun _=>rfl,q3,q4,q5,q6,q7,q8,q9,q10⟩
   · have e0:xa.tmps.getD 0 undef=.string s:=ho 0 (by kernel_rfl)
     refine Ri.step_plain rfl rfl (fun K' hK=>?_)
     go_simp
     exact hK _ _ ⟨_,_,rfl,rfl,hb,hz,qn,qo,q0,q1,q2,fun _=>rfl,q4,q5,q6,q7,q8,q9,q10⟩
   · have e1:xa.tmps.getD 1 undef=.int .i64 i:=ho 1 (by kernel_rfl)
     refine Ri.step_plain rfl rfl (fun K' hK=>?_)
     go_simp
     exact hK _ _ ⟨_,_,rfl,rfl,hb,hz,qn,qo,q0,q1,q2,q3,fun _=>rfl,q5,q6,q7,q8,q9,q10⟩
   · have l0:L 4=true:=by have:=hd _ rfl;simp [Region.binds] at this;simp [this]
     have f4:=(hv 4 93 rfl l0).trans (q4 l0)
     refine Ri.step_plain rfl rfl (fun K' hK=>?_)
     go_simp
     exact hK _ _ ⟨_,_,rfl,rfl,hb,hz,qn,qo,q0,q1,q2,q3,q4,fun _=>rfl,q6,q7,q8,q9,q10⟩
   · have l0:L 3=true∧L 5=true:=by have:=hd _ rfl;simp [Region.binds] at this;simp [this]
     have f3:=(hv 3 92 rfl l0.1).trans (q3 l0.1)
     have f5:=(hv 5 94 rfl l0.2).trans (q5 l0.2)
     refine Ri.step_plain rfl rfl (fun K' hK=>?_)
     go_simp
     exact hK _ _ ⟨_,_,rfl,rfl,hb,hz,qn,qo,q0,q1,q2,q3,q4,q5,fun _=>rfl,q7,q8,q9,q10⟩
   · have l0:L 2=true∧L 6=true:=by have:=hd _ rfl;simp [Region.binds] at this;simp [this]
     have f2:=(hv 2 91 rfl l0.1).trans (q2 l0.1)
     have f6:=(hv 6 95 rfl l0.2).trans (q6 l0.2)
     refine Ri.step_plain rfl rfl (fun K' hK=>?_)
     go_simp
     refine (HR.out _).mono ?_
     rintro e w8 ⟨rfl,hb8⟩
     exact hK _ _ ⟨_,_,rfl,rfl,hb.trans (hb8.mono hb.size),Nat.le_trans hz hb8.size,(fun l=>keep_blk hb8 (qn l)),(fun l=>keep_blk hb8 (qo l)),q0,q1,q2,q3,q4,q5,q6,fun _=>rfl,q8,q9,q10⟩
   · have e1:xa.tmps.getD 1 undef=.int .i64 i:=ho 1 (by kernel_rfl)
     refine Ri.step_plain rfl rfl (fun K' hK=>?_)
     go_simp
     exact hK _ _ ⟨_,_,rfl,rfl,hb,hz,qn,qo,q0,q1,q2,q3,q4,q5,q6,q7,fun _=>rfl,q9,q10⟩
   · have l0:L 8=true:=by have:=hd _ rfl;simp [Region.binds] at this;simp [this]
     have f8:=(hv 8 97 rfl l0).trans (q8 l0)
     refine Ri.step_plain rfl rfl (fun K' hK=>?_)
     go_simp
     exact hK _ _ ⟨_,_,rfl,rfl,hb,hz,qn,qo,q0,q1,q2,q3,q4,q5,q6,q7,q8,fun _=>rfl,q10⟩
   · have l0:L 7=true∧L 9=true:=by have:=hd _ rfl;simp [Region.binds] at this;simp [this]
     have f7:=(hv 7 96 rfl l0.1).trans (q7 l0.1)
     have f9:=(hv 9 98 rfl l0.2).trans (q9 l0.2)
     refine Ri.step_plain rfl rfl (fun K' hK=>?_)
     have g96:=(Array.getD_eq_getD_getElem? (xs:=xa.tmps) (i:=96) (d:=undef)).symm.trans f7
     have g98:=(Array.getD_eq_getD_getElem? (xs:=xa.tmps) (i:=98) (d:=undef)).symm.trans f9
     go_simp
     exact hK _ _ ⟨_,_,rfl,rfl,hb,hz,qn,qo,q0,q1,q2,q3,q4,q5,q6,q7,q8,q9,fun _=>rfl⟩
   · have l0:L 10=true:=by have:=hd _ rfl;simp [Region.binds] at this;simp [this]
     have f10:=(hv 10 99 rfl l0).trans (q10 l0)
     have e6:xa.tmps.getD 6 undef=.pointer (some ⟨w.heap.size,0,none⟩):=ho 6 (by kernel_rfl)
     refine Ri.step_plain rfl rfl (fun K' hK=>?_)
     refine wp_store_row _ _ _ rfl w.heap.size (ansC (.ok (Br.rng (bt s i) (bt s (i+2))) (i+3))) e6 f10 167 _ (qo hL) (by kernel_rfl) (by kernel_rfl) (ansC_one _) ?_
     exact hK _ _ ⟨_,undef,rfl,rfl,below_setRow hb (Nat.le_refl _) _,by simpa using hz,(fun _=>heap_setRow (qo hL)),(fun h=>by cases h),q0,q1,q2,q3,q4,q5,q6,q7,q8,q9,q10⟩
 · rintro v w9 ⟨hb,hz,qn,-,-,-,-,-,-,-,-,-,-,-,-⟩
   have zN:=qn rfl;clear qn
   simp only [Ri.frame,List.zipIdx,List.foldl_cons,List.foldl_nil,if_true,List.setIfInBounds_toArray,List.set_cons_zero,List.set_cons_succ,Nat.reduceAdd]
   generalize v 0=y0;generalize v 1=y1;generalize v 2=y2;generalize v 3=y3;generalize v 4=y4;generalize v 5=y5;generalize v 6=y6;generalize v 7=y7;generalize v 8=y8;generalize v 9=y9;generalize v 10=y10
   go_wp2
   exact bodyPost_ret (results_cell_row rfl _ _ w.heap.size 167 (ansC (.ok (Br.rng (bt s i) (bt s (i+2))) (i+3))) (0,0) _ rfl zN Tryz.underlying167 rfl (by kernel_rfl)) rfl ⟨rfl,hb⟩
theorem of_byte (s:ByteArray) (i:Nat) (hi:i < s.size) (w:World) :
   Calls Tryz.prog 136 #[.string (s.extract i (i+1))] w fun e w'=>e=.returned (.agg #[.int .u64 (Oc.U (Oc.mk (fun b=>b == bt s i) 0)),.int .u64 (Oc.U (Oc.mk (fun b=>b == bt s i) 1)),.int .u64 (Oc.U (Oc.mk (fun b=>b == bt s i) 2)),.int .u64 (Oc.U (Oc.mk (fun b=>b == bt s i) 3))])∧Below w.heap.size w w':=by
 have hsz:(s.extract i (i+1)).size=1:=by simp;omega
 have h:=refof_any (s.extract i (i+1)) (by rw [hsz];unfold maxLen;omega) w
 have hb:Oc.anyB (byteAt (s.extract i (i+1))) (s.extract i (i+1)).size=fun b=>b == bt s i:=by
   rw [hsz]
   funext b
   have:byteAt (s.extract i (i+1)) 0=bt s i:=by
     have hi':i < s.data.size:=hi
     have hx:(s.data.extract i (i+1))[0]? = some s.data[i]:=by
       rw [Array.getElem?_extract,if_pos (by omega)];simp
     rw [bt_in hi];unfold byteAt;congr 1;simp [hi,hx]
   simp [Oc.anyB,this]
 rw [hb] at h
 exact h
theorem item_byte (s:ByteArray) (hs:s.size ≤ 1152921504606846976) (i a:Nat) (hi:i < s.size) (h1:Br.dotted (bt s) i=false) (h2:Br.colon (bt s) i=false) (h3:Br.isRange (bt s) s.size i=false) (w:World) :
   Calls Tryz.prog 166 #[.string s,.int .i64 i,.int .i64 a] w (ItemEnd (.ok (fun b=>b == bt s i) (i+1)) w):=by
 have HD:=Lib.hid (dotted_is s hs i i rfl (by omega) false h1)
 have HC:=Lib.hid (colon_is s hs i i rfl (by omega) false h2)
 have HI:=Lib.hid (fun b hb=>ris_nat s hs ((i:Int)+1) (i+1) 45 (by omega) (by omega) b hb)
 have hw1:IntKind.i64.wrap ((i:Int)+1)=(i:Int)+1:=IntWalk.i64_in _ (by omega)
 have hw:IntKind.i64.wrap ((i:Int)+2)=(i:Int)+2:=IntWalk.i64_in _ (by omega)
 have hsp:(bt s (i+1) == 45)=false ∨ ((bt s (i+1) == 45)=true∧¬ i+2 < s.size) ∨ ((bt s (i+1) == 45)=true∧i+2 < s.size∧bt s (i+2)=93):=by
   unfold Br.isRange at h3
   cases hx:(bt s (i+1) == 45) with
   | false=>exact .inl rfl
   | true =>
     rw [hx] at h3
     by_cases hd:i+2 < s.size
     · exact .inr (.inr ⟨rfl,hd,by simpa [hd] using h3⟩)
     · exact .inr (.inl ⟨rfl,hd⟩)
 have HO:=Lib.hid (of_byte s i hi)
 have hle:i+1 ≤ s.size:=hi
 clear h1 h2 h3
 rcases hsp with hx | ⟨hx,hn⟩ | ⟨hx,hd,h93⟩
 · have HI1:=Lib.hid (HI.out false hx)
   clear hx HI
   go_enter Tryz.func166,Tryz.ntmps166
   go_wp2_with fail
   refine (HD.out _).mono ?_;rintro e w' ⟨rfl,rfl⟩
   go_wp2_with fail
   refine (HC.out _).mono ?_;rintro e w' ⟨rfl,rfl⟩
   go_wp2_with fail
   refine (HI1.out _).mono ?_;rintro e w' ⟨rfl,rfl⟩
   go_wp2_with fail
   refine (HO.out _).mono ?_;rintro e w1 ⟨rfl,hb1⟩
   have Z1:=Lib.hid (keep_blk hb1 (heap_alloc_new w _))
   have HB:=Lib.hid (((Below.refl _ _).alloc (Nat.le_refl _) _).trans (hb1.mono (by simp)))
   clear hb1
   go_wp2_with (first
     | (refine wpList_store_row rfl 167 (.tmp 6) (.tmp 108) rfl w.heap.size (ansC (.ok (fun b=>b == bt s i) (i+1))) rfl rfl 167 _ Z1.out (by kernel_rfl) rfl (ansC_one _) ?_)
     | fail)
   exact bodyPost_ret (results_cell_row rfl _ _ w.heap.size 167 (ansC (.ok (fun b=>b == bt s i) (i+1))) (0,0) _ rfl (heap_setRow Z1.out) Tryz.underlying167 rfl (by kernel_rfl)) rfl ⟨rfl,by exact below_setRow HB.out (Nat.le_refl _) _⟩
 · have HI1:=Lib.hid (HI.out true hx)
   have hd2:decide ((i:Int)+2 < s.size)=false:=by simp;omega
   clear hx HI
   go_enter Tryz.func166,Tryz.ntmps166
   go_wp2_with fail
   refine (HD.out _).mono ?_;rintro e w' ⟨rfl,rfl⟩
   go_wp2_with fail
   refine (HC.out _).mono ?_;rintro e w' ⟨rfl,rfl⟩
   go_wp2_with fail
   refine (HI1.out _).mono ?_;rintro e w' ⟨rfl,rfl⟩
   go_wp2_with fail
   refine (HO.out _).mono ?_;rintro e w1 ⟨rfl,hb1⟩
   have Z1:=Lib.hid (keep_blk hb1 (heap_alloc_new w _))
   have HB:=Lib.hid (((Below.refl _ _).alloc (Nat.le_refl _) _).trans (hb1.mono (by simp)))
   clear hb1
   go_wp2_with (first
     | (refine wpList_store_row rfl 167 (.tmp 6) (.tmp 108) rfl w.heap.size (ansC (.ok (fun b=>b == bt s i) (i+1))) rfl rfl 167 _ Z1.out (by kernel_rfl) rfl (ansC_one _) ?_)
     | fail)
   exact bodyPost_ret (results_cell_row rfl _ _ w.heap.size 167 (ansC (.ok (fun b=>b == bt s i) (i+1))) (0,0) _ rfl (heap_setRow Z1.out) Tryz.underlying167 rfl (by kernel_rfl)) rfl ⟨rfl,by exact below_setRow HB.out (Nat.le_refl _) _⟩
 · have HI1:=Lib.hid (HI.out true hx)
   have hd2:decide ((i:Int)+2 < s.size)=true:=by simp;omega
   have hx93:((s[i+2].toNat:Int) != 93)=false:=by rw [bt_at hd,h93];rfl
   clear hx HI h93
   go_enter Tryz.func166,Tryz.ntmps166
   go_wp2_with fail
   refine (HD.out _).mono ?_;rintro e w' ⟨rfl,rfl⟩
   go_wp2_with fail
   refine (HC.out _).mono ?_;rintro e w' ⟨rfl,rfl⟩
   go_wp2_with fail
   refine (HI1.out _).mono ?_;rintro e w' ⟨rfl,rfl⟩
   go_wp2_with fail
   refine (HO.out _).mono ?_;rintro e w1 ⟨rfl,hb1⟩
   have Z1:=Lib.hid (keep_blk hb1 (heap_alloc_new w _))
   have HB:=Lib.hid (((Below.refl _ _).alloc (Nat.le_refl _) _).trans (hb1.mono (by simp)))
   clear hb1
   go_wp2_with (first
     | (refine wpList_store_row rfl 167 (.tmp 6) (.tmp 108) rfl w.heap.size (ansC (.ok (fun b=>b == bt s i) (i+1))) rfl rfl 167 _ Z1.out (by kernel_rfl) rfl (ansC_one _) ?_)
     | fail)
   exact bodyPost_ret (results_cell_row rfl _ _ w.heap.size 167 (ansC (.ok (fun b=>b == bt s i) (i+1))) (0,0) _ rfl (heap_setRow Z1.out) Tryz.underlying167 rfl (by kernel_rfl)) rfl ⟨rfl,by exact below_setRow HB.out (Nat.le_refl _) _⟩
theorem refitem_any (s:ByteArray) (hs:s.size ≤ 1152921504606846976) (i a:Nat) (hi:i < s.size) (w:World) :
   Calls Tryz.prog 166 #[.string s,.int .i64 i,.int .i64 a] w (ItemEnd (Br.item (bt s) s.size i a) w):=by
 unfold Br.item
 cases h1:Br.dotted (bt s) i with
 | true=>exact item_dotted s hs i a hi h1 w
 | false =>
   cases h2:Br.colon (bt s) i with
   | true =>
     show Calls _ _ _ _ (ItemEnd (Br.classed (bt s) s.size i a) w)
     unfold Br.classed
     cases h3:Br.clos (bt s) (s.size - (i+3)) (i+2) with
     | none=>exact item_open s hs i a hi h1 h2 h3 w
     | some e=>exact item_name s hs i a e hi h1 h2 h3 w
   | false =>
     cases h3:Br.isRange (bt s) s.size i with
     | true =>
       show Calls _ _ _ _ (ItemEnd (Br.ranged (bt s) i) w)
       unfold Br.ranged
       cases h4:Br.dotted (bt s) (i+2) with
       | true=>exact item_rdotted s hs i a h1 h2 h3 h4 w
       | false =>
         cases h5:(Br.colon (bt s) (i+2) || decide (bt s (i+2) < bt s i)) with
         | true=>exact item_rbad s hs i a h1 h2 h3 h4 h5 w
         | false=>exact item_range s hs i a h1 h2 h3 h4 h5 w
     | false=>exact item_byte s hs i a hi h1 h2 h3 w
end Go.Proofs.YtfcilopifjddpaaGreatDoor
namespace Go.Proofs.YtfcilopifjddpaaGreatDoor
namespace Br
theorem mk_or (p q:Nat→Bool) (k:Nat):Oc.mk p k ||| Oc.mk q k=Oc.mk (fun j=>p j || q j) k:=by
 refine (Oc.mk_eq fun i hi=>?_).symm
 rw [BitVec.getLsbD_or,Oc.mk_bit _ _ _ hi,Oc.mk_bit _ _ _ hi]
theorem mk_and (p q:Nat→Bool) (k:Nat):Oc.mk p k &&& Oc.mk q k=Oc.mk (fun j=>p j && q j) k:=by
 refine (Oc.mk_eq fun i hi=>?_).symm
 rw [BitVec.getLsbD_and,Oc.mk_bit _ _ _ hi,Oc.mk_bit _ _ _ hi]
theorem mk_not (p:Nat→Bool) (k:Nat) : ~~~(Oc.mk p k)=Oc.mk (fun j=>!p j) k:=by
 refine (Oc.mk_eq fun i hi=>?_).symm
 rw [BitVec.getLsbD_not,Oc.mk_bit _ _ _ hi];simp [hi]
theorem mk_same {p q:Nat→Bool} {k:Nat} (hk:k < 4) (h:∀ i,i < 256→p i=q i):Oc.mk p k=Oc.mk q k:=by
 refine Oc.mk_eq fun i hi=>?_
 rw [h _ (by omega),Oc.mk_bit _ _ _ hi]
theorem mk_fold (p:Nat→Bool) (k:Nat) (hk:k < 4):Oc.mk (Cl.fold (Oc.mem (Oc.mk p 0) (Oc.mk p 1) (Oc.mk p 2) (Oc.mk p 3))) k=Oc.mk (Cl.fold p) k :=
 mk_same hk fun i hi=>by unfold Cl.fold;rw [Oc.mem_mk p i hi,Oc.mem_mk p _ (Cl.oth_lt hi)]
end Br
end Go.Proofs.YtfcilopifjddpaaGreatDoor
namespace Go.Proofs.YtfcilopifjddpaaGreatDoor
open Go.RowKit
def mix (op:Bool→Bool→Bool) (f g:Nat→Bool) (k:Nat):Nat→Bool:=fun j=>if j < k then op (f j) (g j) else f j
theorem mix_zero (op:Bool→Bool→Bool) (f g:Nat→Bool):mix op f g 0=f:=by funext j;simp [mix]
theorem mix_at (op:Bool→Bool→Bool) (f g:Nat→Bool) (k:Nat):mix op f g k k=f k:=by simp [mix]
theorem mix_new (op:Bool→Bool→Bool) (f g:Nat→Bool) (k:Nat):mix op f g (k+1) k=op (f k) (g k):=by simp [mix]
theorem mix_old (op:Bool→Bool→Bool) (f g:Nat→Bool) (k j:Nat) (h:j ≠ k):mix op f g (k+1) j=mix op f g k j:=by
 unfold mix;have:(j < k+1)=(j < k):=by rw [eq_iff_iff];omega
 simp only [this]
theorem mix_words {op:Bool→Bool→Bool} {a b c d a' b' c' d' x y z t:BitVec 64} (h:∀ i,Oc.mem x y z t i=op (Oc.mem a b c d i) (Oc.mem a' b' c' d' i)) :
   Oc.mk (mix op (Oc.mem a b c d) (Oc.mem a' b' c' d') 256) 0=x∧Oc.mk (mix op (Oc.mem a b c d) (Oc.mem a' b' c' d') 256) 1=y∧Oc.mk (mix op (Oc.mem a b c d) (Oc.mem a' b' c' d') 256) 2=z∧Oc.mk (mix op (Oc.mem a b c d) (Oc.mem a' b' c' d') 256) 3=t:=by
 have e:=mk_same4 (p:=mix op (Oc.mem a b c d) (Oc.mem a' b' c' d') 256) (q:=Oc.mem x y z t) fun i hi=>by unfold mix;rw [if_pos hi,h]
 have m:=mk_mem x y z t
 exact ⟨e.1.trans m.1,e.2.1.trans m.2.1,e.2.2.1.trans m.2.2.1,e.2.2.2.trans m.2.2.2⟩
theorem refjoin_any (a b c d a' b' c' d':BitVec 64) (w:World) :
   Calls Tryz.prog 167 #[(.agg #[.int .u64 (Oc.U a),.int .u64 (Oc.U b),.int .u64 (Oc.U c),.int .u64 (Oc.U d)]),(.agg #[.int .u64 (Oc.U a'),.int .u64 (Oc.U b'),.int .u64 (Oc.U c'),.int .u64 (Oc.U d')])] w fun e w'=>e=.returned (.agg #[.int .u64 (Oc.U (a ||| a')),.int .u64 (Oc.U (b ||| b')),.int .u64 (Oc.U (c ||| c')),.int .u64 (Oc.U (d ||| d'))])∧Below w.heap.size w w':=by
 have hz:∀ w,(zeroValue 159).run Tryz.prog w=.ok (.agg (bools fun _=>false)) w:=fun _=>by kernel_rfl
 go_enter Tryz.func167,Tryz.ntmps167
 go_wp2_with fail
 have t3:=three_new w (.cells #[.int .u64 (Oc.U a),.int .u64 (Oc.U b),.int .u64 (Oc.U c),.int .u64 (Oc.U d)] 25) (.cells #[.int .u64 (Oc.U a'),.int .u64 (Oc.U b'),.int .u64 (Oc.U c'),.int .u64 (Oc.U d')] 25) (.cells #[.int .u64 0,.int .u64 0,.int .u64 0,.int .u64 0] 25)
 have hbw:Below w.heap.size w (((w.alloc (.cells #[.int .u64 (Oc.U a),.int .u64 (Oc.U b),.int .u64 (Oc.U c),.int .u64 (Oc.U d)] 25)).alloc (.cells #[.int .u64 (Oc.U a'),.int .u64 (Oc.U b'),.int .u64 (Oc.U c'),.int .u64 (Oc.U d')] 25)).alloc (.cells #[.int .u64 0,.int .u64 0,.int .u64 0,.int .u64 0] 25)):=by go_grown
 have hsz:(((w.alloc (.cells #[.int .u64 (Oc.U a),.int .u64 (Oc.U b),.int .u64 (Oc.U c),.int .u64 (Oc.U d)] 25)).alloc (.cells #[.int .u64 (Oc.U a'),.int .u64 (Oc.U b'),.int .u64 (Oc.U c'),.int .u64 (Oc.U d')] 25)).alloc (.cells #[.int .u64 0,.int .u64 0,.int .u64 0,.int .u64 0] 25)).heap.size=w.heap.size+3:=by simp
 generalize (((w.alloc (.cells #[.int .u64 (Oc.U a),.int .u64 (Oc.U b),.int .u64 (Oc.U c),.int .u64 (Oc.U d)] 25)).alloc (.cells #[.int .u64 (Oc.U a'),.int .u64 (Oc.U b'),.int .u64 (Oc.U c'),.int .u64 (Oc.U d')] 25)).alloc (.cells #[.int .u64 0,.int .u64 0,.int .u64 0,.int .u64 0] 25))=W at *
 have T3:=Lib.hid t3
 have HSZ:=Lib.hid hsz
 clear t3 hsz
 refine Ri.wp_region_frame (by kernel_rfl) (by kernel_rfl) (by kernel_rfl) (by kernel_rfl)
   (fun L v w'=>Below W.heap.size W w'∧(L 0=true→v 0=(.agg #[.int .u64 (Oc.U a),.int .u64 (Oc.U b),.int .u64 (Oc.U c),.int .u64 (Oc.U d)]))∧(L 1=true→v 1=.agg (bools (Oc.mem a b c d)))∧(L 2=true→v 2=(.agg #[.int .u64 (Oc.U a'),.int .u64 (Oc.U b'),.int .u64 (Oc.U c'),.int .u64 (Oc.U d')]))∧(L 3=true→v 3=.agg (bools (Oc.mem a' b' c' d'))) ∧
     (L 4=true→∃ g,v 4=.pointer (some ⟨g,0,none⟩)∧W.heap.size ≤ g∧w'.heap[g]? = some (.cells (bools (if L 6 then Oc.mem a b c d else fun _=>false)) 159)) ∧
     (L 5=true→∃ g,v 5=.pointer (some ⟨g,0,none⟩)∧W.heap.size ≤ g∧w'.heap[g]? = some (.cells (bools (if L 7 then Oc.mem a' b' c' d' else fun _=>false)) 159)) ∧
     (L 4=true→L 5=true→v 4 ≠ v 5)∧(L 6=true→L 4=true)∧(L 7=true→L 5=true))
   ?_ ?_ ?_
 · exact ⟨(Below.refl _ _).drew,by simp,by simp,by simp,by simp,by simp,by simp,by simp,by simp,by simp⟩
 · intro i hi L v w1 x hI hL hd hv ho
   have hi':i=0 ∨ i=1 ∨ i=2 ∨ i=3 ∨ i=4 ∨ i=5 ∨ i=6 ∨ i=7:=by simp at hi;omega
   obtain ⟨hb,q0,q1,q2,q3,q4,q5,q6,q7,q8⟩:=hI
   obtain ⟨m0,m1,m2⟩:=T3.out
   have hsz:=HSZ.out
   rcases hi' with rfl | rfl | rfl | rfl | rfl | rfl | rfl | rfl
   · have e2:x.tmps.getD 2 undef=.pointer (some ⟨w.heap.size,0,none⟩):=ho 2 (by kernel_rfl)
     obtain ⟨c0,c1,c2,c3,-⟩:=four ((hb.block w.heap.size (by omega)).trans m0)
     refine wpOp_step rfl (fun K' hK=>?_)
     clear m0 m1 m2 hsz
     go_simp
     exact hK _ _ ⟨_,_,rfl,rfl,hb,fun _=>rfl,q1,q2,q3,q4,q5,q6,q7,q8⟩
   · have l0:L 0=true:=by have:=hd _ rfl;simp [Region.binds] at this;simp [this]
     have e8:=(hv 0 8 rfl l0).trans (q0 l0)
     refine wpOp_step rfl (fun K' hK=>?_)
     clear m0 m1 m2 hsz
     go_simp
     refine (bits_any _ _ _ _ _).mono ?_
     rintro e w2 ⟨rfl,hb2⟩
     refine hK _ _ ⟨_,_,rfl,rfl,hb.trans (hb2.mono hb.size),q0,fun _=>rfl,q2,q3,fun h=>?_,fun h=>?_,q6,q7,q8⟩
     · obtain ⟨g,h1,h2,h3⟩:=q4 h;exact ⟨g,h1,h2,keep_blk hb2 h3⟩
     · obtain ⟨g,h1,h2,h3⟩:=q5 h;exact ⟨g,h1,h2,keep_blk hb2 h3⟩
   · have e3:x.tmps.getD 3 undef=.pointer (some ⟨w.heap.size+1,0,none⟩):=ho 3 (by kernel_rfl)
     obtain ⟨c0,c1,c2,c3,-⟩:=four ((hb.block (w.heap.size+1) (by omega)).trans m1)
     refine wpOp_step rfl (fun K' hK=>?_)
     clear m0 m1 m2 hsz
     go_simp
     exact hK _ _ ⟨_,_,rfl,rfl,hb,q0,q1,fun _=>rfl,q3,q4,q5,q6,q7,q8⟩
   · have l0:L 2=true:=by have:=hd _ rfl;simp [Region.binds] at this;simp [this]
     have e8:=(hv 2 10 rfl l0).trans (q2 l0)
     refine wpOp_step rfl (fun K' hK=>?_)
     clear m0 m1 m2 hsz
     go_simp
     refine (bits_any _ _ _ _ _).mono ?_
     rintro e w2 ⟨rfl,hb2⟩
     refine hK _ _ ⟨_,_,rfl,rfl,hb.trans (hb2.mono hb.size),q0,q1,q2,fun _=>rfl,fun h=>?_,fun h=>?_,q6,q7,q8⟩
     · obtain ⟨g,h1,h2,h3⟩:=q4 h;exact ⟨g,h1,h2,keep_blk hb2 h3⟩
     · obtain ⟨g,h1,h2,h3⟩:=q5 h;exact ⟨g,h1,h2,keep_blk hb2 h3⟩
   · refine wpOp_step rfl (fun K' hK=>?_)
     have hl6:L 6=false:=by cases h:L 6 with | false=>rfl | true=>rw [q7 h] at hL;cases hL
     clear m0 m1 m2 hsz
     go_simp
     refine hK _ _ ⟨_,_,rfl,rfl,hb.alloc hb.size _,q0,q1,q2,q3,fun _=>⟨w1.heap.size,rfl,hb.size, ?_⟩,fun h=>?_,fun _ h e=>?_,fun h=>rfl,q8⟩
     · show (w1.alloc _).heap[w1.heap.size]? = some (.cells (bools (if L 6 then _ else _)) _)
       rw [hl6];exact heap_alloc_new _ _
     · obtain ⟨g,h1,h2,h3⟩:=q5 h;exact ⟨g,h1,h2,heap_alloc_lt h3⟩
     · obtain ⟨g,h1,h2,h3⟩:=q5 h
       have e':Value.pointer (some ⟨w1.heap.size,0,none⟩)=v 5:=e
       rw [h1] at e'
       have:=(Array.getElem?_eq_some_iff.1 h3).1
       (simp at e') <;> omega
   · refine wpOp_step rfl (fun K' hK=>?_)
     have hl6:L 7=false:=by cases h:L 7 with | false=>rfl | true=>rw [q8 h] at hL;cases hL
     clear m0 m1 m2 hsz
     go_simp
     refine hK _ _ ⟨_,_,rfl,rfl,hb.alloc hb.size _,q0,q1,q2,q3,fun h=>?_,fun _=>⟨w1.heap.size,rfl,hb.size, ?_⟩,fun h _ e=>?_,q7,fun h=>rfl⟩
     · obtain ⟨g,h1,h2,h3⟩:=q4 h;exact ⟨g,h1,h2,heap_alloc_lt h3⟩
     · show (w1.alloc _).heap[w1.heap.size]? = some (.cells (bools (if L 7 then _ else _)) _)
       rw [hl6];exact heap_alloc_new _ _
     · obtain ⟨g,h1,h2,h3⟩:=q4 h
       have e':v 4=Value.pointer (some ⟨w1.heap.size,0,none⟩):=e
       rw [h1] at e'
       have:=(Array.getElem?_eq_some_iff.1 h3).1
       (simp at e') <;> omega
   · have l14:L 4=true∧L 1=true:=by have:=hd _ rfl;simp [Region.binds] at this;simp [this]
     obtain ⟨g,h1,h2,h3⟩:=q4 l14.1
     have e5:=(hv 4 5 rfl l14.1).trans h1
     have e9:=(hv 1 9 rfl l14.2).trans (q1 l14.2)
     refine Ri.step_plain rfl rfl (fun K' hK=>?_)
     refine wp_store_row _ _ _ rfl g (bools (Oc.mem a b c d)) e5 e9 159 _ h3 (by rw [bools_size];kernel_rfl) (by rw [bools_size,bools_size]) (bools_one _) ?_
     refine hK _ _ ⟨_,undef,rfl,rfl,below_setRow hb h2 _,q0,q1,q2,q3,fun _=>⟨g,h1,h2,heap_setRow h3⟩,fun h=>?_,q6,fun _=>l14.1,q8⟩
     obtain ⟨g',k1,k2,k3⟩:=q5 h
     have hne:g' ≠ g:=fun e=>q6 l14.1 h (by rw [h1,k1,e])
     exact ⟨g',k1,k2,(heap_setRow_other _ _ _ hne).trans k3⟩
   · have l14:L 5=true∧L 3=true:=by have:=hd _ rfl;simp [Region.binds] at this;simp [this]
     obtain ⟨g,h1,h2,h3⟩:=q5 l14.1
     have e5:=(hv 5 6 rfl l14.1).trans h1
     have e9:=(hv 3 11 rfl l14.2).trans (q3 l14.2)
     refine Ri.step_plain rfl rfl (fun K' hK=>?_)
     refine wp_store_row _ _ _ rfl g (bools (Oc.mem a' b' c' d')) e5 e9 159 _ h3 (by rw [bools_size];kernel_rfl) (by rw [bools_size,bools_size]) (bools_one _) ?_
     refine hK _ _ ⟨_,undef,rfl,rfl,below_setRow hb h2 _,q0,q1,q2,q3,fun h=>?_,fun _=>⟨g,h1,h2,heap_setRow h3⟩,q6,q7,fun _=>l14.1⟩
     obtain ⟨g',k1,k2,k3⟩:=q4 h
     have hne:g' ≠ g:=fun e=>q6 h l14.1 (by rw [h1,k1,e])
     exact ⟨g',k1,k2,(heap_setRow_other _ _ _ hne).trans k3⟩
 · rintro v w1 ⟨hb,-,-,-,-,q4,q5,q6,-,-⟩
   obtain ⟨g,h1,h2,h3⟩:=q4 rfl
   obtain ⟨g',k1,k2,k3⟩:=q5 rfl
   have hne:g' ≠ g:=fun e=>q6 rfl rfl (by rw [h1,k1,e])
   have h3':w1.heap[g]? = some (.cells (bools (Oc.mem a b c d)) 159):=h3
   have k3':w1.heap[g']? = some (.cells (bools (Oc.mem a' b' c' d')) 159):=k3
   clear h3 k3 q4 q5 q6
   simp only [Ri.frame,List.zipIdx,List.foldl_cons,List.foldl_nil,if_true,List.setIfInBounds_toArray,List.set_cons_zero,List.set_cons_succ]
   rw [h1,k1]
   have hb0:Below w.heap.size w w1:=hbw.trans (hb.mono hbw.size)
   have hr:w1.heap[w.heap.size+1+1]? = some (.cells #[.int .u64 0,.int .u64 0,.int .u64 0,.int .u64 0] 25):=(hb.block _ (by have:=HSZ.out;omega)).trans T3.out.2.2
   have hg:w.heap.size+3 ≤ g:=by have:=HSZ.out;omega
   have hg':w.heap.size+3 ≤ g':=by have:=HSZ.out;omega
   generalize v 0=y8;generalize v (0+1)=y9;generalize v (0+1+1)=y10;generalize v (0+1+1+1)=y11
   clear h1 k1 h2 k2 hb T3 HSZ hbw
   go_wp2
   go_loopw [7] (fun i wr=>∃ k:Nat,k ≤ 256∧i=.int .i64 k∧Below w.heap.size w wr∧wr.heap[w.heap.size+1+1]? = some (.cells #[.int .u64 0,.int .u64 0,.int .u64 0,.int .u64 0] 25) ∧
     wr.heap[g]? = some (.cells (bools (mix or (Oc.mem a b c d) (Oc.mem a' b' c' d') k)) 159)∧wr.heap[g']? = some (.cells (bools (Oc.mem a' b' c' d')) 159)) (fun i _=>256 - (intOf i).toNat)
   case atStart=>exact ⟨0,Nat.zero_le _,rfl,hb0,hr,by rw [mix_zero];exact h3',k3'⟩
   case round =>
     clear hb0 hr h3' k3'
     obtain ⟨k,hk,rfl,hbel,hz0,hz1,hz2⟩:=hrel
     by_cases hlt:k < 256
     · obtain ⟨l0,f0⟩:=one_cell hlt hz1
       have m0:=(one_cell hlt hz2).1
       rw [mix_at] at l0
       have hnew:=mix_new or (Oc.mem a b c d) (Oc.mem a' b' c' d') k
       generalize Oc.mem a b c d k=x at *
       generalize Oc.mem a' b' c' d' k=y at *
       have HN:=Lib.hid hnew
       have HZ0:=Lib.hid hz0
       have HZ1:=Lib.hid hz1
       have HZ2:=Lib.hid hz2
       clear hnew hz0 hz1 hz2
       cases x
       all_goals
         go_wp2
         exact ⟨⟨k+1,by omega,by go_num,hbel.setCell (by show w.heap.size ≤ g;omega) _,by rw [Below.heap_setCell _ _ _ _ (by show w.heap.size+1+1 ≠ g;omega)];exact HZ0.out,one_set hlt HZ1.out (by rw [HN.out];rfl) (fun j hj=>mix_old _ _ _ _ _ hj),by rw [Below.heap_setCell _ _ _ _ (by show g' ≠ g;exact hne)];exact HZ2.out⟩,by simp [intOf];omega⟩
     · obtain rfl:k=256:=by omega
       have hw:=mix_words (op:=or) (a:=a) (b:=b) (c:=c) (d:=d) (a':=a') (b':=b') (c':=c') (d':=d') (Oc.mem_or a b c d a' b' c' d')
       have HW:=Lib.hid hw
       have HZ0:=Lib.hid hz0
       have HZ1:=Lib.hid hz1
       clear hw hz0 hz1 hz2
       go_wp2_with (first
         | (refine wpList_load_row rfl _ _ rfl g rfl 159 (bools (mix or (Oc.mem a b c d) (Oc.mem a' b' c' d') 256)) (0,0) _ HZ1.out Tryz.underlying159 rfl (by rw [bools_size];kernel_rfl) ?_)
         | fail)
       refine (made_any _ _).mono ?_
       rintro e w2 ⟨rfl,hb2⟩
       rw [HW.out.1,HW.out.2.1,HW.out.2.2.1,HW.out.2.2.2]
       obtain ⟨d0,e0,d1,e1,d2,e2,d3,e3,r0,r1,r2,r3⟩:=four_st (keep_blk hb2 HZ0.out)
       have hbw2:=hbel.trans (hb2.mono hbel.size)
       go_wp2
       refine bodyPost_ret (v:=(.agg #[.int .u64 (Oc.U (a ||| a')),.int .u64 (Oc.U (b ||| b')),.int .u64 (Oc.U (c ||| c')),.int .u64 (Oc.U (d ||| d'))])) (by simp [results,Tryz.results167,go_sem,r0,r1,r2,r3]) rfl ⟨rfl, ?_⟩
       go_grown
theorem refmeet_any (a b c d a' b' c' d':BitVec 64) (w:World) :
   Calls Tryz.prog 168 #[(.agg #[.int .u64 (Oc.U a),.int .u64 (Oc.U b),.int .u64 (Oc.U c),.int .u64 (Oc.U d)]),(.agg #[.int .u64 (Oc.U a'),.int .u64 (Oc.U b'),.int .u64 (Oc.U c'),.int .u64 (Oc.U d')])] w fun e w'=>e=.returned (.agg #[.int .u64 (Oc.U (a &&& a')),.int .u64 (Oc.U (b &&& b')),.int .u64 (Oc.U (c &&& c')),.int .u64 (Oc.U (d &&& d'))])∧Below w.heap.size w w':=by
 have hz:∀ w,(zeroValue 159).run Tryz.prog w=.ok (.agg (bools fun _=>false)) w:=fun _=>by kernel_rfl
 go_enter Tryz.func168,Tryz.ntmps168
 go_wp2_with fail
 have t3:=three_new w (.cells #[.int .u64 (Oc.U a),.int .u64 (Oc.U b),.int .u64 (Oc.U c),.int .u64 (Oc.U d)] 25) (.cells #[.int .u64 (Oc.U a'),.int .u64 (Oc.U b'),.int .u64 (Oc.U c'),.int .u64 (Oc.U d')] 25) (.cells #[.int .u64 0,.int .u64 0,.int .u64 0,.int .u64 0] 25)
 have hbw:Below w.heap.size w (((w.alloc (.cells #[.int .u64 (Oc.U a),.int .u64 (Oc.U b),.int .u64 (Oc.U c),.int .u64 (Oc.U d)] 25)).alloc (.cells #[.int .u64 (Oc.U a'),.int .u64 (Oc.U b'),.int .u64 (Oc.U c'),.int .u64 (Oc.U d')] 25)).alloc (.cells #[.int .u64 0,.int .u64 0,.int .u64 0,.int .u64 0] 25)):=by go_grown
 have hsz:(((w.alloc (.cells #[.int .u64 (Oc.U a),.int .u64 (Oc.U b),.int .u64 (Oc.U c),.int .u64 (Oc.U d)] 25)).alloc (.cells #[.int .u64 (Oc.U a'),.int .u64 (Oc.U b'),.int .u64 (Oc.U c'),.int .u64 (Oc.U d')] 25)).alloc (.cells #[.int .u64 0,.int .u64 0,.int .u64 0,.int .u64 0] 25)).heap.size=w.heap.size+3:=by simp
 generalize (((w.alloc (.cells #[.int .u64 (Oc.U a),.int .u64 (Oc.U b),.int .u64 (Oc.U c),.int .u64 (Oc.U d)] 25)).alloc (.cells #[.int .u64 (Oc.U a'),.int .u64 (Oc.U b'),.int .u64 (Oc.U c'),.int .u64 (Oc.U d')] 25)).alloc (.cells #[.int .u64 0,.int .u64 0,.int .u64 0,.int .u64 0] 25))=W at *
 have T3:=Lib.hid t3
 have HSZ:=Lib.hid hsz
 clear t3 hsz
 refine Ri.wp_region_frame (by kernel_rfl) (by kernel_rfl) (by kernel_rfl) (by kernel_rfl)
   (fun L v w'=>Below W.heap.size W w'∧(L 0=true→v 0=(.agg #[.int .u64 (Oc.U a),.int .u64 (Oc.U b),.int .u64 (Oc.U c),.int .u64 (Oc.U d)]))∧(L 1=true→v 1=.agg (bools (Oc.mem a b c d)))∧(L 2=true→v 2=(.agg #[.int .u64 (Oc.U a'),.int .u64 (Oc.U b'),.int .u64 (Oc.U c'),.int .u64 (Oc.U d')]))∧(L 3=true→v 3=.agg (bools (Oc.mem a' b' c' d'))) ∧
     (L 4=true→∃ g,v 4=.pointer (some ⟨g,0,none⟩)∧W.heap.size ≤ g∧w'.heap[g]? = some (.cells (bools (if L 6 then Oc.mem a b c d else fun _=>false)) 159)) ∧
     (L 5=true→∃ g,v 5=.pointer (some ⟨g,0,none⟩)∧W.heap.size ≤ g∧w'.heap[g]? = some (.cells (bools (if L 7 then Oc.mem a' b' c' d' else fun _=>false)) 159)) ∧
     (L 4=true→L 5=true→v 4 ≠ v 5)∧(L 6=true→L 4=true)∧(L 7=true→L 5=true))
   ?_ ?_ ?_
 · exact ⟨(Below.refl _ _).drew,by simp,by simp,by simp,by simp,by simp,by simp,by simp,by simp,by simp⟩
 · intro i hi L v w1 x hI hL hd hv ho
   have hi':i=0 ∨ i=1 ∨ i=2 ∨ i=3 ∨ i=4 ∨ i=5 ∨ i=6 ∨ i=7:=by simp at hi;omega
   obtain ⟨hb,q0,q1,q2,q3,q4,q5,q6,q7,q8⟩:=hI
   obtain ⟨m0,m1,m2⟩:=T3.out
   have hsz:=HSZ.out
   rcases hi' with rfl | rfl | rfl | rfl | rfl | rfl | rfl | rfl
   · have e2:x.tmps.getD 2 undef=.pointer (some ⟨w.heap.size,0,none⟩):=ho 2 (by kernel_rfl)
     obtain ⟨c0,c1,c2,c3,-⟩:=four ((hb.block w.heap.size (by omega)).trans m0)
     refine wpOp_step rfl (fun K' hK=>?_)
     clear m0 m1 m2 hsz
     go_simp
     exact hK _ _ ⟨_,_,rfl,rfl,hb,fun _=>rfl,q1,q2,q3,q4,q5,q6,q7,q8⟩
   · have l0:L 0=true:=by have:=hd _ rfl;simp [Region.binds] at this;simp [this]
     have e8:=(hv 0 8 rfl l0).trans (q0 l0)
     refine wpOp_step rfl (fun K' hK=>?_)
     clear m0 m1 m2 hsz
     go_simp
     refine (bits_any _ _ _ _ _).mono ?_
     rintro e w2 ⟨rfl,hb2⟩
     refine hK _ _ ⟨_,_,rfl,rfl,hb.trans (hb2.mono hb.size),q0,fun _=>rfl,q2,q3,fun h=>?_,fun h=>?_,q6,q7,q8⟩
     · obtain ⟨g,h1,h2,h3⟩:=q4 h;exact ⟨g,h1,h2,keep_blk hb2 h3⟩
     · obtain ⟨g,h1,h2,h3⟩:=q5 h;exact ⟨g,h1,h2,keep_blk hb2 h3⟩
   · have e3:x.tmps.getD 3 undef=.pointer (some ⟨w.heap.size+1,0,none⟩):=ho 3 (by kernel_rfl)
     obtain ⟨c0,c1,c2,c3,-⟩:=four ((hb.block (w.heap.size+1) (by omega)).trans m1)
     refine wpOp_step rfl (fun K' hK=>?_)
     clear m0 m1 m2 hsz
     go_simp
     exact hK _ _ ⟨_,_,rfl,rfl,hb,q0,q1,fun _=>rfl,q3,q4,q5,q6,q7,q8⟩
   · have l0:L 2=true:=by have:=hd _ rfl;simp [Region.binds] at this;simp [this]
     have e8:=(hv 2 10 rfl l0).trans (q2 l0)
     refine wpOp_step rfl (fun K' hK=>?_)
     clear m0 m1 m2 hsz
     go_simp
     refine (bits_any _ _ _ _ _).mono ?_
     rintro e w2 ⟨rfl,hb2⟩
     refine hK _ _ ⟨_,_,rfl,rfl,hb.trans (hb2.mono hb.size),q0,q1,q2,fun _=>rfl,fun h=>?_,fun h=>?_,q6,q7,q8⟩
     · obtain ⟨g,h1,h2,h3⟩:=q4 h;exact ⟨g,h1,h2,keep_blk hb2 h3⟩
     · obtain ⟨g,h1,h2,h3⟩:=q5 h;exact ⟨g,h1,h2,keep_blk hb2 h3⟩
   · refine wpOp_step rfl (fun K' hK=>?_)
     have hl6:L 6=false:=by cases h:L 6 with | false=>rfl | true=>rw [q7 h] at hL;cases hL
     clear m0 m1 m2 hsz
     go_simp
     refine hK _ _ ⟨_,_,rfl,rfl,hb.alloc hb.size _,q0,q1,q2,q3,fun _=>⟨w1.heap.size,rfl,hb.size, ?_⟩,fun h=>?_,fun _ h e=>?_,fun h=>rfl,q8⟩
     · show (w1.alloc _).heap[w1.heap.size]? = some (.cells (bools (if L 6 then _ else _)) _)
       rw [hl6];exact heap_alloc_new _ _
     · obtain ⟨g,h1,h2,h3⟩:=q5 h;exact ⟨g,h1,h2,heap_alloc_lt h3⟩
     · obtain ⟨g,h1,h2,h3⟩:=q5 h
       have e':Value.pointer (some ⟨w1.heap.size,0,none⟩)=v 5:=e
       rw [h1] at e'
       have:=(Array.getElem?_eq_some_iff.1 h3).1
       (simp at e') <;> omega
   · refine wpOp_step rfl (fun K' hK=>?_)
     have hl6:L 7=false:=by cases h:L 7 with | false=>rfl | true=>rw [q8 h] at hL;cases hL
     clear m0 m1 m2 hsz
     go_simp
     refine hK _ _ ⟨_,_,rfl,rfl,hb.alloc hb.size _,q0,q1,q2,q3,fun h=>?_,fun _=>⟨w1.heap.size,rfl,hb.size, ?_⟩,fun h _ e=>?_,q7,fun h=>rfl⟩
     · obtain ⟨g,h1,h2,h3⟩:=q4 h;exact ⟨g,h1,h2,heap_alloc_lt h3⟩
     · show (w1.alloc _).heap[w1.heap.size]? = some (.cells (bools (if L 7 then _ else _)) _)
       rw [hl6];exact heap_alloc_new _ _
     · obtain ⟨g,h1,h2,h3⟩:=q4 h
       have e':v 4=Value.pointer (some ⟨w1.heap.size,0,none⟩):=e
       rw [h1] at e'
       have:=(Array.getElem?_eq_some_iff.1 h3).1
       (simp at e') <;> omega
   · have l14:L 4=true∧L 1=true:=by have:=hd _ rfl;simp [Region.binds] at this;simp [this]
     obtain ⟨g,h1,h2,h3⟩:=q4 l14.1
     have e5:=(hv 4 5 rfl l14.1).trans h1
     have e9:=(hv 1 9 rfl l14.2).trans (q1 l14.2)
     refine Ri.step_plain rfl rfl (fun K' hK=>?_)
     refine wp_store_row _ _ _ rfl g (bools (Oc.mem a b c d)) e5 e9 159 _ h3 (by rw [bools_size];kernel_rfl) (by rw [bools_size,bools_size]) (bools_one _) ?_
     refine hK _ _ ⟨_,undef,rfl,rfl,below_setRow hb h2 _,q0,q1,q2,q3,fun _=>⟨g,h1,h2,heap_setRow h3⟩,fun h=>?_,q6,fun _=>l14.1,q8⟩
     obtain ⟨g',k1,k2,k3⟩:=q5 h
     have hne:g' ≠ g:=fun e=>q6 l14.1 h (by rw [h1,k1,e])
     exact ⟨g',k1,k2,(heap_setRow_other _ _ _ hne).trans k3⟩
   · have l14:L 5=true∧L 3=true:=by have:=hd _ rfl;simp [Region.binds] at this;simp [this]
     obtain ⟨g,h1,h2,h3⟩:=q5 l14.1
     have e5:=(hv 5 6 rfl l14.1).trans h1
     have e9:=(hv 3 11 rfl l14.2).trans (q3 l14.2)
     refine Ri.step_plain rfl rfl (fun K' hK=>?_)
     refine wp_store_row _ _ _ rfl g (bools (Oc.mem a' b' c' d')) e5 e9 159 _ h3 (by rw [bools_size];kernel_rfl) (by rw [bools_size,bools_size]) (bools_one _) ?_
     refine hK _ _ ⟨_,undef,rfl,rfl,below_setRow hb h2 _,q0,q1,q2,q3,fun h=>?_,fun _=>⟨g,h1,h2,heap_setRow h3⟩,q6,q7,fun _=>l14.1⟩
     obtain ⟨g',k1,k2,k3⟩:=q4 h
     have hne:g' ≠ g:=fun e=>q6 h l14.1 (by rw [h1,k1,e])
     exact ⟨g',k1,k2,(heap_setRow_other _ _ _ hne).trans k3⟩
 · rintro v w1 ⟨hb,-,-,-,-,q4,q5,q6,-,-⟩
   obtain ⟨g,h1,h2,h3⟩:=q4 rfl
   obtain ⟨g',k1,k2,k3⟩:=q5 rfl
   have hne:g' ≠ g:=fun e=>q6 rfl rfl (by rw [h1,k1,e])
   have h3':w1.heap[g]? = some (.cells (bools (Oc.mem a b c d)) 159):=h3
   have k3':w1.heap[g']? = some (.cells (bools (Oc.mem a' b' c' d')) 159):=k3
   clear h3 k3 q4 q5 q6
   simp only [Ri.frame,List.zipIdx,List.foldl_cons,List.foldl_nil,if_true,List.setIfInBounds_toArray,List.set_cons_zero,List.set_cons_succ]
   rw [h1,k1]
   have hb0:Below w.heap.size w w1:=hbw.trans (hb.mono hbw.size)
   have hr:w1.heap[w.heap.size+1+1]? = some (.cells #[.int .u64 0,.int .u64 0,.int .u64 0,.int .u64 0] 25):=(hb.block _ (by have:=HSZ.out;omega)).trans T3.out.2.2
   have hg:w.heap.size+3 ≤ g:=by have:=HSZ.out;omega
   have hg':w.heap.size+3 ≤ g':=by have:=HSZ.out;omega
   generalize v 0=y8;generalize v (0+1)=y9;generalize v (0+1+1)=y10;generalize v (0+1+1+1)=y11
   clear h1 k1 h2 k2 hb T3 HSZ hbw
   go_wp2
   go_loopw [7] (fun i wr=>∃ k:Nat,k ≤ 256∧i=.int .i64 k∧Below w.heap.size w wr∧wr.heap[w.heap.size+1+1]? = some (.cells #[.int .u64 0,.int .u64 0,.int .u64 0,.int .u64 0] 25) ∧
     wr.heap[g]? = some (.cells (bools (mix and (Oc.mem a b c d) (Oc.mem a' b' c' d') k)) 159)∧wr.heap[g']? = some (.cells (bools (Oc.mem a' b' c' d')) 159)) (fun i _=>256 - (intOf i).toNat)
   case atStart=>exact ⟨0,Nat.zero_le _,rfl,hb0,hr,by rw [mix_zero];exact h3',k3'⟩
   case round =>
     clear hb0 hr h3' k3'
     obtain ⟨k,hk,rfl,hbel,hz0,hz1,hz2⟩:=hrel
     by_cases hlt:k < 256
     · obtain ⟨l0,f0⟩:=one_cell hlt hz1
       have m0:=(one_cell hlt hz2).1
       rw [mix_at] at l0
       have hnew:=mix_new and (Oc.mem a b c d) (Oc.mem a' b' c' d') k
       generalize Oc.mem a b c d k=x at *
       generalize Oc.mem a' b' c' d' k=y at *
       have HN:=Lib.hid hnew
       have HZ0:=Lib.hid hz0
       have HZ1:=Lib.hid hz1
       have HZ2:=Lib.hid hz2
       clear hnew hz0 hz1 hz2
       cases x
       all_goals
         go_wp2
         exact ⟨⟨k+1,by omega,by go_num,hbel.setCell (by show w.heap.size ≤ g;omega) _,by rw [Below.heap_setCell _ _ _ _ (by show w.heap.size+1+1 ≠ g;omega)];exact HZ0.out,one_set hlt HZ1.out (by rw [HN.out];rfl) (fun j hj=>mix_old _ _ _ _ _ hj),by rw [Below.heap_setCell _ _ _ _ (by show g' ≠ g;exact hne)];exact HZ2.out⟩,by simp [intOf];omega⟩
     · obtain rfl:k=256:=by omega
       have hw:=mix_words (op:=and) (a:=a) (b:=b) (c:=c) (d:=d) (a':=a') (b':=b') (c':=c') (d':=d') (Oc.mem_and a b c d a' b' c' d')
       have HW:=Lib.hid hw
       have HZ0:=Lib.hid hz0
       have HZ1:=Lib.hid hz1
       clear hw hz0 hz1 hz2
       go_wp2_with (first
         | (refine wpList_load_row rfl _ _ rfl g rfl 159 (bools (mix and (Oc.mem a b c d) (Oc.mem a' b' c' d') 256)) (0,0) _ HZ1.out Tryz.underlying159 rfl (by rw [bools_size];kernel_rfl) ?_)
         | fail)
       refine (made_any _ _).mono ?_
       rintro e w2 ⟨rfl,hb2⟩
       rw [HW.out.1,HW.out.2.1,HW.out.2.2.1,HW.out.2.2.2]
       obtain ⟨d0,e0,d1,e1,d2,e2,d3,e3,r0,r1,r2,r3⟩:=four_st (keep_blk hb2 HZ0.out)
       have hbw2:=hbel.trans (hb2.mono hbel.size)
       go_wp2
       refine bodyPost_ret (v:=(.agg #[.int .u64 (Oc.U (a &&& a')),.int .u64 (Oc.U (b &&& b')),.int .u64 (Oc.U (c &&& c')),.int .u64 (Oc.U (d &&& d'))])) (by simp [results,Tryz.results168,go_sem,r0,r1,r2,r3]) rfl ⟨rfl, ?_⟩
       go_grown
end Go.Proofs.YtfcilopifjddpaaGreatDoor
namespace Go.Proofs.YtfcilopifjddpaaGreatDoor
open Go.RowKit
def flip (f:Nat→Bool) (k:Nat):Nat→Bool:=fun j=>if j < k then !f j else f j
theorem flip_zero (f:Nat→Bool):flip f 0=f:=by funext j;simp [flip]
theorem flip_at (f:Nat→Bool) (k:Nat):flip f k k=f k:=by simp [flip]
theorem flip_new (f:Nat→Bool) (k:Nat):flip f (k+1) k = !f k:=by simp [flip]
theorem flip_old (f:Nat→Bool) (k j:Nat) (h:j ≠ k):flip f (k+1) j=flip f k j:=by
 unfold flip;have:(j < k+1)=(j < k):=by rw [eq_iff_iff];omega
 simp only [this]
theorem flip_words (a b c d:BitVec 64):Oc.mk (flip (Oc.mem a b c d) 256) 0 = ~~~a∧Oc.mk (flip (Oc.mem a b c d) 256) 1 = ~~~b∧Oc.mk (flip (Oc.mem a b c d) 256) 2 = ~~~c∧Oc.mk (flip (Oc.mem a b c d) 256) 3 = ~~~d:=by
 have e:=mk_same4 (p:=flip (Oc.mem a b c d) 256) (q:=Oc.mem (~~~a) (~~~b) (~~~c) (~~~d)) fun i hi=>by unfold flip;rw [if_pos hi,Oc.mem_not]
 have m:=mk_mem (~~~a) (~~~b) (~~~c) (~~~d)
 exact ⟨e.1.trans m.1,e.2.1.trans m.2.1,e.2.2.1.trans m.2.2.1,e.2.2.2.trans m.2.2.2⟩
theorem refnot_any (a b c d:BitVec 64) (w:World) :
   Calls Tryz.prog 124 #[(.agg #[.int .u64 (Oc.U a),.int .u64 (Oc.U b),.int .u64 (Oc.U c),.int .u64 (Oc.U d)])] w fun e w'=>e=.returned (.agg #[.int .u64 (Oc.U (~~~a)),.int .u64 (Oc.U (~~~b)),.int .u64 (Oc.U (~~~c)),.int .u64 (Oc.U (~~~d))])∧Below w.heap.size w w':=by
 have hz:∀ w,(zeroValue 159).run Tryz.prog w=.ok (.agg (bools fun _=>false)) w:=fun _=>by kernel_rfl
 go_enter Tryz.func124,Tryz.ntmps124
 go_wp2_with fail
 refine (bits_any _ _ _ _ _).mono ?_
 rintro e w1 ⟨rfl,hb1⟩
 have hr:w1.heap[w.heap.size+1]? = some (.cells #[.int .u64 0,.int .u64 0,.int .u64 0,.int .u64 0] 25):=(hb1.block _ (by simp)).trans (two_new _ _ _).2
 have hsz1:w.heap.size+2 ≤ w1.heap.size:=by have:=hb1.size;simp at this;omega
 have hb0:Below w.heap.size w w1:=(((Below.refl _ _).alloc (Nat.le_refl _) _).alloc (by simp) _).trans (hb1.mono (by simp;omega))
 have HR:=Lib.hid hr
 clear hr hb1
 go_wp2_with (first
   | (refine wpList_store_row rfl 159 (.tmp 3) (.tmp 6) rfl w1.heap.size (bools (Oc.mem a b c d)) rfl rfl 159 (bools fun _=>false) (heap_alloc_new _ _) (by rw [bools_size];kernel_rfl) (by rw [bools_size,bools_size]) (bools_one _) ?_)
   | fail)
 go_loopw [4] (fun i wr=>∃ k:Nat,k ≤ 256∧i=.int .i64 k∧Below w.heap.size w wr∧wr.heap[w.heap.size+1]? = some (.cells #[.int .u64 0,.int .u64 0,.int .u64 0,.int .u64 0] 25) ∧
     wr.heap[w1.heap.size]? = some (.cells (bools (flip (Oc.mem a b c d) k)) 159)) (fun i _=>256 - (intOf i).toNat)
 case atStart=>exact ⟨0,Nat.zero_le _,rfl,below_setRow (hb0.alloc (by omega) _) (by omega) _,(heap_setRow_other _ _ _ (by omega)).trans (heap_alloc_lt HR.out),by rw [flip_zero];exact heap_setRow (heap_alloc_new _ _)⟩
 case round =>
   clear hb0 HR
   obtain ⟨k,hk,rfl,hbel,hz0,hz1⟩:=hrel
   by_cases hlt:k < 256
   · obtain ⟨l0,f0⟩:=one_cell hlt hz1
     rw [flip_at] at l0
     have hnew:=flip_new (Oc.mem a b c d) k
     generalize Oc.mem a b c d k=x at *
     have HN:=Lib.hid hnew
     have HZ0:=Lib.hid hz0
     have HZ1:=Lib.hid hz1
     clear hnew hz0 hz1
     go_wp2
     exact ⟨⟨k+1,by omega,by go_num,hbel.setCell (by show w.heap.size ≤ w1.heap.size;omega) _,by rw [Below.heap_setCell _ _ _ _ (by show w.heap.size+1 ≠ w1.heap.size;omega)];exact HZ0.out,one_set hlt HZ1.out HN.out (fun j hj=>flip_old _ _ _ hj)⟩,by simp [intOf];omega⟩
   · obtain rfl:k=256:=by omega
     have hw:=flip_words a b c d
     have HW:=Lib.hid hw
     have HZ0:=Lib.hid hz0
     have HZ1:=Lib.hid hz1
     clear hw hz0 hz1
     go_wp2_with (first
       | (refine wpList_load_row rfl _ _ rfl w1.heap.size rfl 159 (bools (flip (Oc.mem a b c d) 256)) (0,0) _ HZ1.out Tryz.underlying159 rfl (by rw [bools_size];kernel_rfl) ?_)
       | fail)
     refine (made_any _ _).mono ?_
     rintro e w2 ⟨rfl,hb2⟩
     rw [HW.out.1,HW.out.2.1,HW.out.2.2.1,HW.out.2.2.2]
     obtain ⟨d0,e0,d1,e1,d2,e2,d3,e3,r0,r1,r2,r3⟩:=four_st (keep_blk hb2 HZ0.out)
     have hbw2:=hbel.trans (hb2.mono hbel.size)
     go_wp2
     refine bodyPost_ret (v:=(.agg #[.int .u64 (Oc.U (~~~a)),.int .u64 (Oc.U (~~~b)),.int .u64 (Oc.U (~~~c)),.int .u64 (Oc.U (~~~d))])) (by simp [results,Tryz.results124,go_sem,r0,r1,r2,r3]) rfl ⟨rfl, ?_⟩
     go_grown
end Go.Proofs.YtfcilopifjddpaaGreatDoor
namespace Go.Proofs.YtfcilopifjddpaaGreatDoor
open Go.RowKit
theorem refjoin_p (P Q:Nat→Bool) (w:World):Calls Tryz.prog 167 #[(.agg #[.int .u64 (Oc.U (Oc.mk P 0)),.int .u64 (Oc.U (Oc.mk P 1)),.int .u64 (Oc.U (Oc.mk P 2)),.int .u64 (Oc.U (Oc.mk P 3))]),(.agg #[.int .u64 (Oc.U (Oc.mk Q 0)),.int .u64 (Oc.U (Oc.mk Q 1)),.int .u64 (Oc.U (Oc.mk Q 2)),.int .u64 (Oc.U (Oc.mk Q 3))])] w fun e w' =>
   e=.returned (.agg #[.int .u64 (Oc.U (Oc.mk (fun x=>P x || Q x) 0)),.int .u64 (Oc.U (Oc.mk (fun x=>P x || Q x) 1)),.int .u64 (Oc.U (Oc.mk (fun x=>P x || Q x) 2)),.int .u64 (Oc.U (Oc.mk (fun x=>P x || Q x) 3))])∧Below w.heap.size w w':=by
 have h:=refjoin_any (Oc.mk P 0) (Oc.mk P 1) (Oc.mk P 2) (Oc.mk P 3) (Oc.mk Q 0) (Oc.mk Q 1) (Oc.mk Q 2) (Oc.mk Q 3) w
 rw [Br.mk_or,Br.mk_or,Br.mk_or,Br.mk_or] at h
 exact h
theorem refmeet_p (P Q:Nat→Bool) (w:World):Calls Tryz.prog 168 #[(.agg #[.int .u64 (Oc.U (Oc.mk P 0)),.int .u64 (Oc.U (Oc.mk P 1)),.int .u64 (Oc.U (Oc.mk P 2)),.int .u64 (Oc.U (Oc.mk P 3))]),(.agg #[.int .u64 (Oc.U (Oc.mk Q 0)),.int .u64 (Oc.U (Oc.mk Q 1)),.int .u64 (Oc.U (Oc.mk Q 2)),.int .u64 (Oc.U (Oc.mk Q 3))])] w fun e w' =>
   e=.returned (.agg #[.int .u64 (Oc.U (Oc.mk (fun x=>P x && Q x) 0)),.int .u64 (Oc.U (Oc.mk (fun x=>P x && Q x) 1)),.int .u64 (Oc.U (Oc.mk (fun x=>P x && Q x) 2)),.int .u64 (Oc.U (Oc.mk (fun x=>P x && Q x) 3))])∧Below w.heap.size w w':=by
 have h:=refmeet_any (Oc.mk P 0) (Oc.mk P 1) (Oc.mk P 2) (Oc.mk P 3) (Oc.mk Q 0) (Oc.mk Q 1) (Oc.mk Q 2) (Oc.mk Q 3) w
 rw [Br.mk_and,Br.mk_and,Br.mk_and,Br.mk_and] at h
 exact h
theorem refnot_p (P:Nat→Bool) (w:World):Calls Tryz.prog 124 #[(.agg #[.int .u64 (Oc.U (Oc.mk P 0)),.int .u64 (Oc.U (Oc.mk P 1)),.int .u64 (Oc.U (Oc.mk P 2)),.int .u64 (Oc.U (Oc.mk P 3))])] w fun e w' =>
   e=.returned (.agg #[.int .u64 (Oc.U (Oc.mk (fun x=>!P x) 0)),.int .u64 (Oc.U (Oc.mk (fun x=>!P x) 1)),.int .u64 (Oc.U (Oc.mk (fun x=>!P x) 2)),.int .u64 (Oc.U (Oc.mk (fun x=>!P x) 3))])∧Below w.heap.size w w':=by
 have h:=refnot_any (Oc.mk P 0) (Oc.mk P 1) (Oc.mk P 2) (Oc.mk P 3) w
 rw [Br.mk_not,Br.mk_not,Br.mk_not,Br.mk_not] at h
 exact h
theorem reffold_p (P:Nat→Bool) (w:World):Calls Tryz.prog 140 #[(.agg #[.int .u64 (Oc.U (Oc.mk P 0)),.int .u64 (Oc.U (Oc.mk P 1)),.int .u64 (Oc.U (Oc.mk P 2)),.int .u64 (Oc.U (Oc.mk P 3))])] w fun e w' =>
   e=.returned (.agg #[.int .u64 (Oc.U (Oc.mk (Cl.fold P) 0)),.int .u64 (Oc.U (Oc.mk (Cl.fold P) 1)),.int .u64 (Oc.U (Oc.mk (Cl.fold P) 2)),.int .u64 (Oc.U (Oc.mk (Cl.fold P) 3))])∧Below w.heap.size w w':=by
 have h:=reffold_any (Oc.mk P 0) (Oc.mk P 1) (Oc.mk P 2) (Oc.mk P 3) w
 rw [Br.mk_fold P 0 (by omega),Br.mk_fold P 1 (by omega),Br.mk_fold P 2 (by omega),Br.mk_fold P 3 (by omega)] at h
 exact h
theorem of_nl (w:World):Calls Tryz.prog 136 #[.string ⟨#[10]⟩] w fun e w' =>
   e=.returned (.agg #[.int .u64 (Oc.U (Oc.mk (fun b=>b == 10) 0)),.int .u64 (Oc.U (Oc.mk (fun b=>b == 10) 1)),.int .u64 (Oc.U (Oc.mk (fun b=>b == 10) 2)),.int .u64 (Oc.U (Oc.mk (fun b=>b == 10) 3))])∧Below w.heap.size w w':=by
 have h:=refof_any ⟨#[10]⟩ (by unfold maxLen;decide) w
 rw [show Oc.anyB (byteAt ⟨#[10]⟩) (ByteArray.size ⟨#[10]⟩)=fun b=>b == 10 by funext b;show (false || b == byteAt ⟨#[10]⟩ 0)=_;rw [show byteAt ⟨#[10]⟩ 0=10 by decide,Bool.false_or]] at h
 exact h
theorem setC_one {a b c d:Int} : (#[.int .u64 a,.int .u64 b,.int .u64 c,.int .u64 d]:Array Value).all (·.oneCell')=true:=by simp [Value.oneCell']
def flI (ic nl:Bool):Int:=(if ic then 2 else 0)+(if nl then 4 else 0)
def RdEnd (R:Br.Ans) (w:World) (e:Ending) (w':World):Prop:=e=.returned (ansV R)∧Below w.heap.size w w'
theorem refread_no (s:ByteArray) (hs:s.size ≤ 1152921504606846976) (at_:Int) (fl:Value) (h:isB s at_ 91=false) (w:World) :
   Calls Tryz.prog 137 #[.string s,.int .i64 at_,fl] w (RdEnd (.err 15 (-1)) w):=by
 have h0:=fun w=>ris_any s hs at_ 91 (by omega) w
 rw [h] at h0
 have H0:=Lib.hid h0
 clear h0 h
 go_enter Tryz.func137,Tryz.ntmps137
 go_wp2_with fail
 refine (H0.out _).mono ?_;rintro e w' ⟨rfl,rfl⟩
 go_wp2
 exact bodyPost_ret (v:=ansV (.err 15 (-1))) (by simp [results,Tryz.results137,go_sem];rfl) rfl ⟨rfl,by go_grown⟩
end Go.Proofs.YtfcilopifjddpaaGreatDoor
namespace Go.Proofs.YtfcilopifjddpaaGreatDoor
open Go.RowKit
theorem refread_t (s:ByteArray) (hs:s.size ≤ 1152921504606846976) (a:Nat) (ic nl:Bool) (ha:bt s a=91) (ht:(bt s (a+1) == 94)=true) (R:Br.Ans) (hR:Br.items (bt s) s.size a (s.size+1) (a+2) (fun _=>false) false=R)
   (w:World):Calls Tryz.prog 137 #[.string s,.int .i64 a,.int .i64 (flI ic nl)] w (RdEnd (Br.ends ic nl true R) w):=by
 have hal:=(bt_txt s).lt ha (by omega)
 have hal2:=(bt_txt s).lt (beq_iff_eq.1 ht) (by omega)
 have HS:=Lib.hid (ris_nat s hs a a 91 rfl (by omega) true (by rw [ha];rfl))
 have HT:=Lib.hid (ris_nat s hs ((a:Int)+1) (a+1) 94 (by omega) (by omega) true ht)
 have HI:=Lib.hid (fun i c hc b hb=>ris_nat s hs (i:Nat) i c rfl hc b hb)
 have HJ:=Lib.hid refjoin_p
 have hw1:IntKind.i64.wrap ((a:Int)+1)=(a:Int)+1:=IntWalk.i64_in _ (by omega)
 have hw2:IntKind.i64.wrap ((a:Int)+1+1)=(a:Int)+1+1:=IntWalk.i64_in _ (by omega)
 have HR:=Lib.hid hR
 clear ha ht hR
 go_enter Tryz.func137,Tryz.ntmps137
 go_wp2_with fail
 refine (HS.out _).mono ?_;rintro e w' ⟨rfl,rfl⟩
 go_wp2_with fail
 refine (HT.out _).mono ?_;rintro e w' ⟨rfl,rfl⟩
 go_wp2_with fail
 go_loopw [7,10] (fun iv bv wr=>∃ (P:Nat→Bool) (b:Bool) (i k:Nat),iv=.int .i64 i∧bv=.bool b∧i ≤ s.size∧s.size < i+k∧Hid (Br.items (bt s) s.size a k i P b=R)∧Below w.heap.size w wr∧w.heap.size+1 < wr.heap.size ∧
   wr.heap[w.heap.size]? = some (.cells #[.int .u64 0,.int .u64 0,.int .u64 0,.int .u64 0,.int .i64 0,.int .i64 0,.int .i64 0] 167) ∧
   wr.heap[w.heap.size+1]? = some (.cells #[.int .u64 (Oc.U (Oc.mk (P) 0)),.int .u64 (Oc.U (Oc.mk (P) 1)),.int .u64 (Oc.U (Oc.mk (P) 2)),.int .u64 (Oc.U (Oc.mk (P) 3))] 25)) (fun iv _ _=>s.size - (intOf iv).toNat)
 case atStart=>exact ⟨fun _=>false,false,a+2,s.size+1,by push_cast;rfl,rfl,by omega,by omega,HR,by go_grown,by simp,(two_new _ _ _).1,(two_new _ _ _).2.trans (by rw [Oc.mk_none,Oc.mk_none,Oc.mk_none,Oc.mk_none];rfl)⟩
 case round =>
   obtain ⟨P,b,i,k,rfl,rfl,hi,hk,hit,hbel,hsz,z0,z1⟩:=hrel
   obtain ⟨k,rfl⟩:∃ k',k=k'+1:=⟨k - 1,by omega⟩
   have hit':=hit.out
   clear hit
   unfold Br.items at hit'
   have Z0:=Lib.hid z0;have Z1:=Lib.hid z1;have HB:=Lib.hid hbel
   clear z0 z1 hbel
   by_cases hx:(b && bt s i == 93)=true
   · rw [if_pos hx] at hit'
     simp only [Bool.and_eq_true] at hx
     obtain ⟨rfl,h93⟩:=hx
     have H93:=Lib.hid (HI.out i 93 (by omega) true h93)
     have hwi:IntKind.i64.wrap ((i:Int)+1)=(i:Int)+1:=IntWalk.i64_in _ (by omega)
     subst hit'
     clear h93
     cases ic <;> cases nl
     · go_wp2_with fail
       refine (H93.out _).mono ?_;rintro e w' ⟨rfl,rfl⟩
       rw [show flI false false=0 from rfl]
       go_wp2_with (first
         | (refine wpList_load_row rfl 25 (.tmp 9) rfl (w.heap.size+1) rfl 25 _ (0,0) _ Z1.out Tryz.underlying25 rfl (by kernel_rfl) ?_)
         | fail)
       refine (refnot_p (P) _).mono ?_;rintro e w1 ⟨rfl,hb1⟩
       have Y1:Hid (w1.heap[w.heap.size]? = some (.cells #[.int .u64 0,.int .u64 0,.int .u64 0,.int .u64 0,.int .i64 0,.int .i64 0,.int .i64 0] 167)):=Lib.hid (keep_blk hb1 Z0.out)
       have Z1a:Hid (w1.heap[w.heap.size+1]? = some (.cells #[.int .u64 (Oc.U (Oc.mk (P) 0)),.int .u64 (Oc.U (Oc.mk (P) 1)),.int .u64 (Oc.U (Oc.mk (P) 2)),.int .u64 (Oc.U (Oc.mk (P) 3))] 25)):=Lib.hid (keep_blk hb1 Z1.out)
       have HB1:Hid (Below w.heap.size w w1):=Lib.hid ((HB.out).trans (hb1.mono (HB.out).size))
       have Y1s:Hid ((w1.setRow (w.heap.size+1) #[.int .u64 (Oc.U (Oc.mk (fun x=>!P x) 0)),.int .u64 (Oc.U (Oc.mk (fun x=>!P x) 1)),.int .u64 (Oc.U (Oc.mk (fun x=>!P x) 2)),.int .u64 (Oc.U (Oc.mk (fun x=>!P x) 3))]).heap[w.heap.size]? = some (.cells #[.int .u64 0,.int .u64 0,.int .u64 0,.int .u64 0,.int .i64 0,.int .i64 0,.int .i64 0] 167)):=Lib.hid ((heap_setRow_other _ _ _ (Nat.ne_of_lt (Nat.lt_add_one _))).trans Y1.out)
       have Z1s:Hid ((w1.setRow (w.heap.size+1) #[.int .u64 (Oc.U (Oc.mk (fun x=>!P x) 0)),.int .u64 (Oc.U (Oc.mk (fun x=>!P x) 1)),.int .u64 (Oc.U (Oc.mk (fun x=>!P x) 2)),.int .u64 (Oc.U (Oc.mk (fun x=>!P x) 3))]).heap[w.heap.size+1]? = some (.cells #[.int .u64 (Oc.U (Oc.mk (fun x=>!P x) 0)),.int .u64 (Oc.U (Oc.mk (fun x=>!P x) 1)),.int .u64 (Oc.U (Oc.mk (fun x=>!P x) 2)),.int .u64 (Oc.U (Oc.mk (fun x=>!P x) 3))] 25)):=Lib.hid (heap_setRow Z1a.out)
       have HB1s:Hid (Below w.heap.size w (w1.setRow (w.heap.size+1) #[.int .u64 (Oc.U (Oc.mk (fun x=>!P x) 0)),.int .u64 (Oc.U (Oc.mk (fun x=>!P x) 1)),.int .u64 (Oc.U (Oc.mk (fun x=>!P x) 2)),.int .u64 (Oc.U (Oc.mk (fun x=>!P x) 3))])):=Lib.hid (below_setRow HB1.out (Nat.le_succ _) _)
       clear hb1
       go_wp2_with (first
         | (refine wpList_store_row rfl 25 (.tmp 9) (.tmp 62) rfl (w.heap.size+1) #[.int .u64 (Oc.U (Oc.mk (fun x=>!P x) 0)),.int .u64 (Oc.U (Oc.mk (fun x=>!P x) 1)),.int .u64 (Oc.U (Oc.mk (fun x=>!P x) 2)),.int .u64 (Oc.U (Oc.mk (fun x=>!P x) 3))] rfl rfl 25 _ Z1a.out (by kernel_rfl) rfl setC_one ?_)
         | (refine wpList_load_row rfl 25 (.tmp 9) rfl (w.heap.size+1) rfl 25 _ (0,0) _ Z1s.out Tryz.underlying25 rfl (by kernel_rfl) ?_)
         | (refine wpList_store_row rfl 167 (.tmp 6) (.tmp 74) rfl w.heap.size (ansC (.ok (Br.fin false false true P) (i+1))) rfl rfl 167 _ Y1s.out (by kernel_rfl) rfl (ansC_one _) ?_)
         | fail)
       exact bodyPost_ret (results_cell_row rfl _ _ w.heap.size 167 (ansC (.ok (Br.fin false false true P) (i+1))) (0,0) _ rfl (heap_setRow Y1s.out) Tryz.underlying167 rfl (by kernel_rfl)) rfl ⟨rfl,by exact below_setRow HB1s.out (Nat.le_refl _) _⟩
     · go_wp2_with fail
       refine (H93.out _).mono ?_;rintro e w' ⟨rfl,rfl⟩
       rw [show flI false true=4 from rfl]
       go_wp2_with (first
         | (refine wpList_load_row rfl 25 (.tmp 9) rfl (w.heap.size+1) rfl 25 _ (0,0) _ Z1.out Tryz.underlying25 rfl (by kernel_rfl) ?_)
         | fail)
       refine (refnot_p (P) _).mono ?_;rintro e w1 ⟨rfl,hb1⟩
       have Y1:Hid (w1.heap[w.heap.size]? = some (.cells #[.int .u64 0,.int .u64 0,.int .u64 0,.int .u64 0,.int .i64 0,.int .i64 0,.int .i64 0] 167)):=Lib.hid (keep_blk hb1 Z0.out)
       have Z1a:Hid (w1.heap[w.heap.size+1]? = some (.cells #[.int .u64 (Oc.U (Oc.mk (P) 0)),.int .u64 (Oc.U (Oc.mk (P) 1)),.int .u64 (Oc.U (Oc.mk (P) 2)),.int .u64 (Oc.U (Oc.mk (P) 3))] 25)):=Lib.hid (keep_blk hb1 Z1.out)
       have HB1:Hid (Below w.heap.size w w1):=Lib.hid ((HB.out).trans (hb1.mono (HB.out).size))
       have Y1s:Hid ((w1.setRow (w.heap.size+1) #[.int .u64 (Oc.U (Oc.mk (fun x=>!P x) 0)),.int .u64 (Oc.U (Oc.mk (fun x=>!P x) 1)),.int .u64 (Oc.U (Oc.mk (fun x=>!P x) 2)),.int .u64 (Oc.U (Oc.mk (fun x=>!P x) 3))]).heap[w.heap.size]? = some (.cells #[.int .u64 0,.int .u64 0,.int .u64 0,.int .u64 0,.int .i64 0,.int .i64 0,.int .i64 0] 167)):=Lib.hid ((heap_setRow_other _ _ _ (Nat.ne_of_lt (Nat.lt_add_one _))).trans Y1.out)
       have Z1s:Hid ((w1.setRow (w.heap.size+1) #[.int .u64 (Oc.U (Oc.mk (fun x=>!P x) 0)),.int .u64 (Oc.U (Oc.mk (fun x=>!P x) 1)),.int .u64 (Oc.U (Oc.mk (fun x=>!P x) 2)),.int .u64 (Oc.U (Oc.mk (fun x=>!P x) 3))]).heap[w.heap.size+1]? = some (.cells #[.int .u64 (Oc.U (Oc.mk (fun x=>!P x) 0)),.int .u64 (Oc.U (Oc.mk (fun x=>!P x) 1)),.int .u64 (Oc.U (Oc.mk (fun x=>!P x) 2)),.int .u64 (Oc.U (Oc.mk (fun x=>!P x) 3))] 25)):=Lib.hid (heap_setRow Z1a.out)
       have HB1s:Hid (Below w.heap.size w (w1.setRow (w.heap.size+1) #[.int .u64 (Oc.U (Oc.mk (fun x=>!P x) 0)),.int .u64 (Oc.U (Oc.mk (fun x=>!P x) 1)),.int .u64 (Oc.U (Oc.mk (fun x=>!P x) 2)),.int .u64 (Oc.U (Oc.mk (fun x=>!P x) 3))])):=Lib.hid (below_setRow HB1.out (Nat.le_succ _) _)
       clear hb1
       go_wp2_with (first
         | (refine wpList_store_row rfl 25 (.tmp 9) (.tmp 62) rfl (w.heap.size+1) #[.int .u64 (Oc.U (Oc.mk (fun x=>!P x) 0)),.int .u64 (Oc.U (Oc.mk (fun x=>!P x) 1)),.int .u64 (Oc.U (Oc.mk (fun x=>!P x) 2)),.int .u64 (Oc.U (Oc.mk (fun x=>!P x) 3))] rfl rfl 25 _ Z1a.out (by kernel_rfl) rfl setC_one ?_)
         | fail)
       have V0:=Y1s;have V1:=Z1s;have VB:=HB1s
       clear Y1s Z1s HB1s
       generalize World.setRow w1 _ _=W at *
       refine Ri.wp_region_frame (by kernel_rfl) (by kernel_rfl) (by kernel_rfl) (by kernel_rfl)
         (fun L v w'=>Below w.heap.size w w'∧W.heap.size ≤ w'.heap.size∧(L 4=true→w'.heap[(w.heap.size+1)]? = some (.cells #[.int .u64 (Oc.U (Oc.mk (fun x=>!(P) x && !(x == 10)) 0)),.int .u64 (Oc.U (Oc.mk (fun x=>!(P) x && !(x == 10)) 1)),.int .u64 (Oc.U (Oc.mk (fun x=>!(P) x && !(x == 10)) 2)),.int .u64 (Oc.U (Oc.mk (fun x=>!(P) x && !(x == 10)) 3))] 25))∧(L 4=false→w'.heap[(w.heap.size+1)]? = some (.cells #[.int .u64 (Oc.U (Oc.mk (fun x=>!P x) 0)),.int .u64 (Oc.U (Oc.mk (fun x=>!P x) 1)),.int .u64 (Oc.U (Oc.mk (fun x=>!P x) 2)),.int .u64 (Oc.U (Oc.mk (fun x=>!P x) 3))] 25))∧(L 4=true→L 0=true)∧w'.heap[w.heap.size]? = some (.cells #[.int .u64 0,.int .u64 0,.int .u64 0,.int .u64 0,.int .i64 0,.int .i64 0,.int .i64 0] 167)∧(L 0=true→v 0=.agg #[.int .u64 (Oc.U (Oc.mk (fun x=>!P x) 0)),.int .u64 (Oc.U (Oc.mk (fun x=>!P x) 1)),.int .u64 (Oc.U (Oc.mk (fun x=>!P x) 2)),.int .u64 (Oc.U (Oc.mk (fun x=>!P x) 3))])∧(L 1=true→v 1=.agg #[.int .u64 (Oc.U (Oc.mk (fun b=>b == 10) 0)),.int .u64 (Oc.U (Oc.mk (fun b=>b == 10) 1)),.int .u64 (Oc.U (Oc.mk (fun b=>b == 10) 2)),.int .u64 (Oc.U (Oc.mk (fun b=>b == 10) 3))])∧(L 2=true→v 2=.agg #[.int .u64 (Oc.U (Oc.mk (fun x=>!(x == 10)) 0)),.int .u64 (Oc.U (Oc.mk (fun x=>!(x == 10)) 1)),.int .u64 (Oc.U (Oc.mk (fun x=>!(x == 10)) 2)),.int .u64 (Oc.U (Oc.mk (fun x=>!(x == 10)) 3))])∧(L 3=true→v 3=.agg #[.int .u64 (Oc.U (Oc.mk (fun x=>!(P) x && !(x == 10)) 0)),.int .u64 (Oc.U (Oc.mk (fun x=>!(P) x && !(x == 10)) 1)),.int .u64 (Oc.U (Oc.mk (fun x=>!(P) x && !(x == 10)) 2)),.int .u64 (Oc.U (Oc.mk (fun x=>!(P) x && !(x == 10)) 3))]))
         ?_ ?_ ?_
       · exact ⟨VB.out.drew,Nat.le_refl _,(by simp),(fun _=>V1.out),by simp,V0.out,by simp,by simp,by simp,by simp⟩
       · intro i hi9 L v w9 xa hI hL hd hv ho
         have hi':i=0 ∨ i=1 ∨ i=2 ∨ i=3 ∨ i=4:=by simp at hi9;omega
         obtain ⟨hb,hz,qn,qo,qm0,k0,q0,q1,q2,q3⟩:=hI
         rcases hi' with rfl | rfl | rfl | rfl | rfl
         · have e9:xa.tmps.getD 9 undef=.pointer (some ⟨w.heap.size+1,0,none⟩):=ho 9 (by kernel_rfl)
           refine Ri.step_plain rfl rfl (fun K' hK=>?_)
           have hl9:L 4=false:=by cases h:L 4 with | false=>rfl | true=>rw [qm0 h] at hL;cases hL
           refine wp_load_row _ _ rfl _ e9 _ _ _ _ (qo hl9) Tryz.underlying25 rfl (by kernel_rfl) ?_
           exact hK _ _ ⟨_,_,rfl,rfl,hb,hz,qn,qo,(fun _=>rfl),k0,fun _=>rfl,q1,q2,q3⟩
         · refine Ri.step_plain rfl rfl (fun K' hK=>?_)
           go_simp
           refine (of_nl _).mono ?_
           rintro e w8 ⟨rfl,hb8⟩
           exact hK _ _ ⟨_,_,rfl,rfl,hb.trans (hb8.mono hb.size),Nat.le_trans hz hb8.size,(fun l=>keep_blk hb8 (qn l)),(fun l=>keep_blk hb8 (qo l)),qm0,(keep_blk hb8 k0),q0,fun _=>rfl,q2,q3⟩
         · have l0:L 1=true:=by have:=hd _ rfl;simp [Region.binds] at this;simp [this]
           have f1:=(hv 1 68 rfl l0).trans (q1 l0)
           refine Ri.step_plain rfl rfl (fun K' hK=>?_)
           go_simp
           refine (refnot_p (fun b=>b == 10) _).mono ?_
           rintro e w8 ⟨rfl,hb8⟩
           exact hK _ _ ⟨_,_,rfl,rfl,hb.trans (hb8.mono hb.size),Nat.le_trans hz hb8.size,(fun l=>keep_blk hb8 (qn l)),(fun l=>keep_blk hb8 (qo l)),qm0,(keep_blk hb8 k0),q0,q1,fun _=>rfl,q3⟩
         · have l0:L 0=true∧L 2=true:=by have:=hd _ rfl;simp [Region.binds] at this;simp [this]
           have f0:=(hv 0 67 rfl l0.1).trans (q0 l0.1)
           have f2:=(hv 2 69 rfl l0.2).trans (q2 l0.2)
           refine Ri.step_plain rfl rfl (fun K' hK=>?_)
           go_simp
           refine (refmeet_p (fun x=>!P x) (fun x=>!(x == 10)) _).mono ?_
           rintro e w8 ⟨rfl,hb8⟩
           exact hK _ _ ⟨_,_,rfl,rfl,hb.trans (hb8.mono hb.size),Nat.le_trans hz hb8.size,(fun l=>keep_blk hb8 (qn l)),(fun l=>keep_blk hb8 (qo l)),qm0,(keep_blk hb8 k0),q0,q1,q2,fun _=>rfl⟩
         · have l0:L 3=true:=by have:=hd _ rfl;simp [Region.binds] at this;simp [this]
           have f3:=(hv 3 70 rfl l0).trans (q3 l0)
           have e9:xa.tmps.getD 9 undef=.pointer (some ⟨w.heap.size+1,0,none⟩):=ho 9 (by kernel_rfl)
           refine Ri.step_plain rfl rfl (fun K' hK=>?_)
           have h0:L 0=true:=by have:=hd _ rfl;simp [Region.binds] at this;simp [this]
           refine wp_store_row _ _ _ rfl (w.heap.size+1) #[.int .u64 (Oc.U (Oc.mk (fun x=>!(P) x && !(x == 10)) 0)),.int .u64 (Oc.U (Oc.mk (fun x=>!(P) x && !(x == 10)) 1)),.int .u64 (Oc.U (Oc.mk (fun x=>!(P) x && !(x == 10)) 2)),.int .u64 (Oc.U (Oc.mk (fun x=>!(P) x && !(x == 10)) 3))] e9 f3 25 _ (qo hL) (by kernel_rfl) (by kernel_rfl) setC_one ?_
           exact hK _ _ ⟨_,undef,rfl,rfl,below_setRow hb (Nat.le_succ _) _,by simpa using hz,(fun _=>heap_setRow (qo hL)),(fun h=>by cases h),(fun _=>h0),(heap_setRow_other _ _ _ (Nat.ne_of_lt (Nat.lt_add_one _))).trans k0,q0,q1,q2,q3⟩
       · rintro v w9 ⟨hb,hz,qn,-,-,k0,-,-,-,-⟩
         have zN:=qn rfl;clear qn
         simp only [Ri.frame,List.zipIdx,List.foldl_cons,List.foldl_nil,if_true,List.setIfInBounds_toArray,List.set_cons_zero,List.set_cons_succ,Nat.reduceAdd]
         generalize v 0=y0;generalize v 1=y1;generalize v 2=y2;generalize v 3=y3
         go_wp2_with (first
           | (refine wpList_load_row rfl 25 (.tmp 9) rfl (w.heap.size+1) rfl 25 _ (0,0) _ zN Tryz.underlying25 rfl (by kernel_rfl) ?_)
           | (refine wpList_store_row rfl 167 (.tmp 6) (.tmp 74) rfl w.heap.size (ansC (.ok (Br.fin false true true P) (i+1))) rfl rfl 167 _ k0 (by kernel_rfl) rfl (ansC_one _) ?_)
           | fail)
         exact bodyPost_ret (results_cell_row rfl _ _ w.heap.size 167 (ansC (.ok (Br.fin false true true P) (i+1))) (0,0) _ rfl (heap_setRow k0) Tryz.underlying167 rfl (by kernel_rfl)) rfl ⟨rfl,by exact below_setRow hb (Nat.le_refl _) _⟩
     · go_wp2_with fail
       refine (H93.out _).mono ?_;rintro e w' ⟨rfl,rfl⟩
       rw [show flI true false=2 from rfl]
       go_wp2_with (first
         | (refine wpList_load_row rfl 25 (.tmp 9) rfl (w.heap.size+1) rfl 25 _ (0,0) _ Z1.out Tryz.underlying25 rfl (by kernel_rfl) ?_)
         | fail)
       refine (reffold_p P _).mono ?_;rintro e w1 ⟨rfl,hb1⟩
       have Y1:Hid (w1.heap[w.heap.size]? = some (.cells #[.int .u64 0,.int .u64 0,.int .u64 0,.int .u64 0,.int .i64 0,.int .i64 0,.int .i64 0] 167)):=Lib.hid (keep_blk hb1 Z0.out)
       have Z1a:Hid (w1.heap[w.heap.size+1]? = some (.cells #[.int .u64 (Oc.U (Oc.mk (P) 0)),.int .u64 (Oc.U (Oc.mk (P) 1)),.int .u64 (Oc.U (Oc.mk (P) 2)),.int .u64 (Oc.U (Oc.mk (P) 3))] 25)):=Lib.hid (keep_blk hb1 Z1.out)
       have HB1:Hid (Below w.heap.size w w1):=Lib.hid ((HB.out).trans (hb1.mono (HB.out).size))
       have Y1s:Hid ((w1.setRow (w.heap.size+1) #[.int .u64 (Oc.U (Oc.mk (Cl.fold P) 0)),.int .u64 (Oc.U (Oc.mk (Cl.fold P) 1)),.int .u64 (Oc.U (Oc.mk (Cl.fold P) 2)),.int .u64 (Oc.U (Oc.mk (Cl.fold P) 3))]).heap[w.heap.size]? = some (.cells #[.int .u64 0,.int .u64 0,.int .u64 0,.int .u64 0,.int .i64 0,.int .i64 0,.int .i64 0] 167)):=Lib.hid ((heap_setRow_other _ _ _ (Nat.ne_of_lt (Nat.lt_add_one _))).trans Y1.out)
       have Z1s:Hid ((w1.setRow (w.heap.size+1) #[.int .u64 (Oc.U (Oc.mk (Cl.fold P) 0)),.int .u64 (Oc.U (Oc.mk (Cl.fold P) 1)),.int .u64 (Oc.U (Oc.mk (Cl.fold P) 2)),.int .u64 (Oc.U (Oc.mk (Cl.fold P) 3))]).heap[w.heap.size+1]? = some (.cells #[.int .u64 (Oc.U (Oc.mk (Cl.fold P) 0)),.int .u64 (Oc.U (Oc.mk (Cl.fold P) 1)),.int .u64 (Oc.U (Oc.mk (Cl.fold P) 2)),.int .u64 (Oc.U (Oc.mk (Cl.fold P) 3))] 25)):=Lib.hid (heap_setRow Z1a.out)
       have HB1s:Hid (Below w.heap.size w (w1.setRow (w.heap.size+1) #[.int .u64 (Oc.U (Oc.mk (Cl.fold P) 0)),.int .u64 (Oc.U (Oc.mk (Cl.fold P) 1)),.int .u64 (Oc.U (Oc.mk (Cl.fold P) 2)),.int .u64 (Oc.U (Oc.mk (Cl.fold P) 3))])):=Lib.hid (below_setRow HB1.out (Nat.le_succ _) _)
       clear hb1
       go_wp2_with (first
         | (refine wpList_store_row rfl 25 (.tmp 9) (.tmp 59) rfl (w.heap.size+1) #[.int .u64 (Oc.U (Oc.mk (Cl.fold P) 0)),.int .u64 (Oc.U (Oc.mk (Cl.fold P) 1)),.int .u64 (Oc.U (Oc.mk (Cl.fold P) 2)),.int .u64 (Oc.U (Oc.mk (Cl.fold P) 3))] rfl rfl 25 _ Z1a.out (by kernel_rfl) rfl setC_one ?_)
         | (refine wpList_load_row rfl 25 (.tmp 9) rfl (w.heap.size+1) rfl 25 _ (0,0) _ Z1s.out Tryz.underlying25 rfl (by kernel_rfl) ?_)
         | fail)
       refine (refnot_p (Cl.fold P) _).mono ?_;rintro e w2 ⟨rfl,hb2⟩
       have Y2:Hid (w2.heap[w.heap.size]? = some (.cells #[.int .u64 0,.int .u64 0,.int .u64 0,.int .u64 0,.int .i64 0,.int .i64 0,.int .i64 0] 167)):=Lib.hid (keep_blk hb2 Y1s.out)
       have Z2a:Hid (w2.heap[w.heap.size+1]? = some (.cells #[.int .u64 (Oc.U (Oc.mk (Cl.fold P) 0)),.int .u64 (Oc.U (Oc.mk (Cl.fold P) 1)),.int .u64 (Oc.U (Oc.mk (Cl.fold P) 2)),.int .u64 (Oc.U (Oc.mk (Cl.fold P) 3))] 25)):=Lib.hid (keep_blk hb2 Z1s.out)
       have HB2:Hid (Below w.heap.size w w2):=Lib.hid ((HB1s.out).trans (hb2.mono (HB1s.out).size))
       have Y2s:Hid ((w2.setRow (w.heap.size+1) #[.int .u64 (Oc.U (Oc.mk (fun x=>!(Cl.fold P) x) 0)),.int .u64 (Oc.U (Oc.mk (fun x=>!(Cl.fold P) x) 1)),.int .u64 (Oc.U (Oc.mk (fun x=>!(Cl.fold P) x) 2)),.int .u64 (Oc.U (Oc.mk (fun x=>!(Cl.fold P) x) 3))]).heap[w.heap.size]? = some (.cells #[.int .u64 0,.int .u64 0,.int .u64 0,.int .u64 0,.int .i64 0,.int .i64 0,.int .i64 0] 167)):=Lib.hid ((heap_setRow_other _ _ _ (Nat.ne_of_lt (Nat.lt_add_one _))).trans Y2.out)
       have Z2s:Hid ((w2.setRow (w.heap.size+1) #[.int .u64 (Oc.U (Oc.mk (fun x=>!(Cl.fold P) x) 0)),.int .u64 (Oc.U (Oc.mk (fun x=>!(Cl.fold P) x) 1)),.int .u64 (Oc.U (Oc.mk (fun x=>!(Cl.fold P) x) 2)),.int .u64 (Oc.U (Oc.mk (fun x=>!(Cl.fold P) x) 3))]).heap[w.heap.size+1]? = some (.cells #[.int .u64 (Oc.U (Oc.mk (fun x=>!(Cl.fold P) x) 0)),.int .u64 (Oc.U (Oc.mk (fun x=>!(Cl.fold P) x) 1)),.int .u64 (Oc.U (Oc.mk (fun x=>!(Cl.fold P) x) 2)),.int .u64 (Oc.U (Oc.mk (fun x=>!(Cl.fold P) x) 3))] 25)):=Lib.hid (heap_setRow Z2a.out)
       have HB2s:Hid (Below w.heap.size w (w2.setRow (w.heap.size+1) #[.int .u64 (Oc.U (Oc.mk (fun x=>!(Cl.fold P) x) 0)),.int .u64 (Oc.U (Oc.mk (fun x=>!(Cl.fold P) x) 1)),.int .u64 (Oc.U (Oc.mk (fun x=>!(Cl.fold P) x) 2)),.int .u64 (Oc.U (Oc.mk (fun x=>!(Cl.fold P) x) 3))])):=Lib.hid (below_setRow HB2.out (Nat.le_succ _) _)
       clear hb2
       go_wp2_with (first
         | (refine wpList_store_row rfl 25 (.tmp 9) (.tmp 62) rfl (w.heap.size+1) #[.int .u64 (Oc.U (Oc.mk (fun x=>!(Cl.fold P) x) 0)),.int .u64 (Oc.U (Oc.mk (fun x=>!(Cl.fold P) x) 1)),.int .u64 (Oc.U (Oc.mk (fun x=>!(Cl.fold P) x) 2)),.int .u64 (Oc.U (Oc.mk (fun x=>!(Cl.fold P) x) 3))] rfl rfl 25 _ Z2a.out (by kernel_rfl) rfl setC_one ?_)
         | (refine wpList_load_row rfl 25 (.tmp 9) rfl (w.heap.size+1) rfl 25 _ (0,0) _ Z2s.out Tryz.underlying25 rfl (by kernel_rfl) ?_)
         | (refine wpList_store_row rfl 167 (.tmp 6) (.tmp 74) rfl w.heap.size (ansC (.ok (Br.fin true false true P) (i+1))) rfl rfl 167 _ Y2s.out (by kernel_rfl) rfl (ansC_one _) ?_)
         | fail)
       exact bodyPost_ret (results_cell_row rfl _ _ w.heap.size 167 (ansC (.ok (Br.fin true false true P) (i+1))) (0,0) _ rfl (heap_setRow Y2s.out) Tryz.underlying167 rfl (by kernel_rfl)) rfl ⟨rfl,by exact below_setRow HB2s.out (Nat.le_refl _) _⟩
     · go_wp2_with fail
       refine (H93.out _).mono ?_;rintro e w' ⟨rfl,rfl⟩
       rw [show flI true true=6 from rfl]
       go_wp2_with (first
         | (refine wpList_load_row rfl 25 (.tmp 9) rfl (w.heap.size+1) rfl 25 _ (0,0) _ Z1.out Tryz.underlying25 rfl (by kernel_rfl) ?_)
         | fail)
       refine (reffold_p P _).mono ?_;rintro e w1 ⟨rfl,hb1⟩
       have Y1:Hid (w1.heap[w.heap.size]? = some (.cells #[.int .u64 0,.int .u64 0,.int .u64 0,.int .u64 0,.int .i64 0,.int .i64 0,.int .i64 0] 167)):=Lib.hid (keep_blk hb1 Z0.out)
       have Z1a:Hid (w1.heap[w.heap.size+1]? = some (.cells #[.int .u64 (Oc.U (Oc.mk (P) 0)),.int .u64 (Oc.U (Oc.mk (P) 1)),.int .u64 (Oc.U (Oc.mk (P) 2)),.int .u64 (Oc.U (Oc.mk (P) 3))] 25)):=Lib.hid (keep_blk hb1 Z1.out)
       have HB1:Hid (Below w.heap.size w w1):=Lib.hid ((HB.out).trans (hb1.mono (HB.out).size))
       have Y1s:Hid ((w1.setRow (w.heap.size+1) #[.int .u64 (Oc.U (Oc.mk (Cl.fold P) 0)),.int .u64 (Oc.U (Oc.mk (Cl.fold P) 1)),.int .u64 (Oc.U (Oc.mk (Cl.fold P) 2)),.int .u64 (Oc.U (Oc.mk (Cl.fold P) 3))]).heap[w.heap.size]? = some (.cells #[.int .u64 0,.int .u64 0,.int .u64 0,.int .u64 0,.int .i64 0,.int .i64 0,.int .i64 0] 167)):=Lib.hid ((heap_setRow_other _ _ _ (Nat.ne_of_lt (Nat.lt_add_one _))).trans Y1.out)
       have Z1s:Hid ((w1.setRow (w.heap.size+1) #[.int .u64 (Oc.U (Oc.mk (Cl.fold P) 0)),.int .u64 (Oc.U (Oc.mk (Cl.fold P) 1)),.int .u64 (Oc.U (Oc.mk (Cl.fold P) 2)),.int .u64 (Oc.U (Oc.mk (Cl.fold P) 3))]).heap[w.heap.size+1]? = some (.cells #[.int .u64 (Oc.U (Oc.mk (Cl.fold P) 0)),.int .u64 (Oc.U (Oc.mk (Cl.fold P) 1)),.int .u64 (Oc.U (Oc.mk (Cl.fold P) 2)),.int .u64 (Oc.U (Oc.mk (Cl.fold P) 3))] 25)):=Lib.hid (heap_setRow Z1a.out)
       have HB1s:Hid (Below w.heap.size w (w1.setRow (w.heap.size+1) #[.int .u64 (Oc.U (Oc.mk (Cl.fold P) 0)),.int .u64 (Oc.U (Oc.mk (Cl.fold P) 1)),.int .u64 (Oc.U (Oc.mk (Cl.fold P) 2)),.int .u64 (Oc.U (Oc.mk (Cl.fold P) 3))])):=Lib.hid (below_setRow HB1.out (Nat.le_succ _) _)
       clear hb1
       go_wp2_with (first
         | (refine wpList_store_row rfl 25 (.tmp 9) (.tmp 59) rfl (w.heap.size+1) #[.int .u64 (Oc.U (Oc.mk (Cl.fold P) 0)),.int .u64 (Oc.U (Oc.mk (Cl.fold P) 1)),.int .u64 (Oc.U (Oc.mk (Cl.fold P) 2)),.int .u64 (Oc.U (Oc.mk (Cl.fold P) 3))] rfl rfl 25 _ Z1a.out (by kernel_rfl) rfl setC_one ?_)
         | (refine wpList_load_row rfl 25 (.tmp 9) rfl (w.heap.size+1) rfl 25 _ (0,0) _ Z1s.out Tryz.underlying25 rfl (by kernel_rfl) ?_)
         | fail)
       refine (refnot_p (Cl.fold P) _).mono ?_;rintro e w2 ⟨rfl,hb2⟩
       have Y2:Hid (w2.heap[w.heap.size]? = some (.cells #[.int .u64 0,.int .u64 0,.int .u64 0,.int .u64 0,.int .i64 0,.int .i64 0,.int .i64 0] 167)):=Lib.hid (keep_blk hb2 Y1s.out)
       have Z2a:Hid (w2.heap[w.heap.size+1]? = some (.cells #[.int .u64 (Oc.U (Oc.mk (Cl.fold P) 0)),.int .u64 (Oc.U (Oc.mk (Cl.fold P) 1)),.int .u64 (Oc.U (Oc.mk (Cl.fold P) 2)),.int .u64 (Oc.U (Oc.mk (Cl.fold P) 3))] 25)):=Lib.hid (keep_blk hb2 Z1s.out)
       have HB2:Hid (Below w.heap.size w w2):=Lib.hid ((HB1s.out).trans (hb2.mono (HB1s.out).size))
       have Y2s:Hid ((w2.setRow (w.heap.size+1) #[.int .u64 (Oc.U (Oc.mk (fun x=>!(Cl.fold P) x) 0)),.int .u64 (Oc.U (Oc.mk (fun x=>!(Cl.fold P) x) 1)),.int .u64 (Oc.U (Oc.mk (fun x=>!(Cl.fold P) x) 2)),.int .u64 (Oc.U (Oc.mk (fun x=>!(Cl.fold P) x) 3))]).heap[w.heap.size]? = some (.cells #[.int .u64 0,.int .u64 0,.int .u64 0,.int .u64 0,.int .i64 0,.int .i64 0,.int .i64 0] 167)):=Lib.hid ((heap_setRow_other _ _ _ (Nat.ne_of_lt (Nat.lt_add_one _))).trans Y2.out)
       have Z2s:Hid ((w2.setRow (w.heap.size+1) #[.int .u64 (Oc.U (Oc.mk (fun x=>!(Cl.fold P) x) 0)),.int .u64 (Oc.U (Oc.mk (fun x=>!(Cl.fold P) x) 1)),.int .u64 (Oc.U (Oc.mk (fun x=>!(Cl.fold P) x) 2)),.int .u64 (Oc.U (Oc.mk (fun x=>!(Cl.fold P) x) 3))]).heap[w.heap.size+1]? = some (.cells #[.int .u64 (Oc.U (Oc.mk (fun x=>!(Cl.fold P) x) 0)),.int .u64 (Oc.U (Oc.mk (fun x=>!(Cl.fold P) x) 1)),.int .u64 (Oc.U (Oc.mk (fun x=>!(Cl.fold P) x) 2)),.int .u64 (Oc.U (Oc.mk (fun x=>!(Cl.fold P) x) 3))] 25)):=Lib.hid (heap_setRow Z2a.out)
       have HB2s:Hid (Below w.heap.size w (w2.setRow (w.heap.size+1) #[.int .u64 (Oc.U (Oc.mk (fun x=>!(Cl.fold P) x) 0)),.int .u64 (Oc.U (Oc.mk (fun x=>!(Cl.fold P) x) 1)),.int .u64 (Oc.U (Oc.mk (fun x=>!(Cl.fold P) x) 2)),.int .u64 (Oc.U (Oc.mk (fun x=>!(Cl.fold P) x) 3))])):=Lib.hid (below_setRow HB2.out (Nat.le_succ _) _)
       clear hb2
       go_wp2_with (first
         | (refine wpList_store_row rfl 25 (.tmp 9) (.tmp 62) rfl (w.heap.size+1) #[.int .u64 (Oc.U (Oc.mk (fun x=>!(Cl.fold P) x) 0)),.int .u64 (Oc.U (Oc.mk (fun x=>!(Cl.fold P) x) 1)),.int .u64 (Oc.U (Oc.mk (fun x=>!(Cl.fold P) x) 2)),.int .u64 (Oc.U (Oc.mk (fun x=>!(Cl.fold P) x) 3))] rfl rfl 25 _ Z2a.out (by kernel_rfl) rfl setC_one ?_)
         | fail)
       have V0:=Y2s;have V1:=Z2s;have VB:=HB2s
       clear Y2s Z2s HB2s
       generalize World.setRow w2 _ _=W at *
       refine Ri.wp_region_frame (by kernel_rfl) (by kernel_rfl) (by kernel_rfl) (by kernel_rfl)
         (fun L v w'=>Below w.heap.size w w'∧W.heap.size ≤ w'.heap.size∧(L 4=true→w'.heap[(w.heap.size+1)]? = some (.cells #[.int .u64 (Oc.U (Oc.mk (fun x=>!(Cl.fold P) x && !(x == 10)) 0)),.int .u64 (Oc.U (Oc.mk (fun x=>!(Cl.fold P) x && !(x == 10)) 1)),.int .u64 (Oc.U (Oc.mk (fun x=>!(Cl.fold P) x && !(x == 10)) 2)),.int .u64 (Oc.U (Oc.mk (fun x=>!(Cl.fold P) x && !(x == 10)) 3))] 25))∧(L 4=false→w'.heap[(w.heap.size+1)]? = some (.cells #[.int .u64 (Oc.U (Oc.mk (fun x=>!(Cl.fold P) x) 0)),.int .u64 (Oc.U (Oc.mk (fun x=>!(Cl.fold P) x) 1)),.int .u64 (Oc.U (Oc.mk (fun x=>!(Cl.fold P) x) 2)),.int .u64 (Oc.U (Oc.mk (fun x=>!(Cl.fold P) x) 3))] 25))∧(L 4=true→L 0=true)∧w'.heap[w.heap.size]? = some (.cells #[.int .u64 0,.int .u64 0,.int .u64 0,.int .u64 0,.int .i64 0,.int .i64 0,.int .i64 0] 167)∧(L 0=true→v 0=.agg #[.int .u64 (Oc.U (Oc.mk (fun x=>!(Cl.fold P) x) 0)),.int .u64 (Oc.U (Oc.mk (fun x=>!(Cl.fold P) x) 1)),.int .u64 (Oc.U (Oc.mk (fun x=>!(Cl.fold P) x) 2)),.int .u64 (Oc.U (Oc.mk (fun x=>!(Cl.fold P) x) 3))])∧(L 1=true→v 1=.agg #[.int .u64 (Oc.U (Oc.mk (fun b=>b == 10) 0)),.int .u64 (Oc.U (Oc.mk (fun b=>b == 10) 1)),.int .u64 (Oc.U (Oc.mk (fun b=>b == 10) 2)),.int .u64 (Oc.U (Oc.mk (fun b=>b == 10) 3))])∧(L 2=true→v 2=.agg #[.int .u64 (Oc.U (Oc.mk (fun x=>!(x == 10)) 0)),.int .u64 (Oc.U (Oc.mk (fun x=>!(x == 10)) 1)),.int .u64 (Oc.U (Oc.mk (fun x=>!(x == 10)) 2)),.int .u64 (Oc.U (Oc.mk (fun x=>!(x == 10)) 3))])∧(L 3=true→v 3=.agg #[.int .u64 (Oc.U (Oc.mk (fun x=>!(Cl.fold P) x && !(x == 10)) 0)),.int .u64 (Oc.U (Oc.mk (fun x=>!(Cl.fold P) x && !(x == 10)) 1)),.int .u64 (Oc.U (Oc.mk (fun x=>!(Cl.fold P) x && !(x == 10)) 2)),.int .u64 (Oc.U (Oc.mk (fun x=>!(Cl.fold P) x && !(x == 10)) 3))]))
         ?_ ?_ ?_
       · exact ⟨VB.out.drew,Nat.le_refl _,(by simp),(fun _=>V1.out),by simp,V0.out,by simp,by simp,by simp,by simp⟩
       · intro i hi9 L v w9 xa hI hL hd hv ho
         have hi':i=0 ∨ i=1 ∨ i=2 ∨ i=3 ∨ i=4:=by simp at hi9;omega
         obtain ⟨hb,hz,qn,qo,qm0,k0,q0,q1,q2,q3⟩:=hI
         rcases hi' with rfl | rfl | rfl | rfl | rfl
         · have e9:xa.tmps.getD 9 undef=.pointer (some ⟨w.heap.size+1,0,none⟩):=ho 9 (by kernel_rfl)
           refine Ri.step_plain rfl rfl (fun K' hK=>?_)
           have hl9:L 4=false:=by cases h:L 4 with | false=>rfl | true=>rw [qm0 h] at hL;cases hL
           refine wp_load_row _ _ rfl _ e9 _ _ _ _ (qo hl9) Tryz.underlying25 rfl (by kernel_rfl) ?_
           exact hK _ _ ⟨_,_,rfl,rfl,hb,hz,qn,qo,(fun _=>rfl),k0,fun _=>rfl,q1,q2,q3⟩
         · refine Ri.step_plain rfl rfl (fun K' hK=>?_)
           go_simp
           refine (of_nl _).mono ?_
           rintro e w8 ⟨rfl,hb8⟩
           exact hK _ _ ⟨_,_,rfl,rfl,hb.trans (hb8.mono hb.size),Nat.le_trans hz hb8.size,(fun l=>keep_blk hb8 (qn l)),(fun l=>keep_blk hb8 (qo l)),qm0,(keep_blk hb8 k0),q0,fun _=>rfl,q2,q3⟩
         · have l0:L 1=true:=by have:=hd _ rfl;simp [Region.binds] at this;simp [this]
           have f1:=(hv 1 68 rfl l0).trans (q1 l0)
           refine Ri.step_plain rfl rfl (fun K' hK=>?_)
           go_simp
           refine (refnot_p (fun b=>b == 10) _).mono ?_
           rintro e w8 ⟨rfl,hb8⟩
           exact hK _ _ ⟨_,_,rfl,rfl,hb.trans (hb8.mono hb.size),Nat.le_trans hz hb8.size,(fun l=>keep_blk hb8 (qn l)),(fun l=>keep_blk hb8 (qo l)),qm0,(keep_blk hb8 k0),q0,q1,fun _=>rfl,q3⟩
         · have l0:L 0=true∧L 2=true:=by have:=hd _ rfl;simp [Region.binds] at this;simp [this]
           have f0:=(hv 0 67 rfl l0.1).trans (q0 l0.1)
           have f2:=(hv 2 69 rfl l0.2).trans (q2 l0.2)
           refine Ri.step_plain rfl rfl (fun K' hK=>?_)
           go_simp
           refine (refmeet_p (fun x=>!(Cl.fold P) x) (fun x=>!(x == 10)) _).mono ?_
           rintro e w8 ⟨rfl,hb8⟩
           exact hK _ _ ⟨_,_,rfl,rfl,hb.trans (hb8.mono hb.size),Nat.le_trans hz hb8.size,(fun l=>keep_blk hb8 (qn l)),(fun l=>keep_blk hb8 (qo l)),qm0,(keep_blk hb8 k0),q0,q1,q2,fun _=>rfl⟩
         · have l0:L 3=true:=by have:=hd _ rfl;simp [Region.binds] at this;simp [this]
           have f3:=(hv 3 70 rfl l0).trans (q3 l0)
           have e9:xa.tmps.getD 9 undef=.pointer (some ⟨w.heap.size+1,0,none⟩):=ho 9 (by kernel_rfl)
           refine Ri.step_plain rfl rfl (fun K' hK=>?_)
           have h0:L 0=true:=by have:=hd _ rfl;simp [Region.binds] at this;simp [this]
           refine wp_store_row _ _ _ rfl (w.heap.size+1) #[.int .u64 (Oc.U (Oc.mk (fun x=>!(Cl.fold P) x && !(x == 10)) 0)),.int .u64 (Oc.U (Oc.mk (fun x=>!(Cl.fold P) x && !(x == 10)) 1)),.int .u64 (Oc.U (Oc.mk (fun x=>!(Cl.fold P) x && !(x == 10)) 2)),.int .u64 (Oc.U (Oc.mk (fun x=>!(Cl.fold P) x && !(x == 10)) 3))] e9 f3 25 _ (qo hL) (by kernel_rfl) (by kernel_rfl) setC_one ?_
           exact hK _ _ ⟨_,undef,rfl,rfl,below_setRow hb (Nat.le_succ _) _,by simpa using hz,(fun _=>heap_setRow (qo hL)),(fun h=>by cases h),(fun _=>h0),(heap_setRow_other _ _ _ (Nat.ne_of_lt (Nat.lt_add_one _))).trans k0,q0,q1,q2,q3⟩
       · rintro v w9 ⟨hb,hz,qn,-,-,k0,-,-,-,-⟩
         have zN:=qn rfl;clear qn
         simp only [Ri.frame,List.zipIdx,List.foldl_cons,List.foldl_nil,if_true,List.setIfInBounds_toArray,List.set_cons_zero,List.set_cons_succ,Nat.reduceAdd]
         generalize v 0=y0;generalize v 1=y1;generalize v 2=y2;generalize v 3=y3
         go_wp2_with (first
           | (refine wpList_load_row rfl 25 (.tmp 9) rfl (w.heap.size+1) rfl 25 _ (0,0) _ zN Tryz.underlying25 rfl (by kernel_rfl) ?_)
           | (refine wpList_store_row rfl 167 (.tmp 6) (.tmp 74) rfl w.heap.size (ansC (.ok (Br.fin true true true P) (i+1))) rfl rfl 167 _ k0 (by kernel_rfl) rfl (ansC_one _) ?_)
           | fail)
         exact bodyPost_ret (results_cell_row rfl _ _ w.heap.size 167 (ansC (.ok (Br.fin true true true P) (i+1))) (0,0) _ rfl (heap_setRow k0) Tryz.underlying167 rfl (by kernel_rfl)) rfl ⟨rfl,by exact below_setRow hb (Nat.le_refl _) _⟩
   · rw [if_neg hx] at hit'
     have HX:Hid (b=false ∨ (b=true∧(bt s i == 93)=false)):=Lib.hid (by cases b with | false=>exact .inl rfl | true=>exact .inr ⟨rfl,by simpa using hx⟩)
     clear hx
     by_cases hin:s.size ≤ i
     · rw [if_pos hin] at hit'
       subst hit'
       rcases HX.out with rfl | ⟨rfl,h93⟩
       · clear HX
         go_wp2_with (first
           | (refine wpList_store_row rfl 167 (.tmp 6) (.tmp 39) rfl w.heap.size (ansC (.err 1 a)) rfl rfl 167 _ Z0.out (by kernel_rfl) rfl (ansC_one _) ?_)
           | fail)
         exact bodyPost_ret (results_cell_row rfl _ _ w.heap.size 167 (ansC (.err 1 a)) (0,0) _ rfl (heap_setRow Z0.out) Tryz.underlying167 rfl (by kernel_rfl)) rfl ⟨rfl,by exact below_setRow HB.out (Nat.le_refl _) _⟩
       · have H93:=Lib.hid (HI.out i 93 (by omega) false h93)
         clear HX h93
         go_wp2_with fail
         refine (H93.out _).mono ?_;rintro e w' ⟨rfl,rfl⟩
         go_wp2_with (first
           | (refine wpList_store_row rfl 167 (.tmp 6) (.tmp 39) rfl w.heap.size (ansC (.err 1 a)) rfl rfl 167 _ Z0.out (by kernel_rfl) rfl (ansC_one _) ?_)
           | fail)
         exact bodyPost_ret (results_cell_row rfl _ _ w.heap.size 167 (ansC (.err 1 a)) (0,0) _ rfl (heap_setRow Z0.out) Tryz.underlying167 rfl (by kernel_rfl)) rfl ⟨rfl,by exact below_setRow HB.out (Nat.le_refl _) _⟩
     · rw [if_neg hin] at hit'
       have hlt:i < s.size:=by omega
       cases hitem:Br.item (bt s) s.size i a with
       | err c p =>
         rw [hitem] at hit'
         have hit2:Br.Ans.err c p=R:=hit'
         subst hit2
         have hne:((c:Int) != 0)=true:=by
           have:=Br.item_err hitem
           simp;omega
         have hI:∀ w,Calls Tryz.prog 166 #[.string s,.int .i64 i,.int .i64 a] w fun e w'=>e=.returned (.agg #[.int .u64 0,.int .u64 0,.int .u64 0,.int .u64 0,.int .i64 0,.int .i64 c,.int .i64 p])∧Below w.heap.size w w':=fun w=>by
           have:=refitem_any s hs i a hlt w
           rw [hitem] at this;exact this
         have HIT:=Lib.hid hI
         clear hI hitem hit'
         rcases HX.out with rfl | ⟨rfl,h93⟩
         · clear HX
           go_wp2_with fail
           refine (HIT.out _).mono ?_;rintro e w1 ⟨rfl,hb1⟩
           have Y1:Hid ((w1.alloc (.cells #[.int .u64 0,.int .u64 0,.int .u64 0,.int .u64 0,.int .i64 0,.int .i64 c,.int .i64 p] 167)).heap[w.heap.size]? = some (.cells #[.int .u64 0,.int .u64 0,.int .u64 0,.int .u64 0,.int .i64 0,.int .i64 0,.int .i64 0] 167)):=Lib.hid (heap_alloc_lt (keep_blk hb1 Z0.out))
           have HB1:Hid (Below w.heap.size w (w1.alloc (.cells #[.int .u64 0,.int .u64 0,.int .u64 0,.int .u64 0,.int .i64 0,.int .i64 c,.int .i64 p] 167))):=Lib.hid ((HB.out.trans (hb1.mono HB.out.size)).alloc (HB.out.trans (hb1.mono HB.out.size)).size _)
           clear hb1
           go_wp2_with (first
             | (refine wpList_store_row rfl 167 (.tmp 6) (.tmp 47) rfl w.heap.size (ansC (.err c p)) rfl rfl 167 _ Y1.out (by kernel_rfl) rfl (ansC_one _) ?_)
             | fail)
           exact bodyPost_ret (results_cell_row rfl _ _ w.heap.size 167 (ansC (.err c p)) (0,0) _ rfl (heap_setRow Y1.out) Tryz.underlying167 rfl (by kernel_rfl)) rfl ⟨rfl,by exact below_setRow HB1.out (Nat.le_refl _) _⟩
         · have H93:=Lib.hid (HI.out i 93 (by omega) false h93)
           clear HX h93
           go_wp2_with fail
           refine (H93.out _).mono ?_;rintro e w' ⟨rfl,rfl⟩
           go_wp2_with fail
           refine (HIT.out _).mono ?_;rintro e w1 ⟨rfl,hb1⟩
           have Y1:Hid ((w1.alloc (.cells #[.int .u64 0,.int .u64 0,.int .u64 0,.int .u64 0,.int .i64 0,.int .i64 c,.int .i64 p] 167)).heap[w.heap.size]? = some (.cells #[.int .u64 0,.int .u64 0,.int .u64 0,.int .u64 0,.int .i64 0,.int .i64 0,.int .i64 0] 167)):=Lib.hid (heap_alloc_lt (keep_blk hb1 Z0.out))
           have HB1:Hid (Below w.heap.size w (w1.alloc (.cells #[.int .u64 0,.int .u64 0,.int .u64 0,.int .u64 0,.int .i64 0,.int .i64 c,.int .i64 p] 167))):=Lib.hid ((HB.out.trans (hb1.mono HB.out.size)).alloc (HB.out.trans (hb1.mono HB.out.size)).size _)
           clear hb1
           go_wp2_with (first
             | (refine wpList_store_row rfl 167 (.tmp 6) (.tmp 47) rfl w.heap.size (ansC (.err c p)) rfl rfl 167 _ Y1.out (by kernel_rfl) rfl (ansC_one _) ?_)
             | fail)
           exact bodyPost_ret (results_cell_row rfl _ _ w.heap.size 167 (ansC (.err c p)) (0,0) _ rfl (heap_setRow Y1.out) Tryz.underlying167 rfl (by kernel_rfl)) rfl ⟨rfl,by exact below_setRow HB1.out (Nat.le_refl _) _⟩
       | ok Q j =>
         rw [hitem] at hit'
         have hit2:Br.items (bt s) s.size a k j (fun x=>P x || Q x) true=R:=hit'
         have HN:=Lib.hid hit2
         obtain ⟨j1,j2⟩:=Br.item_next hlt hitem
         have hI:∀ w,Calls Tryz.prog 166 #[.string s,.int .i64 i,.int .i64 a] w fun e w'=>e=.returned (.agg #[.int .u64 (Oc.U (Oc.mk Q 0)),.int .u64 (Oc.U (Oc.mk Q 1)),.int .u64 (Oc.U (Oc.mk Q 2)),.int .u64 (Oc.U (Oc.mk Q 3)),.int .i64 j,.int .i64 0,.int .i64 0])∧Below w.heap.size w w':=fun w=>by
           have:=refitem_any s hs i a hlt w
           rw [hitem] at this;exact this
         have HIT:=Lib.hid hI
         clear hI hitem hit' hit2
         rcases HX.out with rfl | ⟨rfl,h93⟩
         · clear HX
           go_wp2_with fail
           refine (HIT.out _).mono ?_;rintro e w1 ⟨rfl,hb1⟩
           have hsz1:w.heap.size+1 < w1.heap.size:=by have:=hb1.size;omega
           have Y1:Hid ((w1.alloc (.cells #[.int .u64 (Oc.U (Oc.mk Q 0)),.int .u64 (Oc.U (Oc.mk Q 1)),.int .u64 (Oc.U (Oc.mk Q 2)),.int .u64 (Oc.U (Oc.mk Q 3)),.int .i64 j,.int .i64 0,.int .i64 0] 167)).heap[w.heap.size]? = some (.cells #[.int .u64 0,.int .u64 0,.int .u64 0,.int .u64 0,.int .i64 0,.int .i64 0,.int .i64 0] 167)):=Lib.hid (heap_alloc_lt (keep_blk hb1 Z0.out))
           have Z1a:Hid ((w1.alloc (.cells #[.int .u64 (Oc.U (Oc.mk Q 0)),.int .u64 (Oc.U (Oc.mk Q 1)),.int .u64 (Oc.U (Oc.mk Q 2)),.int .u64 (Oc.U (Oc.mk Q 3)),.int .i64 j,.int .i64 0,.int .i64 0] 167)).heap[w.heap.size+1]? = some (.cells #[.int .u64 (Oc.U (Oc.mk (P) 0)),.int .u64 (Oc.U (Oc.mk (P) 1)),.int .u64 (Oc.U (Oc.mk (P) 2)),.int .u64 (Oc.U (Oc.mk (P) 3))] 25)):=Lib.hid (heap_alloc_lt (keep_blk hb1 Z1.out))
           have HB1:Hid (Below w.heap.size w (w1.alloc (.cells #[.int .u64 (Oc.U (Oc.mk Q 0)),.int .u64 (Oc.U (Oc.mk Q 1)),.int .u64 (Oc.U (Oc.mk Q 2)),.int .u64 (Oc.U (Oc.mk Q 3)),.int .i64 j,.int .i64 0,.int .i64 0] 167))):=Lib.hid ((HB.out.trans (hb1.mono HB.out.size)).alloc (HB.out.trans (hb1.mono HB.out.size)).size _)
           clear hb1
           go_wp2_with (first
             | (refine wpList_load_row rfl 25 (.tmp 9) rfl (w.heap.size+1) rfl 25 _ (0,0) _ Z1a.out Tryz.underlying25 rfl (by kernel_rfl) ?_)
             | fail)
           refine (HJ.out P Q _).mono ?_;rintro e w2 ⟨rfl,hb2⟩
           have Y2:Hid (w2.heap[w.heap.size]? = some (.cells #[.int .u64 0,.int .u64 0,.int .u64 0,.int .u64 0,.int .i64 0,.int .i64 0,.int .i64 0] 167)):=Lib.hid (keep_blk hb2 Y1.out)
           have Z2:Hid (w2.heap[w.heap.size+1]? = some (.cells #[.int .u64 (Oc.U (Oc.mk (P) 0)),.int .u64 (Oc.U (Oc.mk (P) 1)),.int .u64 (Oc.U (Oc.mk (P) 2)),.int .u64 (Oc.U (Oc.mk (P) 3))] 25)):=Lib.hid (keep_blk hb2 Z1a.out)
           have HB2:Hid (Below w.heap.size w w2):=Lib.hid (HB1.out.trans (hb2.mono HB1.out.size))
           have A2:Hid (w2.heap[w1.heap.size]? = some (.cells #[.int .u64 (Oc.U (Oc.mk Q 0)),.int .u64 (Oc.U (Oc.mk Q 1)),.int .u64 (Oc.U (Oc.mk Q 2)),.int .u64 (Oc.U (Oc.mk Q 3)),.int .i64 j,.int .i64 0,.int .i64 0] 167)):=Lib.hid (keep_blk hb2 (heap_alloc_new w1 _))
           have hsz2:w1.heap.size < w2.heap.size:=by have:=hb2.size;simp at this;omega
           clear hb2
           have cj:(w2.setRow (w.heap.size+1) #[.int .u64 (Oc.U (Oc.mk (fun x=>P x || Q x) 0)),.int .u64 (Oc.U (Oc.mk (fun x=>P x || Q x) 1)),.int .u64 (Oc.U (Oc.mk (fun x=>P x || Q x) 2)),.int .u64 (Oc.U (Oc.mk (fun x=>P x || Q x) 3))]).cell? ⟨w1.heap.size,4,none⟩=some (.int .i64 j):=by
             unfold World.cell?;rw [heap_setRow_other _ _ _ (Nat.ne_of_gt hsz1),A2.out];rfl
           go_wp2_with (first
             | (refine wpList_store_row rfl 25 (.tmp 9) (.tmp 51) rfl (w.heap.size+1) #[.int .u64 (Oc.U (Oc.mk (fun x=>P x || Q x) 0)),.int .u64 (Oc.U (Oc.mk (fun x=>P x || Q x) 1)),.int .u64 (Oc.U (Oc.mk (fun x=>P x || Q x) 2)),.int .u64 (Oc.U (Oc.mk (fun x=>P x || Q x) 3))] rfl rfl 25 _ Z2.out (by kernel_rfl) rfl setC_one ?_)
             | fail)
           exact ⟨⟨fun x=>P x || Q x,true,j,k,rfl,rfl,j2,by omega,HN,below_setRow HB2.out (Nat.le_succ _) _,by simp;omega,(heap_setRow_other _ _ _ (Nat.ne_of_lt (Nat.lt_add_one _))).trans Y2.out,heap_setRow Z2.out⟩,by simp [intOf];omega⟩
         · have H93:=Lib.hid (HI.out i 93 (by omega) false h93)
           clear HX h93
           go_wp2_with fail
           refine (H93.out _).mono ?_;rintro e w' ⟨rfl,rfl⟩
           go_wp2_with fail
           refine (HIT.out _).mono ?_;rintro e w1 ⟨rfl,hb1⟩
           have hsz1:w.heap.size+1 < w1.heap.size:=by have:=hb1.size;omega
           have Y1:Hid ((w1.alloc (.cells #[.int .u64 (Oc.U (Oc.mk Q 0)),.int .u64 (Oc.U (Oc.mk Q 1)),.int .u64 (Oc.U (Oc.mk Q 2)),.int .u64 (Oc.U (Oc.mk Q 3)),.int .i64 j,.int .i64 0,.int .i64 0] 167)).heap[w.heap.size]? = some (.cells #[.int .u64 0,.int .u64 0,.int .u64 0,.int .u64 0,.int .i64 0,.int .i64 0,.int .i64 0] 167)):=Lib.hid (heap_alloc_lt (keep_blk hb1 Z0.out))
           have Z1a:Hid ((w1.alloc (.cells #[.int .u64 (Oc.U (Oc.mk Q 0)),.int .u64 (Oc.U (Oc.mk Q 1)),.int .u64 (Oc.U (Oc.mk Q 2)),.int .u64 (Oc.U (Oc.mk Q 3)),.int .i64 j,.int .i64 0,.int .i64 0] 167)).heap[w.heap.size+1]? = some (.cells #[.int .u64 (Oc.U (Oc.mk (P) 0)),.int .u64 (Oc.U (Oc.mk (P) 1)),.int .u64 (Oc.U (Oc.mk (P) 2)),.int .u64 (Oc.U (Oc.mk (P) 3))] 25)):=Lib.hid (heap_alloc_lt (keep_blk hb1 Z1.out))
           have HB1:Hid (Below w.heap.size w (w1.alloc (.cells #[.int .u64 (Oc.U (Oc.mk Q 0)),.int .u64 (Oc.U (Oc.mk Q 1)),.int .u64 (Oc.U (Oc.mk Q 2)),.int .u64 (Oc.U (Oc.mk Q 3)),.int .i64 j,.int .i64 0,.int .i64 0] 167))):=Lib.hid ((HB.out.trans (hb1.mono HB.out.size)).alloc (HB.out.trans (hb1.mono HB.out.size)).size _)
           clear hb1
           go_wp2_with (first
             | (refine wpList_load_row rfl 25 (.tmp 9) rfl (w.heap.size+1) rfl 25 _ (0,0) _ Z1a.out Tryz.underlying25 rfl (by kernel_rfl) ?_)
             | fail)
           refine (HJ.out P Q _).mono ?_;rintro e w2 ⟨rfl,hb2⟩
           have Y2:Hid (w2.heap[w.heap.size]? = some (.cells #[.int .u64 0,.int .u64 0,.int .u64 0,.int .u64 0,.int .i64 0,.int .i64 0,.int .i64 0] 167)):=Lib.hid (keep_blk hb2 Y1.out)
           have Z2:Hid (w2.heap[w.heap.size+1]? = some (.cells #[.int .u64 (Oc.U (Oc.mk (P) 0)),.int .u64 (Oc.U (Oc.mk (P) 1)),.int .u64 (Oc.U (Oc.mk (P) 2)),.int .u64 (Oc.U (Oc.mk (P) 3))] 25)):=Lib.hid (keep_blk hb2 Z1a.out)
           have HB2:Hid (Below w.heap.size w w2):=Lib.hid (HB1.out.trans (hb2.mono HB1.out.size))
           have A2:Hid (w2.heap[w1.heap.size]? = some (.cells #[.int .u64 (Oc.U (Oc.mk Q 0)),.int .u64 (Oc.U (Oc.mk Q 1)),.int .u64 (Oc.U (Oc.mk Q 2)),.int .u64 (Oc.U (Oc.mk Q 3)),.int .i64 j,.int .i64 0,.int .i64 0] 167)):=Lib.hid (keep_blk hb2 (heap_alloc_new w1 _))
           have hsz2:w1.heap.size < w2.heap.size:=by have:=hb2.size;simp at this;omega
           clear hb2
           have cj:(w2.setRow (w.heap.size+1) #[.int .u64 (Oc.U (Oc.mk (fun x=>P x || Q x) 0)),.int .u64 (Oc.U (Oc.mk (fun x=>P x || Q x) 1)),.int .u64 (Oc.U (Oc.mk (fun x=>P x || Q x) 2)),.int .u64 (Oc.U (Oc.mk (fun x=>P x || Q x) 3))]).cell? ⟨w1.heap.size,4,none⟩=some (.int .i64 j):=by
             unfold World.cell?;rw [heap_setRow_other _ _ _ (Nat.ne_of_gt hsz1),A2.out];rfl
           go_wp2_with (first
             | (refine wpList_store_row rfl 25 (.tmp 9) (.tmp 51) rfl (w.heap.size+1) #[.int .u64 (Oc.U (Oc.mk (fun x=>P x || Q x) 0)),.int .u64 (Oc.U (Oc.mk (fun x=>P x || Q x) 1)),.int .u64 (Oc.U (Oc.mk (fun x=>P x || Q x) 2)),.int .u64 (Oc.U (Oc.mk (fun x=>P x || Q x) 3))] rfl rfl 25 _ Z2.out (by kernel_rfl) rfl setC_one ?_)
             | fail)
           exact ⟨⟨fun x=>P x || Q x,true,j,k,rfl,rfl,j2,by omega,HN,below_setRow HB2.out (Nat.le_succ _) _,by simp;omega,(heap_setRow_other _ _ _ (Nat.ne_of_lt (Nat.lt_add_one _))).trans Y2.out,heap_setRow Z2.out⟩,by simp [intOf];omega⟩
end Go.Proofs.YtfcilopifjddpaaGreatDoor
namespace Go.Proofs.YtfcilopifjddpaaGreatDoor
open Go.RowKit
theorem refread_f (s:ByteArray) (hs:s.size ≤ 1152921504606846976) (a:Nat) (ic nl:Bool) (ha:bt s a=91) (ht:(bt s (a+1) == 94)=false) (R:Br.Ans) (hR:Br.items (bt s) s.size a (s.size+1) (a+1) (fun _=>false) false=R)
   (w:World):Calls Tryz.prog 137 #[.string s,.int .i64 a,.int .i64 (flI ic nl)] w (RdEnd (Br.ends ic nl false R) w):=by
 have hal:=(bt_txt s).lt ha (by omega)
 have HS:=Lib.hid (ris_nat s hs a a 91 rfl (by omega) true (by rw [ha];rfl))
 have HT:=Lib.hid (ris_nat s hs ((a:Int)+1) (a+1) 94 (by omega) (by omega) false ht)
 have HI:=Lib.hid (fun i c hc b hb=>ris_nat s hs (i:Nat) i c rfl hc b hb)
 have HJ:=Lib.hid refjoin_p
 have hw1:IntKind.i64.wrap ((a:Int)+1)=(a:Int)+1:=IntWalk.i64_in _ (by omega)
 have hw2:IntKind.i64.wrap ((a:Int)+1+1)=(a:Int)+1+1:=IntWalk.i64_in _ (by omega)
 have HR:=Lib.hid hR
 clear ha ht hR
 go_enter Tryz.func137,Tryz.ntmps137
 go_wp2_with fail
 refine (HS.out _).mono ?_;rintro e w' ⟨rfl,rfl⟩
 go_wp2_with fail
 refine (HT.out _).mono ?_;rintro e w' ⟨rfl,rfl⟩
 go_wp2_with fail
 go_loopw [7,10] (fun iv bv wr=>∃ (P:Nat→Bool) (b:Bool) (i k:Nat),iv=.int .i64 i∧bv=.bool b∧i ≤ s.size∧s.size < i+k∧Hid (Br.items (bt s) s.size a k i P b=R)∧Below w.heap.size w wr∧w.heap.size+1 < wr.heap.size ∧
   wr.heap[w.heap.size]? = some (.cells #[.int .u64 0,.int .u64 0,.int .u64 0,.int .u64 0,.int .i64 0,.int .i64 0,.int .i64 0] 167) ∧
   wr.heap[w.heap.size+1]? = some (.cells #[.int .u64 (Oc.U (Oc.mk (P) 0)),.int .u64 (Oc.U (Oc.mk (P) 1)),.int .u64 (Oc.U (Oc.mk (P) 2)),.int .u64 (Oc.U (Oc.mk (P) 3))] 25)) (fun iv _ _=>s.size - (intOf iv).toNat)
 case atStart=>exact ⟨fun _=>false,false,a+1,s.size+1,by push_cast;rfl,rfl,by omega,by omega,HR,by go_grown,by simp,(two_new _ _ _).1,(two_new _ _ _).2.trans (by rw [Oc.mk_none,Oc.mk_none,Oc.mk_none,Oc.mk_none];rfl)⟩
 case round =>
   obtain ⟨P,b,i,k,rfl,rfl,hi,hk,hit,hbel,hsz,z0,z1⟩:=hrel
   obtain ⟨k,rfl⟩:∃ k',k=k'+1:=⟨k - 1,by omega⟩
   have hit':=hit.out
   clear hit
   unfold Br.items at hit'
   have Z0:=Lib.hid z0;have Z1:=Lib.hid z1;have HB:=Lib.hid hbel
   clear z0 z1 hbel
   by_cases hx:(b && bt s i == 93)=true
   · rw [if_pos hx] at hit'
     simp only [Bool.and_eq_true] at hx
     obtain ⟨rfl,h93⟩:=hx
     have H93:=Lib.hid (HI.out i 93 (by omega) true h93)
     have hwi:IntKind.i64.wrap ((i:Int)+1)=(i:Int)+1:=IntWalk.i64_in _ (by omega)
     subst hit'
     clear h93
     cases ic <;> cases nl
     · go_wp2_with fail
       refine (H93.out _).mono ?_;rintro e w' ⟨rfl,rfl⟩
       rw [show flI false false=0 from rfl]
       go_wp2_with (first
         | (refine wpList_load_row rfl 25 (.tmp 9) rfl (w.heap.size+1) rfl 25 _ (0,0) _ Z1.out Tryz.underlying25 rfl (by kernel_rfl) ?_)
         | (refine wpList_store_row rfl 167 (.tmp 6) (.tmp 74) rfl w.heap.size (ansC (.ok (Br.fin false false false P) (i+1))) rfl rfl 167 _ Z0.out (by kernel_rfl) rfl (ansC_one _) ?_)
         | fail)
       exact bodyPost_ret (results_cell_row rfl _ _ w.heap.size 167 (ansC (.ok (Br.fin false false false P) (i+1))) (0,0) _ rfl (heap_setRow Z0.out) Tryz.underlying167 rfl (by kernel_rfl)) rfl ⟨rfl,by exact below_setRow HB.out (Nat.le_refl _) _⟩
     · go_wp2_with fail
       refine (H93.out _).mono ?_;rintro e w' ⟨rfl,rfl⟩
       rw [show flI false true=4 from rfl]
       go_wp2_with (first
         | (refine wpList_load_row rfl 25 (.tmp 9) rfl (w.heap.size+1) rfl 25 _ (0,0) _ Z1.out Tryz.underlying25 rfl (by kernel_rfl) ?_)
         | (refine wpList_store_row rfl 167 (.tmp 6) (.tmp 74) rfl w.heap.size (ansC (.ok (Br.fin false true false P) (i+1))) rfl rfl 167 _ Z0.out (by kernel_rfl) rfl (ansC_one _) ?_)
         | fail)
       exact bodyPost_ret (results_cell_row rfl _ _ w.heap.size 167 (ansC (.ok (Br.fin false true false P) (i+1))) (0,0) _ rfl (heap_setRow Z0.out) Tryz.underlying167 rfl (by kernel_rfl)) rfl ⟨rfl,by exact below_setRow HB.out (Nat.le_refl _) _⟩
     · go_wp2_with fail
       refine (H93.out _).mono ?_;rintro e w' ⟨rfl,rfl⟩
       rw [show flI true false=2 from rfl]
       go_wp2_with (first
         | (refine wpList_load_row rfl 25 (.tmp 9) rfl (w.heap.size+1) rfl 25 _ (0,0) _ Z1.out Tryz.underlying25 rfl (by kernel_rfl) ?_)
         | fail)
       refine (reffold_p P _).mono ?_;rintro e w1 ⟨rfl,hb1⟩
       have Y1:Hid (w1.heap[w.heap.size]? = some (.cells #[.int .u64 0,.int .u64 0,.int .u64 0,.int .u64 0,.int .i64 0,.int .i64 0,.int .i64 0] 167)):=Lib.hid (keep_blk hb1 Z0.out)
       have Z1a:Hid (w1.heap[w.heap.size+1]? = some (.cells #[.int .u64 (Oc.U (Oc.mk (P) 0)),.int .u64 (Oc.U (Oc.mk (P) 1)),.int .u64 (Oc.U (Oc.mk (P) 2)),.int .u64 (Oc.U (Oc.mk (P) 3))] 25)):=Lib.hid (keep_blk hb1 Z1.out)
       have HB1:Hid (Below w.heap.size w w1):=Lib.hid ((HB.out).trans (hb1.mono (HB.out).size))
       have Y1s:Hid ((w1.setRow (w.heap.size+1) #[.int .u64 (Oc.U (Oc.mk (Cl.fold P) 0)),.int .u64 (Oc.U (Oc.mk (Cl.fold P) 1)),.int .u64 (Oc.U (Oc.mk (Cl.fold P) 2)),.int .u64 (Oc.U (Oc.mk (Cl.fold P) 3))]).heap[w.heap.size]? = some (.cells #[.int .u64 0,.int .u64 0,.int .u64 0,.int .u64 0,.int .i64 0,.int .i64 0,.int .i64 0] 167)):=Lib.hid ((heap_setRow_other _ _ _ (Nat.ne_of_lt (Nat.lt_add_one _))).trans Y1.out)
       have Z1s:Hid ((w1.setRow (w.heap.size+1) #[.int .u64 (Oc.U (Oc.mk (Cl.fold P) 0)),.int .u64 (Oc.U (Oc.mk (Cl.fold P) 1)),.int .u64 (Oc.U (Oc.mk (Cl.fold P) 2)),.int .u64 (Oc.U (Oc.mk (Cl.fold P) 3))]).heap[w.heap.size+1]? = some (.cells #[.int .u64 (Oc.U (Oc.mk (Cl.fold P) 0)),.int .u64 (Oc.U (Oc.mk (Cl.fold P) 1)),.int .u64 (Oc.U (Oc.mk (Cl.fold P) 2)),.int .u64 (Oc.U (Oc.mk (Cl.fold P) 3))] 25)):=Lib.hid (heap_setRow Z1a.out)
       have HB1s:Hid (Below w.heap.size w (w1.setRow (w.heap.size+1) #[.int .u64 (Oc.U (Oc.mk (Cl.fold P) 0)),.int .u64 (Oc.U (Oc.mk (Cl.fold P) 1)),.int .u64 (Oc.U (Oc.mk (Cl.fold P) 2)),.int .u64 (Oc.U (Oc.mk (Cl.fold P) 3))])):=Lib.hid (below_setRow HB1.out (Nat.le_succ _) _)
       clear hb1
       go_wp2_with (first
         | (refine wpList_store_row rfl 25 (.tmp 9) (.tmp 59) rfl (w.heap.size+1) #[.int .u64 (Oc.U (Oc.mk (Cl.fold P) 0)),.int .u64 (Oc.U (Oc.mk (Cl.fold P) 1)),.int .u64 (Oc.U (Oc.mk (Cl.fold P) 2)),.int .u64 (Oc.U (Oc.mk (Cl.fold P) 3))] rfl rfl 25 _ Z1a.out (by kernel_rfl) rfl setC_one ?_)
         | (refine wpList_load_row rfl 25 (.tmp 9) rfl (w.heap.size+1) rfl 25 _ (0,0) _ Z1s.out Tryz.underlying25 rfl (by kernel_rfl) ?_)
         | (refine wpList_store_row rfl 167 (.tmp 6) (.tmp 74) rfl w.heap.size (ansC (.ok (Br.fin true false false P) (i+1))) rfl rfl 167 _ Y1s.out (by kernel_rfl) rfl (ansC_one _) ?_)
         | fail)
       exact bodyPost_ret (results_cell_row rfl _ _ w.heap.size 167 (ansC (.ok (Br.fin true false false P) (i+1))) (0,0) _ rfl (heap_setRow Y1s.out) Tryz.underlying167 rfl (by kernel_rfl)) rfl ⟨rfl,by exact below_setRow HB1s.out (Nat.le_refl _) _⟩
     · go_wp2_with fail
       refine (H93.out _).mono ?_;rintro e w' ⟨rfl,rfl⟩
       rw [show flI true true=6 from rfl]
       go_wp2_with (first
         | (refine wpList_load_row rfl 25 (.tmp 9) rfl (w.heap.size+1) rfl 25 _ (0,0) _ Z1.out Tryz.underlying25 rfl (by kernel_rfl) ?_)
         | fail)
       refine (reffold_p P _).mono ?_;rintro e w1 ⟨rfl,hb1⟩
       have Y1:Hid (w1.heap[w.heap.size]? = some (.cells #[.int .u64 0,.int .u64 0,.int .u64 0,.int .u64 0,.int .i64 0,.int .i64 0,.int .i64 0] 167)):=Lib.hid (keep_blk hb1 Z0.out)
       have Z1a:Hid (w1.heap[w.heap.size+1]? = some (.cells #[.int .u64 (Oc.U (Oc.mk (P) 0)),.int .u64 (Oc.U (Oc.mk (P) 1)),.int .u64 (Oc.U (Oc.mk (P) 2)),.int .u64 (Oc.U (Oc.mk (P) 3))] 25)):=Lib.hid (keep_blk hb1 Z1.out)
       have HB1:Hid (Below w.heap.size w w1):=Lib.hid ((HB.out).trans (hb1.mono (HB.out).size))
       have Y1s:Hid ((w1.setRow (w.heap.size+1) #[.int .u64 (Oc.U (Oc.mk (Cl.fold P) 0)),.int .u64 (Oc.U (Oc.mk (Cl.fold P) 1)),.int .u64 (Oc.U (Oc.mk (Cl.fold P) 2)),.int .u64 (Oc.U (Oc.mk (Cl.fold P) 3))]).heap[w.heap.size]? = some (.cells #[.int .u64 0,.int .u64 0,.int .u64 0,.int .u64 0,.int .i64 0,.int .i64 0,.int .i64 0] 167)):=Lib.hid ((heap_setRow_other _ _ _ (Nat.ne_of_lt (Nat.lt_add_one _))).trans Y1.out)
       have Z1s:Hid ((w1.setRow (w.heap.size+1) #[.int .u64 (Oc.U (Oc.mk (Cl.fold P) 0)),.int .u64 (Oc.U (Oc.mk (Cl.fold P) 1)),.int .u64 (Oc.U (Oc.mk (Cl.fold P) 2)),.int .u64 (Oc.U (Oc.mk (Cl.fold P) 3))]).heap[w.heap.size+1]? = some (.cells #[.int .u64 (Oc.U (Oc.mk (Cl.fold P) 0)),.int .u64 (Oc.U (Oc.mk (Cl.fold P) 1)),.int .u64 (Oc.U (Oc.mk (Cl.fold P) 2)),.int .u64 (Oc.U (Oc.mk (Cl.fold P) 3))] 25)):=Lib.hid (heap_setRow Z1a.out)
       have HB1s:Hid (Below w.heap.size w (w1.setRow (w.heap.size+1) #[.int .u64 (Oc.U (Oc.mk (Cl.fold P) 0)),.int .u64 (Oc.U (Oc.mk (Cl.fold P) 1)),.int .u64 (Oc.U (Oc.mk (Cl.fold P) 2)),.int .u64 (Oc.U (Oc.mk (Cl.fold P) 3))])):=Lib.hid (below_setRow HB1.out (Nat.le_succ _) _)
       clear hb1
       go_wp2_with (first
         | (refine wpList_store_row rfl 25 (.tmp 9) (.tmp 59) rfl (w.heap.size+1) #[.int .u64 (Oc.U (Oc.mk (Cl.fold P) 0)),.int .u64 (Oc.U (Oc.mk (Cl.fold P) 1)),.int .u64 (Oc.U (Oc.mk (Cl.fold P) 2)),.int .u64 (Oc.U (Oc.mk (Cl.fold P) 3))] rfl rfl 25 _ Z1a.out (by kernel_rfl) rfl setC_one ?_)
         | (refine wpList_load_row rfl 25 (.tmp 9) rfl (w.heap.size+1) rfl 25 _ (0,0) _ Z1s.out Tryz.underlying25 rfl (by kernel_rfl) ?_)
         | (refine wpList_store_row rfl 167 (.tmp 6) (.tmp 74) rfl w.heap.size (ansC (.ok (Br.fin true true false P) (i+1))) rfl rfl 167 _ Y1s.out (by kernel_rfl) rfl (ansC_one _) ?_)
         | fail)
       exact bodyPost_ret (results_cell_row rfl _ _ w.heap.size 167 (ansC (.ok (Br.fin true true false P) (i+1))) (0,0) _ rfl (heap_setRow Y1s.out) Tryz.underlying167 rfl (by kernel_rfl)) rfl ⟨rfl,by exact below_setRow HB1s.out (Nat.le_refl _) _⟩
   · rw [if_neg hx] at hit'
     have HX:Hid (b=false ∨ (b=true∧(bt s i == 93)=false)):=Lib.hid (by cases b with | false=>exact .inl rfl | true=>exact .inr ⟨rfl,by simpa using hx⟩)
     clear hx
     by_cases hin:s.size ≤ i
     · rw [if_pos hin] at hit'
       subst hit'
       rcases HX.out with rfl | ⟨rfl,h93⟩
       · clear HX
         go_wp2_with (first
           | (refine wpList_store_row rfl 167 (.tmp 6) (.tmp 39) rfl w.heap.size (ansC (.err 1 a)) rfl rfl 167 _ Z0.out (by kernel_rfl) rfl (ansC_one _) ?_)
           | fail)
         exact bodyPost_ret (results_cell_row rfl _ _ w.heap.size 167 (ansC (.err 1 a)) (0,0) _ rfl (heap_setRow Z0.out) Tryz.underlying167 rfl (by kernel_rfl)) rfl ⟨rfl,by exact below_setRow HB.out (Nat.le_refl _) _⟩
       · have H93:=Lib.hid (HI.out i 93 (by omega) false h93)
         clear HX h93
         go_wp2_with fail
         refine (H93.out _).mono ?_;rintro e w' ⟨rfl,rfl⟩
         go_wp2_with (first
           | (refine wpList_store_row rfl 167 (.tmp 6) (.tmp 39) rfl w.heap.size (ansC (.err 1 a)) rfl rfl 167 _ Z0.out (by kernel_rfl) rfl (ansC_one _) ?_)
           | fail)
         exact bodyPost_ret (results_cell_row rfl _ _ w.heap.size 167 (ansC (.err 1 a)) (0,0) _ rfl (heap_setRow Z0.out) Tryz.underlying167 rfl (by kernel_rfl)) rfl ⟨rfl,by exact below_setRow HB.out (Nat.le_refl _) _⟩
     · rw [if_neg hin] at hit'
       have hlt:i < s.size:=by omega
       cases hitem:Br.item (bt s) s.size i a with
       | err c p =>
         rw [hitem] at hit'
         have hit2:Br.Ans.err c p=R:=hit'
         subst hit2
         have hne:((c:Int) != 0)=true:=by
           have:=Br.item_err hitem
           simp;omega
         have hI:∀ w,Calls Tryz.prog 166 #[.string s,.int .i64 i,.int .i64 a] w fun e w'=>e=.returned (.agg #[.int .u64 0,.int .u64 0,.int .u64 0,.int .u64 0,.int .i64 0,.int .i64 c,.int .i64 p])∧Below w.heap.size w w':=fun w=>by
           have:=refitem_any s hs i a hlt w
           rw [hitem] at this;exact this
         have HIT:=Lib.hid hI
         clear hI hitem hit'
         rcases HX.out with rfl | ⟨rfl,h93⟩
         · clear HX
           go_wp2_with fail
           refine (HIT.out _).mono ?_;rintro e w1 ⟨rfl,hb1⟩
           have Y1:Hid ((w1.alloc (.cells #[.int .u64 0,.int .u64 0,.int .u64 0,.int .u64 0,.int .i64 0,.int .i64 c,.int .i64 p] 167)).heap[w.heap.size]? = some (.cells #[.int .u64 0,.int .u64 0,.int .u64 0,.int .u64 0,.int .i64 0,.int .i64 0,.int .i64 0] 167)):=Lib.hid (heap_alloc_lt (keep_blk hb1 Z0.out))
           have HB1:Hid (Below w.heap.size w (w1.alloc (.cells #[.int .u64 0,.int .u64 0,.int .u64 0,.int .u64 0,.int .i64 0,.int .i64 c,.int .i64 p] 167))):=Lib.hid ((HB.out.trans (hb1.mono HB.out.size)).alloc (HB.out.trans (hb1.mono HB.out.size)).size _)
           clear hb1
           go_wp2_with (first
             | (refine wpList_store_row rfl 167 (.tmp 6) (.tmp 47) rfl w.heap.size (ansC (.err c p)) rfl rfl 167 _ Y1.out (by kernel_rfl) rfl (ansC_one _) ?_)
             | fail)
           exact bodyPost_ret (results_cell_row rfl _ _ w.heap.size 167 (ansC (.err c p)) (0,0) _ rfl (heap_setRow Y1.out) Tryz.underlying167 rfl (by kernel_rfl)) rfl ⟨rfl,by exact below_setRow HB1.out (Nat.le_refl _) _⟩
         · have H93:=Lib.hid (HI.out i 93 (by omega) false h93)
           clear HX h93
           go_wp2_with fail
           refine (H93.out _).mono ?_;rintro e w' ⟨rfl,rfl⟩
           go_wp2_with fail
           refine (HIT.out _).mono ?_;rintro e w1 ⟨rfl,hb1⟩
           have Y1:Hid ((w1.alloc (.cells #[.int .u64 0,.int .u64 0,.int .u64 0,.int .u64 0,.int .i64 0,.int .i64 c,.int .i64 p] 167)).heap[w.heap.size]? = some (.cells #[.int .u64 0,.int .u64 0,.int .u64 0,.int .u64 0,.int .i64 0,.int .i64 0,.int .i64 0] 167)):=Lib.hid (heap_alloc_lt (keep_blk hb1 Z0.out))
           have HB1:Hid (Below w.heap.size w (w1.alloc (.cells #[.int .u64 0,.int .u64 0,.int .u64 0,.int .u64 0,.int .i64 0,.int .i64 c,.int .i64 p] 167))):=Lib.hid ((HB.out.trans (hb1.mono HB.out.size)).alloc (HB.out.trans (hb1.mono HB.out.size)).size _)
           clear hb1
           go_wp2_with (first
             | (refine wpList_store_row rfl 167 (.tmp 6) (.tmp 47) rfl w.heap.size (ansC (.err c p)) rfl rfl 167 _ Y1.out (by kernel_rfl) rfl (ansC_one _) ?_)
             | fail)
           exact bodyPost_ret (results_cell_row rfl _ _ w.heap.size 167 (ansC (.err c p)) (0,0) _ rfl (heap_setRow Y1.out) Tryz.underlying167 rfl (by kernel_rfl)) rfl ⟨rfl,by exact below_setRow HB1.out (Nat.le_refl _) _⟩
       | ok Q j =>
         rw [hitem] at hit'
         have hit2:Br.items (bt s) s.size a k j (fun x=>P x || Q x) true=R:=hit'
         have HN:=Lib.hid hit2
         obtain ⟨j1,j2⟩:=Br.item_next hlt hitem
         have hI:∀ w,Calls Tryz.prog 166 #[.string s,.int .i64 i,.int .i64 a] w fun e w'=>e=.returned (.agg #[.int .u64 (Oc.U (Oc.mk Q 0)),.int .u64 (Oc.U (Oc.mk Q 1)),.int .u64 (Oc.U (Oc.mk Q 2)),.int .u64 (Oc.U (Oc.mk Q 3)),.int .i64 j,.int .i64 0,.int .i64 0])∧Below w.heap.size w w':=fun w=>by
           have:=refitem_any s hs i a hlt w
           rw [hitem] at this;exact this
         have HIT:=Lib.hid hI
         clear hI hitem hit' hit2
         rcases HX.out with rfl | ⟨rfl,h93⟩
         · clear HX
           go_wp2_with fail
           refine (HIT.out _).mono ?_;rintro e w1 ⟨rfl,hb1⟩
           have hsz1:w.heap.size+1 < w1.heap.size:=by have:=hb1.size;omega
           have Y1:Hid ((w1.alloc (.cells #[.int .u64 (Oc.U (Oc.mk Q 0)),.int .u64 (Oc.U (Oc.mk Q 1)),.int .u64 (Oc.U (Oc.mk Q 2)),.int .u64 (Oc.U (Oc.mk Q 3)),.int .i64 j,.int .i64 0,.int .i64 0] 167)).heap[w.heap.size]? = some (.cells #[.int .u64 0,.int .u64 0,.int .u64 0,.int .u64 0,.int .i64 0,.int .i64 0,.int .i64 0] 167)):=Lib.hid (heap_alloc_lt (keep_blk hb1 Z0.out))
           have Z1a:Hid ((w1.alloc (.cells #[.int .u64 (Oc.U (Oc.mk Q 0)),.int .u64 (Oc.U (Oc.mk Q 1)),.int .u64 (Oc.U (Oc.mk Q 2)),.int .u64 (Oc.U (Oc.mk Q 3)),.int .i64 j,.int .i64 0,.int .i64 0] 167)).heap[w.heap.size+1]? = some (.cells #[.int .u64 (Oc.U (Oc.mk (P) 0)),.int .u64 (Oc.U (Oc.mk (P) 1)),.int .u64 (Oc.U (Oc.mk (P) 2)),.int .u64 (Oc.U (Oc.mk (P) 3))] 25)):=Lib.hid (heap_alloc_lt (keep_blk hb1 Z1.out))
           have HB1:Hid (Below w.heap.size w (w1.alloc (.cells #[.int .u64 (Oc.U (Oc.mk Q 0)),.int .u64 (Oc.U (Oc.mk Q 1)),.int .u64 (Oc.U (Oc.mk Q 2)),.int .u64 (Oc.U (Oc.mk Q 3)),.int .i64 j,.int .i64 0,.int .i64 0] 167))):=Lib.hid ((HB.out.trans (hb1.mono HB.out.size)).alloc (HB.out.trans (hb1.mono HB.out.size)).size _)
           clear hb1
           go_wp2_with (first
             | (refine wpList_load_row rfl 25 (.tmp 9) rfl (w.heap.size+1) rfl 25 _ (0,0) _ Z1a.out Tryz.underlying25 rfl (by kernel_rfl) ?_)
             | fail)
           refine (HJ.out P Q _).mono ?_;rintro e w2 ⟨rfl,hb2⟩
           have Y2:Hid (w2.heap[w.heap.size]? = some (.cells #[.int .u64 0,.int .u64 0,.int .u64 0,.int .u64 0,.int .i64 0,.int .i64 0,.int .i64 0] 167)):=Lib.hid (keep_blk hb2 Y1.out)
           have Z2:Hid (w2.heap[w.heap.size+1]? = some (.cells #[.int .u64 (Oc.U (Oc.mk (P) 0)),.int .u64 (Oc.U (Oc.mk (P) 1)),.int .u64 (Oc.U (Oc.mk (P) 2)),.int .u64 (Oc.U (Oc.mk (P) 3))] 25)):=Lib.hid (keep_blk hb2 Z1a.out)
           have HB2:Hid (Below w.heap.size w w2):=Lib.hid (HB1.out.trans (hb2.mono HB1.out.size))
           have A2:Hid (w2.heap[w1.heap.size]? = some (.cells #[.int .u64 (Oc.U (Oc.mk Q 0)),.int .u64 (Oc.U (Oc.mk Q 1)),.int .u64 (Oc.U (Oc.mk Q 2)),.int .u64 (Oc.U (Oc.mk Q 3)),.int .i64 j,.int .i64 0,.int .i64 0] 167)):=Lib.hid (keep_blk hb2 (heap_alloc_new w1 _))
           have hsz2:w1.heap.size < w2.heap.size:=by have:=hb2.size;simp at this;omega
           clear hb2
           have cj:(w2.setRow (w.heap.size+1) #[.int .u64 (Oc.U (Oc.mk (fun x=>P x || Q x) 0)),.int .u64 (Oc.U (Oc.mk (fun x=>P x || Q x) 1)),.int .u64 (Oc.U (Oc.mk (fun x=>P x || Q x) 2)),.int .u64 (Oc.U (Oc.mk (fun x=>P x || Q x) 3))]).cell? ⟨w1.heap.size,4,none⟩=some (.int .i64 j):=by
             unfold World.cell?;rw [heap_setRow_other _ _ _ (Nat.ne_of_gt hsz1),A2.out];rfl
           go_wp2_with (first
             | (refine wpList_store_row rfl 25 (.tmp 9) (.tmp 51) rfl (w.heap.size+1) #[.int .u64 (Oc.U (Oc.mk (fun x=>P x || Q x) 0)),.int .u64 (Oc.U (Oc.mk (fun x=>P x || Q x) 1)),.int .u64 (Oc.U (Oc.mk (fun x=>P x || Q x) 2)),.int .u64 (Oc.U (Oc.mk (fun x=>P x || Q x) 3))] rfl rfl 25 _ Z2.out (by kernel_rfl) rfl setC_one ?_)
             | fail)
           exact ⟨⟨fun x=>P x || Q x,true,j,k,rfl,rfl,j2,by omega,HN,below_setRow HB2.out (Nat.le_succ _) _,by simp;omega,(heap_setRow_other _ _ _ (Nat.ne_of_lt (Nat.lt_add_one _))).trans Y2.out,heap_setRow Z2.out⟩,by simp [intOf];omega⟩
         · have H93:=Lib.hid (HI.out i 93 (by omega) false h93)
           clear HX h93
           go_wp2_with fail
           refine (H93.out _).mono ?_;rintro e w' ⟨rfl,rfl⟩
           go_wp2_with fail
           refine (HIT.out _).mono ?_;rintro e w1 ⟨rfl,hb1⟩
           have hsz1:w.heap.size+1 < w1.heap.size:=by have:=hb1.size;omega
           have Y1:Hid ((w1.alloc (.cells #[.int .u64 (Oc.U (Oc.mk Q 0)),.int .u64 (Oc.U (Oc.mk Q 1)),.int .u64 (Oc.U (Oc.mk Q 2)),.int .u64 (Oc.U (Oc.mk Q 3)),.int .i64 j,.int .i64 0,.int .i64 0] 167)).heap[w.heap.size]? = some (.cells #[.int .u64 0,.int .u64 0,.int .u64 0,.int .u64 0,.int .i64 0,.int .i64 0,.int .i64 0] 167)):=Lib.hid (heap_alloc_lt (keep_blk hb1 Z0.out))
           have Z1a:Hid ((w1.alloc (.cells #[.int .u64 (Oc.U (Oc.mk Q 0)),.int .u64 (Oc.U (Oc.mk Q 1)),.int .u64 (Oc.U (Oc.mk Q 2)),.int .u64 (Oc.U (Oc.mk Q 3)),.int .i64 j,.int .i64 0,.int .i64 0] 167)).heap[w.heap.size+1]? = some (.cells #[.int .u64 (Oc.U (Oc.mk (P) 0)),.int .u64 (Oc.U (Oc.mk (P) 1)),.int .u64 (Oc.U (Oc.mk (P) 2)),.int .u64 (Oc.U (Oc.mk (P) 3))] 25)):=Lib.hid (heap_alloc_lt (keep_blk hb1 Z1.out))
           have HB1:Hid (Below w.heap.size w (w1.alloc (.cells #[.int .u64 (Oc.U (Oc.mk Q 0)),.int .u64 (Oc.U (Oc.mk Q 1)),.int .u64 (Oc.U (Oc.mk Q 2)),.int .u64 (Oc.U (Oc.mk Q 3)),.int .i64 j,.int .i64 0,.int .i64 0] 167))):=Lib.hid ((HB.out.trans (hb1.mono HB.out.size)).alloc (HB.out.trans (hb1.mono HB.out.size)).size _)
           clear hb1
           go_wp2_with (first
             | (refine wpList_load_row rfl 25 (.tmp 9) rfl (w.heap.size+1) rfl 25 _ (0,0) _ Z1a.out Tryz.underlying25 rfl (by kernel_rfl) ?_)
             | fail)
           refine (HJ.out P Q _).mono ?_;rintro e w2 ⟨rfl,hb2⟩
           have Y2:Hid (w2.heap[w.heap.size]? = some (.cells #[.int .u64 0,.int .u64 0,.int .u64 0,.int .u64 0,.int .i64 0,.int .i64 0,.int .i64 0] 167)):=Lib.hid (keep_blk hb2 Y1.out)
           have Z2:Hid (w2.heap[w.heap.size+1]? = some (.cells #[.int .u64 (Oc.U (Oc.mk (P) 0)),.int .u64 (Oc.U (Oc.mk (P) 1)),.int .u64 (Oc.U (Oc.mk (P) 2)),.int .u64 (Oc.U (Oc.mk (P) 3))] 25)):=Lib.hid (keep_blk hb2 Z1a.out)
           have HB2:Hid (Below w.heap.size w w2):=Lib.hid (HB1.out.trans (hb2.mono HB1.out.size))
           have A2:Hid (w2.heap[w1.heap.size]? = some (.cells #[.int .u64 (Oc.U (Oc.mk Q 0)),.int .u64 (Oc.U (Oc.mk Q 1)),.int .u64 (Oc.U (Oc.mk Q 2)),.int .u64 (Oc.U (Oc.mk Q 3)),.int .i64 j,.int .i64 0,.int .i64 0] 167)):=Lib.hid (keep_blk hb2 (heap_alloc_new w1 _))
           have hsz2:w1.heap.size < w2.heap.size:=by have:=hb2.size;simp at this;omega
           clear hb2
           have cj:(w2.setRow (w.heap.size+1) #[.int .u64 (Oc.U (Oc.mk (fun x=>P x || Q x) 0)),.int .u64 (Oc.U (Oc.mk (fun x=>P x || Q x) 1)),.int .u64 (Oc.U (Oc.mk (fun x=>P x || Q x) 2)),.int .u64 (Oc.U (Oc.mk (fun x=>P x || Q x) 3))]).cell? ⟨w1.heap.size,4,none⟩=some (.int .i64 j):=by
             unfold World.cell?;rw [heap_setRow_other _ _ _ (Nat.ne_of_gt hsz1),A2.out];rfl
           go_wp2_with (first
             | (refine wpList_store_row rfl 25 (.tmp 9) (.tmp 51) rfl (w.heap.size+1) #[.int .u64 (Oc.U (Oc.mk (fun x=>P x || Q x) 0)),.int .u64 (Oc.U (Oc.mk (fun x=>P x || Q x) 1)),.int .u64 (Oc.U (Oc.mk (fun x=>P x || Q x) 2)),.int .u64 (Oc.U (Oc.mk (fun x=>P x || Q x) 3))] rfl rfl 25 _ Z2.out (by kernel_rfl) rfl setC_one ?_)
             | fail)
           exact ⟨⟨fun x=>P x || Q x,true,j,k,rfl,rfl,j2,by omega,HN,below_setRow HB2.out (Nat.le_succ _) _,by simp;omega,(heap_setRow_other _ _ _ (Nat.ne_of_lt (Nat.lt_add_one _))).trans Y2.out,heap_setRow Z2.out⟩,by simp [intOf];omega⟩
end Go.Proofs.YtfcilopifjddpaaGreatDoor
namespace Go.Proofs.YtfcilopifjddpaaGreatDoor
open Go.RowKit
def rdI (s:ByteArray) (at_:Int) (ic nl:Bool):Br.Ans:=Br.read (bt s) s.size at_ ic nl
theorem refread_any (s:ByteArray) (hs:s.size ≤ 1152921504606846976) (at_:Int) (ic nl:Bool) (w:World) :
   Calls Tryz.prog 137 #[.string s,.int .i64 at_,.int .i64 (flI ic nl)] w (RdEnd (rdI s at_ ic nl) w):=by
 unfold rdI Br.read
 by_cases h:0 ≤ at_∧bt s at_.toNat=91
 · rw [if_pos h]
   obtain ⟨a,rfl⟩:∃ a:Nat,at_=a:=⟨at_.toNat,by omega⟩
   have ha:bt s a=91:=h.2
   show Calls _ _ _ _ (RdEnd (Br.whole (bt s) s.size a ic nl) w)
   unfold Br.whole
   cases ht:(bt s (a+1) == 94) with
   | true=>exact refread_t s hs a ic nl ha ht _ rfl w
   | false=>exact refread_f s hs a ic nl ha ht _ rfl w
 · rw [if_neg h]
   refine refread_no s hs at_ _ ?_ w
   unfold isB
   by_cases h0:0 ≤ at_
   · have:¬ bt s at_.toNat=91:=fun hh=>h ⟨h0,hh⟩
     simp [this]
   · simp [h0]
end Go.Proofs.YtfcilopifjddpaaGreatDoor
namespace Go.Proofs.YtfcilopifjddpaaGreatDoor
open Go.RowKit Go.Extern.Stop Go.Stop Go.Extern
inductive Chain (w:World) (a:Addr):Nat→Value→Prop
 | base:Chain w a 0 (.iface 232 (.pointer (some a)))
 | fault {n:Nat} {v:Value} (p:Nat) (h:w.cell? ⟨p,1,none⟩=some v) (k:Chain w a n v):Chain w a (n+1) (.iface 63 (.pointer (some ⟨p,0,none⟩)))
theorem Chain.iface {w:World} {a:Addr} {n:Nat} {v:Value} (h:Chain w a n v):∃ t p,v=.iface t p:=by cases h <;> exact ⟨_,_,rfl⟩
theorem Chain.of_cells {w w':World} {a:Addr} {n:Nat} {v:Value} (h:Chain w a n v) (hc:∀ p x,w.cell? ⟨p,1,none⟩=some x→w'.cell? ⟨p,1,none⟩=some x):Chain w' a n v:=by
 induction h with
 | base=>have _:=hc;exact .base
 | fault p h k ih=>exact .fault p (hc _ _ h) ih
def cmpX : Array Value → Sem Value := Extern.ReflectliteType.method fun t => do Extern.Rtype.noPackHeld "Comparable" t; pure (.bool (← typeInfo t).comparable)
theorem Tryz.isTypeOf {N:Nat} (hN:N=Tryz.prog.globals.size) (v:Value) (w:World):(Extern.ReflectliteType.typeOf #[.iface 232 v]).run Tryz.prog w=.ok (.iface 137 (.agg #[.pointer (some ⟨N,232,none⟩)])) w:=by subst hN;kernel_rfl
theorem Tryz.isComparable {N:Nat} (hN:N=Tryz.prog.globals.size) (w:World):(cmpX #[.agg #[.pointer (some ⟨N,232,none⟩)]]).run Tryz.prog w=.ok (.bool true) w:=by subst hN;kernel_rfl
theorem Tryz.isMethodComparable (n : Nat) (v : Value) (w : World) : (Go.method (n + 1) 137 v "Comparable").run Tryz.prog w = .ok (249, v) w := by kernel_rfl
theorem Tryz.isComp:(Tryz.prog.info? 232).map (·.comparable)=some true:=by kernel_rfl
theorem Tryz.isSize:(Tryz.prog.info? 250).map (·.size)=some 1:=by kernel_rfl
theorem Tryz.noIsE (v:Value) (xT:TypeId) (w:World):(Instr.typeAssert (.iface 232 v) xT 139 true).run Tryz.prog w=.ok (.tuple #[.nilIface,.bool false]) w:=run_typeAssert_lacksB Tryz.underlying139 (by kernel_rfl) (by kernel_rfl) v xT w
theorem Tryz.noUnwrapE (v:Value) (xT:TypeId) (w:World):(Instr.typeAssert (.iface 232 v) xT 142 true).run Tryz.prog w=.ok (.tuple #[.nilIface,.bool false]) w:=run_typeAssert_lacksB Tryz.underlying142 (by kernel_rfl) (by kernel_rfl) v xT w
theorem Tryz.noUnwrapsE (v:Value) (xT:TypeId) (w:World):(Instr.typeAssert (.iface 232 v) xT 144 true).run Tryz.prog w=.ok (.tuple #[.nilIface,.bool false]) w:=run_typeAssert_lacksB Tryz.underlying144 (by kernel_rfl) (by kernel_rfl) v xT w
theorem Tryz.noIsF (v:Value) (xT:TypeId) (w:World):(Instr.typeAssert (.iface 63 v) xT 139 true).run Tryz.prog w=.ok (.tuple #[.nilIface,.bool false]) w:=run_typeAssert_lacksB Tryz.underlying139 (by kernel_rfl) (by kernel_rfl) v xT w
theorem Tryz.hasUnwrapF (v:Value) (xT:TypeId) (w:World):(Instr.typeAssert (.iface 63 v) xT 142 true).run Tryz.prog w=.ok (.tuple #[.iface 63 v,.bool true]) w:=run_typeAssert_hasB Tryz.underlying142 (by kernel_rfl) v xT w
theorem Tryz.methodUnwrapF (n : Nat) (v : Value) (w : World) : (Go.method (n + 1) 63 v "Unwrap").run Tryz.prog w = .ok (242, v) w := by kernel_rfl
theorem unwrap_fault (p:Nat) (x:Value) (w:World) (h:w.cell? ⟨p,1,none⟩=some x) :
   Calls Tryz.prog 242 #[.pointer (some ⟨p,0,none⟩)] w fun e w'=>e=.returned x∧w=w':=by
 go_enter Tryz.func242,Tryz.ntmps242
 go_wp2
 go_ret
 exact ⟨rfl,rfl⟩
theorem is_in (a b:Addr) (n:Nat) (v:Value) (w:World) (hch:Chain w a n v) (ca cb:Array Value) (ta tb:TypeId) (ha:w.heap[a.block]? = some (.cells ca ta (0,0))) (hb:w.heap[b.block]? = some (.cells cb tb (0,0))) :
   Calls Tryz.prog 66 #[v,.iface 232 (.pointer (some b)),.bool true] w fun e w'=>e=.returned (.bool (decide (a=b)))∧w=w':=by
 obtain ⟨i,hi,hcmp⟩:=Option.map_eq_some_iff.1 Tryz.isComp
 obtain ⟨j,hj,hjs⟩:=Option.map_eq_some_iff.1 Tryz.isSize
 have nE:=Tryz.noIsE
 have uE:=Tryz.noUnwrapE
 have vE:=Tryz.noUnwrapsE
 have nF:=Tryz.noIsF
 have uF:=Tryz.hasUnwrapF
 have mF:=Tryz.methodUnwrapF
 have tyF:=fun p=>run_eql_iface_types (P:=Tryz.prog) 63 232 (.pointer (some ⟨p,0,none⟩)) (.pointer (some b)) Tryz.underlying30 (by decide) w
 have heq:(binOp .eql 30 (.iface 232 (.pointer (some a))) (.iface 232 (.pointer (some b)))).run Tryz.prog w=.ok (.bool (decide (a=b))) w:=by
   by_cases hab:a=b
   · subst hab
     rw [run_eql_iface_ptr_same (P:=Tryz.prog) w a Tryz.underlying30 Tryz.underlying232 hi hcmp hj];simp
   · rw [run_eql_iface_ptr_other (P:=Tryz.prog) w Tryz.underlying30 Tryz.underlying232 hi hcmp hj (by rw [hjs];decide) hab ha hb];simp [hab]
 generalize decide (a=b)=r at heq ⊢
 clear hi hcmp hj hjs ha hb
 have HCH:=Lib.hid hch
 clear hch
 go_enter Tryz.func66,Tryz.ntmps66
 go_wp2_with fail
 go_loopg [0] n (fun k x wr=>wr=w∧Hid (Chain w a k x))
 case atStart=>exact ⟨rfl,HCH.out⟩
 case round =>
   obtain ⟨rfl,HC⟩:=hrel
   rcases HC.out with _ | @⟨m,x,p,h,k⟩
   · cases r with
     | true =>
       go_wp2
       go_ret
       exact ⟨rfl,rfl⟩
     | false =>
       go_wp2
       go_ret
       exact ⟨rfl,rfl⟩
   · obtain ⟨t,q,rfl⟩:=k.iface
     have HK:=Lib.hid k
     clear k HC
     go_wp2_with (go_at_call 242;refine (unwrap_fault _ _ _ h).mono ?_;rintro e w' ⟨rfl,rfl⟩)
     go_roundg m
     case measure=>omega
     case rel=>exact ⟨rfl,HK.out⟩
theorem is_any (a b:Addr) (n:Nat) (v:Value) (w:World) (hch:Chain w a n v) (ca cb:Array Value) (ta tb:TypeId) (ha:w.heap[a.block]? = some (.cells ca ta (0,0))) (hb:w.heap[b.block]? = some (.cells cb tb (0,0))) :
   Calls Tryz.prog 31 #[v,.iface 232 (.pointer (some b))] w fun e w'=>e=.returned (.bool (decide (a=b)))∧w=w':=by
 have h8:=@run_callFunc_extern Tryz.prog 65 _ Extern.ReflectliteType.typeOf Tryz.func65 (by kernel_rfl) (by kernel_rfl) (by kernel_rfl) (by kernel_rfl)
 have h32:=@run_callFunc_extern Tryz.prog 249 _ cmpX Tryz.func249 (by kernel_rfl) (by kernel_rfl) (by kernel_rfl) (by kernel_rfl)
 obtain ⟨N,hN⟩:∃ N,N=Tryz.prog.globals.size:=⟨_,rfl⟩
 have tT:=Tryz.isTypeOf hN
 have cT:=Tryz.isComparable hN
 clear hN
 have mR:=Tryz.isMethodComparable
 have hin:=is_in a b n v w hch ca cb ta tb ha hb
 obtain ⟨t,q,rfl⟩:=hch.iface
 have HIN:=Lib.hid hin
 clear hin ha hb hch
 go_enter Tryz.func31,Tryz.ntmps31
 go_wp2_with (go_at_call 66;refine HIN.out.mono ?_;rintro e w' ⟨rfl,rfl⟩)
 go_ret
 exact ⟨rfl,rfl⟩
end Go.Proofs.YtfcilopifjddpaaGreatDoor
namespace Go.Proofs.YtfcilopifjddpaaGreatDoor
open Go.ChangeShapes Go.WideShapes Go.ChangeAt Go.RowKit
def Sent (W:World) (g:Nat) (t:List UInt8) (a:Addr):Prop :=
 W.cell? ⟨g,0,none⟩=some (.iface 232 (.pointer (some a)))∧g < W.heap.size∧a.block < W.heap.size∧(∃ s,W.cell? a=some (.string s)∧s.data.toList=t∧s.size ≤ maxLen)∧∃ c ty,W.heap[a.block]? = some (.cells c ty (0,0))
theorem Sent.below {W W':World} {g:Nat} {t:List UInt8} {a:Addr} (h:Sent W g t a) (hb:Below W.heap.size W W'):Sent W' g t a:=by
 obtain ⟨h1,h2,h3,⟨s,h4,h5,h6⟩,c,ty,h7⟩:=h
 exact ⟨(hb.cell (p:=⟨g,0,none⟩) h2).trans h1,Nat.lt_of_lt_of_le h2 hb.size,Nat.lt_of_lt_of_le h3 hb.size,⟨s,(hb.cell h3).trans h4,h5,h6⟩,c,ty,(hb.block _ h3).trans h7⟩
theorem Sent.apart {W:World} {g g':Nat} {t t':List UInt8} {a a':Addr} (h:Sent W g t a) (h':Sent W g' t' a') (hne:t ≠ t'):a ≠ a':=by
 rintro rfl
 obtain ⟨-,-,-,⟨s,h4,h5,-⟩,-⟩:=h
 obtain ⟨-,-,-,⟨s',h4',h5',-⟩,-⟩:=h'
 rw [h4] at h4'
 simp only [Option.some.injEq,Value.string.injEq] at h4'
 subst h4'
 exact hne (h5.symm.trans h5')
def sentDatum (t : List UInt8) : DataW Unit := .iface "*errors.errorString" (.ptr (.agg [.lit (.string t)]))
theorem Tryz.starE : "*" ++ "errors.errorString" = "*errors.errorString" := by decide
theorem Tryz.rowE (u : TypeId) (h : Tryz.prog.typeName? 3 u = some "*errors.errorString") : u = 232 :=
 typeName_ptr_named (nm := "errors.errorString") (by rw [Tryz.starE]; kernel_rfl) (by kernel_rfl) (by decide) u (by rw [Tryz.starE]; exact h)
theorem Tryz.cellsE:Tryz.prog.cellsOf 250=1:=by kernel_rfl
theorem Tryz.cellsStr:Tryz.prog.cellsOf 9=1:=by kernel_rfl
theorem block_lt {W:World} {b:Nat} {o:Obj} (h:W.heap[b]? = some o):b < W.heap.size:=(Array.getElem?_eq_some_iff.1 h).1
theorem sent_head_any {P:Program} {n nm:String} {text:List UInt8} {r:List (String × DataW Unit)} {W:World} {g:Nat} {ti tp te ts:TypeId} {ms:Array (String × TypeId)} {f:Field}
   (h:laidMet P ((n,.iface nm (.ptr (.agg [.lit (.string text)]))) :: r) W)
   (hg:P.globalNamed n=some g) (ht:(P.globals[g]?).map (·.type)=some ti) (hi:P.underlying ti=some (.interface ms)) (hrow:∀ u,P.typeName? 3 u=some nm→u=tp)
   (hp:P.underlying tp=some (.pointer te)) (he:P.underlying te=some (.struct #[f])) (hft:f.type=ts) (hfo:f.offset=0) (hs:P.underlying ts=some .string) (hc:P.cellsOf te=1) (hcs:P.cellsOf ts=1) :
   ∃ (a:Addr) (s:ByteArray) (c0 c1:Array Value) (t0 t1:TypeId),W.cell? ⟨g,0,none⟩=some (.iface tp (.pointer (some a)))∧W.cell? a=some (.string s)∧s.data.toList=text∧s.size ≤ maxLen∧W.heap[a.block]? = some (.cells c0 t0 (0,0))∧W.heap[g]? = some (.cells c1 t1 (0,0)):=by
 obtain ⟨ps,⟨g0,t0,cs0,f0,p0,q0,hg0,ht0,hv0,hd0,_,e0⟩,_,hrows⟩:=h
 obtain rfl:=Option.some.inj (hg.symm.trans hg0)
 obtain rfl:=Option.some.inj (ht.symm.trans ht0)
 subst e0
 obtain ⟨l0⟩:=cs0
 have ok0:∀ u v,l0=[.iface u v]→Value.okWide P W .any 0 u v:=fun u v e=>by
   subst e
   exact (hrows g 0 (by simp [MemPlace.row])).2 u v (by simpa using World.var?_cell hg0 hv0 0)
 obtain ⟨a0,s0,rfl,hc0,hs0,hz0,rfl⟩:=errorString_of_trod hi hrow hp he hft hfo hs hc hcs hd0 ok0
 obtain ⟨c0,t1,hb0⟩:=(hrows a0.block a0.off (by simp [MemPlace.row])).1
 obtain ⟨c1,t2,hb1⟩:=(hrows g 0 (by simp [MemPlace.row])).1
 exact ⟨a0,s0,c0,c1,t1,t2,by simpa using World.var?_cell hg0 hv0 0,hc0,hs0,hz0,hb0,hb1⟩
theorem sent_head {n:String} {t:List UInt8} {r:List (String × DataW Unit)} {W:World} {g:Nat} (h:laidMet Tryz.prog ((n,sentDatum t) :: r) W) (hg:Tryz.prog.globalNamed n=some g) (ht:(Tryz.prog.globals[g]?).map (·.type)=some 30) :
   ∃ a,Sent W g t a:=by
 obtain ⟨a,s,c0,c1,t0,t1,h1,h2,h3,h4,h5,h6⟩:=sent_head_any h hg ht Tryz.underlying30 Tryz.rowE Tryz.underlying232 Tryz.underlying250 rfl rfl Tryz.underlying9 Tryz.cellsE Tryz.cellsStr
 exact ⟨a,h1,block_lt h6,block_lt h5,⟨s,h2,h3,h4⟩,c0,t0,h5⟩
theorem sent_of:∀ {l:List (String × DataW Unit)} {W:World},laidMet Tryz.prog l W→∀ {n t g},(n,sentDatum t) ∈ l→Tryz.prog.globalNamed n=some g→(Tryz.prog.globals[g]?).map (·.type)=some 30→∃ a,Sent W g t a
 | [],_,_,_,_,_,hm,_,_=>by cases hm
 | x :: l,W,h,n,t,g,hm,hg,ht=>by
   rcases List.mem_cons.1 hm with e | hm
   · subst e;exact sent_head h hg ht
   · exact sent_of h.tail hm hg ht
end Go.Proofs.YtfcilopifjddpaaGreatDoor
namespace Go.Proofs.YtfcilopifjddpaaGreatDoor
open Go.ChangeShapes Go.WideShapes Go.ChangeAt Go.RowKit
def errWords:List (List UInt8):=[[98,114,97,99,107,101,116],[112,97,114,101,110,116,104,101,115,105,115],[98,114,97,99,101],[99,111,117,110,116],[114,97,110,103,101],[99,108,97,115,115],[99,111,108,108,97,116,105,110,103],[101,115,99,97,112,101],[114,101,112,101,97,116],[116,111,111,32,98,105,103],[110,101,115,116,105,110,103],[108,111,110,103],[116,114,101,101],[100,101,101,112],[97,114,103,117,109,101,110,116],[110,111,32,109,97,116,99,104],[105,109,97,103,101],[109,97,110,121],[111,112,116,105,111,110],[99,111,109,109,97,110,100],[99,108,111,115,101,100]]
def errPre:List UInt8:=[116,114,97,119,108,58,32]
def errVars:List Nat:=[0,1,2,3,4,5,6,7,8,9,10,11,12,13,14,15,16,17,18,19,20]
def Errs (W:World) (A:Nat→Addr):Prop:=∀ k,k < 21→Sent W (errVars.getD k 0) (errPre ++ errWords.getD k []) (A k)
theorem Errs.below {W W':World} {A:Nat→Addr} (h:Errs W A) (hb:Below W.heap.size W W'):Errs W' A:=fun k hk=>(h k hk).below hb
theorem errWords_apart:∀ i,i < 21→∀ j,j < 21→i ≠ j→errPre ++ errWords.getD i [] ≠ errPre ++ errWords.getD j []:=by decide +kernel
theorem Errs.apart {W:World} {A:Nat→Addr} (h:Errs W A) {i j:Nat} (hi:i < 21) (hj:j < 21) (hne:i ≠ j):A i ≠ A j:=(h i hi).apart (h j hj) (errWords_apart i hi j hj hne)
def errList : List (String × DataW Unit) := [("trawl/api.ErrBracket", Rows.laid_trawl_api_ErrBracket), ("trawl/api.ErrParen", Rows.laid_trawl_api_ErrParen), ("trawl/api.ErrBrace", Rows.laid_trawl_api_ErrBrace), ("trawl/api.ErrCount", Rows.laid_trawl_api_ErrCount), ("trawl/api.ErrRange", Rows.laid_trawl_api_ErrRange), ("trawl/api.ErrClass", Rows.laid_trawl_api_ErrClass), ("trawl/api.ErrCollate", Rows.laid_trawl_api_ErrCollate), ("trawl/api.ErrEscape", Rows.laid_trawl_api_ErrEscape), ("trawl/api.ErrRepeat", Rows.laid_trawl_api_ErrRepeat), ("trawl/api.ErrTooBig", Rows.laid_trawl_api_ErrTooBig), ("trawl/api.ErrNest", Rows.laid_trawl_api_ErrNest), ("trawl/api.ErrLong", Rows.laid_trawl_api_ErrLong), ("trawl/api.ErrTree", Rows.laid_trawl_api_ErrTree), ("trawl/api.ErrDeep", Rows.laid_trawl_api_ErrDeep), ("trawl/api.ErrArgument", Rows.laid_trawl_api_ErrArgument), ("trawl/api.ErrNoMatch", Rows.laid_trawl_api_ErrNoMatch), ("trawl/api.ErrImage", Rows.laid_trawl_api_ErrImage), ("trawl/api.ErrMany", Rows.laid_trawl_api_ErrMany), ("trawl/api.ErrOption", Rows.laid_trawl_api_ErrOption), ("trawl/api.ErrCommand", Rows.laid_trawl_api_ErrCommand), ("trawl/api.ErrClosed", Rows.laid_trawl_api_ErrClosed)]
theorem errs_one {W:World} {l:List (String × DataW Unit)} (h:laidMet Tryz.prog l W) (hl:∀ x,x ∈ errList→x ∈ l):∀ k,k < 21→∃ a,Sent W (errVars.getD k 0) (errPre ++ errWords.getD k []) a
 | 0, _ => sent_of h (hl _ (show ("trawl/api.ErrBracket", sentDatum (errPre ++ errWords.getD 0 [])) ∈ errList from List.mem_cons_self)) (by kernel_rfl) (by kernel_rfl)
 | 1, _ => sent_of h (hl _ (show ("trawl/api.ErrParen", sentDatum (errPre ++ errWords.getD 1 [])) ∈ errList from (List.mem_cons_of_mem _ List.mem_cons_self))) (by kernel_rfl) (by kernel_rfl)
 | 2, _ => sent_of h (hl _ (show ("trawl/api.ErrBrace", sentDatum (errPre ++ errWords.getD 2 [])) ∈ errList from (List.mem_cons_of_mem _ (List.mem_cons_of_mem _ List.mem_cons_self)))) (by kernel_rfl) (by kernel_rfl)
 | 3, _ => sent_of h (hl _ (show ("trawl/api.ErrCount", sentDatum (errPre ++ errWords.getD 3 [])) ∈ errList from (List.mem_cons_of_mem _ (List.mem_cons_of_mem _ (List.mem_cons_of_mem _ List.mem_cons_self))))) (by kernel_rfl) (by kernel_rfl)
 | 4, _ => sent_of h (hl _ (show ("trawl/api.ErrRange", sentDatum (errPre ++ errWords.getD 4 [])) ∈ errList from (List.mem_cons_of_mem _ (List.mem_cons_of_mem _ (List.mem_cons_of_mem _ (List.mem_cons_of_mem _ List.mem_cons_self)))))) (by kernel_rfl) (by kernel_rfl)
 | 5, _ => sent_of h (hl _ (show ("trawl/api.ErrClass", sentDatum (errPre ++ errWords.getD 5 [])) ∈ errList from (List.mem_cons_of_mem _ (List.mem_cons_of_mem _ (List.mem_cons_of_mem _ (List.mem_cons_of_mem _ (List.mem_cons_of_mem _ List.mem_cons_self))))))) (by kernel_rfl) (by kernel_rfl)
 | 6, _ => sent_of h (hl _ (show ("trawl/api.ErrCollate", sentDatum (errPre ++ errWords.getD 6 [])) ∈ errList from (List.mem_cons_of_mem _ (List.mem_cons_of_mem _ (List.mem_cons_of_mem _ (List.mem_cons_of_mem _ (List.mem_cons_of_mem _ (List.mem_cons_of_mem _ List.mem_cons_self)))))))) (by kernel_rfl) (by kernel_rfl)
 | 7, _ => sent_of h (hl _ (show ("trawl/api.ErrEscape", sentDatum (errPre ++ errWords.getD 7 [])) ∈ errList from (List.mem_cons_of_mem _ (List.mem_cons_of_mem _ (List.mem_cons_of_mem _ (List.mem_cons_of_mem _ (List.mem_cons_of_mem _ (List.mem_cons_of_mem _ (List.mem_cons_of_mem _ List.mem_cons_self))))))))) (by kernel_rfl) (by kernel_rfl)
 | 8, _ => sent_of h (hl _ (show ("trawl/api.ErrRepeat", sentDatum (errPre ++ errWords.getD 8 [])) ∈ errList from (List.mem_cons_of_mem _ (List.mem_cons_of_mem _ (List.mem_cons_of_mem _ (List.mem_cons_of_mem _ (List.mem_cons_of_mem _ (List.mem_cons_of_mem _ (List.mem_cons_of_mem _ (List.mem_cons_of_mem _ List.mem_cons_self)))))))))) (by kernel_rfl) (by kernel_rfl)
 | 9, _ => sent_of h (hl _ (show ("trawl/api.ErrTooBig", sentDatum (errPre ++ errWords.getD 9 [])) ∈ errList from (List.mem_cons_of_mem _ (List.mem_cons_of_mem _ (List.mem_cons_of_mem _ (List.mem_cons_of_mem _ (List.mem_cons_of_mem _ (List.mem_cons_of_mem _ (List.mem_cons_of_mem _ (List.mem_cons_of_mem _ (List.mem_cons_of_mem _ List.mem_cons_self))))))))))) (by kernel_rfl) (by kernel_rfl)
 | 10, _ => sent_of h (hl _ (show ("trawl/api.ErrNest", sentDatum (errPre ++ errWords.getD 10 [])) ∈ errList from (List.mem_cons_of_mem _ (List.mem_cons_of_mem _ (List.mem_cons_of_mem _ (List.mem_cons_of_mem _ (List.mem_cons_of_mem _ (List.mem_cons_of_mem _ (List.mem_cons_of_mem _ (List.mem_cons_of_mem _ (List.mem_cons_of_mem _ (List.mem_cons_of_mem _ List.mem_cons_self)))))))))))) (by kernel_rfl) (by kernel_rfl)
 | 11, _ => sent_of h (hl _ (show ("trawl/api.ErrLong", sentDatum (errPre ++ errWords.getD 11 [])) ∈ errList from (List.mem_cons_of_mem _ (List.mem_cons_of_mem _ (List.mem_cons_of_mem _ (List.mem_cons_of_mem _ (List.mem_cons_of_mem _ (List.mem_cons_of_mem _ (List.mem_cons_of_mem _ (List.mem_cons_of_mem _ (List.mem_cons_of_mem _ (List.mem_cons_of_mem _ (List.mem_cons_of_mem _ List.mem_cons_self))))))))))))) (by kernel_rfl) (by kernel_rfl)
 | 12, _ => sent_of h (hl _ (show ("trawl/api.ErrTree", sentDatum (errPre ++ errWords.getD 12 [])) ∈ errList from (List.mem_cons_of_mem _ (List.mem_cons_of_mem _ (List.mem_cons_of_mem _ (List.mem_cons_of_mem _ (List.mem_cons_of_mem _ (List.mem_cons_of_mem _ (List.mem_cons_of_mem _ (List.mem_cons_of_mem _ (List.mem_cons_of_mem _ (List.mem_cons_of_mem _ (List.mem_cons_of_mem _ (List.mem_cons_of_mem _ List.mem_cons_self)))))))))))))) (by kernel_rfl) (by kernel_rfl)
 | 13, _ => sent_of h (hl _ (show ("trawl/api.ErrDeep", sentDatum (errPre ++ errWords.getD 13 [])) ∈ errList from (List.mem_cons_of_mem _ (List.mem_cons_of_mem _ (List.mem_cons_of_mem _ (List.mem_cons_of_mem _ (List.mem_cons_of_mem _ (List.mem_cons_of_mem _ (List.mem_cons_of_mem _ (List.mem_cons_of_mem _ (List.mem_cons_of_mem _ (List.mem_cons_of_mem _ (List.mem_cons_of_mem _ (List.mem_cons_of_mem _ (List.mem_cons_of_mem _ List.mem_cons_self))))))))))))))) (by kernel_rfl) (by kernel_rfl)
 | 14, _ => sent_of h (hl _ (show ("trawl/api.ErrArgument", sentDatum (errPre ++ errWords.getD 14 [])) ∈ errList from (List.mem_cons_of_mem _ (List.mem_cons_of_mem _ (List.mem_cons_of_mem _ (List.mem_cons_of_mem _ (List.mem_cons_of_mem _ (List.mem_cons_of_mem _ (List.mem_cons_of_mem _ (List.mem_cons_of_mem _ (List.mem_cons_of_mem _ (List.mem_cons_of_mem _ (List.mem_cons_of_mem _ (List.mem_cons_of_mem _ (List.mem_cons_of_mem _ (List.mem_cons_of_mem _ List.mem_cons_self)))))))))))))))) (by kernel_rfl) (by kernel_rfl)
 | 15, _ => sent_of h (hl _ (show ("trawl/api.ErrNoMatch", sentDatum (errPre ++ errWords.getD 15 [])) ∈ errList from (List.mem_cons_of_mem _ (List.mem_cons_of_mem _ (List.mem_cons_of_mem _ (List.mem_cons_of_mem _ (List.mem_cons_of_mem _ (List.mem_cons_of_mem _ (List.mem_cons_of_mem _ (List.mem_cons_of_mem _ (List.mem_cons_of_mem _ (List.mem_cons_of_mem _ (List.mem_cons_of_mem _ (List.mem_cons_of_mem _ (List.mem_cons_of_mem _ (List.mem_cons_of_mem _ (List.mem_cons_of_mem _ List.mem_cons_self))))))))))))))))) (by kernel_rfl) (by kernel_rfl)
 | 16, _ => sent_of h (hl _ (show ("trawl/api.ErrImage", sentDatum (errPre ++ errWords.getD 16 [])) ∈ errList from (List.mem_cons_of_mem _ (List.mem_cons_of_mem _ (List.mem_cons_of_mem _ (List.mem_cons_of_mem _ (List.mem_cons_of_mem _ (List.mem_cons_of_mem _ (List.mem_cons_of_mem _ (List.mem_cons_of_mem _ (List.mem_cons_of_mem _ (List.mem_cons_of_mem _ (List.mem_cons_of_mem _ (List.mem_cons_of_mem _ (List.mem_cons_of_mem _ (List.mem_cons_of_mem _ (List.mem_cons_of_mem _ (List.mem_cons_of_mem _ List.mem_cons_self)))))))))))))))))) (by kernel_rfl) (by kernel_rfl)
 | 17, _ => sent_of h (hl _ (show ("trawl/api.ErrMany", sentDatum (errPre ++ errWords.getD 17 [])) ∈ errList from (List.mem_cons_of_mem _ (List.mem_cons_of_mem _ (List.mem_cons_of_mem _ (List.mem_cons_of_mem _ (List.mem_cons_of_mem _ (List.mem_cons_of_mem _ (List.mem_cons_of_mem _ (List.mem_cons_of_mem _ (List.mem_cons_of_mem _ (List.mem_cons_of_mem _ (List.mem_cons_of_mem _ (List.mem_cons_of_mem _ (List.mem_cons_of_mem _ (List.mem_cons_of_mem _ (List.mem_cons_of_mem _ (List.mem_cons_of_mem _ (List.mem_cons_of_mem _ List.mem_cons_self))))))))))))))))))) (by kernel_rfl) (by kernel_rfl)
 | 18, _ => sent_of h (hl _ (show ("trawl/api.ErrOption", sentDatum (errPre ++ errWords.getD 18 [])) ∈ errList from (List.mem_cons_of_mem _ (List.mem_cons_of_mem _ (List.mem_cons_of_mem _ (List.mem_cons_of_mem _ (List.mem_cons_of_mem _ (List.mem_cons_of_mem _ (List.mem_cons_of_mem _ (List.mem_cons_of_mem _ (List.mem_cons_of_mem _ (List.mem_cons_of_mem _ (List.mem_cons_of_mem _ (List.mem_cons_of_mem _ (List.mem_cons_of_mem _ (List.mem_cons_of_mem _ (List.mem_cons_of_mem _ (List.mem_cons_of_mem _ (List.mem_cons_of_mem _ (List.mem_cons_of_mem _ List.mem_cons_self)))))))))))))))))))) (by kernel_rfl) (by kernel_rfl)
 | 19, _ => sent_of h (hl _ (show ("trawl/api.ErrCommand", sentDatum (errPre ++ errWords.getD 19 [])) ∈ errList from (List.mem_cons_of_mem _ (List.mem_cons_of_mem _ (List.mem_cons_of_mem _ (List.mem_cons_of_mem _ (List.mem_cons_of_mem _ (List.mem_cons_of_mem _ (List.mem_cons_of_mem _ (List.mem_cons_of_mem _ (List.mem_cons_of_mem _ (List.mem_cons_of_mem _ (List.mem_cons_of_mem _ (List.mem_cons_of_mem _ (List.mem_cons_of_mem _ (List.mem_cons_of_mem _ (List.mem_cons_of_mem _ (List.mem_cons_of_mem _ (List.mem_cons_of_mem _ (List.mem_cons_of_mem _ (List.mem_cons_of_mem _ List.mem_cons_self))))))))))))))))))))) (by kernel_rfl) (by kernel_rfl)
 | 20, _ => sent_of h (hl _ (show ("trawl/api.ErrClosed", sentDatum (errPre ++ errWords.getD 20 [])) ∈ errList from (List.mem_cons_of_mem _ (List.mem_cons_of_mem _ (List.mem_cons_of_mem _ (List.mem_cons_of_mem _ (List.mem_cons_of_mem _ (List.mem_cons_of_mem _ (List.mem_cons_of_mem _ (List.mem_cons_of_mem _ (List.mem_cons_of_mem _ (List.mem_cons_of_mem _ (List.mem_cons_of_mem _ (List.mem_cons_of_mem _ (List.mem_cons_of_mem _ (List.mem_cons_of_mem _ (List.mem_cons_of_mem _ (List.mem_cons_of_mem _ (List.mem_cons_of_mem _ (List.mem_cons_of_mem _ (List.mem_cons_of_mem _ (List.mem_cons_of_mem _ List.mem_cons_self)))))))))))))))))))))) (by kernel_rfl) (by kernel_rfl)
 | k+21,hk=>absurd hk (by omega)
theorem errs_of {W:World} {l:List (String × DataW Unit)} (h:laidMet Tryz.prog l W) (hl:∀ x,x ∈ errList→x ∈ l):∃ A,Errs W A:=by
 have k:=errs_one h hl
 exact ⟨fun i=>if h:i < 21 then Classical.choose (k i h) else ⟨0,0,none⟩,fun i hi=>by
   show Sent W _ _ (dite _ _ _)
   rw [dif_pos hi];exact Classical.choose_spec (k i hi)⟩
end Go.Proofs.YtfcilopifjddpaaGreatDoor
namespace Go.Proofs.YtfcilopifjddpaaGreatDoor
open Go.RowKit
def errCells (A:Nat→Addr):Array Value:=#[.iface 232 (.pointer (some (A 0))),.iface 232 (.pointer (some (A 1))),.iface 232 (.pointer (some (A 2))),.iface 232 (.pointer (some (A 3))),.iface 232 (.pointer (some (A 4))),.iface 232 (.pointer (some (A 5))),.iface 232 (.pointer (some (A 6))),.iface 232 (.pointer (some (A 7))),.iface 232 (.pointer (some (A 8))),.iface 232 (.pointer (some (A 9))),.iface 232 (.pointer (some (A 10))),.iface 232 (.pointer (some (A 11))),.iface 232 (.pointer (some (A 12))),.iface 232 (.pointer (some (A 13))),.iface 232 (.pointer (some (A 14))),.iface 232 (.pointer (some (A 15))),.iface 232 (.pointer (some (A 16))),.iface 232 (.pointer (some (A 17))),.iface 232 (.pointer (some (A 18))),.iface 232 (.pointer (some (A 19))),.iface 232 (.pointer (some (A 20)))]
theorem errCells_get (A:Nat→Addr):∀ k,k < 21→(errCells A)[k]? = some (.iface 232 (.pointer (some (A k))))
 | 0,_=>rfl
 | 1,_=>rfl
 | 2,_=>rfl
 | 3,_=>rfl
 | 4,_=>rfl
 | 5,_=>rfl
 | 6,_=>rfl
 | 7,_=>rfl
 | 8,_=>rfl
 | 9,_=>rfl
 | 10,_=>rfl
 | 11,_=>rfl
 | 12,_=>rfl
 | 13,_=>rfl
 | 14,_=>rfl
 | 15,_=>rfl
 | 16,_=>rfl
 | 17,_=>rfl
 | 18,_=>rfl
 | 19,_=>rfl
 | 20,_=>rfl
 | k+21,hk=>absurd hk (by omega)
end Go.Proofs.YtfcilopifjddpaaGreatDoor
namespace Go.Proofs.YtfcilopifjddpaaGreatDoor
open Go.RowKit Go.Extern.Stop Go.Stop Go.Extern
theorem num_nil (w:World):Calls Tryz.prog 10 #[.nilIface] w fun e w'=>e=.returned (.int .i64 0)∧w=w':=by
 go_enter Tryz.func10,Tryz.ntmps10
 go_wp2
 go_ret
 exact ⟨rfl,rfl⟩
def found (k i:Nat):Int:=if k < i then (k:Int)+1 else -1
theorem found_no {k i:Nat} (h:i ≤ k):found k i = -1:=by unfold found;rw [if_neg (by omega)]
theorem found_yes {k i:Nat} (h:k < i):found k i=(k:Int)+1:=by unfold found;rw [if_pos h]
theorem num_any (A:Nat→Addr) (k n:Nat) (v:Value) (w:World) (hA:Errs w A) (hk:k < 21) (hch:Chain w (A k) n v) :
   Calls Tryz.prog 10 #[v] w fun e w'=>e=.returned (.int .i64 ((k:Int)+1))∧Below w.heap.size w w':=by
 have HA:=Lib.hid hA
 obtain ⟨t,q,rfl⟩:=hch.iface
 have HC:=Lib.hid hch
 clear hch
 have g0:w.cell? ⟨0,0,none⟩=some (.iface 232 (.pointer (some (A 0)))):=(hA 0 (by omega)).1
 have g1:w.cell? ⟨1,0,none⟩=some (.iface 232 (.pointer (some (A 1)))):=(hA 1 (by omega)).1
 have g2:w.cell? ⟨2,0,none⟩=some (.iface 232 (.pointer (some (A 2)))):=(hA 2 (by omega)).1
 have g3:w.cell? ⟨3,0,none⟩=some (.iface 232 (.pointer (some (A 3)))):=(hA 3 (by omega)).1
 have g4:w.cell? ⟨4,0,none⟩=some (.iface 232 (.pointer (some (A 4)))):=(hA 4 (by omega)).1
 have g5:w.cell? ⟨5,0,none⟩=some (.iface 232 (.pointer (some (A 5)))):=(hA 5 (by omega)).1
 have g6:w.cell? ⟨6,0,none⟩=some (.iface 232 (.pointer (some (A 6)))):=(hA 6 (by omega)).1
 have g7:w.cell? ⟨7,0,none⟩=some (.iface 232 (.pointer (some (A 7)))):=(hA 7 (by omega)).1
 have g8:w.cell? ⟨8,0,none⟩=some (.iface 232 (.pointer (some (A 8)))):=(hA 8 (by omega)).1
 have g9:w.cell? ⟨9,0,none⟩=some (.iface 232 (.pointer (some (A 9)))):=(hA 9 (by omega)).1
 have g10:w.cell? ⟨10,0,none⟩=some (.iface 232 (.pointer (some (A 10)))):=(hA 10 (by omega)).1
 have g11:w.cell? ⟨11,0,none⟩=some (.iface 232 (.pointer (some (A 11)))):=(hA 11 (by omega)).1
 have g12:w.cell? ⟨12,0,none⟩=some (.iface 232 (.pointer (some (A 12)))):=(hA 12 (by omega)).1
 have g13:w.cell? ⟨13,0,none⟩=some (.iface 232 (.pointer (some (A 13)))):=(hA 13 (by omega)).1
 have g14:w.cell? ⟨14,0,none⟩=some (.iface 232 (.pointer (some (A 14)))):=(hA 14 (by omega)).1
 have g15:w.cell? ⟨15,0,none⟩=some (.iface 232 (.pointer (some (A 15)))):=(hA 15 (by omega)).1
 have g16:w.cell? ⟨16,0,none⟩=some (.iface 232 (.pointer (some (A 16)))):=(hA 16 (by omega)).1
 have g17:w.cell? ⟨17,0,none⟩=some (.iface 232 (.pointer (some (A 17)))):=(hA 17 (by omega)).1
 have g18:w.cell? ⟨18,0,none⟩=some (.iface 232 (.pointer (some (A 18)))):=(hA 18 (by omega)).1
 have g19:w.cell? ⟨19,0,none⟩=some (.iface 232 (.pointer (some (A 19)))):=(hA 19 (by omega)).1
 have g20:w.cell? ⟨20,0,none⟩=some (.iface 232 (.pointer (some (A 20)))):=(hA 20 (by omega)).1
 clear hA
 go_enter Tryz.func10,Tryz.ntmps10
 go_wp2_with fail
 generalize hW0:World.alloc w _=W
 have e0:W.heap[w.heap.size]? = some (.cells (errCells A) 30):=by rw [← hW0];exact heap_alloc_new _ _
 have hbW:Below w.heap.size w W:=by rw [← hW0];exact (Below.refl _ _).alloc (Nat.le_refl _) _
 have hszW:W.heap.size=w.heap.size+1:=by rw [← hW0];simp
 have E0:=Lib.hid e0
 clear hW0 e0 g0 g1 g2 g3 g4 g5 g6 g7 g8 g9 g10 g11 g12 g13 g14 g15 g16 g17 g18 g19 g20
 have HW:=Lib.hid (HA.out.below hbW)
 have HCW:=Lib.hid (HC.out.of_cells (w':=W) fun p x hx=>(hbW.cell (p:=⟨p,1,none⟩) (block_lt_of_cell hx)).trans hx)
 clear HA HC
 have HF:Hid (found k 0 = -1):=Lib.hid (found_no (Nat.zero_le _))
 go_loopw [33,4] (fun i f wr=>∃ m:Nat,i=.int .i64 m∧m ≤ 21∧f=.int .i64 (found k m)∧wr=W) (fun i _ _=>21 - (intOf i).toNat)
 case atStart=>exact ⟨0,rfl,Nat.zero_le _,by rw [HF.out],rfl⟩
 case round =>
   obtain ⟨m,rfl,hm,rfl,rfl⟩:=hrel
   by_cases hlt:m < 21
   · have hma:=HW.out m hlt
     have hka:=HW.out k hk
     have l0:wr.cell? ⟨w.heap.size,m,none⟩=some (.iface 232 (.pointer (some (A m)))):=by simp only [World.cell?,E0.out];exact errCells_get A m hlt
     obtain ⟨-,-,-,-,c1,ty1,r1⟩:=hma
     obtain ⟨-,-,-,-,c2,ty2,r2⟩:=hka
     have his:=is_any (A k) (A m) n (.iface t q) wr HCW.out c2 c1 ty2 ty1 r2 r1
     have HIS:=Lib.hid his
     clear his r1 r2
     have hmm:IntKind.i64.wrap ((m:Int)+1)=(m:Int)+1:=IntWalk.i64_in _ (by omega)
     rcases Nat.lt_trichotomy m k with h | h | h
     · have hd:decide (A k=A m)=false:=by simpa using Errs.apart HW.out hk hlt (by omega)
       rw [hd] at HIS
       rw [found_no (Nat.le_of_lt h)]
       have HN:=Lib.hid (found_no (show m+1 ≤ k by omega))
       clear hd
       go_wp2_with (go_at_call 31;refine HIS.out.mono ?_;rintro e w' ⟨rfl,rfl⟩)
       exact ⟨⟨m+1,by go_num,by omega,by rw [HN.out],trivial⟩,by simp [intOf];omega⟩
     · subst h
       have hd:decide (A m=A m)=true:=by simp
       rw [hd] at HIS
       rw [found_no (Nat.le_refl _)]
       have HN:=Lib.hid (found_yes (show m < m+1 by omega))
       clear hd
       go_wp2_with (go_at_call 31;refine HIS.out.mono ?_;rintro e w' ⟨rfl,rfl⟩)
       exact ⟨⟨m+1,by go_num,by omega,by rw [HN.out],trivial⟩,by simp [intOf];omega⟩
     · have hd:decide (A k=A m)=false:=by simpa using Errs.apart HW.out hk hlt (by omega)
       rw [hd] at HIS
       rw [found_yes h]
       have HN:=Lib.hid (found_yes (show k < m+1 by omega))
       clear hd
       go_wp2_with (go_at_call 31;refine HIS.out.mono ?_;rintro e w' ⟨rfl,rfl⟩)
       exact ⟨⟨m+1,by go_num,by omega,by rw [HN.out],trivial⟩,by simp [intOf];omega⟩
   · obtain rfl:m=21:=by omega
     rw [found_yes hk]
     go_wp2
     go_ret
     exact ⟨rfl,hbW⟩
end Go.Proofs.YtfcilopifjddpaaGreatDoor
namespace Go.Proofs.YtfcilopifjddpaaGreatDoor
open Go.RowKit Go.Extern.Stop Go.Stop Go.Extern
inductive Wrapped (w:World) (base:Value):List (Bool × Int × Nat)→Value→Prop
 | base:Wrapped w base [] base
 | fault {l:List (Bool × Int × Nat)} {v:Value} (n:Int) (p:Nat) (h0:w.cell? ⟨p,0,none⟩=some (.int .i64 n)) (h1:w.cell? ⟨p,1,none⟩=some v) (k:Wrapped w base l v):Wrapped w base ((false,n,p) :: l) (.iface 63 (.pointer (some ⟨p,0,none⟩)))
theorem Wrapped.later {w w':World} {base:Value} {l:List (Bool × Int × Nat)} {v:Value} (h:Wrapped w base l v) (hb:Below w.heap.size w w'):Wrapped w' base l v:=by
 have key:∀ (p o:Nat) (x:Value),w.cell? ⟨p,o,none⟩=some x→w'.cell? ⟨p,o,none⟩=some x:=fun p o x hx=>(hb.cell (p:=⟨p,o,none⟩) (block_lt_of_cell hx)).trans hx
 induction h with
 | base=>exact .base
 | fault n p h0 h1 k ih=>exact .fault n p (key _ _ _ h0) (key _ _ _ h1) ih
theorem Wrapped.chain {w:World} {a:Addr} {l:List (Bool × Int × Nat)} {v:Value} (h:Wrapped w (.iface 232 (.pointer (some a))) l v):Chain w a l.length v:=by
 generalize hb:Value.iface 232 (.pointer (some a))=b at h
 induction h with
 | base=>subst hb;exact .base
 | fault n p h0 h1 k ih=>exact .fault p h1 ih
def firstOf (k:Bool):List (Bool × Int × Nat)→Option (Int × Nat)
 | []=>none
 | x :: l=>if x.1=k then some x.2 else firstOf k l
def AsEnd (k:Bool) (l:List (Bool × Int × Nat)) (t:Addr) (w:World) (e:Ending) (w':World):Prop :=
 match firstOf k l with
 | some x=>e=.returned (.bool true)∧∃ w1,Below w.heap.size w w1∧w'=w1.setCell t (.pointer (some ⟨x.2,0,none⟩))
 | none=>e=.returned (.bool false)∧Below w.heap.size w w'
theorem asEnd_none {k:Bool} {l:List (Bool × Int × Nat)} {t:Addr} {w w':World} (h:firstOf k l=none) (hb:Below w.heap.size w w'):AsEnd k l t w (.returned (.bool false)) w':=by
 unfold AsEnd;rw [h];exact ⟨rfl,hb⟩
theorem asEnd_some {k:Bool} {l:List (Bool × Int × Nat)} {t:Addr} {w w1:World} {x:Int × Nat} (h:firstOf k l=some x) (hb:Below w.heap.size w w1):AsEnd k l t w (.returned (.bool true)) (w1.setCell t (.pointer (some ⟨x.2,0,none⟩))):=by
 unfold AsEnd;rw [h];exact ⟨rfl,w1,hb,rfl⟩
theorem asEnd_no {k:Bool} {l:List (Bool × Int × Nat)} {t:Addr} {w w':World} {e:Ending} (h:firstOf k l=none) (he:AsEnd k l t w e w'):e=.returned (.bool false)∧Below w.heap.size w w':=by
 unfold AsEnd at he;rw [h] at he;exact he
theorem asEnd_yes {k:Bool} {l:List (Bool × Int × Nat)} {t:Addr} {w w':World} {e:Ending} {x:Int × Nat} (h:firstOf k l=some x) (he:AsEnd k l t w e w'):e=.returned (.bool true)∧∃ w1,Below w.heap.size w w1∧w'=w1.setCell t (.pointer (some ⟨x.2,0,none⟩)):=by
 unfold AsEnd at he;rw [h] at he;exact he
theorem Wrapped.iface {w:World} {a:Addr} {l:List (Bool × Int × Nat)} {v:Value} (h:Wrapped w (.iface 232 (.pointer (some a))) l v):∃ t p,v=.iface t p:=by cases h <;> exact ⟨_,_,rfl⟩
theorem Tryz.asKindM (n : Nat) (h : Value) (w : World) : (Go.method (n + 1) 137 (.agg #[h]) "Kind").run Tryz.prog w = .ok (238, h) w := by kernel_rfl
theorem Tryz.asElemM (n : Nat) (h : Value) (w : World) : (Go.method (n + 1) 137 (.agg #[h]) "Elem").run Tryz.prog w = .ok (250, .agg #[h]) w := by kernel_rfl
theorem Tryz.asImplM (n : Nat) (h : Value) (w : World) : (Go.method (n + 1) 137 (.agg #[h]) "Implements").run Tryz.prog w = .ok (251, .agg #[h]) w := by kernel_rfl
theorem Tryz.asAssM (n : Nat) (h : Value) (w : World) : (Go.method (n + 1) 137 (.agg #[h]) "AssignableTo").run Tryz.prog w = .ok (248, .agg #[h]) w := by kernel_rfl
theorem Tryz.asTypeOfE {N:Nat} (hN:N=Tryz.prog.globals.size) (v:Value) (w:World):(ReflectliteType.typeOf #[.iface 232 v]).run Tryz.prog w=.ok (.iface 137 (.agg #[.pointer (some ⟨N,232,none⟩)])) w:=by subst hN;kernel_rfl
theorem Tryz.asLacksE (v:Value) (xT:TypeId) (w:World):(Instr.typeAssert (.iface 232 v) xT 148 true).run Tryz.prog w=.ok (.tuple #[.nilIface,.bool false]) w:=run_typeAssert_lacksB Tryz.underlying148 (by kernel_rfl) (by kernel_rfl) v xT w
theorem Tryz.asTypeOfF {N:Nat} (hN:N=Tryz.prog.globals.size) (v:Value) (w:World):(ReflectliteType.typeOf #[.iface 63 v]).run Tryz.prog w=.ok (.iface 137 (.agg #[.pointer (some ⟨N,63,none⟩)])) w:=by subst hN;kernel_rfl
theorem Tryz.asLacksF (v:Value) (xT:TypeId) (w:World):(Instr.typeAssert (.iface 63 v) xT 148 true).run Tryz.prog w=.ok (.tuple #[.nilIface,.bool false]) w:=run_typeAssert_lacksB Tryz.underlying148 (by kernel_rfl) (by kernel_rfl) v xT w
theorem Tryz.asValuePF {N:Nat} (hN:N=Tryz.prog.globals.size) (t:Addr) (w:World):(ReflectliteValue.unpack (.iface 65 (.pointer (some t)))).run Tryz.prog w=.ok (.agg #[.pointer (some ⟨N,65,none⟩),.pointer (some ⟨w.heap.size,0,none⟩),.int .u64 150]) (w.alloc (.cells #[.pointer (some t)] 65)):=by subst hN;kernel_rfl
theorem Tryz.asTypePF {N : Nat} (hN : N = Tryz.prog.globals.size) (a : Addr) (w : World) : (ReflectliteValue.methodAny (ReflectliteValue.valueError "reflectlite.Value.Type" 0) (fun t _ _ _ => ReflectliteType.toType t) #[.agg #[.pointer (some ⟨N, 65, none⟩), .pointer (some a), .int .u64 150]]).run Tryz.prog w = .ok (.iface 137 (.agg #[.pointer (some ⟨N, 65, none⟩)])) w := by subst hN; kernel_rfl
theorem Tryz.asKindPF {N:Nat} (hN:N=Tryz.prog.globals.size) (w:World):((ReflectliteType.abiMethod fun t=>(fun a:Nat=>Value.int IntKind.u8 (a:Int)) <$> Rtype.kind t) #[.pointer (some ⟨N,65,none⟩)]).run Tryz.prog w=.ok (.int .u8 22) w:=by subst hN;kernel_rfl
theorem Tryz.asKindF {N:Nat} (hN:N=Tryz.prog.globals.size) (w:World):((ReflectliteType.abiMethod fun t=>(fun a:Nat=>Value.int IntKind.u8 (a:Int)) <$> Rtype.kind t) #[.pointer (some ⟨N,63,none⟩)]).run Tryz.prog w=.ok (.int .u8 22) w:=by subst hN;kernel_rfl
theorem Tryz.asPartsPF {N:Nat} (hN:N=Tryz.prog.globals.size) (a:Addr) (w:World):(ReflectliteValue.parts (.agg #[.pointer (some ⟨N,65,none⟩),.pointer (some a),.int .u64 150])).run Tryz.prog w=.ok (some (65,a,150)) w:=by subst hN;kernel_rfl
theorem Tryz.asIsNilF {N:Nat} (hN:N=Tryz.prog.globals.size) (a p:Addr) (W:World) (ha:W.cell? a=some (.pointer (some p))) :
   (ReflectliteValue.method (ReflectliteValue.valueError "reflectlite.Value.IsNil" 0) ReflectliteValue.isNil #[.agg #[.pointer (some ⟨N, 65, none⟩), .pointer (some a), .int .u64 150]]).run Tryz.prog W = .ok (.bool false) W := by
 delta ReflectliteValue.method ReflectliteValue.method.match_2
 simp only [List.size_toArray,List.length_cons,List.length_nil,Nat.reduceAdd,↓reduceDIte,Array.getLit,List.getElem_toArray,List.getElem_cons_zero]
 simp only [Sem.run_bind,Tryz.asPartsPF hN,Result.andThen]
 simp [ReflectliteValue.isNil,loadVar,isAgg,underlying,Tryz.underlying65,ha,Result.andThen]
theorem Tryz.asElemF {N:Nat} (hN:N=Tryz.prog.globals.size) (w:World):(ReflectliteType.method ReflectliteType.elem #[.agg #[.pointer (some ⟨N,65,none⟩)]]).run Tryz.prog w=.ok (.iface 137 (.agg #[.pointer (some ⟨N,63,none⟩)])) w:=by subst hN;kernel_rfl
theorem Tryz.asImplF {N : Nat} (hN : N = Tryz.prog.globals.size) (w : World) : (ReflectliteType.relation "Implements" ReflectliteType.implements_ #[.agg #[.pointer (some ⟨N, 63, none⟩)], .iface 137 (.agg #[.pointer (some ⟨N, 30, none⟩)])]).run Tryz.prog w = .ok (.bool true) w := by subst hN; kernel_rfl
theorem Tryz.asValueF {N:Nat} (hN:N=Tryz.prog.globals.size) (e:Addr) (w:World):(ReflectliteValue.unpack (.iface 63 (.pointer (some e)))).run Tryz.prog w=.ok (.agg #[.pointer (some ⟨N,63,none⟩),.pointer (some ⟨w.heap.size,0,none⟩),.int .u64 150]) (w.alloc (.cells #[.pointer (some e)] 63)):=by subst hN;kernel_rfl
theorem Tryz.asElemOfF (w:World):(Rtype.elem? 65).run Tryz.prog w=.ok (some 63) w:=by kernel_rfl
theorem Tryz.asMkF {N:Nat} (hN:N=Tryz.prog.globals.size) (p:Addr) (w:World):(ReflectliteValue.mk 63 p ReflectliteValue.flagAddr).run Tryz.prog w=.ok (.agg #[.pointer (some ⟨N,63,none⟩),.pointer (some p),.int .u64 406]) w:=by subst hN;kernel_rfl
theorem Tryz.asElemVF {N:Nat} (hN:N=Tryz.prog.globals.size) (a p:Addr) (W:World) (ha:W.cell? a=some (.pointer (some p))) :
   (ReflectliteValue.method (ReflectliteValue.valueError "reflectlite.Value.Elem" 0) ReflectliteValue.elem #[.agg #[.pointer (some ⟨N, 65, none⟩), .pointer (some a), .int .u64 150]]).run Tryz.prog W = .ok (.agg #[.pointer (some ⟨N, 63, none⟩), .pointer (some p), .int .u64 406]) W := by
 delta ReflectliteValue.method ReflectliteValue.method.match_2
 simp only [List.size_toArray,List.length_cons,List.length_nil,Nat.reduceAdd,↓reduceDIte,Array.getLit,List.getElem_toArray,List.getElem_cons_zero]
 simp only [Sem.run_bind,Tryz.asPartsPF hN,Result.andThen]
 simp [ReflectliteValue.elem,loadVar,isAgg,underlying,Tryz.underlying65,ha,Result.andThen,Tryz.asElemOfF,Tryz.asMkF hN]
theorem Tryz.asPartsAF {N:Nat} (hN:N=Tryz.prog.globals.size) (a:Addr) (w:World):(ReflectliteValue.parts (.agg #[.pointer (some ⟨N,63,none⟩),.pointer (some a),.int .u64 406])).run Tryz.prog w=.ok (some (63,a,406)) w:=by subst hN;kernel_rfl
theorem Tryz.asPartsF {N:Nat} (hN:N=Tryz.prog.globals.size) (a:Addr) (w:World):(ReflectliteValue.parts (.agg #[.pointer (some ⟨N,63,none⟩),.pointer (some a),.int .u64 150])).run Tryz.prog w=.ok (some (63,a,150)) w:=by subst hN;kernel_rfl
theorem Tryz.asDirectF (w:World):(Rtype.directlyAssignable 63 63).run Tryz.prog w=.ok true w:=by kernel_rfl
theorem Tryz.asSetF {N:Nat} (hN:N=Tryz.prog.globals.size) (ta b e:Addr) (old:Value) (W:World) (hb:W.cell? b=some (.pointer (some e))) (ht:W.cell? ta=some old) (hf:W.frozen? ta=false) :
   (ReflectliteValue.set #[.agg #[.pointer (some ⟨N,63,none⟩),.pointer (some ta),.int .u64 406],.agg #[.pointer (some ⟨N,63,none⟩),.pointer (some b),.int .u64 150]]).run Tryz.prog W=.ok (.tuple #[]) (W.setCell ta (.pointer (some e))):=by
 delta ReflectliteValue.set ReflectliteValue.set.match_3
 simp only [List.size_toArray,List.length_cons,List.length_nil,Nat.reduceAdd,↓reduceDIte,Array.getLit,List.getElem_toArray,List.getElem_cons_zero,List.getElem_cons_succ]
 simp only [Sem.run_bind,Tryz.asPartsAF hN,Tryz.asPartsF hN,Result.andThen]
 simp [ReflectliteValue.flagAddr,loadVar,isAgg,underlying,Tryz.underlying63,hb,Result.andThen,Tryz.asDirectF,storeVar,Value.cells,storeCells,Addr.add]
 rw [run_store Tryz.prog W ta _ _ (by rfl)]
 simp [ht,hf]
theorem Tryz.asAssFE {N : Nat} (hN : N = Tryz.prog.globals.size) (w : World) : (ReflectliteType.relation "AssignableTo" ReflectliteType.assignableTo #[.agg #[.pointer (some ⟨N, 232, none⟩)], .iface 137 (.agg #[.pointer (some ⟨N, 63, none⟩)])]).run Tryz.prog w = .ok (.bool false) w := by subst hN; kernel_rfl
theorem Tryz.asAssFF {N : Nat} (hN : N = Tryz.prog.globals.size) (w : World) : (ReflectliteType.relation "AssignableTo" ReflectliteType.assignableTo #[.agg #[.pointer (some ⟨N, 63, none⟩)], .iface 137 (.agg #[.pointer (some ⟨N, 63, none⟩)])]).run Tryz.prog w = .ok (.bool true) w := by subst hN; kernel_rfl
end Go.Proofs.YtfcilopifjddpaaGreatDoor
namespace Go.Proofs.YtfcilopifjddpaaGreatDoor
open Go.RowKit Go.Extern.Stop Go.Stop Go.Extern
theorem as_in_F {N:Nat} (hN:N=Tryz.prog.globals.size) (b a t:Addr) (l:List (Bool × Int × Nat)) (v:Value) (w:World) (hw:Wrapped w (.iface 232 (.pointer (some b))) l v) (ha:w.cell? a=some (.pointer (some t))) (old:Value) (ht:w.cell? t=some old) (hf:w.frozen? t=false) :
   Calls Tryz.prog 70 #[v,.iface 65 (.pointer (some t)),.agg #[.pointer (some ⟨N,65,none⟩),.pointer (some a),.int .u64 150],.iface 137 (.agg #[.pointer (some ⟨N,63,none⟩)])] w (AsEnd false l t w):=by
 have xTypeOf:=@run_callFunc_extern Tryz.prog 65 _ ReflectliteType.typeOf Tryz.func65 (by kernel_rfl) (by kernel_rfl) (by kernel_rfl) (by kernel_rfl)
 have xValueOf:=@run_callFunc_extern Tryz.prog 67 _ (fun args=>ReflectliteValue.unpack (args.getD 0 (.tuple #[]))) Tryz.func67 (by kernel_rfl) (by kernel_rfl) (by kernel_rfl) (by kernel_rfl)
 have xAss := @run_callFunc_extern Tryz.prog 248 _ (ReflectliteType.relation "AssignableTo" ReflectliteType.assignableTo) Tryz.func248 (by kernel_rfl) (by kernel_rfl) (by kernel_rfl) (by kernel_rfl)
 have xElemV := @run_callFunc_extern Tryz.prog 103 _ (ReflectliteValue.method (ReflectliteValue.valueError "reflectlite.Value.Elem" 0) ReflectliteValue.elem) Tryz.func103 (by kernel_rfl) (by kernel_rfl) (by kernel_rfl) (by kernel_rfl)
 have xSet:=@run_callFunc_extern Tryz.prog 104 _ ReflectliteValue.set Tryz.func104 (by kernel_rfl) (by kernel_rfl) (by kernel_rfl) (by kernel_rfl)
 have tE:=Tryz.asTypeOfE hN;have tF:=Tryz.asTypeOfF hN
 have lE:=Tryz.asLacksE;have lF:=Tryz.asLacksF
 have sE:=Tryz.asAssFE hN;have sF:=Tryz.asAssFF hN
 have mA:=Tryz.asAssM
 have vK:=Tryz.asValueF hN
 have uE:=Tryz.noUnwrapE;have zE:=Tryz.noUnwrapsE;have uF:=Tryz.hasUnwrapF
 have mF:=Tryz.methodUnwrapF
 have hlt:=block_lt_of_cell ha
 have hltt:=block_lt_of_cell ht
 obtain ⟨W,hW⟩:∃ W,W=w.alloc (.cells #[.pointer (some ⟨N,65,none⟩),.pointer (some a),.int .u64 150] 109):=⟨_,rfl⟩
 have hbW:Below w.heap.size w W:=by rw [hW];exact (Below.refl _ _).alloc (Nat.le_refl _) _
 have zW:W.heap[w.heap.size]? = some (.cells #[.pointer (some ⟨N,65,none⟩),.pointer (some a),.int .u64 150] 109):=by rw [hW];exact heap_alloc_new w _
 have eV:=Tryz.asElemVF hN a t W ((hbW.cell hlt).trans ha)
 have hsW:w.heap.size < W.heap.size:=by rw [hW];simp
 have b0:W.cell? ⟨w.heap.size,0,none⟩=some (.pointer (some ⟨N,65,none⟩)):=by simp [World.cell?,zW]
 have b1:W.cell? ⟨w.heap.size,1,none⟩=some (.pointer (some a)):=by simp [World.cell?,zW]
 have b2:W.cell? ⟨w.heap.size,2,none⟩=some (.int .u64 150):=by simp [World.cell?,zW]
 have htW:=(hbW.cell hltt).trans ht
 have hfW:W.frozen? t=false:=(hbW.frozen hltt).trans hf
 have st:=fun e:Addr=>Tryz.asSetF hN t ⟨W.heap.size,0,none⟩ e old (W.alloc (.cells #[.pointer (some e)] 63)) (by rw [cell_new];rfl) (((Below.refl W.heap.size W).alloc (Nat.le_refl _) _).cell (by have:=hbW.size;omega) |>.trans htW) (((Below.refl W.heap.size W).alloc (Nat.le_refl _) _).frozen (by have:=hbW.size;omega) |>.trans hfW)
 have HW:=Lib.hid (hw.later hbW);have HBW:=Lib.hid hbW;have HWe:=Lib.hid hW
 clear hw ha ht hf hbW zW htW hfW hN hW
 go_enter Tryz.func70,Tryz.ntmps70
 go_wp2_with fail
 rw [← HWe.out]
 go_loopg [0] l.length (fun k x wr=>wr=W∧∃ l',l'.length=k∧Hid (Wrapped W (.iface 232 (.pointer (some b))) l' x)∧Hid (firstOf false l'=firstOf false l))
 case atStart=>exact ⟨rfl,l,rfl,HW,Lib.hid rfl⟩
 case round =>
   obtain ⟨rfl,l',hlen,HK,HFi⟩:=hrel
   have HK':=HK.out
   clear HK
   rcases HK' with _ | @⟨l1,v1,n,p,h0,h1,k⟩
   · go_wp2
     go_ret
     exact asEnd_none (HFi.out.symm.trans rfl) HBW.out
   · go_wp2
     go_ret
     exact asEnd_some (x:=(n,p)) (HFi.out.symm.trans (by simp [firstOf])) (HBW.out.alloc HBW.out.size _)
end Go.Proofs.YtfcilopifjddpaaGreatDoor
namespace Go.Proofs.YtfcilopifjddpaaGreatDoor
open Go.RowKit Go.Extern.Stop Go.Stop Go.Extern
theorem as_any_F (b t:Addr) (l:List (Bool × Int × Nat)) (v:Value) (w:World) (hw:Wrapped w (.iface 232 (.pointer (some b))) l v) (hg:w.cell? ⟨21,0,none⟩=some (.iface 137 (.agg #[.pointer (some ⟨Tryz.prog.globals.size,30,none⟩)]))) (old:Value) (ht:w.cell? t=some old) (hf:w.frozen? t=false) :
   Calls Tryz.prog 32 #[v,.iface 65 (.pointer (some t))] w (AsEnd false l t w):=by
 obtain ⟨N,hN⟩:∃ N,N=Tryz.prog.globals.size:=⟨_,rfl⟩
 rw [← hN] at hg
 have xValueOf:=@run_callFunc_extern Tryz.prog 67 _ (fun args=>ReflectliteValue.unpack (args.getD 0 (.tuple #[]))) Tryz.func67 (by kernel_rfl) (by kernel_rfl) (by kernel_rfl) (by kernel_rfl)
 have xType := @run_callFunc_extern Tryz.prog 68 _ (ReflectliteValue.methodAny (ReflectliteValue.valueError "reflectlite.Value.Type" 0) (fun t _ _ _ => ReflectliteType.toType t)) Tryz.func68 (by kernel_rfl) (by kernel_rfl) (by kernel_rfl) (by kernel_rfl)
 have xIsNil := @run_callFunc_extern Tryz.prog 69 _ (ReflectliteValue.method (ReflectliteValue.valueError "reflectlite.Value.IsNil" 0) ReflectliteValue.isNil) Tryz.func69 (by kernel_rfl) (by kernel_rfl) (by kernel_rfl) (by kernel_rfl)
 have xKind:=@run_callFunc_extern Tryz.prog 238 _ (ReflectliteType.abiMethod fun t=>do pure (.int .u8 (← Rtype.kind t))) Tryz.func238 (by kernel_rfl) (by kernel_rfl) (by kernel_rfl) (by kernel_rfl)
 have xElem:=@run_callFunc_extern Tryz.prog 250 _ (ReflectliteType.method ReflectliteType.elem) Tryz.func250 (by kernel_rfl) (by kernel_rfl) (by kernel_rfl) (by kernel_rfl)
 have xImpl := @run_callFunc_extern Tryz.prog 251 _ (ReflectliteType.relation "Implements" ReflectliteType.implements_) Tryz.func251 (by kernel_rfl) (by kernel_rfl) (by kernel_rfl) (by kernel_rfl)
 have fV:=Tryz.asValuePF hN
 have fT:=Tryz.asTypePF hN
 have mK:=Tryz.asKindM;have mE:=Tryz.asElemM;have mI:=Tryz.asImplM
 have kP:=Tryz.asKindPF hN;have kT:=Tryz.asKindF hN
 have eP:=Tryz.asElemF hN;have iT:=Tryz.asImplF hN
 obtain ⟨tv,q,rfl⟩:=hw.iface
 have hlg:=block_lt_of_cell hg;have hlt:=block_lt_of_cell ht
 have hb1:Below w.heap.size w ((w.alloc (.cells #[.pointer (some t)] 65)).alloc (.cells #[.pointer (some ⟨N,65,none⟩),.pointer (some ⟨w.heap.size,0,none⟩),.int .u64 150] 109)):=((Below.refl _ _).alloc (Nat.le_refl _) _).alloc (by simp) _
 have z1:=two_new w (.cells #[.pointer (some t)] 65) (.cells #[.pointer (some ⟨N,65,none⟩),.pointer (some ⟨w.heap.size,0,none⟩),.int .u64 150] 109)
 have n8:=Tryz.asIsNilF hN ⟨w.heap.size,0,none⟩ t ((w.alloc (.cells #[.pointer (some t)] 65)).alloc (.cells #[.pointer (some ⟨N,65,none⟩),.pointer (some ⟨w.heap.size,0,none⟩),.int .u64 150] 109)) (by unfold World.cell?;rw [z1.1];rfl)
 have ha1:((w.alloc (.cells #[.pointer (some t)] 65)).alloc (.cells #[.pointer (some ⟨N,65,none⟩),.pointer (some ⟨w.heap.size,0,none⟩),.int .u64 150] 109)).cell? ⟨w.heap.size,0,none⟩=some (.pointer (some t)):=by unfold World.cell?;rw [z1.1];rfl
 have hg1:=(hb1.cell (p:=⟨21,0,none⟩) hlg).trans hg
 have hin:=as_in_F hN b ⟨w.heap.size,0,none⟩ t l (.iface tv q) _ (hw.later hb1) ha1 old ((hb1.cell hlt).trans ht) ((hb1.frozen hlt).trans hf)
 have HIN:=Lib.hid hin;have HB:=Lib.hid hb1
 clear hin hb1 z1 ha1 hw ht hf hN hg
 go_enter Tryz.func32,Tryz.ntmps32
 cases hf:firstOf false l with
 | none =>
   go_wp2_with fail
   refine HIN.out.mono ?_
   intro e w' he
   obtain ⟨rfl,hb⟩:=asEnd_no hf he
   have hb2:=Lib.hid (HB.out.trans (hb.mono HB.out.size))
   clear he hb HIN HB
   go_wp2
   go_ret
   exact asEnd_none hf hb2.out
 | some x =>
   go_wp2_with fail
   refine HIN.out.mono ?_
   intro e w' he
   obtain ⟨rfl,w1,hb,rfl⟩:=asEnd_yes hf he
   have hb2:=Lib.hid (HB.out.trans (hb.mono HB.out.size))
   clear he hb HIN HB
   go_wp2
   go_ret
   exact asEnd_some hf hb2.out
end Go.Proofs.YtfcilopifjddpaaGreatDoor
namespace Go.Proofs.YtfcilopifjddpaaGreatDoor
open Go.RowKit Go.Extern.Stop Go.Stop Go.Extern
theorem Wrapped.first {w:World} {base:Value} {l:List (Bool × Int × Nat)} {v:Value} (h:Wrapped w base l v) {k:Bool} {x:Int × Nat} (hf:firstOf k l=some x):w.cell? ⟨x.2,0,none⟩=some (.int .i64 x.1):=by
 induction h with
 | base=>simp [firstOf] at hf
 | fault n p h0 h1 _ ih =>
   unfold firstOf at hf
   split at hf
   · simp only [Option.some.injEq] at hf;subst hf;exact h0
   · exact ih hf
def ErrType (w:World):Prop:=w.cell? ⟨21,0,none⟩=some (.iface 137 (.agg #[.pointer (some ⟨Tryz.prog.globals.size,30,none⟩)]))
theorem ErrType.later {w w':World} (h:ErrType w) (hb:Below w.heap.size w w'):ErrType w':=(hb.cell (p:=⟨21,0,none⟩) (block_lt_of_cell h)).trans h
def numOf (o:Option (Int × Nat)):Int:=match o with | some x=>x.1 | none=>-1
theorem numplace_any (b:Addr) (l:List (Bool × Int × Nat)) (v:Value) (w:World) (hw:Wrapped w (.iface 232 (.pointer (some b))) l v) (hg:ErrType w) :
   Calls Tryz.prog 12 #[v] w fun e w'=>e=.returned (.int .i64 (numOf (firstOf false l)))∧Below w.heap.size w w':=by
 have hb1:Below w.heap.size w (w.alloc (.cells #[.pointer none] 63)):=(Below.refl _ _).alloc (Nat.le_refl _) _
 have z1:=heap_alloc_new w (.cells #[.pointer none] 63)
 have hAs:=as_any_F b ⟨w.heap.size,0,none⟩ l v _ (hw.later hb1) (hg.later hb1) (.pointer none) (by unfold World.cell?;rw [z1];rfl) (by unfold World.frozen?;rw [z1];simp)
 have HAS:=Lib.hid hAs;have HB:=Lib.hid hb1;have HW:=Lib.hid hw
 clear hAs z1 hb1 hw hg
 cases hf:firstOf false l with
 | none =>
   go_enter Tryz.func12,Tryz.ntmps12
   go_wp2_with fail
   refine HAS.out.mono ?_
   intro e w' he
   obtain ⟨rfl,hb⟩:=asEnd_no hf he
   have hb2:=Lib.hid (HB.out.trans (hb.mono HB.out.size))
   clear he hb HAS HB
   go_wp2
   go_ret
   exact ⟨rfl,hb2.out⟩
 | some x =>
   have hx:=HW.out.first hf
   have hlt:=block_lt_of_cell hx
   obtain ⟨n,p⟩:=x
   go_enter Tryz.func12,Tryz.ntmps12
   go_wp2_with fail
   refine HAS.out.mono ?_
   intro e w' he
   obtain ⟨rfl,w1,hb,rfl⟩:=asEnd_yes hf he
   have hsz:w.heap.size < w1.heap.size:=by have:=hb.size;simp at this;omega
   have hb2:=HB.out.trans (hb.mono HB.out.size)
   have z1:w1.heap[w.heap.size]? = some (.cells #[.pointer none] 63):=keep_blk hb (heap_alloc_new w _)
   have c1:(w1.setCell ⟨w.heap.size,0,none⟩ (.pointer (some ⟨p,0,none⟩))).cell? ⟨w.heap.size,0,none⟩=some (.pointer (some ⟨p,0,none⟩)):=by
     simp [World.setCell,World.cell?,Array.getElem?_modify,z1]
   have c2:(w1.setCell ⟨w.heap.size,0,none⟩ (.pointer (some ⟨p,0,none⟩))).cell? ⟨p,0,none⟩=some (.int .i64 n):=by
     have hne:p ≠ w.heap.size:=by have:p < w.heap.size:=hlt;omega
     rw [← hx,← hb2.cell (p:=⟨p,0,none⟩) hlt]
     unfold World.cell?;rw [Below.heap_setCell _ _ _ _ hne]
   have hb3:=Lib.hid (hb2.setCell (p:=⟨w.heap.size,0,none⟩) (Nat.le_refl _) (.pointer (some ⟨p,0,none⟩)))
   clear he hb HAS HB z1 hb2 hx HW
   generalize w1.setCell _ _=w2 at *
   go_wp2
   go_ret
   exact ⟨rfl,hb3.out⟩
end Go.Proofs.YtfcilopifjddpaaGreatDoor
namespace Go.Proofs.YtfcilopifjddpaaGreatDoor
open Go.RowKit
theorem part0 (a b c d:Value) (w:World):(Go.part 23 #[a,b,c,d] 0).run Tryz.prog w=.ok a w:=by kernel_rfl
theorem part1 (a b c d:Value) (w:World):(Go.part 23 #[a,b,c,d] 1).run Tryz.prog w=.ok b w:=by kernel_rfl
theorem part2 (a b c d:Value) (w:World):(Go.part 23 #[a,b,c,d] 2).run Tryz.prog w=.ok c w:=by kernel_rfl
theorem part3 (a b c d:Value) (w:World):(Go.part 23 #[a,b,c,d] 3).run Tryz.prog w=.ok d w:=by kernel_rfl
theorem eqi (a b:Int) (w:World):(Op.equalIn 9999 23 (.int .u64 a) (.int .u64 b)).run Tryz.prog w=.ok (a == b) w:=run_equalIn_int w 9998 23 .u64 .u64 a b Tryz.underlying23
theorem eq4 (a b c d a' b' c' d':Int) (w:World):(Op.equalIn 10000 25 (.agg #[.int .u64 a,.int .u64 b,.int .u64 c,.int .u64 d]) (.agg #[.int .u64 a',.int .u64 b',.int .u64 c',.int .u64 d'])).run Tryz.prog w=.ok (a == a' && (b == b' && (c == c' && d == d'))) w:=by
 have h0:=run_underlying (P:=Tryz.prog) (w:=w) Tryz.underlying25
 unfold Op.equalIn
 simp only [Sem.run_bind,h0,Result.andThen_ok]
 simp
 rw [show List.range' 0 4=[0,1,2,3] from rfl]
 simp only [List.forIn_cons,List.forIn_nil,Sem.run_bind,part0,eqi,Result.andThen_ok]
 by_cases h1:a=a'
 · by_cases h2:b=b'
   · by_cases h3:c=c'
     · by_cases h4:d=d' <;> simp [h1,h2,h3,h4,part1,part2,part3,eqi]
     · simp [h1,h2,h3,part1,part2,eqi]
   · simp [h1,h2,part1,eqi]
 · simp [h1]
end Go.Proofs.YtfcilopifjddpaaGreatDoor
namespace Go.Proofs.YtfcilopifjddpaaGreatDoor
open Go.RowKit
def ErrAt (A:Nat→Addr) (w:World) (v:Value) (c:Nat) (p:Int):Prop :=
 ∃ k l,k < 21∧c=k+1∧Wrapped w (.iface 232 (.pointer (some (A k)))) l v∧numOf (firstOf false l)=p
theorem ErrAt.later {A:Nat→Addr} {w w':World} {v:Value} {c:Nat} {p:Int} (h:ErrAt A w v c p) (hb:Below w.heap.size w w'):ErrAt A w' v c p:=by
 obtain ⟨k,l,hk,hc,hw,hp⟩:=h;exact ⟨k,l,hk,hc,hw.later hb,hp⟩
theorem ErrAt.iface {A:Nat→Addr} {w:World} {v:Value} {c:Nat} {p:Int} (h:ErrAt A w v c p):∃ t q,v=.iface t q:=by
 obtain ⟨k,l,hk,hc,hw,hp⟩:=h;exact hw.iface
structure BrEnv (w:World) (A:Nat→Addr):Prop where
 errs:Errs w A
 idx:∃ m,w.cell? ⟨22,0,none⟩=some (.int .i64 m)
theorem BrEnv.below {A:Nat→Addr} {w w':World} (h:BrEnv w A) (hb:Below w.heap.size w w'):BrEnv w' A:=by
 refine ⟨h.errs.below hb, ?_⟩
 obtain ⟨m,hm⟩:=h.idx
 exact ⟨m,(hb.cell (p:=⟨22,0,none⟩) (block_lt_of_cell hm)).trans hm⟩
theorem ErrAt.num {A:Nat→Addr} {w:World} {v:Value} {c:Nat} {p:Int} (h:ErrAt A w v c p) (hA:BrEnv w A) :
   Calls Tryz.prog 10 #[v] w fun e w'=>e=.returned (.int .i64 c)∧Below w.heap.size w w':=by
 obtain ⟨k,l,hk,rfl,hw,hp⟩:=h
 exact (num_any A k l.length v w hA.errs hk hw.chain).mono fun _ _ h=>⟨by rw [h.1];push_cast;rfl,h.2⟩
theorem ErrAt.place {A:Nat→Addr} {w:World} {v:Value} {c:Nat} {p:Int} (h:ErrAt A w v c p) (hT:ErrType w) :
   Calls Tryz.prog 12 #[v] w fun e w'=>e=.returned (.int .i64 p)∧Below w.heap.size w w':=by
 obtain ⟨k,l,hk,rfl,hw,rfl⟩:=h
 exact numplace_any (A k) l v w hw hT
def icB (fl:Int):Bool:=(BitVec.ofInt 64 fl).getLsbD 1
def nlB (fl:Int):Bool:=(BitVec.ofInt 64 fl).getLsbD 2
def ReadEnd (A:Nat→Addr) (R:Br.Ans) (w:World) (e:Ending) (w':World):Prop :=
 (match R with
 | .ok P j=>e=.returned (.tuple #[(.agg #[.int .u64 (Oc.U (Oc.mk P 0)),.int .u64 (Oc.U (Oc.mk P 1)),.int .u64 (Oc.U (Oc.mk P 2)),.int .u64 (Oc.U (Oc.mk P 3))]),.int .i64 j,.nilIface])
 | .err c p=>∃ v,e=.returned (.tuple #[.agg #[.int .u64 0,.int .u64 0,.int .u64 0,.int .u64 0],.int .i64 0,v])∧ErrAt A w' v c p)∧Below w.heap.size w w'
theorem ReadEnd.ok {A:Nat→Addr} {R:Br.Ans} {w:World} {e:Ending} {w':World} (h:ReadEnd A R w e w') {P:Nat→Bool} {j:Nat} (hR:R=.ok P j) :
   e=.returned (.tuple #[(.agg #[.int .u64 (Oc.U (Oc.mk P 0)),.int .u64 (Oc.U (Oc.mk P 1)),.int .u64 (Oc.U (Oc.mk P 2)),.int .u64 (Oc.U (Oc.mk P 3))]),.int .i64 j,.nilIface])∧Below w.heap.size w w':=by subst hR;exact h
theorem ReadEnd.err {A:Nat→Addr} {R:Br.Ans} {w:World} {e:Ending} {w':World} (h:ReadEnd A R w e w') {c:Nat} {p:Int} (hR:R=.err c p) :
   ∃ v,e=.returned (.tuple #[.agg #[.int .u64 0,.int .u64 0,.int .u64 0,.int .u64 0],.int .i64 0,v])∧ErrAt A w' v c p∧Below w.heap.size w w':=by
 subst hR;obtain ⟨⟨v,h1,h2⟩,h3⟩:=h;exact ⟨v,h1,h2,h3⟩
theorem and6 (fl:Int):bits .and .i64 fl 6=flI (icB fl) (nlB fl):=by
 show IntKind.i64.wrap ((BitVec.ofInt 64 fl &&& BitVec.ofInt 64 6).toNat:Int)=_
 unfold icB nlB
 generalize BitVec.ofInt 64 fl=x
 have h6:∀ i,i < 64→i ≠ 1→i ≠ 2→(6#64).getLsbD i=false:=by decide
 have e:x &&& BitVec.ofInt 64 6=(if x.getLsbD 1 then 2#64 else 0#64) ||| (if x.getLsbD 2 then 4#64 else 0#64):=by
   apply BitVec.eq_of_getLsbD_eq
   intro i hi
   rw [show BitVec.ofInt 64 6=6#64 by decide,BitVec.getLsbD_and,BitVec.getLsbD_or]
   by_cases h1:i=1
   · subst h1;cases x.getLsbD 1 <;> cases x.getLsbD 2 <;> decide
   · by_cases h2:i=2
     · subst h2;cases x.getLsbD 1 <;> cases x.getLsbD 2 <;> decide
     · rw [h6 i hi h1 h2]
       have a1:∀ i,i < 64→i ≠ 1→(2#64).getLsbD i=false:=by decide
       have a2:∀ i,i < 64→i ≠ 2→(4#64).getLsbD i=false:=by decide
       cases x.getLsbD 1 <;> cases x.getLsbD 2 <;> simp [a1 i hi h1,a2 i hi h2]
 rw [e]
 cases x.getLsbD 1 <;> cases x.getLsbD 2 <;> decide
end Go.Proofs.YtfcilopifjddpaaGreatDoor
namespace Go.Proofs.YtfcilopifjddpaaGreatDoor
open Go.RowKit
namespace Tr
def leaf (k:Int):Tr:=.node k 0#64 0#64 0#64 0#64 [] 0 0 0 false
def bytes (P:Nat→Bool):Tr:=.node 2 (Oc.mk P 0) (Oc.mk P 1) (Oc.mk P 2) (Oc.mk P 3) [] 0 0 0 false
def many (k:Int) (l:List Tr):Tr:=.node k 0#64 0#64 0#64 0#64 l 0 0 0 false
def grp (n:Int) (t:Tr):Tr:=.node 7 0#64 0#64 0#64 0#64 [t] n 0 0 false
def rep (lo hi:Int) (t:Tr):Tr:=.node 8 0#64 0#64 0#64 0#64 [t] 0 lo hi false
def several (k:Int):List Tr→Tr
 | []=>leaf 1
 | [t]=>t
 | l=>many k l
end Tr
theorem u0:Oc.U 0#64=0:=by decide
abbrev noNode:Array Value:=#[.int .i64 0,.int .u64 0,.int .u64 0,.int .u64 0,.int .u64 0,.slice none 0 0,.int .i64 0,.int .i64 0,.int .i64 0,.bool false]
theorem joined_many (k:Int) (ts:List Tr) (h2:2 ≤ ts.length) (x:Tr) (w:World) (B:Nat→Prop) (v:Value) (hs:TreesAt w B v ts) :
   Calls Tryz.prog 91 #[.int .i64 k,v,.agg (x.cells (.slice none 0 0))] w (OwnEnd (.many k ts) w):=by
 obtain ⟨p,cap,rfl,hlen⟩:=hs.slice
 have e0:((ts.length:Int) == 0)=false:=by rw [beq_eq_false_iff_ne];omega
 have e1:((ts.length:Int) == 1)=false:=by rw [beq_eq_false_iff_ne];omega
 have HC:=Lib.hid (fun w9 (hb:Below w.heap.size w w9)=>copies_any ts w9 B _ (hs.later hb))
 unfold Tr.cells
 clear hs
 go_enter Tryz.func91,Tryz.ntmps91
 go_wp2_with fail
 generalize hw1:World.alloc (World.alloc w _) _=w1
 have hb1:Below w.heap.size w w1:=by rw [← hw1];go_grown
 have hs1:w1.heap.size=w.heap.size+2:=by rw [← hw1];simp
 have Z1:=Lib.hid (show w1.heap[w.heap.size+1]? = some (.cells noNode 28) by rw [← hw1];exact (two_new w _ _).2)
 have HB1:=Lib.hid hb1
 clear hw1 hb1
 refine (HC.out w1 HB1.out).mono ?_
 rintro e w2 ⟨s2,F,rfl,ho,hF,hb2⟩
 obtain ⟨p2,c2,rfl,hl2⟩:=ho.slice
 have HO:=Lib.hid ho;have HF:=Lib.hid hF
 have Y1:=Lib.hid (keep_blk hb2 Z1.out)
 have HB2:=Lib.hid (HB1.out.trans (hb2.mono HB1.out.size))
 clear ho hF hb2
 go_wp2_with (first
   | (refine wpList_store_row rfl 28 (.tmp 6) (.tmp 21) rfl (w.heap.size+1) #[.int .i64 k,.int .u64 0,.int .u64 0,.int .u64 0,.int .u64 0,.slice p2 ts.length c2,.int .i64 0,.int .i64 0,.int .i64 0,.bool false] rfl rfl 28 _ Y1.out (by kernel_rfl) rfl (by simp [Value.oneCell']) ?_)
   | fail)
 refine bodyPost_ret (results_cell_row rfl _ _ (w.heap.size+1) 28 #[.int .i64 k,.int .u64 0,.int .u64 0,.int .u64 0,.int .u64 0,.slice p2 ts.length c2,.int .i64 0,.int .i64 0,.int .i64 0,.bool false] (0,0) _ rfl (heap_setRow Y1.out) Tryz.underlying28 rfl (by kernel_rfl)) rfl ⟨.slice p2 ts.length c2,F,rfl, ?_, ?_, ?_⟩
 · exact HO.out.keep fun b hb=>by have:=HF.out b hb;rw [heap_setRow_other _ _ _ (by omega)]
 · intro b hb;have:=HF.out b hb;omega
 · exact below_setRow HB2.out (Nat.le_succ _) _
theorem joined_one (k:Int) (t x:Tr) (w:World) (B:Nat→Prop) (v:Value) (hs:TreesAt w B v [t]) :
   Calls Tryz.prog 91 #[.int .i64 k,v,.agg (x.cells (.slice none 0 0))] w (OwnEnd t w):=by
 obtain ⟨p,cap,rfl,hlen⟩:=hs.slice
 have hs:TreesAt w B (.slice p 1 cap) [t]:=hs
 obtain ⟨b1,o1,s1,rfl,-,t1,sub1⟩:=hs.get (i:=0) (t:=t) rfl
 have t1':TenAt w b1 o1 t s1:=by simpa using t1
 have HC:=Lib.hid (fun w9 (hb:Below w.heap.size w w9)=>copy_any t w9 B _ ⟨s1,rfl,sub1.later hb⟩)
 have hb0:Below w.heap.size w ((w.alloc (.cells (x.cells (.slice none 0 0)) 28)).alloc (.cells noNode 28)):=by go_grown
 have T1:=Lib.hid (t1'.keep (hb0.block _ t1'.lt))
 have hz1:=(two_new w (.cells (x.cells (.slice none 0 0)) 28) (.cells noNode 28)).2
 have Z1:=Lib.hid hz1;have HB1:=Lib.hid hb0
 have hs1:((w.alloc (.cells (x.cells (.slice none 0 0)) 28)).alloc (.cells noNode 28)).heap.size=w.heap.size+2:=by simp
 unfold Tr.cells at *
 simp only [List.length_singleton]
 obtain ⟨d0,d1,d2,d3,d4,d5,d6,d7,d8,d9⟩:=T1.out
 clear hs t1 t1' sub1 hlen hb0 hz1 hs1
 go_enter Tryz.func91,Tryz.ntmps91
 go_wp2_with fail
 clear d0 d1 d2 d3 d4 d5 d6 d7 d8 d9
 refine (HC.out _ HB1.out).mono ?_
 rintro e w2 ⟨s2,F,rfl,ho,hF,hb2⟩
 obtain ⟨p2,c2,rfl,hl2⟩:=ho.slice
 have HO:=Lib.hid ho;have HF:=Lib.hid hF
 have Y1:=Lib.hid (keep_blk hb2 Z1.out)
 have HB2:=Lib.hid (HB1.out.trans (hb2.mono HB1.out.size))
 clear ho hF hb2 Z1 HB1
 go_wp2_with (first
   | (refine wpList_store_row rfl 28 (.tmp 6) (.tmp 17) rfl (w.heap.size+1) #[.int .i64 t.kind,.int .u64 (Oc.U t.w0),.int .u64 (Oc.U t.w1),.int .u64 (Oc.U t.w2),.int .u64 (Oc.U t.w3),.slice p2 t.subs.length c2,.int .i64 t.num,.int .i64 t.least,.int .i64 t.most,.bool t.bare] rfl rfl 28 _ Y1.out (by kernel_rfl) rfl (by simp [Value.oneCell']) ?_)
   | fail)
 refine bodyPost_ret (results_cell_row rfl _ _ (w.heap.size+1) 28 #[.int .i64 t.kind,.int .u64 (Oc.U t.w0),.int .u64 (Oc.U t.w1),.int .u64 (Oc.U t.w2),.int .u64 (Oc.U t.w3),.slice p2 t.subs.length c2,.int .i64 t.num,.int .i64 t.least,.int .i64 t.most,.bool t.bare] (0,0) _ rfl (heap_setRow Y1.out) Tryz.underlying28 rfl (by kernel_rfl)) rfl ⟨.slice p2 t.subs.length c2,F,rfl, ?_, ?_, ?_⟩
 · exact HO.out.keep fun b hb=>by have:=HF.out b hb;rw [heap_setRow_other _ _ _ (by simp at this;omega)]
 · intro b hb;have:=HF.out b hb;simp at this;omega
 · exact below_setRow HB2.out (Nat.le_succ _) _
theorem joined_nil (k:Int) (x:Tr) (w:World) (p:Option Addr) (cap:Nat) (hx:x.subs=[]) :
   Calls Tryz.prog 91 #[.int .i64 k,.slice p 0 cap,.agg (x.cells (.slice none 0 0))] w (OwnEnd x w):=by
 have z0:=(two_new w (.cells (x.cells (.slice none 0 0)) 28) (.cells noNode 28)).1
 have z1:=(two_new w (.cells (x.cells (.slice none 0 0)) 28) (.cells noNode 28)).2
 have Z0:=Lib.hid z0;have Z1:=Lib.hid z1;have HX:=Lib.hid hx
 clear z0 z1 hx
 unfold Tr.cells at *
 go_enter Tryz.func91,Tryz.ntmps91
 go_wp2_with (first
   | (refine wpList_load_row rfl 28 (.tmp 5) rfl w.heap.size rfl 28 _ (0,0) _ Z0.out Tryz.underlying28 rfl (by kernel_rfl) ?_)
   | (refine wpList_store_row rfl 28 (.tmp 6) (.tmp 11) rfl (w.heap.size+1) #[.int .i64 x.kind,.int .u64 (Oc.U x.w0),.int .u64 (Oc.U x.w1),.int .u64 (Oc.U x.w2),.int .u64 (Oc.U x.w3),.slice none 0 0,.int .i64 x.num,.int .i64 x.least,.int .i64 x.most,.bool x.bare] rfl rfl 28 _ Z1.out (by kernel_rfl) rfl (by simp [Value.oneCell']) ?_)
   | fail)
 refine bodyPost_ret (results_cell_row rfl _ _ (w.heap.size+1) 28 #[.int .i64 x.kind,.int .u64 (Oc.U x.w0),.int .u64 (Oc.U x.w1),.int .u64 (Oc.U x.w2),.int .u64 (Oc.U x.w3),.slice none 0 0,.int .i64 x.num,.int .i64 x.least,.int .i64 x.most,.bool x.bare] (0,0) _ rfl (heap_setRow Z1.out) Tryz.underlying28 rfl (by kernel_rfl)) rfl ⟨.slice none 0 0,[],rfl, ?_, ?_, ?_⟩
 · rw [HX.out];exact .nil _ _
 · intro b hb;cases hb
 · exact below_setRow (by go_grown) (Nat.le_succ _) _
theorem joined_any (k:Int) (ts:List Tr) (x:Tr) (hx:x.subs=[]) (w:World) (B:Nat→Prop) (v:Value) (hs:TreesAt w B v ts) (h0:ts=[]→x=.leaf 1) :
   Calls Tryz.prog 91 #[.int .i64 k,v,.agg (x.cells (.slice none 0 0))] w (OwnEnd (.several k ts) w):=by
 match ts,hs,h0 with
 | [],hs,h0 =>
   obtain ⟨p,cap,rfl,-⟩:=hs.slice
   obtain rfl:=h0 rfl
   exact joined_nil k _ w p cap rfl
 | [t],hs,_=>exact joined_one k t x w B v hs
 | a :: b :: r,hs,_=>exact joined_many k (a :: b :: r) (by simp) x w B v hs
theorem seq_any (ts:List Tr) (w:World) (B:Nat→Prop) (v:Value) (hs:TreesAt w B v ts):Calls Tryz.prog 53 #[v] w (OwnEnd (.several 5 ts) w):=by
 have HC:=Lib.hid (fun w9 (hb:Below w.heap.size w w9)=>joined_any 5 ts (.leaf 1) rfl w9 B _ (hs.later hb) (fun _=>rfl))
 obtain ⟨p,cap,rfl,hlen⟩:=hs.slice
 simp only [Tr.leaf,Tr.cells,Tr.kind,Tr.w0,Tr.w1,Tr.w2,Tr.w3,Tr.num,Tr.least,Tr.most,Tr.bare,u0] at HC
 clear hs
 go_enter Tryz.func53,Tryz.ntmps53
 go_wp2_with fail
 have z0:=heap_alloc_new w (.cells noNode 28)
 have Z0:=Lib.hid z0
 clear z0
 refine (HC.out _ ((Below.refl _ _).alloc (Nat.le_refl _) _)).mono ?_
 rintro e w2 ⟨s2,F,rfl,ho,hF,hb2⟩
 obtain ⟨p2,c2,rfl,hl2⟩:=ho.slice
 have HO:=Lib.hid ho;have HF:=Lib.hid hF
 have Y0:=Lib.hid (keep_blk hb2 Z0.out)
 have HB2:=Lib.hid (((Below.refl w.heap.size w).alloc (Nat.le_refl _) (.cells noNode 28)).trans (hb2.mono (by simp)))
 generalize Tr.several 5 ts=t at *
 clear ho hF hb2
 unfold Tr.cells
 go_wp2_with (first
   | (refine wpList_store_row rfl 28 (.tmp 2) (.tmp 5) rfl w.heap.size #[.int .i64 t.kind,.int .u64 (Oc.U t.w0),.int .u64 (Oc.U t.w1),.int .u64 (Oc.U t.w2),.int .u64 (Oc.U t.w3),.slice p2 t.subs.length c2,.int .i64 t.num,.int .i64 t.least,.int .i64 t.most,.bool t.bare] rfl rfl 28 _ Y0.out (by kernel_rfl) rfl (by simp [Value.oneCell']) ?_)
   | fail)
 refine bodyPost_ret (results_cell_row rfl _ _ w.heap.size 28 #[.int .i64 t.kind,.int .u64 (Oc.U t.w0),.int .u64 (Oc.U t.w1),.int .u64 (Oc.U t.w2),.int .u64 (Oc.U t.w3),.slice p2 t.subs.length c2,.int .i64 t.num,.int .i64 t.least,.int .i64 t.most,.bool t.bare] (0,0) _ rfl (heap_setRow Y0.out) Tryz.underlying28 rfl (by kernel_rfl)) rfl ⟨.slice p2 t.subs.length c2,F,rfl, ?_, ?_, ?_⟩
 · exact HO.out.keep fun b hb=>by have:=HF.out b hb;rw [heap_setRow_other _ _ _ (by simp at this;omega)]
 · intro b hb;have:=HF.out b hb;simp at this;omega
 · exact below_setRow HB2.out (Nat.le_refl _) _
theorem bytes_is (a b c d:BitVec 64) (w:World):Calls Tryz.prog 51 #[(.agg #[.int .u64 (Oc.U a),.int .u64 (Oc.U b),.int .u64 (Oc.U c),.int .u64 (Oc.U d)])] w fun e w'=>e=.returned (.agg #[.int .i64 2,.int .u64 (Oc.U a),.int .u64 (Oc.U b),.int .u64 (Oc.U c),.int .u64 (Oc.U d),.slice none 0 0,.int .i64 0,.int .i64 0,.int .i64 0,.bool false])∧Below w.heap.size w w':=by
 have z0:=(two_new w (.cells #[.int .u64 (Oc.U a),.int .u64 (Oc.U b),.int .u64 (Oc.U c),.int .u64 (Oc.U d)] 25) (.cells noNode 28)).1
 have z1:=(two_new w (.cells #[.int .u64 (Oc.U a),.int .u64 (Oc.U b),.int .u64 (Oc.U c),.int .u64 (Oc.U d)] 25) (.cells noNode 28)).2
 have Z0:=Lib.hid z0;have Z1:=Lib.hid z1
 clear z0 z1
 go_enter Tryz.func51,Tryz.ntmps51
 go_wp2_with (first
   | (refine wpList_load_row rfl 25 (.tmp 1) rfl w.heap.size rfl 25 _ (0,0) _ Z0.out Tryz.underlying25 rfl (by kernel_rfl) ?_)
   | (refine wpList_store_row rfl 28 (.tmp 2) (.tmp 4) rfl (w.heap.size+1) #[.int .i64 2,.int .u64 (Oc.U a),.int .u64 (Oc.U b),.int .u64 (Oc.U c),.int .u64 (Oc.U d),.slice none 0 0,.int .i64 0,.int .i64 0,.int .i64 0,.bool false] rfl rfl 28 _ Z1.out (by kernel_rfl) rfl (by simp [Value.oneCell']) ?_)
   | fail)
 exact bodyPost_ret (results_cell_row rfl _ _ (w.heap.size+1) 28 #[.int .i64 2,.int .u64 (Oc.U a),.int .u64 (Oc.U b),.int .u64 (Oc.U c),.int .u64 (Oc.U d),.slice none 0 0,.int .i64 0,.int .i64 0,.int .i64 0,.bool false] (0,0) _ rfl (heap_setRow Z1.out) Tryz.underlying28 rfl (by kernel_rfl)) rfl ⟨rfl,below_setRow (by go_grown) (Nat.le_succ _) _⟩
theorem one_list {w:World} {B:Nat→Prop} {t:Tr} {s:Value} (hs:TreesAt w B s t.subs) (ty:TypeId) (g:Nat) (hg:w.heap.size=g):TreesAt (w.alloc (.cells (t.cells s) ty)) (fun b=>B b ∨ b=w.heap.size) (.slice (some ⟨g,0,none⟩) 1 1) [t]:=by
 subst hg
 have hb:Below w.heap.size w (w.alloc (.cells (t.cells s) ty)):=(Below.refl _ _).alloc (Nat.le_refl _) _
 have hc:∀ j,(w.alloc (.cells (t.cells s) ty)).cell? ⟨w.heap.size,j,none⟩=(t.cells s)[j]?:=cell_new w _ ty
 refine .mk (some ⟨w.heap.size,0,none⟩) 1 [t] (fun _=>s) (by simp) (fun i u hi=>?_) (fun i u hi=>?_)
 · match i,hi with
   | 0,hi =>
     obtain rfl:t=u:=Option.some.inj hi
     exact ⟨w.heap.size,0,rfl,.inr rfl,⟨hc 0,hc 1,hc 2,hc 3,hc 4,hc 5,hc 6,hc 7,hc 8,hc 9⟩⟩
 · match i,hi with
   | 0,hi =>
     obtain rfl:t=u:=Option.some.inj hi
     exact (hs.later hb).mono fun b _ h=>.inl h
theorem group_any (t:Tr) (n:Int) (w:World) (B:Nat→Prop) (v:Value) (hv:NodeV w B v t):Calls Tryz.prog 34 #[.int .i64 n,v] w (OwnEnd (.grp n t) w):=by
 obtain ⟨s,rfl,hs⟩:=hv
 obtain ⟨p,cap,rfl,hlen⟩:=hs.slice
 have hb1:Below w.heap.size w ((w.alloc (.cells (t.cells (.slice p t.subs.length cap)) 28)).alloc (.cells noNode 28)):=by go_grown
 have z0:=(two_new w (.cells (t.cells (.slice p t.subs.length cap)) 28) (.cells noNode 28)).1
 have z1:=(two_new w (.cells (t.cells (.slice p t.subs.length cap)) 28) (.cells noNode 28)).2
 have HC:=Lib.hid (copies_any [t] _ _ _ (one_list (hs.later hb1) 28 (w.heap.size+1+1) (by simp)))
 have HB1:=Lib.hid (hb1.alloc hb1.size (.cells (t.cells (.slice p t.subs.length cap)) 28))
 have Z0:=Lib.hid z0;have Z1:=Lib.hid (heap_alloc_lt (o:=.cells (t.cells (.slice p t.subs.length cap)) 28) z1)
 clear hs hb1 z0 z1
 unfold Tr.cells at *
 go_enter Tryz.func34,Tryz.ntmps34
 go_wp2_with (first
   | (refine wpList_load_row rfl 28 (.tmp 3) rfl w.heap.size rfl 28 _ (0,0) _ Z0.out Tryz.underlying28 rfl (by kernel_rfl) ?_)
   | (refine wpList_node1 rfl (.tmp 6) t p t.subs.length cap rfl rfl ?_)
   | fail)
 unfold Tr.cells
 refine HC.out.mono ?_
 rintro e w2 ⟨s2,F,rfl,ho,hF,hb2⟩
 obtain ⟨p2,c2,rfl,hl2⟩:=ho.slice
 have HO:=Lib.hid ho;have HF:=Lib.hid hF
 have Y1:=Lib.hid (keep_blk hb2 Z1.out)
 have HB2:=Lib.hid (HB1.out.trans (hb2.mono HB1.out.size))
 clear ho hF hb2 Z0 Z1 HB1
 simp only [List.length_singleton]
 go_wp2_with (first
   | (refine wpList_store_row rfl 28 (.tmp 4) (.tmp 9) rfl (w.heap.size+1) #[.int .i64 7,.int .u64 0,.int .u64 0,.int .u64 0,.int .u64 0,.slice p2 1 c2,.int .i64 n,.int .i64 0,.int .i64 0,.bool false] rfl rfl 28 _ Y1.out (by kernel_rfl) rfl (by simp [Value.oneCell']) ?_)
   | fail)
 refine bodyPost_ret (results_cell_row rfl _ _ (w.heap.size+1) 28 #[.int .i64 7,.int .u64 0,.int .u64 0,.int .u64 0,.int .u64 0,.slice p2 1 c2,.int .i64 n,.int .i64 0,.int .i64 0,.bool false] (0,0) _ rfl (heap_setRow Y1.out) Tryz.underlying28 rfl (by kernel_rfl)) rfl ⟨.slice p2 1 c2,F,rfl, ?_, ?_, ?_⟩
 · exact HO.out.keep fun b hb=>by have:=HF.out b hb;rw [heap_setRow_other _ _ _ (by simp at this;omega)]
 · intro b hb;have:=HF.out b hb;simp at this;omega
 · exact below_setRow HB2.out (Nat.le_succ _) _
theorem rep_any (t:Tr) (lo hi:Int) (w:World) (B:Nat→Prop) (v:Value) (hv:NodeV w B v t):Calls Tryz.prog 33 #[v,.int .i64 lo,.int .i64 hi] w (OwnEnd (.rep lo hi t) w):=by
 obtain ⟨s,rfl,hs⟩:=hv
 obtain ⟨p,cap,rfl,hlen⟩:=hs.slice
 have hb1:Below w.heap.size w ((w.alloc (.cells (t.cells (.slice p t.subs.length cap)) 28)).alloc (.cells noNode 28)):=by go_grown
 have z0:=(two_new w (.cells (t.cells (.slice p t.subs.length cap)) 28) (.cells noNode 28)).1
 have z1:=(two_new w (.cells (t.cells (.slice p t.subs.length cap)) 28) (.cells noNode 28)).2
 have HC:=Lib.hid (copies_any [t] _ _ _ (one_list (hs.later hb1) 28 (w.heap.size+1+1) (by simp)))
 have HB1:=Lib.hid (hb1.alloc hb1.size (.cells (t.cells (.slice p t.subs.length cap)) 28))
 have Z0:=Lib.hid z0;have Z1:=Lib.hid (heap_alloc_lt (o:=.cells (t.cells (.slice p t.subs.length cap)) 28) z1)
 clear hs hb1 z0 z1
 unfold Tr.cells at *
 go_enter Tryz.func33,Tryz.ntmps33
 go_wp2_with (first
   | (refine wpList_load_row rfl 28 (.tmp 3) rfl w.heap.size rfl 28 _ (0,0) _ Z0.out Tryz.underlying28 rfl (by kernel_rfl) ?_)
   | (refine wpList_node1 rfl (.tmp 9) t p t.subs.length cap rfl rfl ?_)
   | fail)
 unfold Tr.cells
 refine HC.out.mono ?_
 rintro e w2 ⟨s2,F,rfl,ho,hF,hb2⟩
 obtain ⟨p2,c2,rfl,hl2⟩:=ho.slice
 have HO:=Lib.hid ho;have HF:=Lib.hid hF
 have Y1:=Lib.hid (keep_blk hb2 Z1.out)
 have HB2:=Lib.hid (HB1.out.trans (hb2.mono HB1.out.size))
 clear ho hF hb2 Z0 Z1 HB1
 simp only [List.length_singleton]
 go_wp2_with (first
   | (refine wpList_store_row rfl 28 (.tmp 6) (.tmp 12) rfl (w.heap.size+1) #[.int .i64 8,.int .u64 0,.int .u64 0,.int .u64 0,.int .u64 0,.slice p2 1 c2,.int .i64 0,.int .i64 lo,.int .i64 hi,.bool false] rfl rfl 28 _ Y1.out (by kernel_rfl) rfl (by simp [Value.oneCell']) ?_)
   | fail)
 refine bodyPost_ret (results_cell_row rfl _ _ (w.heap.size+1) 28 #[.int .i64 8,.int .u64 0,.int .u64 0,.int .u64 0,.int .u64 0,.slice p2 1 c2,.int .i64 0,.int .i64 lo,.int .i64 hi,.bool false] (0,0) _ rfl (heap_setRow Y1.out) Tryz.underlying28 rfl (by kernel_rfl)) rfl ⟨.slice p2 1 c2,F,rfl, ?_, ?_, ?_⟩
 · exact HO.out.keep fun b hb=>by have:=HF.out b hb;rw [heap_setRow_other _ _ _ (by simp at this;omega)]
 · intro b hb;have:=HF.out b hb;simp at this;omega
 · exact below_setRow HB2.out (Nat.le_succ _) _
end Go.Proofs.YtfcilopifjddpaaGreatDoor
namespace Go.Proofs.YtfcilopifjddpaaGreatDoor
open Go.RowKit
namespace Tr
def fieldsOk (t:Tr):Prop :=
 ((t.kind=1 ∨ t.kind=3 ∨ t.kind=4)∧t.w0=0#64∧t.w1=0#64∧t.w2=0#64∧t.w3=0#64∧t.subs=[]∧t.num=0∧t.least=0∧t.most=0∧t.bare=false) ∨
 (t.kind=2∧t.subs=[]∧t.num=0∧t.least=0∧t.most=0∧t.bare=false) ∨
 ((t.kind=5 ∨ t.kind=6)∧t.w0=0#64∧t.w1=0#64∧t.w2=0#64∧t.w3=0#64∧2 ≤ t.subs.length∧t.num=0∧t.least=0∧t.most=0∧t.bare=false) ∨
 (t.kind=7∧t.w0=0#64∧t.w1=0#64∧t.w2=0#64∧t.w3=0#64∧t.subs.length=1∧1 ≤ t.num∧t.num ≤ 999∧t.least=0∧t.most=0∧t.bare=false) ∨
 (t.kind=8∧t.w0=0#64∧t.w1=0#64∧t.w2=0#64∧t.w3=0#64∧t.subs.length=1∧t.num=0∧0 ≤ t.least∧t.least ≤ 255∧(t.most = -1 ∨ (t.least ≤ t.most∧t.most ≤ 255))∧(t.bare=true→t.least=0))
inductive InForm:Tr→Prop
 | mk (t:Tr) (h:fieldsOk t) (hs:∀ u,u ∈ t.subs→InForm u):InForm t
theorem InForm.fields {t:Tr} (h:InForm t):fieldsOk t:=by cases h;assumption
theorem InForm.sub {t u:Tr} (h:InForm t) (hu:u ∈ t.subs):InForm u:=by cases h with | mk _ _ hs=>exact hs u hu
def sat (n:Nat):Nat:=min 2001 n
theorem sat_sat (a b:Nat):sat (sat a+b)=sat (a+b):=by unfold sat;omega
theorem sat_le (a:Nat):sat a ≤ 2001:=by unfold sat;omega
def repSz (lo hi:Int) (n:Nat):Nat :=
 if hi=0 then 1
 else if lo=1∧hi=1 then n
 else if lo=0∧(hi=1 ∨ hi = -1) then sat (1+n)
 else if hi = -1 then sat (1+lo.toNat * n+(1+n))
 else sat (1+lo.toNat * n+(hi - lo).toNat * (1+n))
mutual
def szT:Tr→Nat
 | .node k _ _ _ _ s _ lo hi _=>if k=8 then repSz lo hi (szH s) else sat (1+szS s)
def szS:List Tr→Nat
 | []=>0
 | t :: l=>szT t+szS l
def szH:List Tr→Nat
 | []=>0
 | t :: _=>szT t
end
theorem repSz_le {lo hi:Int} {n:Nat} (h:n ≤ 2001):repSz lo hi n ≤ 2001:=by
 unfold repSz
 split
 · omega
 split
 · exact h
 split
 · exact sat_le _
 split <;> exact sat_le _
theorem szT_le:∀ t:Tr,szT t ≤ 2001:=by
 intro t
 induction t using Tr.rec_subs with
 | h t ih =>
   cases t with
   | node k a b c d s n lo hi br =>
     rw [szT]
     split
     · refine repSz_le ?_
       cases s with
       | nil=>simp [szH]
       | cons x l=>rw [szH];exact ih x (by simp [subs])
     · exact sat_le _
theorem szS_append:∀ (l m:List Tr),szS (l ++ m)=szS l+szS m
 | [],m=>by simp [szS]
 | t :: l,m=>by rw [List.cons_append,szS,szS,szS_append l m];omega
theorem szS_take (l:List Tr) (m:Nat) (x:Tr) (h:l[m]? = some x):szS (l.take (m+1))=szS (l.take m)+szT x:=by
 rw [List.take_add_one,h,Option.toList_some,szS_append,szS,szS];rfl
end Tr
theorem trcount_any (a b:Nat) (ha:a ≤ 2001) (hb:b ≤ 2002) (x y:Int) (hx:x=a) (hy:y=b) (w:World):Calls Tryz.prog 118 #[.int .i64 x,.int .i64 y] w fun e w'=>e=.returned (.int .i64 (Tr.sat (a+b):Nat))∧w=w':=by
 subst hx hy
 have hw:IntKind.i64.wrap ((a:Int)+b)=(a:Int)+b:=IntWalk.i64_in _ (by omega)
 go_enter Tryz.func118,Tryz.ntmps118
 go_wp2
 all_goals
   go_ret
   exact ⟨ret_int (by unfold Tr.sat;omega),rfl⟩
theorem box5 {w:World} {b:Nat} {t:Tr} {s:Value} {ty:TypeId} (h:w.heap[b]? = some (.cells (t.cells s) ty)) :
   w.cell? ⟨b,0,none⟩=some (.int .i64 t.kind)∧w.cell? ⟨b,4+1,none⟩=some s∧w.cell? ⟨b,5,none⟩=some s∧w.cell? ⟨b,7,none⟩=some (.int .i64 t.least)∧w.cell? ⟨b,8,none⟩=some (.int .i64 t.most):=by
 simp [World.cell?,h,Tr.cells]
def SizeEnd (n:Nat) (w:World) (e:Ending) (w':World):Prop:=e=.returned (.int .i64 n)∧Below w.heap.size w w'
theorem refsize_seq (t:Tr) (ih:∀ u,u ∈ t.subs→u.InForm→∀ (w:World) (B:Nat→Prop) (v:Value),NodeV w B v u→Calls Tryz.prog 84 #[v] w (SizeEnd u.szT w)) (hf:t.InForm) (hk:t.kind ≠ 8)
   (w:World) (B:Nat→Prop) (v:Value) (hv:NodeV w B v t):Calls Tryz.prog 84 #[v] w (SizeEnd t.szT w):=by
 obtain ⟨s,rfl,hs⟩:=hv
 obtain ⟨p,cap,rfl,hlen⟩:=hs.slice
 have HE:=Lib.hid (show t.szT=Tr.sat (1+Tr.szS t.subs) by cases t;rw [Tr.szT];simp only [Tr.kind] at hk;rw [if_neg hk];rfl)
 have HF:=Lib.hid hf
 generalize hts:t.subs=ts at *
 have HTS:=Lib.hid hts;have IH:=Lib.hid ih;have HS:=Lib.hid hs
 have e8:(t.kind != 8)=true:=by simpa using hk
 clear ih hs hf hk hts
 unfold Tr.cells
 go_enter Tryz.func84,Tryz.ntmps84
 go_wp2
 go_loopw [3,4] (fun nv iv wr=>∃ m:Nat,iv=.int .i64 m∧m ≤ ts.length∧nv=.int .i64 (Tr.sat (1+Tr.szS (ts.take m)):Nat)∧Hid (Below w.heap.size w wr)∧w.heap.size < wr.heap.size∧Hid (wr.heap[w.heap.size]? = some (.cells (t.cells (.slice p ts.length cap)) 28))) (fun _ iv _=>ts.length - (intOf iv).toNat)
 case atStart=>exact ⟨0,rfl,Nat.zero_le _,rfl,Lib.hid (by go_grown),by simp,Lib.hid (heap_alloc_new _ _)⟩
 case round =>
   obtain ⟨m,rfl,hm,rfl,HB,hsz,Z0⟩:=hrel
   have wm:IntKind.i64.wrap ((m:Int)+1)=(m:Int)+1:=IntWalk.i64_in _ (by omega)
   obtain ⟨-,-,f5,-,-⟩:=box5 Z0.out
   by_cases hlt:m < ts.length
   · obtain ⟨x,hx⟩:∃ x,ts[m]? = some x:=⟨_,List.getElem?_eq_getElem hlt⟩
     obtain ⟨b1,o1,s1,rfl,-,t1,sub1⟩:=HS.out.get hx
     obtain ⟨d0,d1,d2,d3,d4,d5,d6,d7,d8,d9⟩:=t1.keep (HB.out.block _ t1.lt)
     have hmem:=List.mem_of_getElem? hx
     have HC:=Lib.hid (IH.out x hmem (HF.out.sub (by rw [HTS.out];exact hmem)) wr B (.agg (x.cells s1)) ⟨_,rfl,sub1.later HB.out⟩)
     have hle:=Tr.sat_le (1+Tr.szS (ts.take m));have hlx:=Tr.szT_le x
     have HST:=Lib.hid (Tr.szS_take ts m x hx)
     clear t1 sub1 hmem hx
     generalize hn:Tr.sat (1+Tr.szS (ts.take m))=n at *
     have HN:=Lib.hid hn
     clear hn
     unfold Tr.cells at HC
     go_wp2_with fail
     refine HC.out.mono ?_
     rintro e w2 ⟨rfl,hb2⟩
     have HB2:=Lib.hid (HB.out.trans (hb2.mono HB.out.size));have Z2:=Lib.hid (keep_blk hb2 Z0.out)
     have hsz2:w.heap.size < w2.heap.size:=Nat.lt_of_lt_of_le hsz hb2.size
     clear d0 d1 d2 d3 d4 d5 d6 d7 d8 d9 f5 hb2 HC
     go_wp2_with fail
     refine (trcount_any n x.szT hle (by omega) _ _ rfl rfl _).mono ?_
     rintro e w3 ⟨rfl,rfl⟩
     have hsum:Tr.sat (n+x.szT)=Tr.sat (1+Tr.szS (ts.take (m+1))):=by rw [← HN.out,Tr.sat_sat,HST.out];congr 1;omega
     rw [hsum]
     clear hsum
     go_wp2
     exact ⟨⟨m+1,by go_num,by omega,rfl,HB2,hsz2,Z2⟩,by simp [intOf];omega⟩
   · obtain rfl:m=ts.length:=by omega
     have HX:=Lib.hid (show Tr.sat (1+Tr.szS (ts.take ts.length))=t.szT by rw [List.take_length,HE.out])
     go_wp2
     go_ret
     exact ⟨ret_int (by rw [HX.out]),HB.out⟩
theorem refsize_rep (t x:Tr) (ih:∀ (w:World) (B:Nat→Prop) (v:Value),NodeV w B v x→Calls Tryz.prog 84 #[v] w (SizeEnd x.szT w)) (hsub:t.subs=[x]) (hk:t.kind=8) (h0:0 ≤ t.least) (h1:t.least ≤ 255) (h2:t.most = -1 ∨ (t.least ≤ t.most∧t.most ≤ 255))
   (w:World) (B:Nat→Prop) (v:Value) (hv:NodeV w B v t):Calls Tryz.prog 84 #[v] w (SizeEnd t.szT w):=by
 obtain ⟨s,rfl,hs⟩:=hv
 have hsz0:t.szT=Tr.repSz t.least t.most x.szT:=by
   cases t;simp only [Tr.kind,Tr.subs] at hk hsub;subst hk hsub;rw [Tr.szT,if_pos rfl,Tr.szH];rfl
 rw [hsub] at hs
 obtain ⟨p,cap,rfl,hlen⟩:=hs.slice
 have hs:TreesAt w B (.slice p 1 cap) [x]:=hs
 obtain ⟨b1,o1,s1,rfl,-,t1,sub1⟩:=hs.get (i:=0) (t:=x) rfl
 have HE:=Lib.hid hsz0
 have HC:=Lib.hid ih
 have t1':TenAt w b1 o1 x s1:=by simpa using t1
 have T1:=Lib.hid t1';have SUB:=Lib.hid sub1
 have e8:(t.kind != 8)=false:=by simpa using hk
 have hN:=Tr.szT_le x
 clear ih hs hk hsub hsz0 t1 t1' sub1 hlen
 obtain ⟨lo,hlo⟩:∃ lo:Nat,t.least=lo:=⟨t.least.toNat,by omega⟩
 rw [hlo] at h0 h1 h2
 by_cases hm0:t.most=0
 · have HX:=Lib.hid (show t.szT=1 by rw [HE.out];unfold Tr.repSz;rw [if_pos hm0])
   unfold Tr.cells
   rw [hm0]
   clear hlo hm0
   go_enter Tryz.func84,Tryz.ntmps84
   go_wp2
   go_ret
   exact ⟨ret_int (by rw [HX.out];rfl),by go_grown⟩
 · have em0:(t.most == 0)=false:=by simpa using hm0
   have HM:=Lib.hid hm0;have HLO:=Lib.hid hlo
   unfold Tr.cells
   clear hm0 hlo
   go_enter Tryz.func84,Tryz.ntmps84
   have d:=fun (o:Obj)=>T1.out.keep (w':=w.alloc o) (Below.heap_alloc w o b1 T1.out.lt)
   have e0:=fun o=>(d o).c0;have e1:=fun o=>(d o).c1;have e2:=fun o=>(d o).c2;have e3:=fun o=>(d o).c3;have e4:=fun o=>(d o).c4
   have e5:=fun o=>(d o).c5;have e6:=fun o=>(d o).c6;have e7:=fun o=>(d o).c7;have e8':=fun o=>(d o).c8;have e9:=fun o=>(d o).c9
   clear d
   go_wp2_with fail
   generalize hw1:World.alloc w _=w1
   have hb1:Below w.heap.size w w1:=by rw [← hw1];exact (Below.refl _ _).alloc (Nat.le_refl _) _
   have Z1:Hid (w1.heap[w.heap.size]? = some (.cells (t.cells (.slice (some ⟨b1,o1,none⟩) 1 cap)) 28)):=Lib.hid (by rw [← hw1];exact heap_alloc_new _ _)
   have hs1:w.heap.size < w1.heap.size:=by rw [← hw1];simp
   have hcall:=HC.out w1 B (.agg (x.cells s1)) ⟨_,rfl,SUB.out.later hb1⟩
   unfold Tr.cells at hcall
   have HB1:=Lib.hid hb1
   clear hw1 e0 e1 e2 e3 e4 e5 e6 e7 e8' e9 hb1
   refine hcall.mono ?_
   rintro e w2 ⟨rfl,hb2⟩
   have HB2:=Lib.hid (HB1.out.trans (hb2.mono HB1.out.size));have Z2:=Lib.hid (keep_blk hb2 Z1.out)
   have hs2:w.heap.size < w2.heap.size:=Nat.lt_of_lt_of_le hs1 hb2.size
   clear hb2 hcall HB1 Z1
   generalize hNe:x.szT=N at *
   clear hNe
   have hlo255:lo ≤ 255:=by omega
   go_wp2
   go_loopw [6,7,8] (fun pv nv iv wr=>∃ m:Nat,iv=.int .i64 m∧pv=.int .i64 m∧m ≤ lo∧nv=.int .i64 (Tr.sat (m * N):Nat)∧wr=w2) (fun _ _ iv _=>lo - (intOf iv).toNat)
   case atStart=>exact ⟨0,rfl,rfl,Nat.zero_le _,by simp [Tr.sat],rfl⟩
   case round =>
     obtain ⟨m,rfl,rfl,hm,rfl,rfl⟩:=hrel
     have wm:IntKind.i64.wrap ((m:Int)+1)=(m:Int)+1:=IntWalk.i64_in _ (by omega)
     obtain ⟨-,-,-,f7,f8⟩:=box5 Z2.out
     rw [HLO.out] at f7
     by_cases hlt:m < lo
     · have hsat:=Tr.sat_le (m * N)
       have HS:=Lib.hid (show Tr.sat (Tr.sat (m * N)+N)=Tr.sat ((m+1) * N) by rw [Tr.sat_sat,Nat.succ_mul])
       generalize Tr.sat (m * N)=n at *
       go_wp2_with fail
       refine (trcount_any n N hsat (by omega) _ _ rfl rfl _).mono ?_
       rintro e w3 ⟨rfl,rfl⟩
       rw [HS.out]
       go_wp2
       exact ⟨⟨m+1,by go_num,by go_num,by omega,rfl,trivial⟩,by simp [intOf];omega⟩
     · obtain rfl:m=lo:=by omega
       have hsat0:=Tr.sat_le (m * N)
       generalize hA:m * N=A at *
       have HA:=Lib.hid hA
       clear hA
       generalize hhi:t.most=hi at *
       have HHI:=Lib.hid hhi
       clear hhi
       obtain ⟨J,hJ⟩:∃ J:Nat,J=(hi - m).toNat:=⟨_,rfl⟩
       have HJ:=Lib.hid hJ
       have hJ2:J ≤ 255:=by omega
       clear hJ
       go_wp2
       go_loopw [6,7,9] (fun pv nv iv wz=>∃ j:Nat,iv=.int .i64 ((m+j:Nat):Int)∧pv=.int .i64 ((m+j:Nat):Int)∧j ≤ J∧nv=.int .i64 (Tr.sat (A+j * (N+1)):Nat)∧wz=wr) (fun _ _ iv _=>(m+J) - (intOf iv).toNat)
       case atStart=>exact ⟨0,rfl,rfl,Nat.zero_le _,by simp,rfl⟩
       case round =>
         obtain ⟨j,rfl,rfl,hj,rfl,rfl⟩:=hrel
         have wj:IntKind.i64.wrap (((m+j:Nat):Int)+1)=((m+j:Nat):Int)+1:=IntWalk.i64_in _ (by omega)
         have wj2:IntKind.i64.wrap ((m:Int)+j+1)=(m:Int)+j+1:=IntWalk.i64_in _ (by omega)
         obtain ⟨-,-,-,f7,f8⟩:=box5 Z2.out
         rw [HHI.out] at f8
         by_cases hjJ:j < J
         · have hd:decide (((m+j:Nat):Int) < hi)=true:=by have:=HJ.out;simp;omega
           have hd2:decide ((m:Int)+j < hi)=true:=by have:=HJ.out;simp;omega
           have hsat:=Tr.sat_le (A+j * (N+1))
           have HS:=Lib.hid (show Tr.sat (Tr.sat (Tr.sat (A+j * (N+1))+N)+1)=Tr.sat (A+(j+1) * (N+1)) by rw [Tr.sat_sat,show Tr.sat (A+j * (N+1))+N+1=Tr.sat (A+j * (N+1))+(N+1) by omega,Tr.sat_sat,Nat.succ_mul,Nat.add_assoc])
           generalize Tr.sat (A+j * (N+1))=n at *
           go_wp2_with fail
           refine (trcount_any n N hsat (by omega) _ _ rfl rfl _).mono ?_
           rintro e w3 ⟨rfl,rfl⟩
           have hs2':=Tr.sat_le (n+N)
           generalize Tr.sat (n+N)=n2 at *
           go_wp2_with fail
           refine (trcount_any n2 1 hs2' (by omega) _ _ rfl rfl _).mono ?_
           rintro e w3 ⟨rfl,rfl⟩
           rw [HS.out]
           go_wp2
           exact ⟨⟨j+1,by go_num,by go_num,by omega,rfl,trivial⟩,by simp [intOf];omega⟩
         · obtain rfl:j=J:=by omega
           have hd:decide (((m+j:Nat):Int) < hi)=false:=by have:=HJ.out;simp;omega
           have hd2:decide ((m:Int)+j < hi)=false:=by have:=HJ.out;simp;omega
           have hsat:=Tr.sat_le (A+j * (N+1))
           by_cases hend:hi = -1
           · have hj0:j=0:=by have:=HJ.out;omega
             subst hj0
             have eend:(hi == -1)=true:=by simpa using hend
             have HS:=Lib.hid (show Tr.sat (Tr.sat (Tr.sat (A+0 * (N+1))+N)+1)=Tr.sat (A+N+1) by rw [Tr.sat_sat,show Tr.sat (A+0 * (N+1))+N+1=Tr.sat (A+0 * (N+1))+(N+1) by omega,Tr.sat_sat];congr 1;omega)
             generalize Tr.sat (A+0 * (N+1))=n at *
             go_wp2_with fail
             refine (trcount_any n N hsat (by omega) _ _ rfl rfl _).mono ?_
             rintro e w3 ⟨rfl,rfl⟩
             have hs2':=Tr.sat_le (n+N)
             generalize Tr.sat (n+N)=n2 at *
             go_wp2_with fail
             refine (trcount_any n2 1 hs2' (by omega) _ _ rfl rfl _).mono ?_
             rintro e w3 ⟨rfl,rfl⟩
             rw [HS.out]
             by_cases hm1:m=0
             · subst hm1
               have HX:=Lib.hid (show Tr.sat (A+N+1)=t.szT by
                 rw [HE.out,HLO.out];unfold Tr.repSz;rw [if_neg (by omega),if_neg (by omega),if_pos ⟨rfl,.inr hend⟩]
                 have:=HA.out;congr 1;omega)
               go_wp2
               go_ret
               exact ⟨ret_int (by rw [HX.out]),HB2.out⟩
             · have HX:=Lib.hid (show Tr.sat (Tr.sat (A+N+1)+1)=t.szT by
                 rw [HE.out,HLO.out];unfold Tr.repSz;rw [if_neg (by omega),if_neg (by omega),if_neg (by omega),if_pos hend,Tr.sat_sat]
                 have:=HA.out;congr 1;simp;omega)
               have hgt:decide ((1:Int) < (m:Int)+1)=true:=by simp;omega
               have hgt2:decide ((0:Int) < (m:Int))=true:=by simp;omega
               have hs3:=Tr.sat_le (A+N+1)
               generalize Tr.sat (A+N+1)=n3 at *
               go_wp2_with fail
               refine (trcount_any n3 1 hs3 (by omega) _ _ rfl rfl _).mono ?_
               rintro e w3 ⟨rfl,rfl⟩
               rw [HX.out]
               go_wp2
               go_ret
               exact ⟨rfl,HB2.out⟩
           · have eend:(hi == -1)=false:=by simpa using hend
             have hhim:(m:Int) ≤ hi:=by omega
             have hJm:((m+j:Nat):Int)=hi:=by have:=HJ.out;omega
             have hpos:1 ≤ m+j:=by have:=HM.out;omega
             by_cases h1':m+j=1
             · have HX:=Lib.hid (show Tr.sat (A+j * (N+1))=t.szT by
                 rw [HE.out,HLO.out];unfold Tr.repSz;rw [if_neg (by omega)]
                 have hA:=HA.out
                 by_cases hm1:m=1
                 · rw [if_pos ⟨by omega,by omega⟩]
                   have:j=0:=by omega
                   subst this hm1
                   unfold Tr.sat;omega
                 · have:m=0:=by omega
                   have:j=1:=by omega
                   subst this;subst m
                   rw [if_neg (by omega),if_pos ⟨rfl,.inl (by omega)⟩];congr 1;omega)
               have hgt:decide ((1:Int) < ((m+j:Nat):Int))=false:=by simp;omega
               have hgt2:decide ((1:Int) < (m:Int)+j)=false:=by simp;omega
               rw [HX.out]
               go_wp2
               go_ret
               exact ⟨rfl,HB2.out⟩
             · have HX:=Lib.hid (show Tr.sat (Tr.sat (A+j * (N+1))+1)=t.szT by
                 rw [HE.out,HLO.out];unfold Tr.repSz;rw [if_neg (by omega),if_neg (by omega),if_neg (by omega),if_neg (by omega),Tr.sat_sat]
                 have hA:=HA.out
                 have hjj:(hi - (m:Int)).toNat=j:=by omega
                 rw [hjj]
                 congr 1
                 rw [show ((m:Int)).toNat=m by simp,hA,Nat.add_comm 1 N]
                 omega)
               have hgt:decide ((1:Int) < ((m+j:Nat):Int))=true:=by simp;omega
               have hgt2:decide ((1:Int) < (m:Int)+j)=true:=by simp;omega
               generalize Tr.sat (A+j * (N+1))=n3 at *
               go_wp2_with fail
               refine (trcount_any n3 1 hsat (by omega) _ _ rfl rfl _).mono ?_
               rintro e w3 ⟨rfl,rfl⟩
               rw [HX.out]
               go_wp2
               go_ret
               exact ⟨rfl,HB2.out⟩
theorem refsize_any:∀ t:Tr,t.InForm→∀ (w:World) (B:Nat→Prop) (v:Value),NodeV w B v t→Calls Tryz.prog 84 #[v] w (SizeEnd t.szT w):=by
 intro t
 induction t using Tr.rec_subs with
 | h t ih =>
   intro hf w B v hv
   by_cases hk:t.kind=8
   · have hfl:=hf.fields
     unfold Tr.fieldsOk at hfl
     obtain ⟨-,-,-,-,-,hl,-,h0,h1,h2,-⟩:t.kind=8∧t.w0=0#64∧t.w1=0#64∧t.w2=0#64∧t.w3=0#64∧t.subs.length=1∧t.num=0∧0 ≤ t.least∧t.least ≤ 255∧(t.most = -1 ∨ (t.least ≤ t.most∧t.most ≤ 255))∧(t.bare=true→t.least=0):=by
       rcases hfl with h | h | h | h | h
       · omega
       · omega
       · omega
       · omega
       · exact h
     obtain ⟨x,hx⟩:=List.length_eq_one_iff.1 hl
     have hmem:x ∈ t.subs:=by rw [hx];exact List.mem_cons_self
     exact refsize_rep t x (fun w B v hv=>ih x hmem (hf.sub hmem) w B v hv) hx hk h0 h1 h2 w B v hv
   · exact refsize_seq t ih hf hk w B v hv
end Go.Proofs.YtfcilopifjddpaaGreatDoor
namespace Go.Proofs.YtfcilopifjddpaaGreatDoor
namespace Ep
inductive Out
 | ok (t:Tr) (i g:Nat)
 | err (c:Nat) (p:Int)
def one (ic:Bool) (b:Nat):Tr:=.bytes (if ic then Cl.fold (fun x=>x == b) else fun x=>x == b)
def dot (nl:Bool):Tr:=.bytes (if nl then fun x=>!(x == 10) else fun _=>true)
def find (f:Nat→Nat) (c:Nat):Nat→Nat→Option Nat
 | 0,_=>none
 | k+1,i=>if f i=c then some i else find f c k (i+1)
def digs (f:Nat→Nat):Nat→Nat→Nat→Option Nat
 | 0,_,a=>some a
 | k+1,i,a=>if 48 ≤ f i∧f i ≤ 57 then digs f k (i+1) (10 * a+(f i - 48)) else none
def num (f:Nat→Nat) (i e:Nat):Option Nat :=
 if e ≤ i ∨ i+3 < e then none else match digs f (e - i) i 0 with
 | some n=>if n ≤ 255 then some n else none
 | none=>none
def counts (f:Nat→Nat) (i e:Nat):Option (Int × Int) :=
 match find f 44 (e - i) i with
 | none=>match num f i e with
   | some n=>some (n,n)
   | none=>none
 | some m=>match num f i m with
   | none=>none
   | some a=>if m+1=e then some (a,-1) else match num f (m+1) e with
     | none=>none
     | some b=>if a ≤ b then some (a,b) else none
def counted (t:Tr) (a b:Int) (at_ next g:Nat):Out:=if 2000 < (Tr.rep a b t).szT then .err 10 at_ else .ok (.rep a b t) next g
def rep (f:Nat→Nat) (n:Nat) (t:Tr) (i g:Nat):Out :=
 if f i=42 then counted t 0 (-1) i (i+1) g
 else if f i=43 then counted t 1 (-1) i (i+1) g
 else if f i=63 then counted t 0 1 i (i+1) g
 else if f i=123 then match find f 125 (n - (i+1)) (i+1) with
   | none=>.err 3 i
   | some e=>match counts f (i+1) e with
     | none=>.err 4 i
     | some (a,b)=>counted t a b i (e+1) g
 else .ok t i g
def atom (f:Nat→Nat) (n:Nat) (ic nl:Bool) (H:Nat→Nat→Out) (i g:Nat):Out :=
 if f i=40 then H i g
 else if f i=91 then match Br.whole f n i ic nl with
   | .ok P j=>.ok (.bytes P) j g
   | .err c p=>.err c p
 else if f i=92 then (if Cl.cls 8 (f (i+1)) then .ok (one ic (f (i+1))) (i+2) g else .err 8 i)
 else if f i=46 then .ok (dot nl) (i+1) g
 else .ok (one ic (f i)) (i+1) g
def isRep (c:Nat):Bool:=c == 42 || c == 43 || c == 63 || c == 123
def piece (f:Nat→Nat) (n:Nat) (ic nl:Bool) (H:Nat→Nat→Out) (i g:Nat):Out :=
 if f i=94 then .ok (.leaf 3) (i+1) g
 else if f i=36 then .ok (.leaf 4) (i+1) g
 else if isRep (f i) then .err 9 i
 else match atom f n ic nl H i g with
 | .err c p=>.err c p
 | .ok t j g'=>rep f n t j g'
def branch (f:Nat→Nat) (n:Nat) (ic nl:Bool) (H:Nat→Nat→Out):Nat→List Tr→Nat→Nat→Out
 | 0,_,_,_=>.err 0 0
 | k+1,l,i,g =>
   if n ≤ i ∨ f i=124 ∨ f i=41 then .ok (.several 5 l) i g
   else match piece f n ic nl H i g with
   | .err c p=>.err c p
   | .ok t j g'=>branch f n ic nl H k (l ++ [t]) j g'
def alts (f:Nat→Nat) (n:Nat) (ic nl:Bool) (H:Nat→Nat→Out):Nat→List Tr→Nat→Nat→Out
 | 0,_,_,_=>.err 0 0
 | k+1,l,i,g =>
   match branch f n ic nl H (n+1) [] i g with
   | .err c p=>.err c p
   | .ok t j g'=>if f j=124 then alts f n ic nl H k (l ++ [t]) (j+1) g' else .ok (.several 6 (l ++ [t])) j g'
def group (f:Nat→Nat) (n:Nat) (ic nl:Bool):Nat→Nat→Nat→Out
 | 0,i,_=>.err 11 i
 | r+1,i,g=>match alts f n ic nl (group f n ic nl r) (n+1) [] (i+1) (g+1) with
   | .err c p=>.err c p
   | .ok t j g'=>if f j=41 then .ok (.grp (g+1:Nat) t) (j+1) g' else .err 2 i
def pat (f:Nat→Nat) (n:Nat) (ic nl:Bool) (r i g:Nat):Out:=alts f n ic nl (group f n ic nl r) (n+1) [] i g
def whole (f:Nat→Nat) (n:Nat) (ic nl:Bool):Out :=
 match pat f n ic nl 32 0 0 with
 | .err c p=>.err c p
 | .ok t j g=>if j < n then .err 2 j else if 2000 < t.szT then .err 10 n else .ok t j g
def parse (f:Nat→Nat) (n:Nat) (ic nl:Bool):Out:=if 1024 < n then .err 12 1024 else whole f n ic nl
theorem find_some {f:Nat→Nat} {c:Nat} : ∀ {k i e:Nat},find f c k i=some e→i ≤ e∧e < i+k∧f e=c∧∀ j,i ≤ j→j < e→f j ≠ c
 | 0,_,_,h=>by simp [find] at h
 | k+1,i,e,h=>by
   unfold find at h
   split at h
   · rename_i hc
     obtain rfl:=Option.some.inj h
     exact ⟨Nat.le_refl _,by omega,hc,fun j h1 h2=>by omega⟩
   · rename_i hc
     obtain ⟨h1,h2,h3,h4⟩:=find_some h
     refine ⟨by omega,by omega,h3,fun j h5 h6=>?_⟩
     by_cases e:j=i
     · subst e;exact hc
     · exact h4 j (by omega) h6
theorem find_none {f:Nat→Nat} {c:Nat} : ∀ {k i:Nat},find f c k i=none→∀ j,i ≤ j→j < i+k→f j ≠ c
 | 0,_,_,j,h1,h2=>by omega
 | k+1,i,h,j,h1,h2=>by
   unfold find at h
   split at h
   · cases h
   · rename_i hc
     by_cases e:j=i
     · subst e;exact hc
     · exact find_none h j (by omega) (by omega)
theorem num_le {f:Nat→Nat} {i e m:Nat} (h:num f i e=some m):m ≤ 255:=by
 unfold num at h
 split at h
 · cases h
 · split at h
   · split at h
     · rename_i h1;obtain rfl:=Option.some.inj h;exact h1
     · cases h
   · cases h
theorem counts_ok {f:Nat→Nat} {i e:Nat} {a b:Int} (h:counts f i e=some (a,b)):0 ≤ a∧a ≤ 255∧(b = -1 ∨ (a ≤ b∧b ≤ 255)):=by
 unfold counts at h
 split at h
 · split at h
   · rename_i m hm
     have:=num_le hm
     simp only [Option.some.injEq,Prod.mk.injEq] at h
     obtain ⟨rfl,rfl⟩:=h
     omega
   · cases h
 · split at h
   · cases h
   · rename_i a' ha
     have:=num_le ha
     split at h
     · simp only [Option.some.injEq,Prod.mk.injEq] at h
       obtain ⟨rfl,rfl⟩:=h
       omega
     · split at h
       · cases h
       · rename_i b' hb
         have:=num_le hb
         split at h
         · simp only [Option.some.injEq,Prod.mk.injEq] at h
           obtain ⟨rfl,rfl⟩:=h
           omega
         · cases h
theorem counted_ok {t u:Tr} {a b:Int} {p q g j g':Nat} (h:counted t a b p q g=.ok u j g'):u=.rep a b t∧j=q∧g'=g:=by
 unfold counted at h
 split at h
 · cases h
 · injection h with h1 h2 h3;exact ⟨h1.symm,h2.symm,h3.symm⟩
theorem rep_ok {f:Nat→Nat} {n i g j g':Nat} {t u:Tr} (h:rep f n t i g=.ok u j g') (hf:Br.Txt f n) (hi:i ≤ n) :
   i ≤ j∧j ≤ n∧g'=g∧(u=t ∨ ∃ a b,u=.rep a b t∧0 ≤ a∧a ≤ 255∧(b = -1 ∨ (a ≤ b∧b ≤ 255))):=by
 unfold rep at h
 split at h
 · rename_i hc
   have:=hf.lt hc (by omega)
   obtain ⟨rfl,rfl,rfl⟩:=counted_ok h
   exact ⟨by omega,by omega,rfl,.inr ⟨_,_,rfl,by omega⟩⟩
 split at h
 · rename_i hc
   have:=hf.lt hc (by omega)
   obtain ⟨rfl,rfl,rfl⟩:=counted_ok h
   exact ⟨by omega,by omega,rfl,.inr ⟨_,_,rfl,by omega⟩⟩
 split at h
 · rename_i hc
   have:=hf.lt hc (by omega)
   obtain ⟨rfl,rfl,rfl⟩:=counted_ok h
   exact ⟨by omega,by omega,rfl,.inr ⟨_,_,rfl,by omega⟩⟩
 split at h
 · split at h
   · cases h
   · rename_i e he
     obtain ⟨h1,h2,h3,-⟩:=find_some he
     split at h
     · cases h
     · rename_i a b hab
       obtain ⟨rfl,rfl,rfl⟩:=counted_ok h
       exact ⟨by omega,by omega,rfl,.inr ⟨_,_,rfl,counts_ok hab⟩⟩
 · injection h with h1 h2 h3
   subst h1 h2 h3
   exact ⟨Nat.le_refl _,hi,rfl,.inl rfl⟩
theorem whole_next {f:Nat→Nat} {n a j:Nat} {ic nl:Bool} {P:Nat→Bool} (hf:Br.Txt f n) (ha:a < n) (h:Br.whole f n a ic nl=.ok P j):a < j∧j ≤ n:=by
 unfold Br.whole at h
 simp only at h
 generalize hi:(if f (a+1) == 94 then a+2 else a+1)=i at h
 have hi1:a+1 ≤ i:=by rw [← hi];split <;> omega
 have hi2:i ≤ n:=by
   rw [← hi];split
   · rename_i hc;have:=hf.lt (beq_iff_eq.1 hc) (by omega);omega
   · omega
 cases hr:Br.items f n a (n+1) i (fun _=>false) false with
 | err c p=>rw [hr] at h;cases h
 | ok Q j' =>
   rw [hr] at h
   unfold Br.ends at h
   injection h with h1 h2
   obtain ⟨-,h3,h4,-⟩:=Br.items_ok hf hi2 hr
   simp only [Bool.false_eq_true,if_false] at h4
   omega
def Ahead (n:Nat) (H:Nat→Nat→Out):Prop:=∀ i g t j g',i < n→H i g=.ok t j g'→i < j∧j ≤ n
theorem atom_next {f:Nat→Nat} {n i g j g':Nat} {ic nl:Bool} {H:Nat→Nat→Out} {t:Tr} (hf:Br.Txt f n) (hH:Ahead n H) (hi:i < n) (h:atom f n ic nl H i g=.ok t j g'):i < j∧j ≤ n:=by
 unfold atom at h
 split at h
 · exact hH i g t j g' hi h
 split at h
 · cases hw:Br.whole f n i ic nl with
   | err c p=>rw [hw] at h;cases h
   | ok P k =>
     rw [hw] at h
     injection h with h1 h2 h3
     subst h2
     exact whole_next hf hi hw
 split at h
 · split at h
   · rename_i hc
     injection h with h1 h2 h3
     have:i+1 < n:=by
       by_cases hl:i+1 < n
       · exact hl
       · rw [hf.2 (i+1) (by omega)] at hc;exact absurd hc (by decide)
     omega
   · cases h
 split at h
 · injection h with h1 h2 h3;omega
 · injection h with h1 h2 h3;omega
theorem piece_next {f:Nat→Nat} {n i g j g':Nat} {ic nl:Bool} {H:Nat→Nat→Out} {t:Tr} (hf:Br.Txt f n) (hH:Ahead n H) (hi:i < n) (h:piece f n ic nl H i g=.ok t j g'):i < j∧j ≤ n:=by
 unfold piece at h
 split at h
 · injection h with h1 h2 h3;omega
 split at h
 · injection h with h1 h2 h3;omega
 split at h
 · cases h
 cases ha:atom f n ic nl H i g with
 | err c p=>rw [ha] at h;cases h
 | ok u k g2 =>
   rw [ha] at h
   have h1:=atom_next hf hH hi ha
   have h2:=rep_ok h hf h1.2
   omega
theorem branch_next {f:Nat→Nat} {n:Nat} {ic nl:Bool} {H:Nat→Nat→Out} (hf:Br.Txt f n) (hH:Ahead n H):∀ {k:Nat} {l:List Tr} {i g j g':Nat} {t:Tr},i ≤ n→branch f n ic nl H k l i g=.ok t j g'→i ≤ j∧j ≤ n
 | 0,_,_,_,_,_,_,_,h=>by cases h
 | k+1,l,i,g,j,g',t,hi,h=>by
   unfold branch at h
   split at h
   · injection h with h1 h2 h3;omega
   · rename_i hc
     cases hp:piece f n ic nl H i g with
     | err c p=>rw [hp] at h;cases h
     | ok u m g2 =>
       rw [hp] at h
       have h1:=piece_next hf hH (by omega) hp
       have h2:=branch_next hf hH h1.2 h
       omega
theorem alts_next {f:Nat→Nat} {n:Nat} {ic nl:Bool} {H:Nat→Nat→Out} (hf:Br.Txt f n) (hH:Ahead n H):∀ {k:Nat} {l:List Tr} {i g j g':Nat} {t:Tr},i ≤ n→alts f n ic nl H k l i g=.ok t j g'→i ≤ j∧j ≤ n
 | 0,_,_,_,_,_,_,_,h=>by cases h
 | k+1,l,i,g,j,g',t,hi,h=>by
   unfold alts at h
   cases hp:branch f n ic nl H (n+1) [] i g with
   | err c p=>rw [hp] at h;cases h
   | ok u m g2 =>
     rw [hp] at h
     have h1:=branch_next hf hH hi hp
     simp only at h
     split at h
     · rename_i hc
       have:=hf.lt hc (by omega)
       have h2:=alts_next hf hH (by omega) h
       omega
     · injection h with h3 h4 h5;omega
theorem group_next {f:Nat→Nat} {n:Nat} {ic nl:Bool} (hf:Br.Txt f n):∀ r,Ahead n (group f n ic nl r)
 | 0=>fun i g t j g' _ h=>by cases h
 | r+1=>fun i g t j g' hi h=>by
   unfold group at h
   cases hp:alts f n ic nl (group f n ic nl r) (n+1) [] (i+1) (g+1) with
   | err c p=>rw [hp] at h;cases h
   | ok u m g2 =>
     rw [hp] at h
     have h1:=alts_next hf (group_next hf r) (by omega) hp
     simp only at h
     split at h
     · rename_i hc
       have:=hf.lt hc (by omega)
       injection h with h3 h4 h5
       omega
     · cases h
theorem form_leaf (k:Int) (h:k=1 ∨ k=3 ∨ k=4):(Tr.leaf k).InForm:=.mk _ (.inl ⟨h,rfl,rfl,rfl,rfl,rfl,rfl,rfl,rfl,rfl⟩) (fun u hu=>by cases hu)
theorem form_bytes (P:Nat→Bool):(Tr.bytes P).InForm:=.mk _ (.inr (.inl ⟨rfl,rfl,rfl,rfl,rfl,rfl⟩)) (fun u hu=>by cases hu)
theorem form_many (k:Int) (h:k=5 ∨ k=6) (l:List Tr) (h2:2 ≤ l.length) (hl:∀ u,u ∈ l→u.InForm):(Tr.many k l).InForm :=
 .mk _ (.inr (.inr (.inl ⟨h,rfl,rfl,rfl,rfl,h2,rfl,rfl,rfl,rfl⟩))) hl
theorem form_grp (m:Int) (t:Tr) (h1:1 ≤ m) (h2:m ≤ 999) (h:t.InForm):(Tr.grp m t).InForm :=
 .mk _ (.inr (.inr (.inr (.inl ⟨rfl,rfl,rfl,rfl,rfl,rfl,h1,h2,rfl,rfl,rfl⟩)))) (fun u hu=>by
   rcases List.mem_cons.1 hu with rfl | hu
   · exact h
   · cases hu)
theorem form_rep (a b:Int) (t:Tr) (h1:0 ≤ a) (h2:a ≤ 255) (h3:b = -1 ∨ (a ≤ b∧b ≤ 255)) (h:t.InForm):(Tr.rep a b t).InForm :=
 .mk _ (.inr (.inr (.inr (.inr ⟨rfl,rfl,rfl,rfl,rfl,rfl,rfl,h1,h2,h3,fun hb=>by cases hb⟩)))) (fun u hu=>by
   rcases List.mem_cons.1 hu with rfl | hu
   · exact h
   · cases hu)
theorem form_several (k:Int) (h:k=5 ∨ k=6) (l:List Tr) (hl:∀ u,u ∈ l→u.InForm):(Tr.several k l).InForm:=by
 match l,hl with
 | [],_=>exact form_leaf 1 (.inl rfl)
 | [t],hl=>exact hl t (by simp)
 | a :: b :: r,hl=>exact form_many k h (a :: b :: r) (by simp) hl
def Right (n d:Nat) (H:Nat→Nat→Out):Prop:=∀ i g t j g',i < n→2 * g ≤ i+d→H i g=.ok t j g'→t.InForm∧2 * g' ≤ j+d
theorem atom_form {f:Nat→Nat} {n d i g j g':Nat} {ic nl:Bool} {H:Nat→Nat→Out} {t:Tr} (hf:Br.Txt f n) (hA:Ahead n H) (hH:Right n d H) (hi:i < n) (hg:2 * g ≤ i+d) (h:atom f n ic nl H i g=.ok t j g'):t.InForm∧2 * g' ≤ j+d:=by
 have hn:=atom_next hf hA hi h
 unfold atom at h
 split at h
 · exact hH i g t j g' hi hg h
 split at h
 · cases hw:Br.whole f n i ic nl with
   | err c p=>rw [hw] at h;cases h
   | ok P k =>
     rw [hw] at h
     injection h with h1 h2 h3
     subst h1 h2 h3
     exact ⟨form_bytes _,by omega⟩
 split at h
 · split at h
   · injection h with h1 h2 h3
     subst h1 h2 h3
     exact ⟨form_bytes _,by omega⟩
   · cases h
 split at h
 · injection h with h1 h2 h3
   subst h1 h2 h3
   exact ⟨form_bytes _,by omega⟩
 · injection h with h1 h2 h3
   subst h1 h2 h3
   exact ⟨form_bytes _,by omega⟩
theorem rep_form {f:Nat→Nat} {n i g j g':Nat} {t u:Tr} (h:rep f n t i g=.ok u j g') (hf:Br.Txt f n) (hi:i ≤ n) (ht:t.InForm):u.InForm:=by
 obtain ⟨-,-,-,rfl | ⟨a,b,rfl,h1,h2,h3⟩⟩:=rep_ok h hf hi
 · exact ht
 · exact form_rep a b t h1 h2 h3 ht
theorem piece_form {f:Nat→Nat} {n d i g j g':Nat} {ic nl:Bool} {H:Nat→Nat→Out} {t:Tr} (hf:Br.Txt f n) (hA:Ahead n H) (hH:Right n d H) (hi:i < n) (hg:2 * g ≤ i+d) (h:piece f n ic nl H i g=.ok t j g'):t.InForm∧2 * g' ≤ j+d:=by
 unfold piece at h
 split at h
 · injection h with h1 h2 h3;subst h1 h2 h3;exact ⟨form_leaf 3 (by omega),by omega⟩
 split at h
 · injection h with h1 h2 h3;subst h1 h2 h3;exact ⟨form_leaf 4 (by omega),by omega⟩
 split at h
 · cases h
 cases ha:atom f n ic nl H i g with
 | err c p=>rw [ha] at h;cases h
 | ok u k g2 =>
   rw [ha] at h
   have h1:=atom_next hf hA hi ha
   have h2:=rep_ok h hf h1.2
   have h3:=atom_form hf hA hH hi hg ha
   exact ⟨rep_form h hf h1.2 h3.1,by omega⟩
theorem branch_form {f:Nat→Nat} {n d:Nat} {ic nl:Bool} {H:Nat→Nat→Out} (hf:Br.Txt f n) (hA:Ahead n H) (hH:Right n d H):∀ {k:Nat} {l:List Tr} {i g j g':Nat} {t:Tr},i ≤ n→(∀ u,u ∈ l→u.InForm)→2 * g ≤ i+d→branch f n ic nl H k l i g=.ok t j g'→t.InForm∧2 * g' ≤ j+d
 | 0,_,_,_,_,_,_,_,_,_,h=>by cases h
 | k+1,l,i,g,j,g',t,hi,hl,hg,h=>by
   unfold branch at h
   split at h
   · injection h with h1 h2 h3;subst h1 h2 h3;exact ⟨form_several 5 (.inl rfl) l hl,hg⟩
   · rename_i hc
     cases hp:piece f n ic nl H i g with
     | err c p=>rw [hp] at h;cases h
     | ok u m g2 =>
       rw [hp] at h
       have h1:=piece_next hf hA (by omega) hp
       have h2:=piece_form hf hA hH (by omega) hg hp
       refine branch_form hf hA hH h1.2 (fun x hx=>?_) h2.2 h
       rcases List.mem_append.1 hx with hx | hx
       · exact hl x hx
       · rw [List.mem_singleton.1 hx];exact h2.1
theorem alts_form {f:Nat→Nat} {n d:Nat} {ic nl:Bool} {H:Nat→Nat→Out} (hf:Br.Txt f n) (hA:Ahead n H) (hH:Right n d H):∀ {k:Nat} {l:List Tr} {i g j g':Nat} {t:Tr},i ≤ n→(∀ u,u ∈ l→u.InForm)→2 * g ≤ i+d→alts f n ic nl H k l i g=.ok t j g'→t.InForm∧2 * g' ≤ j+d
 | 0,_,_,_,_,_,_,_,_,_,h=>by cases h
 | k+1,l,i,g,j,g',t,hi,hl,hg,h=>by
   unfold alts at h
   cases hp:branch f n ic nl H (n+1) [] i g with
   | err c p=>rw [hp] at h;cases h
   | ok u m g2 =>
     rw [hp] at h
     have h1:=branch_next hf hA hi hp
     have h2:=branch_form hf hA hH hi (fun x hx=>by cases hx) hg hp
     have hl2:∀ x,x ∈ l ++ [u]→x.InForm:=fun x hx=>by
       rcases List.mem_append.1 hx with hx | hx
       · exact hl x hx
       · rw [List.mem_singleton.1 hx];exact h2.1
     simp only at h
     split at h
     · rename_i hc
       have:=hf.lt hc (by omega)
       exact alts_form hf hA hH (by omega) hl2 (by omega) h
     · injection h with h3 h4 h5;subst h3 h4 h5;exact ⟨form_several 6 (.inr rfl) _ hl2,h2.2⟩
theorem group_right {f:Nat→Nat} {n:Nat} {ic nl:Bool} (hf:Br.Txt f n) (hn:n ≤ 1024):∀ r d,r+d ≤ 32→Right n d (group f n ic nl r)
 | 0,d,_=>fun i g t j g' _ _ h=>by cases h
 | r+1,d,hd=>fun i g t j g' hi hg h=>by
   unfold group at h
   cases hp:alts f n ic nl (group f n ic nl r) (n+1) [] (i+1) (g+1) with
   | err c p=>rw [hp] at h;cases h
   | ok u m g2 =>
     rw [hp] at h
     have h1:=alts_next hf (group_next hf r) (by omega) hp
     have h2:=alts_form hf (group_next hf r) (group_right hf hn r (d+1) (by omega)) (by omega) (fun x hx=>by cases hx) (by omega) hp
     simp only at h
     split at h
     · rename_i hc
       injection h with h3 h4 h5
       subst h3 h4 h5
       exact ⟨form_grp _ _ (by omega) (by omega) h2.1,by omega⟩
     · cases h
end Ep
end Go.Proofs.YtfcilopifjddpaaGreatDoor
namespace Go.Proofs.YtfcilopifjddpaaGreatDoor
open Go.RowKit Go.Extern.Stop Go.Stop Go.Extern
def NewLink (T:TypeId) (n:Int) (v:Value) (w:World) (e:Ending) (w':World):Prop :=
 ∃ p,e=.returned (.iface T (.pointer (some ⟨p,0,none⟩)))∧w.heap.size ≤ p∧Below w.heap.size w w'∧w'.cell? ⟨p,0,none⟩=some (.int .i64 n)∧w'.cell? ⟨p,1,none⟩=some v
theorem at_any (n:Int) (t:TypeId) (q:Value) (w:World):Calls Tryz.prog 48 #[.int .i64 n,.iface t q] w (NewLink 63 n (.iface t q) w):=by
 go_enter Tryz.func48,Tryz.ntmps48
 go_wp2
 go_ret
 exact ⟨w.heap.size,rfl,Nat.le_refl _,(Below.refl _ _).alloc (Nat.le_refl _) _,by rw [cell_new];rfl,by rw [cell_new];rfl⟩
end Go.Proofs.YtfcilopifjddpaaGreatDoor
namespace Go.Proofs
open Go.Shelf
open Go.RowKit in
open Go.RowKit in
open Go.RowKit in
open Go.RowKit in
open Go.RowKit in
open Go.RowKit in
def Tryz.lays103_ren:Go.Shelf.Ren:=⟨fun | 103=>160 | 210=>182 | 206=>156 | n=>n,fun | 9=>9 | 4=>4 | 24=>189 | 3=>3 | n=>n,fun | n=>n⟩
theorem Tryz.lays103:Go.Proofs.Lays.n103 Tryz.prog Tryz.lays103_ren:={
 mixed:=by kernel_rfl
 f103:=Tryz.func160.trans (congrArg some (by kernel_rfl))
 f206:=Tryz.func156.trans (congrArg some (by kernel_rfl))
 f210:=Tryz.func182.trans (congrArg some (by kernel_rfl))
 t3:=Tryz.underlying3
 a3:=Tryz.isAgg3
 z3:=Tryz.sizeOf3
 v3:=Tryz.zeroValue3
 t4:=Tryz.underlying4
 a4:=Tryz.isAgg4
 z4:=Tryz.sizeOf4
 v4:=Tryz.zeroValue4
 t9:=Tryz.underlying9
 a9:=Tryz.isAgg9
 z9:=Tryz.sizeOf9
 v9:=Tryz.zeroValue9
 t24:=Tryz.underlying189
 a24:=Tryz.isAgg189
 z24:=Tryz.sizeOf189
 v24:=Tryz.zeroValue189 }
open Go.RowKit in
theorem Tryz.strings_CutPrefix (s p:ByteArray) (w:World) :
   Calls Tryz.prog 160 #[.string s,.string p] w fun e w'=>e=.returned (.tuple #[.string ⟨(Lib.trimPrefix s.data.toList p.data.toList).toArray⟩,.bool (Lib.hasPrefix s.data.toList p.data.toList)])∧w'=w:=Any.strings_CutPrefix Tryz.lays103 s p w
open Go.RowKit in
open Go.RowKit in
open Go.RowKit in
open Go.RowKit in
open Go.RowKit in
open Go.RowKit in
open Go.RowKit in
open Go.Lib in
open Go.Lib in
open Go.Lib in
open Go.Lib in
open Go.RowKit Go.Sort Go.Lib in
open Go.RowKit Go.Sort Go.Lib in
open Go.RowKit Go.Sort Go.Lib in
open Go.RowKit Go.Sort Go.Lib in
open Go.RowKit Go.Sort Go.Lib in
open Go.RowKit Go.Sort Go.Lib in
open Go.RowKit Go.Sort Go.Lib in
open Go.RowKit Go.Lib in
open Go.RowKit Go.Lib in
open Go.RowKit Go.Lib in
open Go.RowKit Go.Lib in
open Go.RowKit Go.Lib in
open Go.RowKit Go.Lib in
open Go.RowKit Go.Lib in
def Tryz.lays145_ren:Go.Shelf.Ren:=⟨fun | 145=>157 | 220=>178 | 219=>200 | 217=>126 | 225=>211 | 224=>212 | 267=>213 | 266=>154 | 314=>219 | n=>n,fun | 9=>9 | 4=>4 | 59=>185 | 3=>3 | 5=>5 | 46=>193 | 146=>229 | 51=>223 | n=>n,fun | 1=>22 | n=>n⟩
theorem Tryz.lays145:Go.Proofs.Lays.n145 Tryz.prog Tryz.lays145_ren:={
 mixed:=by kernel_rfl
 f145:=Tryz.func157.trans (congrArg some (by kernel_rfl))
 f217:=Tryz.func126.trans (congrArg some (by kernel_rfl))
 f219:=Tryz.func200.trans (congrArg some (by kernel_rfl))
 f220:=Tryz.func178.trans (congrArg some (by kernel_rfl))
 f224:=Tryz.func212.trans (congrArg some (by kernel_rfl))
 f225:=Tryz.func211.trans (congrArg some (by kernel_rfl))
 f266:=Tryz.func154.trans (congrArg some (by kernel_rfl))
 f267:=Tryz.func213.trans (congrArg some (by kernel_rfl))
 f314:=Tryz.func219.trans (congrArg some (by kernel_rfl))
 t3:=Tryz.underlying3
 a3:=Tryz.isAgg3
 z3:=Tryz.sizeOf3
 v3:=Tryz.zeroValue3
 t4:=Tryz.underlying4
 a4:=Tryz.isAgg4
 z4:=Tryz.sizeOf4
 v4:=Tryz.zeroValue4
 t5:=Tryz.underlying5
 a5:=Tryz.isAgg5
 z5:=Tryz.sizeOf5
 v5:=Tryz.zeroValue5
 t9:=Tryz.underlying9
 a9:=Tryz.isAgg9
 z9:=Tryz.sizeOf9
 v9:=Tryz.zeroValue9
 t46:=Tryz.underlying193
 a46:=Tryz.isAgg193
 z46:=Tryz.sizeOf193
 v46:=Tryz.zeroValue193
 t51:=Tryz.underlying223
 a51:=Tryz.isAgg223
 z51:=Tryz.sizeOf223
 v51:=Tryz.zeroValue223
 t59:=Tryz.underlying185
 a59:=Tryz.isAgg185
 z59:=Tryz.sizeOf185
 v59:=Tryz.zeroValue185
 t146:=Tryz.underlying229
 a146:=Tryz.isAgg229
 z146:=Tryz.sizeOf229
 v146:=Tryz.zeroValue229
 g1:=by kernel_rfl }
open Go.RowKit Go.Lib in
theorem Tryz.strings_Cut (s sep:ByteArray) (m:Int) (w:World) (hs:s.size < 4294967281) (hm:w.cell? ⟨22,0,none⟩=some (.int .i64 m)) :
   Calls Tryz.prog 157 #[.string s,.string sep] w fun e w'=>e=.returned (.tuple #[.string ⟨(Lib.cut s.data.toList sep.data.toList).1.toArray⟩,.string ⟨(Lib.cut s.data.toList sep.data.toList).2.1.toArray⟩,.bool (Lib.cut s.data.toList sep.data.toList).2.2])∧∃ n,w'=w.drewN n:=Any.strings_Cut Tryz.lays145 s sep m w hs hm
def Tryz.laysM219_ren:Go.Shelf.Ren:=⟨fun | 219=>200 | 217=>126 | 225=>211 | 224=>212 | 267=>213 | 266=>154 | 314=>219 | n=>n,fun | 9=>9 | 3=>3 | 4=>4 | 5=>5 | 46=>193 | 146=>229 | 51=>223 | n=>n,fun | 1=>22 | n=>n⟩
theorem Tryz.laysM219:Go.Proofs.LaysM.n219 Tryz.prog Tryz.laysM219_ren:={
 mixed:=by kernel_rfl
 f217:=Tryz.func126.trans (congrArg some (by kernel_rfl))
 f219:=Tryz.func200.trans (congrArg some (by kernel_rfl))
 f224:=Tryz.func212.trans (congrArg some (by kernel_rfl))
 f225:=Tryz.func211.trans (congrArg some (by kernel_rfl))
 f266:=Tryz.func154.trans (congrArg some (by kernel_rfl))
 f267:=Tryz.func213.trans (congrArg some (by kernel_rfl))
 f314:=Tryz.func219.trans (congrArg some (by kernel_rfl))
 t3:=Tryz.underlying3
 a3:=Tryz.isAgg3
 z3:=Tryz.sizeOf3
 v3:=Tryz.zeroValue3
 t4:=Tryz.underlying4
 a4:=Tryz.isAgg4
 z4:=Tryz.sizeOf4
 v4:=Tryz.zeroValue4
 t5:=Tryz.underlying5
 a5:=Tryz.isAgg5
 z5:=Tryz.sizeOf5
 v5:=Tryz.zeroValue5
 t9:=Tryz.underlying9
 a9:=Tryz.isAgg9
 z9:=Tryz.sizeOf9
 v9:=Tryz.zeroValue9
 t46:=Tryz.underlying193
 a46:=Tryz.isAgg193
 z46:=Tryz.sizeOf193
 v46:=Tryz.zeroValue193
 t51:=Tryz.underlying223
 a51:=Tryz.isAgg223
 z51:=Tryz.sizeOf223
 v51:=Tryz.zeroValue223
 t146:=Tryz.underlying229
 a146:=Tryz.isAgg229
 z146:=Tryz.sizeOf229
 v146:=Tryz.zeroValue229
 g1:=by kernel_rfl
 i3:=by kernel_rfl
 i4:=by kernel_rfl
 i5:=by kernel_rfl
 i9:=by kernel_rfl
 i46:=by kernel_rfl
 i51:=by kernel_rfl
 i146:=by kernel_rfl
 m1:=by kernel_rfl
 s1_3:=fun w h=>Go.Proofs.cell_of_shapedOpen_int (zero:=#[.int .i64 0]) (t:=3) h (of_decide_eq_true (by kernel_rfl)) (by kernel_rfl) rfl (by kernel_rfl) (by kernel_rfl) Tryz.underlying3 }
open Go.RowKit Go.Lib in
open Go.RowKit Go.Lib in
open Go.RowKit Go.Lib in
open Go.RowKit Go.Lib in
def Tryz.lays99_ren:Go.Shelf.Ren:=⟨fun | 99=>130 | 206=>156 | n=>n,fun | 9=>9 | 4=>4 | 3=>3 | n=>n,fun | n=>n⟩
theorem Tryz.lays99:Go.Proofs.Lays.n99 Tryz.prog Tryz.lays99_ren:={
 mixed:=by kernel_rfl
 f99:=Tryz.func130.trans (congrArg some (by kernel_rfl))
 f206:=Tryz.func156.trans (congrArg some (by kernel_rfl))
 t3:=Tryz.underlying3
 a3:=Tryz.isAgg3
 z3:=Tryz.sizeOf3
 v3:=Tryz.zeroValue3
 t4:=Tryz.underlying4
 a4:=Tryz.isAgg4
 z4:=Tryz.sizeOf4
 v4:=Tryz.zeroValue4
 t9:=Tryz.underlying9
 a9:=Tryz.isAgg9
 z9:=Tryz.sizeOf9
 v9:=Tryz.zeroValue9 }
open Go.RowKit Go.Lib in
theorem Tryz.strings_HasPrefix (s p:ByteArray) (w:World) :
   Calls Tryz.prog 130 #[.string s,.string p] w fun e w'=>e=.returned (.bool (Lib.hasPrefix s.data.toList p.data.toList))∧w'=w:=Any.strings_HasPrefix Tryz.lays99 s p w
end Go.Proofs
namespace Go.Proofs.YtfcilopifjddpaaGreatDoor
open Go.RowKit
theorem bt_list (s:ByteArray) (i:Nat):bt s i=(s.data.toList[i]?).elim 256 UInt8.toNat:=by
 by_cases h:i < s.size
 · rw [← bt_at h]
   have h':i < s.data.toList.length:=by simpa using h
   rw [List.getElem?_eq_getElem h'];simp [ByteArray.getElem_eq_getElem_data]
 · rw [bt_out (by omega),List.getElem?_eq_none (by simp;show s.data.size ≤ i;have:s.data.size=s.size:=rfl;omega)];rfl
theorem bt_ext (s:ByteArray) (i j:Nat):bt (s.extract i s.size) j=bt s (i+j):=by
 rw [bt_list,bt_list,Lib.extract_to_end,List.getElem?_drop]
theorem u8_beq (a b:UInt8):(a == b)=(a.toNat == b.toNat):=by
 rw [Bool.eq_iff_iff,beq_iff_eq,beq_iff_eq,UInt8.toNat_inj]
theorem two_prefix (l:List UInt8) (x y:UInt8):[x,y].isPrefixOf l=((l[0]?).elim 256 UInt8.toNat == x.toNat && (l[1]?).elim 256 UInt8.toNat == y.toNat):=by
 have hx:=UInt8.toNat_lt x;have hy:=UInt8.toNat_lt y
 match l with
 | []=>simp;omega
 | [a]=>simp [List.isPrefixOf];omega
 | a :: b :: r =>
   simp only [List.isPrefixOf,Bool.and_true,List.getElem?_cons_zero,List.getElem?_cons_succ,Option.elim_some,u8_beq]
   rw [show (x.toNat == a.toNat)=(a.toNat == x.toNat) from Bool.beq_comm,show (y.toNat == b.toNat)=(b.toNat == y.toNat) from Bool.beq_comm]
theorem hasp (s:ByteArray) (x y:UInt8) (b:Bool) (hb:(bt s 0 == x.toNat && bt s 1 == y.toNat)=b) (w:World) :
   Calls Tryz.prog 130 #[.string s,.string ⟨#[x,y]⟩] w fun e w'=>e=.returned (.bool b)∧w=w':=by
 refine (Tryz.strings_HasPrefix s ⟨#[x,y]⟩ w).mono ?_
 rintro e w' ⟨rfl,rfl⟩
 refine ⟨?_,rfl⟩
 rw [← hb,bt_list,bt_list]
 exact ret_bool (two_prefix _ x y)
theorem opens_coll (t:ByteArray) (w:World):Calls Tryz.prog 220 #[.string t] w fun e w'=>e=.returned (.bool (Br.dotted (bt t) 0))∧w=w':=by
 have h1:=fun b hb=>hasp t 91 46 b hb w
 have h2:=fun b hb=>hasp t 91 61 b hb w
 unfold Br.dotted
 have e1:(91:UInt8).toNat=91:=rfl
 have e2:(46:UInt8).toNat=46:=rfl
 have e3:(61:UInt8).toNat=61:=rfl
 rw [e1,e2] at h1;rw [e1,e3] at h2
 rw [show 0+1=1 from rfl]
 generalize (bt t 0 == 91)=x at *
 generalize (bt t 1 == 46)=y at *
 generalize (bt t 1 == 61)=z at *
 have H1:=Lib.hid (h1 _ rfl);have H2:=Lib.hid (h2 _ rfl)
 clear h1 h2 e1 e2 e3
 cases x <;> cases y <;> cases z
 all_goals
   go_enter Tryz.func220,Tryz.ntmps220
   go_wp2_with fail
   refine H1.out.mono ?_;rintro e w' ⟨rfl,rfl⟩
   first
   | (go_wp2;go_ret;exact ⟨rfl,rfl⟩)
   | (go_wp2_with fail
      refine H2.out.mono ?_;rintro e w' ⟨rfl,rfl⟩
      go_wp2
      go_ret
      exact ⟨rfl,rfl⟩)
theorem opens_class (t:ByteArray) (w:World):Calls Tryz.prog 221 #[.string t] w fun e w'=>e=.returned (.bool (Br.colon (bt t) 0))∧w=w':=by
 have H1:=Lib.hid (hasp t 91 58 _ rfl w)
 unfold Br.colon
 go_enter Tryz.func221,Tryz.ntmps221
 go_wp2_with fail
 refine H1.out.mono ?_;rintro e w' ⟨rfl,rfl⟩
 go_wp2
 go_ret
 exact ⟨rfl,rfl⟩
theorem occ_clos (s:ByteArray) (k j:Nat):Lib.occAt (s.extract k s.size).data.toList [58,93] j=(bt s (k+j) == 58 && bt s (k+j+1) == 93):=by
 unfold Lib.occAt
 rw [Lib.extract_to_end,List.drop_drop,two_prefix,bt_list,bt_list]
 simp only [List.getElem?_drop]
 rfl
theorem index_clos {s:ByteArray} {k e:Nat} (h:Br.clos (bt s) (s.size - (k+1)) k=some e):Lib.indexB (s.extract k s.size) ⟨#[58,93]⟩=((e - k:Nat):Int):=by
 obtain ⟨h1,h2,h3,h4,h5⟩:=Br.clos_some h
 refine Lib.index_first (by rw [Lib.extract_to_end];simp;omega) ?_ ?_
 · show Lib.occAt (s.extract k s.size).data.toList [58,93] (e - k)=true
   rw [occ_clos,show k+(e - k)=e by omega,h3,h4];rfl
 · intro j hj
   show Lib.occAt (s.extract k s.size).data.toList [58,93] j=false
   rw [occ_clos]
   have:=h5 (k+j) (by omega) (by omega)
   simpa using this
theorem index_noclos {s:ByteArray} {k:Nat} (h:Br.clos (bt s) (s.size - (k+1)) k=none):Lib.indexB (s.extract k s.size) ⟨#[58,93]⟩ = -1:=by
 refine Lib.index_none fun j hj=>?_
 show Lib.occAt (s.extract k s.size).data.toList [58,93] j=false
 rw [occ_clos]
 cases hb:(bt s (k+j) == 58 && bt s (k+j+1) == 93) with
 | false=>rfl
 | true =>
   simp only [Bool.and_eq_true,beq_iff_eq] at hb
   have hlt:=(bt_txt s).lt hb.2 (by omega)
   exfalso
   have:∀ {n i:Nat},Br.clos (bt s) n i=none→∀ x,i ≤ x→x < i+n→¬ (bt s x=58∧bt s (x+1)=93):=by
     intro n
     induction n with
     | zero=>intro i _ x h1 h2;omega
     | succ n ih =>
       intro i hn x h1 h2
       unfold Br.clos at hn
       split at hn
       · cases hn
       · rename_i hc
         simp only [Bool.and_eq_true,beq_iff_eq] at hc
         by_cases e:x=i
         · subst e;exact hc
         · exact ih hn x (by omega) (by omega)
   exact this h (k+j) (by omega) (by omega) hb
def ErrOne (A:Nat→Addr) (B:Nat) (w:World) (v:Value) (c:Nat) (n:Int):Prop :=
 ∃ k p,k < 21∧c=k+1∧v=.iface 63 (.pointer (some ⟨p,0,none⟩))∧B ≤ p∧w.cell? ⟨p,0,none⟩=some (.int .i64 n)∧w.cell? ⟨p,1,none⟩=some (.iface 232 (.pointer (some (A k))))
theorem ErrOne.at {A:Nat→Addr} {B:Nat} {w:World} {v:Value} {c:Nat} {n:Int} (h:ErrOne A B w v c n):ErrAt A w v c n:=by
 obtain ⟨k,p,hk,hc,rfl,hp,c0,c1⟩:=h
 exact ⟨k,[(false,n,p)],hk,hc,.fault n p c0 c1 .base,rfl⟩
theorem ErrOne.later {A:Nat→Addr} {B:Nat} {w w':World} {v:Value} {c:Nat} {n:Int} (h:ErrOne A B w v c n) (hb:Below w.heap.size w w'):ErrOne A B w' v c n:=by
 obtain ⟨k,p,hk,hc,hv,hp,c0,c1⟩:=h
 exact ⟨k,p,hk,hc,hv,hp,(hb.cell (p:=⟨p,0,none⟩) (block_lt_of_cell c0)).trans c0,(hb.cell (p:=⟨p,1,none⟩) (block_lt_of_cell c1)).trans c1⟩
theorem ErrOne.down {A:Nat→Addr} {B B':Nat} {w:World} {v:Value} {c:Nat} {n:Int} (h:ErrOne A B w v c n) (hB:B' ≤ B):ErrOne A B' w v c n:=by
 obtain ⟨k,p,hk,hc,hv,hp,c0,c1⟩:=h;exact ⟨k,p,hk,hc,hv,by omega,c0,c1⟩
theorem cell_setRow_other {w:World} {g b o:Nat} (cs:Array Value) (h:b ≠ g):(w.setRow g cs).cell? ⟨b,o,none⟩=w.cell? ⟨b,o,none⟩:=by
 unfold World.cell?;rw [heap_setRow_other w g cs h]
theorem ErrOne.setRow {A:Nat→Addr} {B:Nat} {w:World} {v:Value} {c:Nat} {n:Int} (h:ErrOne A B w v c n) {g:Nat} (hg:g < B) (cs:Array Value):ErrOne A B (w.setRow g cs) v c n:=by
 obtain ⟨k,p,hk,hc,hv,hp,c0,c1⟩:=h
 exact ⟨k,p,hk,hc,hv,hp,(cell_setRow_other cs (by omega)).trans c0,(cell_setRow_other cs (by omega)).trans c1⟩
theorem ErrOne.iface {A:Nat→Addr} {B:Nat} {w:World} {v:Value} {c:Nat} {n:Int} (h:ErrOne A B w v c n):∃ q,v=.iface 63 q:=by
 obtain ⟨k,p,hk,hc,hv,-⟩:=h;exact ⟨_,hv⟩
def PlacedErr (A:Nat→Addr) (c:Nat) (p:Int) (w:World) (e:Ending) (w':World):Prop:=∃ v,e=.returned v∧ErrOne A w.heap.size w' v c p∧Below w.heap.size w w'
theorem at_err (A:Nat→Addr) (k:Nat) (hk:k < 21) (n:Int) (w:World) :
   Calls Tryz.prog 48 #[.int .i64 n,.iface 232 (.pointer (some (A k)))] w (PlacedErr A (k+1) n w):=by
 refine (at_any n _ _ w).mono ?_
 rintro e w' ⟨p,rfl,hp,hb,c0,c1⟩
 exact ⟨_,rfl,⟨k,p,hk,rfl,rfl,hp,c0,c1⟩,hb⟩
def ItEnd (A:Nat→Addr) (R:Br.Ans) (w:World) (e:Ending) (w':World):Prop :=
 (match R with
 | .ok P j=>e=.returned (.tuple #[(.agg #[.int .u64 (Oc.U (Oc.mk P 0)),.int .u64 (Oc.U (Oc.mk P 1)),.int .u64 (Oc.U (Oc.mk P 2)),.int .u64 (Oc.U (Oc.mk P 3))]),.int .i64 j,.nilIface])
 | .err c p=>∃ v,e=.returned (.tuple #[.agg #[.int .u64 0,.int .u64 0,.int .u64 0,.int .u64 0],.int .i64 0,v])∧ErrOne A w.heap.size w' v c p)∧Below w.heap.size w w'
theorem ItEnd.ok {A:Nat→Addr} {R:Br.Ans} {w:World} {e:Ending} {w':World} (h:ItEnd A R w e w') {P:Nat→Bool} {j:Nat} (hR:R=.ok P j) :
   e=.returned (.tuple #[(.agg #[.int .u64 (Oc.U (Oc.mk P 0)),.int .u64 (Oc.U (Oc.mk P 1)),.int .u64 (Oc.U (Oc.mk P 2)),.int .u64 (Oc.U (Oc.mk P 3))]),.int .i64 j,.nilIface])∧Below w.heap.size w w':=by subst hR;exact h
theorem ItEnd.err {A:Nat→Addr} {R:Br.Ans} {w:World} {e:Ending} {w':World} (h:ItEnd A R w e w') {c:Nat} {p:Int} (hR:R=.err c p) :
   ∃ v,e=.returned (.tuple #[.agg #[.int .u64 0,.int .u64 0,.int .u64 0,.int .u64 0],.int .i64 0,v])∧ErrOne A w.heap.size w' v c p∧Below w.heap.size w w':=by
 subst hR;obtain ⟨⟨v,h1,h2⟩,h3⟩:=h;exact ⟨v,h1,h2,h3⟩
abbrev noSet:Array Value:=#[.int .u64 0,.int .u64 0,.int .u64 0,.int .u64 0]
theorem noSet_one:noSet.all (·.oneCell')=true:=setC_one
theorem cell_two {w:World} {b o:Nat} {v:Value} (h:w.cell? ⟨b,o,none⟩=some v) (x y:Obj):((w.alloc x).alloc y).cell? ⟨b,o,none⟩=some v :=
 ((((Below.refl w.heap.size w).alloc (Nat.le_refl _) x).alloc (by simp) y).cell (p:=⟨b,o,none⟩) (block_lt_of_cell h)).trans h
theorem results_row_two {P:Program} {fn:Func} {p q r:Tmp} {ty:TypeId} (h:fn.results=#[.cell p ty,.tmp q,.tmp r]) (tmps:Array Value) (w:World) (g:Nat) (t:TypeId) (cs:Array Value) (fr:Nat × Nat) (d:TypeDesc) (y z:Value)
   (hp:tmps.getD p undef=.pointer (some ⟨g,0,none⟩)) (hy:tmps.getD q undef=y) (hz:tmps.getD r undef=z) (hg:w.heap[g]? = some (.cells cs t fr))
   (hu:P.underlying ty=some d) (hd:(match d with | .struct _ | .array _ _=>true | _=>false)=true) (hi:(P.info? ty).map (·.size)=some cs.size) :
   (results fn tmps).run P w=.ok (.tuple #[.agg cs,y,z]) w:=by
 have hp':tmps[p]?.getD undef=.pointer (some ⟨g,0,none⟩):=by simpa using hp
 have hy':tmps[q]?.getD undef=y:=by simpa using hy
 have hz':tmps[r]?.getD undef=z:=by simpa using hz
 simp [results,h,hp',hy',hz',asAddr,run_loadVar_row w g t ty cs fr d hg hu hd hi]
theorem open_any (A:Nat→Addr) (s:ByteArray) (a:Nat) (w:World) (hE:BrEnv w A) :
   Calls Tryz.prog 215 #[.agg #[.string s,.int .i64 a]] w (ItEnd A (.err 1 a) w):=by
 have c0:=fun x y=>cell_two (show w.cell? ⟨0,0,none⟩=some (.iface 232 (.pointer (some (A 0)))) from (hE.errs 0 (by omega)).1) x y
 go_enter Tryz.func215,Tryz.ntmps215
 go_wp2_with fail
 refine (at_err A 0 (by omega) a _).mono ?_
 rintro e w1 ⟨v,rfl,hv,hb⟩
 have hb0:Below w.heap.size w ((w.alloc (.cells #[.string s,.int .i64 a] 215)).alloc (.cells #[.int .u64 0,.int .u64 0,.int .u64 0,.int .u64 0] 25)):=by go_grown
 have Z:=Lib.hid (keep_blk hb (two_new w _ _).2)
 have HB:=Lib.hid (hb0.trans (hb.mono hb0.size))
 have HV:=Lib.hid hv
 clear hb hv hb0 c0
 go_wp2_with (first
   | (refine wpList_store_row rfl 25 (.tmp 2) (.tmp 5) rfl (w.heap.size+1) noSet rfl rfl 25 _ Z.out (by kernel_rfl) rfl noSet_one ?_)
   | fail)
 exact bodyPost_ret (results_row_two rfl _ _ (w.heap.size+1) 25 noSet (0,0) _ _ _ rfl rfl rfl (heap_setRow Z.out) Tryz.underlying25 rfl (by kernel_rfl)) rfl ⟨⟨v,rfl,(HV.out.setRow (by simp) noSet).down (by simp;omega)⟩,below_setRow HB.out (Nat.le_succ _) _⟩
end Go.Proofs.YtfcilopifjddpaaGreatDoor
