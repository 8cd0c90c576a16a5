/- Part 3 of what these proofs need. -/
import Derived.Lib.IndexLaws
import Derived.Test.YtfcilopifjddpaaGreatDoorBpR2
set_option maxRecDepth 100000
set_option maxHeartbeats 16000000
namespace Go.Proofs.YtfcilopifjddpaaGreatDoor
open Go.RowKit
theorem dotted_ext (s:ByteArray) (i:Nat):Br.dotted (bt (s.extract i s.size)) 0=Br.dotted (bt s) i:=by unfold Br.dotted;rw [bt_ext,bt_ext];rfl
theorem colon_ext (s:ByteArray) (i:Nat):Br.colon (bt (s.extract i s.size)) 0=Br.colon (bt s) i:=by unfold Br.colon;rw [bt_ext,bt_ext];rfl
theorem coll_at (s:ByteArray) (i:Nat) (b:Bool) (hb:Br.dotted (bt s) i=b) (w:World):Calls Tryz.prog 220 #[.string (s.extract i s.size)] w fun e w'=>e=.returned (.bool b)∧w=w':=by
 have:=opens_coll (s.extract i s.size) w;rw [dotted_ext,hb] at this;exact this
theorem class_at (s:ByteArray) (i:Nat) (b:Bool) (hb:Br.colon (bt s) i=b) (w:World):Calls Tryz.prog 221 #[.string (s.extract i s.size)] w fun e w'=>e=.returned (.bool b)∧w=w':=by
 have:=opens_class (s.extract i s.size) w;rw [colon_ext,hb] at this;exact this
theorem range_p (lo hi:Nat) (h1:lo < 256) (h2:hi < 256) (w:World):Calls Tryz.prog 217 #[.int .u8 lo,.int .u8 hi] w fun e w' =>
   e=.returned (.agg #[.int .u64 (Oc.U (Oc.mk (Br.rng lo hi) 0)),.int .u64 (Oc.U (Oc.mk (Br.rng lo hi) 1)),.int .u64 (Oc.U (Oc.mk (Br.rng lo hi) 2)),.int .u64 (Oc.U (Oc.mk (Br.rng lo hi) 3))])∧Below w.heap.size w w':=by
 have e:∀ q,Oc.mk (upto lo (hi+1)) q=Oc.mk (Br.rng lo hi) q:=fun q=>Oc.mk_eq fun i hi'=>by
   rw [Oc.mk_bit _ _ _ hi'];unfold upto Br.rng
   rw [Bool.eq_iff_iff];simp;omega
 have:=range_any lo hi h1 h2 w
 rw [e,e,e,e] at this
 exact this
theorem setP_one (P:Nat→Bool):(#[.int .u64 (Oc.U (Oc.mk (P) 0)),.int .u64 (Oc.U (Oc.mk (P) 1)),.int .u64 (Oc.U (Oc.mk (P) 2)),.int .u64 (Oc.U (Oc.mk (P) 3))]:Array Value).all (·.oneCell')=true:=setC_one
theorem drewN_below {B:Nat} {w w':World} (h:Below B w w') (n:Nat):Below B w (w'.drewN n):=h.trans ⟨rfl,rfl,rfl,Nat.le_refl _,fun _ _=>rfl⟩
theorem span_coll (A:Nat→Addr) (s:ByteArray) (hs:s.size ≤ 4294967280) (a i:Nat) (hi:i+2 < s.size) (hd:Br.dotted (bt s) (i+2)=true) (w:World) (hE:BrEnv w A) :
   Calls Tryz.prog 223 #[.agg #[.string s,.int .i64 a],.int .i64 i] w (ItEnd A (.err 7 ((i:Int)+2)) w):=by
 have h1:=bt_at (show i < s.size by omega)
 have h2:=bt_at hi
 have hw:IntKind.i64.wrap ((i:Int)+2)=(i:Int)+2:=IntWalk.i64_in _ (by omega)
 have hi1:(0:Int) ≤ i:=by omega
 have hi2:(i:Int) < s.size:=by omega
 have hi3:(0:Int) ≤ (i:Int)+2:=by omega
 have hi4:(i:Int)+2 < s.size:=by omega
 have hx256:bt s i < 256:=(bt_txt s).1 i (by omega)
 have hy256:bt s (i+2) < 256:=(bt_txt s).1 (i+2) hi
 have HD:=Lib.hid (coll_at s (i+2) _ hd)
 have HE:=Lib.hid hE
 clear hE hd
 generalize bt s i=x at *
 generalize bt s (i+2)=y at *
 go_enter Tryz.func223,Tryz.ntmps223
 go_wp2
 go_quiet (fail)
 generalize hW:World.drewN _ _=W at *
 have Z:W.heap[w.heap.size+1]? = some (.cells noSet 25):=by rw [← hW];exact (two_new w _ _).2
 have Z0:W.heap[w.heap.size]? = some (.cells #[.string s,.int .i64 a] 215):=by rw [← hW];exact (two_new w _ _).1
 have hb0:Below w.heap.size w W:=by rw [← hW];exact drewN_below (by go_grown) _
 have hsz:W.heap.size=w.heap.size+2:=by rw [← hW];simp
 have HE':=Lib.hid (HE.out.below hb0)
 have c6:W.cell? ⟨6,0,none⟩=some (.iface 232 (.pointer (some (A 6)))):=(HE'.out.errs 6 (by omega)).1
 have ZZ:=Lib.hid Z;have HB0:=Lib.hid hb0;have HSZ:=Lib.hid hsz
 clear hW Z hb0 hsz
 clear Z0
 go_wp2_with fail
 refine (HD.out _).mono ?_;rintro e w' ⟨rfl,rfl⟩
 go_wp2_with fail
 refine (at_err A 6 (by omega) ((i:Int)+2) _).mono ?_
 rintro e w1 ⟨v,rfl,hv,hb⟩
 have Z:=Lib.hid (keep_blk hb ZZ.out)
 have HB:=Lib.hid (HB0.out.trans (hb.mono HB0.out.size))
 have HV:=Lib.hid hv
 clear hb hv
 go_wp2_with (first
   | (refine wpList_store_row rfl 25 (.tmp 4) (.tmp 28) rfl (w.heap.size+1) noSet rfl rfl 25 _ Z.out (by kernel_rfl) rfl noSet_one ?_)
   | fail)
 exact bodyPost_ret (results_row_two rfl _ _ (w.heap.size+1) 25 noSet (0,0) _ _ _ rfl rfl rfl (heap_setRow Z.out) Tryz.underlying25 rfl (by kernel_rfl)) rfl ⟨⟨v,rfl,(HV.out.setRow (by rw [HSZ.out];omega) noSet).down HB0.out.size⟩,below_setRow HB.out (Nat.le_succ _) _⟩
theorem span_class (A:Nat→Addr) (s:ByteArray) (hs:s.size ≤ 4294967280) (a i:Nat) (hi:i+2 < s.size) (hd:Br.dotted (bt s) (i+2)=false) (hc:Br.colon (bt s) (i+2)=true) (w:World) (hE:BrEnv w A) :
   Calls Tryz.prog 223 #[.agg #[.string s,.int .i64 a],.int .i64 i] w (ItEnd A (.err 5 i) w):=by
 have h1:=bt_at (show i < s.size by omega)
 have h2:=bt_at hi
 have hw:IntKind.i64.wrap ((i:Int)+2)=(i:Int)+2:=IntWalk.i64_in _ (by omega)
 have hi1:(0:Int) ≤ i:=by omega
 have hi2:(i:Int) < s.size:=by omega
 have hi3:(0:Int) ≤ (i:Int)+2:=by omega
 have hi4:(i:Int)+2 < s.size:=by omega
 have hx256:bt s i < 256:=(bt_txt s).1 i (by omega)
 have hy256:bt s (i+2) < 256:=(bt_txt s).1 (i+2) hi
 have HD:=Lib.hid (coll_at s (i+2) _ hd)
 have HC:=Lib.hid (class_at s (i+2) _ hc)
 have HE:=Lib.hid hE
 clear hE hd hc
 generalize bt s i=x at *
 generalize bt s (i+2)=y at *
 go_enter Tryz.func223,Tryz.ntmps223
 go_wp2
 go_quiet (fail)
 generalize hW:World.drewN _ _=W at *
 have Z:W.heap[w.heap.size+1]? = some (.cells noSet 25):=by rw [← hW];exact (two_new w _ _).2
 have Z0:W.heap[w.heap.size]? = some (.cells #[.string s,.int .i64 a] 215):=by rw [← hW];exact (two_new w _ _).1
 have hb0:Below w.heap.size w W:=by rw [← hW];exact drewN_below (by go_grown) _
 have hsz:W.heap.size=w.heap.size+2:=by rw [← hW];simp
 have HE':=Lib.hid (HE.out.below hb0)
 have c4:W.cell? ⟨4,0,none⟩=some (.iface 232 (.pointer (some (A 4)))):=(HE'.out.errs 4 (by omega)).1
 have ZZ:=Lib.hid Z;have HB0:=Lib.hid hb0;have HSZ:=Lib.hid hsz
 clear hW Z hb0 hsz
 clear Z0
 go_wp2_with fail
 refine (HD.out _).mono ?_;rintro e w' ⟨rfl,rfl⟩
 go_wp2_with fail
 refine (HC.out _).mono ?_;rintro e w' ⟨rfl,rfl⟩
 go_wp2_with fail
 refine (at_err A 4 (by omega) i _).mono ?_
 rintro e w1 ⟨v,rfl,hv,hb⟩
 have Z:=Lib.hid (keep_blk hb ZZ.out)
 have HB:=Lib.hid (HB0.out.trans (hb.mono HB0.out.size))
 have HV:=Lib.hid hv
 clear hb hv
 go_wp2_with (first
   | (refine wpList_store_row rfl 25 (.tmp 4) (.tmp 38) rfl (w.heap.size+1) noSet rfl rfl 25 _ Z.out (by kernel_rfl) rfl noSet_one ?_)
   | fail)
 exact bodyPost_ret (results_row_two rfl _ _ (w.heap.size+1) 25 noSet (0,0) _ _ _ rfl rfl rfl (heap_setRow Z.out) Tryz.underlying25 rfl (by kernel_rfl)) rfl ⟨⟨v,rfl,(HV.out.setRow (by rw [HSZ.out];omega) noSet).down HB0.out.size⟩,below_setRow HB.out (Nat.le_succ _) _⟩
theorem span_less (A:Nat→Addr) (s:ByteArray) (hs:s.size ≤ 4294967280) (a i:Nat) (hi:i+2 < s.size) (hd:Br.dotted (bt s) (i+2)=false) (hc:Br.colon (bt s) (i+2)=false) (hlt:bt s (i+2) < bt s i) (w:World) (hE:BrEnv w A) :
   Calls Tryz.prog 223 #[.agg #[.string s,.int .i64 a],.int .i64 i] w (ItEnd A (.err 5 i) w):=by
 have h1:=bt_at (show i < s.size by omega)
 have h2:=bt_at hi
 have hw:IntKind.i64.wrap ((i:Int)+2)=(i:Int)+2:=IntWalk.i64_in _ (by omega)
 have hi1:(0:Int) ≤ i:=by omega
 have hi2:(i:Int) < s.size:=by omega
 have hi3:(0:Int) ≤ (i:Int)+2:=by omega
 have hi4:(i:Int)+2 < s.size:=by omega
 have hx256:bt s i < 256:=(bt_txt s).1 i (by omega)
 have hy256:bt s (i+2) < 256:=(bt_txt s).1 (i+2) hi
 have HD:=Lib.hid (coll_at s (i+2) _ hd)
 have HC:=Lib.hid (class_at s (i+2) _ hc)
 have HE:=Lib.hid hE
 clear hE hd hc
 generalize bt s i=x at *
 generalize bt s (i+2)=y at *
 have hl:decide (y < x)=true:=by simpa using hlt
 clear hlt
 go_enter Tryz.func223,Tryz.ntmps223
 go_wp2
 go_quiet (fail)
 generalize hW:World.drewN _ _=W at *
 have Z:W.heap[w.heap.size+1]? = some (.cells noSet 25):=by rw [← hW];exact (two_new w _ _).2
 have Z0:W.heap[w.heap.size]? = some (.cells #[.string s,.int .i64 a] 215):=by rw [← hW];exact (two_new w _ _).1
 have hb0:Below w.heap.size w W:=by rw [← hW];exact drewN_below (by go_grown) _
 have hsz:W.heap.size=w.heap.size+2:=by rw [← hW];simp
 have HE':=Lib.hid (HE.out.below hb0)
 have c4:W.cell? ⟨4,0,none⟩=some (.iface 232 (.pointer (some (A 4)))):=(HE'.out.errs 4 (by omega)).1
 have ZZ:=Lib.hid Z;have HB0:=Lib.hid hb0;have HSZ:=Lib.hid hsz
 clear hW Z hb0 hsz
 clear Z0
 go_wp2_with fail
 refine (HD.out _).mono ?_;rintro e w' ⟨rfl,rfl⟩
 go_wp2_with fail
 refine (HC.out _).mono ?_;rintro e w' ⟨rfl,rfl⟩
 go_wp2_with fail
 refine (at_err A 4 (by omega) i _).mono ?_
 rintro e w1 ⟨v,rfl,hv,hb⟩
 have Z:=Lib.hid (keep_blk hb ZZ.out)
 have HB:=Lib.hid (HB0.out.trans (hb.mono HB0.out.size))
 have HV:=Lib.hid hv
 clear hb hv
 go_wp2_with (first
   | (refine wpList_store_row rfl 25 (.tmp 4) (.tmp 38) rfl (w.heap.size+1) noSet rfl rfl 25 _ Z.out (by kernel_rfl) rfl noSet_one ?_)
   | fail)
 exact bodyPost_ret (results_row_two rfl _ _ (w.heap.size+1) 25 noSet (0,0) _ _ _ rfl rfl rfl (heap_setRow Z.out) Tryz.underlying25 rfl (by kernel_rfl)) rfl ⟨⟨v,rfl,(HV.out.setRow (by rw [HSZ.out];omega) noSet).down HB0.out.size⟩,below_setRow HB.out (Nat.le_succ _) _⟩
theorem span_ok (A:Nat→Addr) (s:ByteArray) (hs:s.size ≤ 4294967280) (a i:Nat) (hi:i+2 < s.size) (hd:Br.dotted (bt s) (i+2)=false) (hc:Br.colon (bt s) (i+2)=false) (hlt:¬ bt s (i+2) < bt s i) (w:World) (hE:BrEnv w A) :
   Calls Tryz.prog 223 #[.agg #[.string s,.int .i64 a],.int .i64 i] w (ItEnd A (.ok (Br.rng (bt s i) (bt s (i+2))) (i+3)) w):=by
 have h1:=bt_at (show i < s.size by omega)
 have h2:=bt_at hi
 have hw:IntKind.i64.wrap ((i:Int)+2)=(i:Int)+2:=IntWalk.i64_in _ (by omega)
 have hi1:(0:Int) ≤ i:=by omega
 have hi2:(i:Int) < s.size:=by omega
 have hi3:(0:Int) ≤ (i:Int)+2:=by omega
 have hi4:(i:Int)+2 < s.size:=by omega
 have hx256:bt s i < 256:=(bt_txt s).1 i (by omega)
 have hy256:bt s (i+2) < 256:=(bt_txt s).1 (i+2) hi
 have HD:=Lib.hid (coll_at s (i+2) _ hd)
 have HC:=Lib.hid (class_at s (i+2) _ hc)
 have HE:=Lib.hid hE
 clear hE hd hc
 generalize bt s i=x at *
 generalize bt s (i+2)=y at *
 have hl:decide (y < x)=false:=by simpa using hlt
 have hw3:IntKind.i64.wrap ((i:Int)+2+1)=(i:Int)+3:=by rw [IntWalk.i64_in _ (by omega)];omega
 clear hlt
 go_enter Tryz.func223,Tryz.ntmps223
 go_wp2
 go_quiet (fail)
 generalize hW:World.drewN _ _=W at *
 have Z:W.heap[w.heap.size+1]? = some (.cells noSet 25):=by rw [← hW];exact (two_new w _ _).2
 have Z0:W.heap[w.heap.size]? = some (.cells #[.string s,.int .i64 a] 215):=by rw [← hW];exact (two_new w _ _).1
 have hb0:Below w.heap.size w W:=by rw [← hW];exact drewN_below (by go_grown) _
 have hsz:W.heap.size=w.heap.size+2:=by rw [← hW];simp
 have HE':=Lib.hid (HE.out.below hb0)
 have ZZ:=Lib.hid Z;have HB0:=Lib.hid hb0;have HSZ:=Lib.hid hsz
 clear hW Z hb0 hsz
 clear Z0
 go_wp2_with fail
 refine (HD.out _).mono ?_;rintro e w' ⟨rfl,rfl⟩
 go_wp2_with fail
 refine (HC.out _).mono ?_;rintro e w' ⟨rfl,rfl⟩
 go_wp2_with fail
 refine (range_p x y hx256 hy256 _).mono ?_
 rintro e w1 ⟨rfl,hb⟩
 have Z:=Lib.hid (keep_blk hb ZZ.out)
 have HB:=Lib.hid (HB0.out.trans (hb.mono HB0.out.size))
 clear hb
 go_wp2_with (first
   | (refine wpList_store_row rfl 25 (.tmp 4) (.tmp 44) rfl (w.heap.size+1) #[.int .u64 (Oc.U (Oc.mk (Br.rng x y) 0)),.int .u64 (Oc.U (Oc.mk (Br.rng x y) 1)),.int .u64 (Oc.U (Oc.mk (Br.rng x y) 2)),.int .u64 (Oc.U (Oc.mk (Br.rng x y) 3))] rfl rfl 25 _ Z.out (by kernel_rfl) rfl (setP_one _) ?_)
   | fail)
 exact bodyPost_ret (results_row_two rfl _ _ (w.heap.size+1) 25 #[.int .u64 (Oc.U (Oc.mk (Br.rng x y) 0)),.int .u64 (Oc.U (Oc.mk (Br.rng x y) 1)),.int .u64 (Oc.U (Oc.mk (Br.rng x y) 2)),.int .u64 (Oc.U (Oc.mk (Br.rng x y) 3))] (0,0) _ _ _ rfl rfl rfl (heap_setRow Z.out) Tryz.underlying25 rfl (by kernel_rfl)) rfl ⟨by first | rfl | (push_cast;rfl),below_setRow HB.out (Nat.le_succ _) _⟩
theorem span_any (A:Nat→Addr) (s:ByteArray) (hs:s.size ≤ 4294967280) (a i:Nat) (hi:i+2 < s.size) (w:World) (hE:BrEnv w A) :
   Calls Tryz.prog 223 #[.agg #[.string s,.int .i64 a],.int .i64 i] w (ItEnd A (Br.ranged (bt s) i) w):=by
 unfold Br.ranged
 cases hd:Br.dotted (bt s) (i+2) with
 | true=>exact span_coll A s hs a i hi hd w hE
 | false =>
   cases hc:Br.colon (bt s) (i+2) with
   | true=>exact span_class A s hs a i hi hd hc w hE
   | false =>
     by_cases hlt:bt s (i+2) < bt s i
     · have h:=span_less A s hs a i hi hd hc hlt w hE
       simpa [hlt] using h
     · have h:=span_ok A s hs a i hi hd hc hlt w hE
       simpa [hlt] using h
end Go.Proofs.YtfcilopifjddpaaGreatDoor
namespace Go.Proofs.YtfcilopifjddpaaGreatDoor
open Go.RowKit
theorem ext_ext (s:ByteArray) (k m:Nat) (h:k+m ≤ s.size):(s.extract k s.size).extract 0 m=s.extract k (k+m):=by
 have e:((s.extract k s.size).extract 0 m).data.toList=(s.extract k (k+m)).data.toList:=by
   simp only [ByteArray.data_extract,Array.toList_extract,List.extract_eq_take_drop,List.drop_zero]
   have:s.size=s.data.toList.length:=by simp
   rw [List.take_take];congr 1;omega
 cases h1:(s.extract k s.size).extract 0 m with
 | mk x=>cases h2:s.extract k (k+m) with
   | mk y=>rw [h1,h2] at e;simp only at e;rw [Array.toList_inj.1 e]
theorem cut_none {A:Nat→Addr} (s:ByteArray) (hs:s.size ≤ 4294967280) (k:Nat) (hc:Br.clos (bt s) (s.size - (k+1)) k=none) (w:World) (hE:BrEnv w A) :
   Calls Tryz.prog 157 #[.string (s.extract k s.size),.string ⟨#[58,93]⟩] w fun e w'=>e=.returned (.tuple #[.string (s.extract k s.size),.string ByteArray.empty,.bool false])∧∃ n,w'=w.drewN n:=by
 obtain ⟨m,hm⟩:=hE.idx
 have hz:(s.extract k s.size).size < 4294967281:=by simp;omega
 have h:=Tryz.strings_Cut (s.extract k s.size) ⟨#[58,93]⟩ m w hz hm
 obtain ⟨e1,e2,e3⟩:=Lib.cutB_miss _ _ (index_noclos hc)
 rw [e1,e2,e3] at h;exact h
theorem cut_some {A:Nat→Addr} (s:ByteArray) (hs:s.size ≤ 4294967280) (k m:Nat) (hc:Br.clos (bt s) (s.size - (k+1)) k=some (k+m)) (w:World) (hE:BrEnv w A) :
   Calls Tryz.prog 157 #[.string (s.extract k s.size),.string ⟨#[58,93]⟩] w fun e w'=>∃ r,e=.returned (.tuple #[.string (s.extract k (k+m)),.string r,.bool true])∧∃ n,w'=w.drewN n:=by
 obtain ⟨mx,hm⟩:=hE.idx
 have hz:(s.extract k s.size).size < 4294967281:=by simp;omega
 have h:=Tryz.strings_Cut (s.extract k s.size) ⟨#[58,93]⟩ mx w hz hm
 obtain ⟨g1,g2,g3,g4,-⟩:=Br.clos_some hc
 have hlt:=(bt_txt s).lt g4 (by omega)
 have hix:=index_clos hc
 rw [show k+m - k=m by omega] at hix
 obtain ⟨e1,e2,e3⟩:=Lib.cutB_hit _ _ m hix
 rw [e1,e2,e3,ext_ext s k m (by omega)] at h
 exact h.mono fun e w' hh=>⟨_,hh⟩
theorem of_p (x:Nat) (hx:x < 256) (v:Int) (hv:v=(x:Int)) (w:World) (g:Nat) (hg:w.heap.size=g) (t:TypeId) :
   Calls Tryz.prog 114 #[.slice (some ⟨g,0,none⟩) 1 1] (w.alloc (.cells #[.int .u8 v] t))
     fun e w'=>e=.returned (.agg #[.int .u64 (Oc.U (Oc.mk (fun b=>b == x) 0)),.int .u64 (Oc.U (Oc.mk (fun b=>b == x) 1)),.int .u64 (Oc.U (Oc.mk (fun b=>b == x) 2)),.int .u64 (Oc.U (Oc.mk (fun b=>b == x) 3))])∧Below (w.alloc (.cells #[.int .u8 v] t)).heap.size (w.alloc (.cells #[.int .u8 v] t)) w':=by
 have hb:Oc.anyB (oneOf x) 1=fun b=>b == x:=by funext b;simp [Oc.anyB,oneOf]
 exact (of_one x hx v hv w g hg t _ _ _ _ (by rw [hb]) (by rw [hb]) (by rw [hb]) (by rw [hb])).mono fun e w' h=>⟨h.1,by simpa using h.2⟩
theorem brnamed_open (A:Nat→Addr) (s:ByteArray) (_hs:s.size ≤ 4294967280) (a i:Nat) (hi:i+2 ≤ s.size) (hc:Br.clos (bt s) (s.size - (i+3)) (i+2)=none) (w:World) (hE:BrEnv w A) :
   Calls Tryz.prog 222 #[.agg #[.string s,.int .i64 a],.int .i64 i] w (ItEnd A (.err 1 a) w):=by
 have hw:IntKind.i64.wrap ((i:Int)+2)=(i:Int)+2:=IntWalk.i64_in _ (by omega)
 have hi3:(0:Int) ≤ (i:Int)+2:=by omega
 have hi4:(i:Int)+2 ≤ s.size:=by omega
 have HCUT:=Lib.hid (fun w hE=>cut_none (A:=A) s _hs (i+2) hc w hE)
 have HE:=Lib.hid hE
 clear hE hc
 go_enter Tryz.func222,Tryz.ntmps222
 go_wp2_with fail
 refine (HCUT.out _ (HE.out.below (by go_grown))).mono ?_
 rintro e w' ⟨rfl,n,rfl⟩
 generalize hW:World.drewN _ _=W at *
 have Z:W.heap[w.heap.size+1]? = some (.cells noSet 25):=by rw [← hW];exact (two_new w _ _).2
 have Z0:W.heap[w.heap.size]? = some (.cells #[.string s,.int .i64 a] 215):=by rw [← hW];exact (two_new w _ _).1
 have hb0:Below w.heap.size w W:=by rw [← hW];exact drewN_below (by go_grown) _
 have hsz:W.heap.size=w.heap.size+2:=by rw [← hW];simp
 have HE':=Lib.hid (HE.out.below hb0)
 have ZZ:=Lib.hid Z;have HB0:=Lib.hid hb0;have HSZ:=Lib.hid hsz
 clear hW Z hb0 hsz
 have ZR:=Lib.hid Z0
 clear Z0
 go_wp2_with (first
   | (refine wpList_load_row rfl 215 (.tmp 2) rfl w.heap.size rfl 215 _ (0,0) _ ZR.out Tryz.underlying215 rfl (by kernel_rfl) ?_)
   | fail)
 refine (open_any A s a _ HE'.out).mono ?_
 intro e w1 he
 obtain ⟨v,rfl,hv,hb⟩:=he.err rfl
 obtain ⟨q,rfl⟩:=hv.iface
 have Z:=Lib.hid (keep_blk hb ZZ.out)
 have HB:=Lib.hid (HB0.out.trans (hb.mono HB0.out.size))
 have HV:=Lib.hid hv
 clear hb hv he
 go_wp2_with (first
   | (refine wpList_store_row rfl 25 (.tmp 4) (.tmp 26) rfl (w.heap.size+1) noSet rfl rfl 25 _ Z.out (by kernel_rfl) rfl noSet_one ?_)
   | fail)
 exact bodyPost_ret (results_row_two rfl _ _ (w.heap.size+1) 25 noSet (0,0) _ _ _ rfl rfl rfl (heap_setRow Z.out) Tryz.underlying25 rfl (by kernel_rfl)) rfl ⟨⟨_,rfl,(HV.out.setRow (by rw [HSZ.out];omega) noSet).down HB0.out.size⟩,below_setRow HB.out (Nat.le_succ _) _⟩
theorem brnamed_no (A:Nat→Addr) (s:ByteArray) (_hs:s.size ≤ 4294967280) (a i:Nat) (m:Nat) (hm:i+m+4 ≤ s.size) (hc:Br.clos (bt s) (s.size - (i+3)) (i+2)=some (i+2+m)) (hn:Cl.No (s.extract (i+2) (i+2+m))) (w:World) (hE:BrEnv w A) :
   Calls Tryz.prog 222 #[.agg #[.string s,.int .i64 a],.int .i64 i] w (ItEnd A (.err 6 i) w):=by
 have hi:i+2 ≤ s.size:=by omega
 have hl:(s.extract (i+2) (i+2+m)).size=m:=by simp;omega
 have hw:IntKind.i64.wrap ((i:Int)+2)=(i:Int)+2:=IntWalk.i64_in _ (by omega)
 have hi3:(0:Int) ≤ (i:Int)+2:=by omega
 have hi4:(i:Int)+2 ≤ s.size:=by omega
 have HCUT:=Lib.hid (fun w hE=>cut_some (A:=A) s _hs (i+2) m hc w hE)
 have HE:=Lib.hid hE
 have HN:=Lib.hid (named_no _ hn)
 clear hE hc hn
 generalize s.extract (i+2) (i+2+m)=t at *
 go_enter Tryz.func222,Tryz.ntmps222
 go_wp2_with fail
 refine (HCUT.out _ (HE.out.below (by go_grown))).mono ?_
 rintro e w' ⟨r,rfl,n,rfl⟩
 generalize hW:World.drewN _ _=W at *
 have Z:W.heap[w.heap.size+1]? = some (.cells noSet 25):=by rw [← hW];exact (two_new w _ _).2
 have Z0:W.heap[w.heap.size]? = some (.cells #[.string s,.int .i64 a] 215):=by rw [← hW];exact (two_new w _ _).1
 have hb0:Below w.heap.size w W:=by rw [← hW];exact drewN_below (by go_grown) _
 have hsz:W.heap.size=w.heap.size+2:=by rw [← hW];simp
 have HE':=Lib.hid (HE.out.below hb0)
 have c5:W.cell? ⟨5,0,none⟩=some (.iface 232 (.pointer (some (A 5)))):=(HE'.out.errs 5 (by omega)).1
 have C5:=Lib.hid c5
 clear c5
 have ZZ:=Lib.hid Z;have HB0:=Lib.hid hb0;have HSZ:=Lib.hid hsz
 clear hW Z hb0 hsz
 have ZR:=Lib.hid Z0
 clear Z0
 go_wp2_with fail
 refine (HN.out _ _ C5.out).mono ?_
 rintro e w1 ⟨rfl,hb⟩
 have hbA:Below W.heap.size W (w1.alloc (.cells noSet 25)):=hb.alloc hb.size _
 have Z:=Lib.hid (keep_blk hbA ZZ.out)
 have HB:=Lib.hid (HB0.out.trans (hbA.mono HB0.out.size))
 have HBA:=Lib.hid hbA
 clear hb hbA
 go_wp2_with fail
 generalize World.alloc w1 _=W2 at *
 refine (at_err A 5 (by omega) i _).mono ?_
 rintro e w3 ⟨v,rfl,hv,hb⟩
 have Y:=Lib.hid (keep_blk hb Z.out)
 have HB3:=Lib.hid (HB.out.trans (hb.mono HB.out.size))
 have HV:=Lib.hid (hv.down HBA.out.size)
 clear hb hv
 go_wp2_with (first
   | (refine wpList_store_row rfl 25 (.tmp 4) (.tmp 36) rfl (w.heap.size+1) noSet rfl rfl 25 _ Y.out (by kernel_rfl) rfl noSet_one ?_)
   | fail)
 exact bodyPost_ret (results_row_two rfl _ _ (w.heap.size+1) 25 noSet (0,0) _ _ _ rfl rfl rfl (heap_setRow Y.out) Tryz.underlying25 rfl (by kernel_rfl)) rfl ⟨⟨v,rfl,(HV.out.setRow (by rw [HSZ.out];omega) noSet).down HB0.out.size⟩,below_setRow HB3.out (Nat.le_succ _) _⟩
theorem brnamed_yes (A:Nat→Addr) (s:ByteArray) (_hs:s.size ≤ 4294967280) (a i:Nat) (m k:Nat) (hm:i+m+4 ≤ s.size) (hc:Br.clos (bt s) (s.size - (i+3)) (i+2)=some (i+2+m)) (hk:Known (s.extract (i+2) (i+2+m)) k) (w:World) (hE:BrEnv w A) :
   Calls Tryz.prog 222 #[.agg #[.string s,.int .i64 a],.int .i64 i] w (ItEnd A (.ok (Cl.cls k) (i+2+m+2)) w):=by
 have hi:i+2 ≤ s.size:=by omega
 have hl:(s.extract (i+2) (i+2+m)).size=m:=by simp;omega
 have hw:IntKind.i64.wrap ((i:Int)+2)=(i:Int)+2:=IntWalk.i64_in _ (by omega)
 have hi3:(0:Int) ≤ (i:Int)+2:=by omega
 have hi4:(i:Int)+2 ≤ s.size:=by omega
 have HCUT:=Lib.hid (fun w hE=>cut_some (A:=A) s _hs (i+2) m hc w hE)
 have HE:=Lib.hid hE
 have HK:=Lib.hid hk.1
 have hw2:IntKind.i64.wrap ((i:Int)+2+m)=(i:Int)+2+m:=IntWalk.i64_in _ (by omega)
 have hw3:IntKind.i64.wrap ((i:Int)+2+m+2)=(i:Int)+2+m+2:=IntWalk.i64_in _ (by omega)
 clear hE hc hk
 generalize s.extract (i+2) (i+2+m)=t at *
 go_enter Tryz.func222,Tryz.ntmps222
 go_wp2_with fail
 refine (HCUT.out _ (HE.out.below (by go_grown))).mono ?_
 rintro e w' ⟨r,rfl,n,rfl⟩
 generalize hW:World.drewN _ _=W at *
 have Z:W.heap[w.heap.size+1]? = some (.cells noSet 25):=by rw [← hW];exact (two_new w _ _).2
 have Z0:W.heap[w.heap.size]? = some (.cells #[.string s,.int .i64 a] 215):=by rw [← hW];exact (two_new w _ _).1
 have hb0:Below w.heap.size w W:=by rw [← hW];exact drewN_below (by go_grown) _
 have hsz:W.heap.size=w.heap.size+2:=by rw [← hW];simp
 have HE':=Lib.hid (HE.out.below hb0)
 have ZZ:=Lib.hid Z;have HB0:=Lib.hid hb0;have HSZ:=Lib.hid hsz
 clear hW Z hb0 hsz
 have ZR:=Lib.hid Z0
 clear Z0
 go_wp2_with fail
 refine (HK.out _).mono ?_
 rintro e w1 ⟨rfl,hb⟩
 have hbA:Below W.heap.size W (w1.alloc (.cells #[.int .u64 (Oc.U (Cl.cw k 0)),.int .u64 (Oc.U (Cl.cw k 1)),.int .u64 (Oc.U (Cl.cw k 2)),.int .u64 (Oc.U (Cl.cw k 3))] 25)):=hb.alloc hb.size _
 have Z:=Lib.hid (keep_blk hbA ZZ.out)
 have ZK:=Lib.hid (heap_alloc_new w1 (.cells #[.int .u64 (Oc.U (Cl.cw k 0)),.int .u64 (Oc.U (Cl.cw k 1)),.int .u64 (Oc.U (Cl.cw k 2)),.int .u64 (Oc.U (Cl.cw k 3))] 25))
 have HB:=Lib.hid (HB0.out.trans (hbA.mono HB0.out.size))
 clear hb hbA
 go_wp2_with (first
   | (refine wpList_load_row rfl 25 (.tmp 10) rfl w1.heap.size rfl 25 _ (0,0) _ ZK.out Tryz.underlying25 rfl (by kernel_rfl) ?_)
   | (refine wpList_store_row rfl 25 (.tmp 4) (.tmp 40) rfl (w.heap.size+1) #[.int .u64 (Oc.U (Cl.cw k 0)),.int .u64 (Oc.U (Cl.cw k 1)),.int .u64 (Oc.U (Cl.cw k 2)),.int .u64 (Oc.U (Cl.cw k 3))] rfl rfl 25 _ Z.out (by kernel_rfl) rfl setC_one ?_)
   | fail)
 exact bodyPost_ret (results_row_two rfl _ _ (w.heap.size+1) 25 #[.int .u64 (Oc.U (Cl.cw k 0)),.int .u64 (Oc.U (Cl.cw k 1)),.int .u64 (Oc.U (Cl.cw k 2)),.int .u64 (Oc.U (Cl.cw k 3))] (0,0) _ _ _ rfl rfl rfl (heap_setRow Z.out) Tryz.underlying25 rfl (by kernel_rfl)) rfl ⟨by exact rfl,below_setRow HB.out (Nat.le_succ _) _⟩
theorem britem_coll (A:Nat→Addr) (s:ByteArray) (_hs:s.size ≤ 4294967280) (a i:Nat) (hi:i < s.size) (hd:Br.dotted (bt s) i=true) (w:World) (hE:BrEnv w A) :
   Calls Tryz.prog 214 #[.agg #[.string s,.int .i64 a],.int .i64 i] w (ItEnd A (.err 7 i) w):=by
 have hi1:(0:Int) ≤ i:=by omega
 have hi2:(i:Int) ≤ s.size:=by omega
 have HD:=Lib.hid (coll_at s i _ hd)
 have HE:=Lib.hid hE
 clear hE hd
 clear hi _hs
 have hz0:i ≤ s.size:=by omega
 go_enter Tryz.func214,Tryz.ntmps214
 go_wp2_with fail
 refine (HD.out _).mono ?_;rintro e w' ⟨rfl,rfl⟩
 generalize hW:World.alloc (World.alloc _ _) _=W at *
 have Z:W.heap[w.heap.size+1]? = some (.cells noSet 25):=by rw [← hW];exact (two_new w _ _).2
 have Z0:W.heap[w.heap.size]? = some (.cells #[.string s,.int .i64 a] 215):=by rw [← hW];exact (two_new w _ _).1
 have hb0:Below w.heap.size w W:=by rw [← hW];go_grown
 have hsz:W.heap.size=w.heap.size+2:=by rw [← hW];simp
 have HE':=Lib.hid (HE.out.below hb0)
 have c6:W.cell? ⟨6,0,none⟩=some (.iface 232 (.pointer (some (A 6)))):=(HE'.out.errs 6 (by omega)).1
 have ZZ:=Lib.hid Z;have HB0:=Lib.hid hb0;have HSZ:=Lib.hid hsz
 clear hW Z hb0 hsz
 have ZR:=Lib.hid Z0
 clear Z0
 go_wp2_with fail
 refine (at_err A 6 (by omega) i _).mono ?_
 rintro e w1 ⟨v,rfl,hv,hb⟩
 have Z:=Lib.hid (keep_blk hb ZZ.out)
 have HB:=Lib.hid (HB0.out.trans (hb.mono HB0.out.size))
 have HV:=Lib.hid hv
 clear hb hv
 go_wp2_with (first
   | (refine wpList_store_row rfl 25 (.tmp 4) (.tmp 15) rfl (w.heap.size+1) noSet rfl rfl 25 _ Z.out (by kernel_rfl) rfl noSet_one ?_)
   | fail)
 exact bodyPost_ret (results_row_two rfl _ _ (w.heap.size+1) 25 noSet (0,0) _ _ _ rfl rfl rfl (heap_setRow Z.out) Tryz.underlying25 rfl (by kernel_rfl)) rfl ⟨⟨v,rfl,(HV.out.setRow (by rw [HSZ.out];omega) noSet).down HB0.out.size⟩,below_setRow HB.out (Nat.le_succ _) _⟩
theorem britem_class_ok (A:Nat→Addr) (s:ByteArray) (_hs:s.size ≤ 4294967280) (a i:Nat) (hi:i < s.size) (hd:Br.dotted (bt s) i=false) (hc:Br.colon (bt s) i=true) (P:Nat→Bool) (j:Nat) (HI:∀ w,BrEnv w A→Calls Tryz.prog 222 #[.agg #[.string s,.int .i64 a],.int .i64 i] w (ItEnd A (.ok P j) w)) (w:World) (hE:BrEnv w A) :
   Calls Tryz.prog 214 #[.agg #[.string s,.int .i64 a],.int .i64 i] w (ItEnd A (.ok P j) w):=by
 have hi1:(0:Int) ≤ i:=by omega
 have hi2:(i:Int) ≤ s.size:=by omega
 have HD:=Lib.hid (coll_at s i _ hd)
 have HC:=Lib.hid (class_at s i _ hc)
 have HE:=Lib.hid hE
 have HX:=Lib.hid HI
 clear HI
 clear hE hd hc
 have hz0:i ≤ s.size:=by omega
 go_enter Tryz.func214,Tryz.ntmps214
 go_wp2_with fail
 refine (HD.out _).mono ?_;rintro e w' ⟨rfl,rfl⟩
 generalize hW:World.alloc (World.alloc _ _) _=W at *
 have Z:W.heap[w.heap.size+1]? = some (.cells noSet 25):=by rw [← hW];exact (two_new w _ _).2
 have Z0:W.heap[w.heap.size]? = some (.cells #[.string s,.int .i64 a] 215):=by rw [← hW];exact (two_new w _ _).1
 have hb0:Below w.heap.size w W:=by rw [← hW];go_grown
 have hsz:W.heap.size=w.heap.size+2:=by rw [← hW];simp
 have HE':=Lib.hid (HE.out.below hb0)
 have ZZ:=Lib.hid Z;have HB0:=Lib.hid hb0;have HSZ:=Lib.hid hsz
 clear hW Z hb0 hsz
 have ZR:=Lib.hid Z0
 clear Z0
 go_wp2_with fail
 refine (HC.out _).mono ?_;rintro e w' ⟨rfl,rfl⟩
 go_wp2_with (first
   | (refine wpList_load_row rfl 215 (.tmp 2) rfl w.heap.size rfl 215 _ (0,0) _ ZR.out Tryz.underlying215 rfl (by kernel_rfl) ?_)
   | fail)
 refine (HX.out _ HE'.out).mono ?_
 intro e w1 he
 obtain ⟨rfl,hb⟩:=he.ok rfl
 have Z:=Lib.hid (keep_blk hb ZZ.out)
 have HB:=Lib.hid (HB0.out.trans (hb.mono HB0.out.size))
 clear hb he
 go_wp2_with (first
   | (refine wpList_store_row rfl 25 (.tmp 4) (.tmp 25) rfl (w.heap.size+1) #[.int .u64 (Oc.U (Oc.mk (P) 0)),.int .u64 (Oc.U (Oc.mk (P) 1)),.int .u64 (Oc.U (Oc.mk (P) 2)),.int .u64 (Oc.U (Oc.mk (P) 3))] rfl rfl 25 _ Z.out (by kernel_rfl) rfl (setP_one _) ?_)
   | fail)
 exact bodyPost_ret (results_row_two rfl _ _ (w.heap.size+1) 25 #[.int .u64 (Oc.U (Oc.mk (P) 0)),.int .u64 (Oc.U (Oc.mk (P) 1)),.int .u64 (Oc.U (Oc.mk (P) 2)),.int .u64 (Oc.U (Oc.mk (P) 3))] (0,0) _ _ _ rfl rfl rfl (heap_setRow Z.out) Tryz.underlying25 rfl (by kernel_rfl)) rfl ⟨by exact rfl,below_setRow HB.out (Nat.le_succ _) _⟩
theorem britem_class_err (A:Nat→Addr) (s:ByteArray) (_hs:s.size ≤ 4294967280) (a i:Nat) (hi:i < s.size) (hd:Br.dotted (bt s) i=false) (hc:Br.colon (bt s) i=true) (c:Nat) (q:Int) (HI:∀ w,BrEnv w A→Calls Tryz.prog 222 #[.agg #[.string s,.int .i64 a],.int .i64 i] w (ItEnd A (.err c q) w)) (w:World) (hE:BrEnv w A) :
   Calls Tryz.prog 214 #[.agg #[.string s,.int .i64 a],.int .i64 i] w (ItEnd A (.err c q) w):=by
 have hi1:(0:Int) ≤ i:=by omega
 have hi2:(i:Int) ≤ s.size:=by omega
 have HD:=Lib.hid (coll_at s i _ hd)
 have HC:=Lib.hid (class_at s i _ hc)
 have HE:=Lib.hid hE
 have HX:=Lib.hid HI
 clear HI
 clear hE hd hc
 have hz0:i ≤ s.size:=by omega
 go_enter Tryz.func214,Tryz.ntmps214
 go_wp2_with fail
 refine (HD.out _).mono ?_;rintro e w' ⟨rfl,rfl⟩
 generalize hW:World.alloc (World.alloc _ _) _=W at *
 have Z:W.heap[w.heap.size+1]? = some (.cells noSet 25):=by rw [← hW];exact (two_new w _ _).2
 have Z0:W.heap[w.heap.size]? = some (.cells #[.string s,.int .i64 a] 215):=by rw [← hW];exact (two_new w _ _).1
 have hb0:Below w.heap.size w W:=by rw [← hW];go_grown
 have hsz:W.heap.size=w.heap.size+2:=by rw [← hW];simp
 have HE':=Lib.hid (HE.out.below hb0)
 have ZZ:=Lib.hid Z;have HB0:=Lib.hid hb0;have HSZ:=Lib.hid hsz
 clear hW Z hb0 hsz
 have ZR:=Lib.hid Z0
 clear Z0
 go_wp2_with fail
 refine (HC.out _).mono ?_;rintro e w' ⟨rfl,rfl⟩
 go_wp2_with (first
   | (refine wpList_load_row rfl 215 (.tmp 2) rfl w.heap.size rfl 215 _ (0,0) _ ZR.out Tryz.underlying215 rfl (by kernel_rfl) ?_)
   | fail)
 refine (HX.out _ HE'.out).mono ?_
 intro e w1 he
 obtain ⟨v,rfl,hv,hb⟩:=he.err rfl
 obtain ⟨q',rfl⟩:=hv.iface
 have Z:=Lib.hid (keep_blk hb ZZ.out)
 have HB:=Lib.hid (HB0.out.trans (hb.mono HB0.out.size))
 have HV:=Lib.hid hv
 clear hb hv he
 go_wp2_with (first
   | (refine wpList_store_row rfl 25 (.tmp 4) (.tmp 25) rfl (w.heap.size+1) noSet rfl rfl 25 _ Z.out (by kernel_rfl) rfl noSet_one ?_)
   | fail)
 exact bodyPost_ret (results_row_two rfl _ _ (w.heap.size+1) 25 noSet (0,0) _ _ _ rfl rfl rfl (heap_setRow Z.out) Tryz.underlying25 rfl (by kernel_rfl)) rfl ⟨⟨_,rfl,(HV.out.setRow (by rw [HSZ.out];omega) noSet).down HB0.out.size⟩,below_setRow HB.out (Nat.le_succ _) _⟩
theorem britem_range_ok (A:Nat→Addr) (s:ByteArray) (_hs:s.size ≤ 4294967280) (a i:Nat) (hi:i < s.size) (hd:Br.dotted (bt s) i=false) (hc:Br.colon (bt s) i=false) (h2:i+2 < s.size) (h45:bt s (i+1)=45) (h93:bt s (i+2) ≠ 93) (P:Nat→Bool) (j:Nat) (HI:∀ w,BrEnv w A→Calls Tryz.prog 223 #[.agg #[.string s,.int .i64 a],.int .i64 i] w (ItEnd A (.ok P j) w)) (w:World) (hE:BrEnv w A) :
   Calls Tryz.prog 214 #[.agg #[.string s,.int .i64 a],.int .i64 i] w (ItEnd A (.ok P j) w):=by
 have hi1:(0:Int) ≤ i:=by omega
 have hi2:(i:Int) ≤ s.size:=by omega
 have HD:=Lib.hid (coll_at s i _ hd)
 have HC:=Lib.hid (class_at s i _ hc)
 have HE:=Lib.hid hE
 have HX:=Lib.hid HI
 clear HI
 have hlz:(s.extract i s.size).size=s.size - i:=by simp
 have dL:decide ((2:Int) < ((s.extract i s.size).size:Int))=true:=by rw [hlz];simp;omega
 have dM:decide (2 < (s.extract i s.size).size)=true:=by rw [hlz];simp;omega
 have dl1:1 < (s.extract i s.size).size:=by omega
 have dl2:2 < (s.extract i s.size).size:=by omega
 have q1:(s.extract i s.size)[1].toNat=bt s (i+1):=by rw [bt_at dl1,bt_ext]
 have q2:(s.extract i s.size)[2].toNat=bt s (i+2):=by rw [bt_at dl2,bt_ext]
 have e1:(((s.extract i s.size)[1].toNat:Int) == 45)=true:=by rw [q1];simp;omega
 have e2:(((s.extract i s.size)[2].toNat:Int) != 93)=true:=by rw [q2];simp;omega
 clear q1 q2
 clear hE hd hc h2 h45 h93
 clear hlz
 have hz0:i ≤ s.size:=by omega
 go_enter Tryz.func214,Tryz.ntmps214
 go_wp2_with fail
 refine (HD.out _).mono ?_;rintro e w' ⟨rfl,rfl⟩
 generalize s.extract i s.size=t at *
 generalize hW:World.alloc (World.alloc _ _) _=W at *
 have Z:W.heap[w.heap.size+1]? = some (.cells noSet 25):=by rw [← hW];exact (two_new w _ _).2
 have Z0:W.heap[w.heap.size]? = some (.cells #[.string s,.int .i64 a] 215):=by rw [← hW];exact (two_new w _ _).1
 have hb0:Below w.heap.size w W:=by rw [← hW];go_grown
 have hsz:W.heap.size=w.heap.size+2:=by rw [← hW];simp
 have HE':=Lib.hid (HE.out.below hb0)
 have ZZ:=Lib.hid Z;have HB0:=Lib.hid hb0;have HSZ:=Lib.hid hsz
 clear hW Z hb0 hsz
 have ZR:=Lib.hid Z0
 clear Z0
 go_wp2_with fail
 refine (HC.out _).mono ?_;rintro e w' ⟨rfl,rfl⟩
 go_wp2_with (first
   | (refine wpList_load_row rfl 215 (.tmp 2) rfl w.heap.size rfl 215 _ (0,0) _ ZR.out Tryz.underlying215 rfl (by kernel_rfl) ?_)
   | fail)
 refine (HX.out _ HE'.out).mono ?_
 intro e w1 he
 obtain ⟨rfl,hb⟩:=he.ok rfl
 have Z:=Lib.hid (keep_blk hb ZZ.out)
 have HB:=Lib.hid (HB0.out.trans (hb.mono HB0.out.size))
 clear hb he
 go_wp2_with (first
   | (refine wpList_store_row rfl 25 (.tmp 4) (.tmp 45) rfl (w.heap.size+1) #[.int .u64 (Oc.U (Oc.mk (P) 0)),.int .u64 (Oc.U (Oc.mk (P) 1)),.int .u64 (Oc.U (Oc.mk (P) 2)),.int .u64 (Oc.U (Oc.mk (P) 3))] rfl rfl 25 _ Z.out (by kernel_rfl) rfl (setP_one _) ?_)
   | fail)
 exact bodyPost_ret (results_row_two rfl _ _ (w.heap.size+1) 25 #[.int .u64 (Oc.U (Oc.mk (P) 0)),.int .u64 (Oc.U (Oc.mk (P) 1)),.int .u64 (Oc.U (Oc.mk (P) 2)),.int .u64 (Oc.U (Oc.mk (P) 3))] (0,0) _ _ _ rfl rfl rfl (heap_setRow Z.out) Tryz.underlying25 rfl (by kernel_rfl)) rfl ⟨by exact rfl,below_setRow HB.out (Nat.le_succ _) _⟩
theorem britem_range_err (A:Nat→Addr) (s:ByteArray) (_hs:s.size ≤ 4294967280) (a i:Nat) (hi:i < s.size) (hd:Br.dotted (bt s) i=false) (hc:Br.colon (bt s) i=false) (h2:i+2 < s.size) (h45:bt s (i+1)=45) (h93:bt s (i+2) ≠ 93) (c:Nat) (q:Int) (HI:∀ w,BrEnv w A→Calls Tryz.prog 223 #[.agg #[.string s,.int .i64 a],.int .i64 i] w (ItEnd A (.err c q) w)) (w:World) (hE:BrEnv w A) :
   Calls Tryz.prog 214 #[.agg #[.string s,.int .i64 a],.int .i64 i] w (ItEnd A (.err c q) w):=by
 have hi1:(0:Int) ≤ i:=by omega
 have hi2:(i:Int) ≤ s.size:=by omega
 have HD:=Lib.hid (coll_at s i _ hd)
 have HC:=Lib.hid (class_at s i _ hc)
 have HE:=Lib.hid hE
 have HX:=Lib.hid HI
 clear HI
 have hlz:(s.extract i s.size).size=s.size - i:=by simp
 have dL:decide ((2:Int) < ((s.extract i s.size).size:Int))=true:=by rw [hlz];simp;omega
 have dM:decide (2 < (s.extract i s.size).size)=true:=by rw [hlz];simp;omega
 have dl1:1 < (s.extract i s.size).size:=by omega
 have dl2:2 < (s.extract i s.size).size:=by omega
 have q1:(s.extract i s.size)[1].toNat=bt s (i+1):=by rw [bt_at dl1,bt_ext]
 have q2:(s.extract i s.size)[2].toNat=bt s (i+2):=by rw [bt_at dl2,bt_ext]
 have e1:(((s.extract i s.size)[1].toNat:Int) == 45)=true:=by rw [q1];simp;omega
 have e2:(((s.extract i s.size)[2].toNat:Int) != 93)=true:=by rw [q2];simp;omega
 clear q1 q2
 clear hE hd hc h2 h45 h93
 clear hlz
 have hz0:i ≤ s.size:=by omega
 go_enter Tryz.func214,Tryz.ntmps214
 go_wp2_with fail
 refine (HD.out _).mono ?_;rintro e w' ⟨rfl,rfl⟩
 generalize s.extract i s.size=t at *
 generalize hW:World.alloc (World.alloc _ _) _=W at *
 have Z:W.heap[w.heap.size+1]? = some (.cells noSet 25):=by rw [← hW];exact (two_new w _ _).2
 have Z0:W.heap[w.heap.size]? = some (.cells #[.string s,.int .i64 a] 215):=by rw [← hW];exact (two_new w _ _).1
 have hb0:Below w.heap.size w W:=by rw [← hW];go_grown
 have hsz:W.heap.size=w.heap.size+2:=by rw [← hW];simp
 have HE':=Lib.hid (HE.out.below hb0)
 have ZZ:=Lib.hid Z;have HB0:=Lib.hid hb0;have HSZ:=Lib.hid hsz
 clear hW Z hb0 hsz
 have ZR:=Lib.hid Z0
 clear Z0
 go_wp2_with fail
 refine (HC.out _).mono ?_;rintro e w' ⟨rfl,rfl⟩
 go_wp2_with (first
   | (refine wpList_load_row rfl 215 (.tmp 2) rfl w.heap.size rfl 215 _ (0,0) _ ZR.out Tryz.underlying215 rfl (by kernel_rfl) ?_)
   | fail)
 refine (HX.out _ HE'.out).mono ?_
 intro e w1 he
 obtain ⟨v,rfl,hv,hb⟩:=he.err rfl
 obtain ⟨q',rfl⟩:=hv.iface
 have Z:=Lib.hid (keep_blk hb ZZ.out)
 have HB:=Lib.hid (HB0.out.trans (hb.mono HB0.out.size))
 have HV:=Lib.hid hv
 clear hb hv he
 go_wp2_with (first
   | (refine wpList_store_row rfl 25 (.tmp 4) (.tmp 45) rfl (w.heap.size+1) noSet rfl rfl 25 _ Z.out (by kernel_rfl) rfl noSet_one ?_)
   | fail)
 exact bodyPost_ret (results_row_two rfl _ _ (w.heap.size+1) 25 noSet (0,0) _ _ _ rfl rfl rfl (heap_setRow Z.out) Tryz.underlying25 rfl (by kernel_rfl)) rfl ⟨⟨_,rfl,(HV.out.setRow (by rw [HSZ.out];omega) noSet).down HB0.out.size⟩,below_setRow HB.out (Nat.le_succ _) _⟩
theorem britem_short (A:Nat→Addr) (s:ByteArray) (_hs:s.size ≤ 4294967280) (a i:Nat) (hi:i < s.size) (hd:Br.dotted (bt s) i=false) (hc:Br.colon (bt s) i=false) (h2:s.size ≤ i+2) (w:World) (hE:BrEnv w A) :
   Calls Tryz.prog 214 #[.agg #[.string s,.int .i64 a],.int .i64 i] w (ItEnd A (.ok (fun b=>b == bt s i) (i+1)) w):=by
 have hi1:(0:Int) ≤ i:=by omega
 have hi2:(i:Int) ≤ s.size:=by omega
 have HD:=Lib.hid (coll_at s i _ hd)
 have HC:=Lib.hid (class_at s i _ hc)
 have HE:=Lib.hid hE
 have hlz:(s.extract i s.size).size=s.size - i:=by simp
 have dL:decide ((2:Int) < ((s.extract i s.size).size:Int))=false:=by rw [hlz];simp;omega
 have dM:decide (2 < (s.extract i s.size).size)=false:=by rw [hlz];simp;omega
 have ql:0 < (s.extract i s.size).size:=by omega
 have q0:(s.extract i s.size)[0].toNat=bt s i:=by rw [bt_at ql,bt_ext];rfl
 have hx256:bt s i < 256:=(bt_txt s).1 i hi
 have hw:IntKind.i64.wrap ((i:Int)+1)=(i:Int)+1:=IntWalk.i64_in _ (by omega)
 clear hE hd hc h2
 clear hlz
 generalize bt s i=x at *
 have hz0:i ≤ s.size:=by omega
 go_enter Tryz.func214,Tryz.ntmps214
 go_wp2_with fail
 refine (HD.out _).mono ?_;rintro e w' ⟨rfl,rfl⟩
 generalize s.extract i s.size=t at *
 generalize hW:World.alloc (World.alloc _ _) _=W at *
 have Z:W.heap[w.heap.size+1]? = some (.cells noSet 25):=by rw [← hW];exact (two_new w _ _).2
 have Z0:W.heap[w.heap.size]? = some (.cells #[.string s,.int .i64 a] 215):=by rw [← hW];exact (two_new w _ _).1
 have hb0:Below w.heap.size w W:=by rw [← hW];go_grown
 have hsz:W.heap.size=w.heap.size+2:=by rw [← hW];simp
 have HE':=Lib.hid (HE.out.below hb0)
 have ZZ:=Lib.hid Z;have HB0:=Lib.hid hb0;have HSZ:=Lib.hid hsz
 clear hW Z hb0 hsz
 have ZR:=Lib.hid Z0
 clear Z0
 go_wp2_with fail
 refine (HC.out _).mono ?_;rintro e w' ⟨rfl,rfl⟩
 go_wp2_with fail
 refine (of_p x hx256 _ (by first | rfl | rw [q0]) _ _ rfl _).mono ?_
 rintro e w1 ⟨rfl,hb⟩
 have hbA:Below W.heap.size W w1:=((Below.refl _ _).alloc (Nat.le_refl _) _).trans (hb.mono (by simp))
 have Z:=Lib.hid (keep_blk hbA ZZ.out)
 have HB:=Lib.hid (HB0.out.trans (hbA.mono HB0.out.size))
 clear hb hbA
 go_wp2_with (first
   | (refine wpList_store_row rfl 25 (.tmp 4) (.tmp 51) rfl (w.heap.size+1) #[.int .u64 (Oc.U (Oc.mk (fun b=>b == x) 0)),.int .u64 (Oc.U (Oc.mk (fun b=>b == x) 1)),.int .u64 (Oc.U (Oc.mk (fun b=>b == x) 2)),.int .u64 (Oc.U (Oc.mk (fun b=>b == x) 3))] rfl rfl 25 _ Z.out (by kernel_rfl) rfl (setP_one _) ?_)
   | fail)
 exact bodyPost_ret (results_row_two rfl _ _ (w.heap.size+1) 25 #[.int .u64 (Oc.U (Oc.mk (fun b=>b == x) 0)),.int .u64 (Oc.U (Oc.mk (fun b=>b == x) 1)),.int .u64 (Oc.U (Oc.mk (fun b=>b == x) 2)),.int .u64 (Oc.U (Oc.mk (fun b=>b == x) 3))] (0,0) _ _ _ rfl rfl rfl (heap_setRow Z.out) Tryz.underlying25 rfl (by kernel_rfl)) rfl ⟨by exact rfl,below_setRow HB.out (Nat.le_succ _) _⟩
theorem britem_nodash (A:Nat→Addr) (s:ByteArray) (_hs:s.size ≤ 4294967280) (a i:Nat) (hi:i < s.size) (hd:Br.dotted (bt s) i=false) (hc:Br.colon (bt s) i=false) (h2:i+2 < s.size) (h45:bt s (i+1) ≠ 45) (w:World) (hE:BrEnv w A) :
   Calls Tryz.prog 214 #[.agg #[.string s,.int .i64 a],.int .i64 i] w (ItEnd A (.ok (fun b=>b == bt s i) (i+1)) w):=by
 have hi1:(0:Int) ≤ i:=by omega
 have hi2:(i:Int) ≤ s.size:=by omega
 have HD:=Lib.hid (coll_at s i _ hd)
 have HC:=Lib.hid (class_at s i _ hc)
 have HE:=Lib.hid hE
 have hlz:(s.extract i s.size).size=s.size - i:=by simp
 have dL:decide ((2:Int) < ((s.extract i s.size).size:Int))=true:=by rw [hlz];simp;omega
 have dM:decide (2 < (s.extract i s.size).size)=true:=by rw [hlz];simp;omega
 have dl1:1 < (s.extract i s.size).size:=by omega
 have dl2:2 < (s.extract i s.size).size:=by omega
 have q1:(s.extract i s.size)[1].toNat=bt s (i+1):=by rw [bt_at dl1,bt_ext]
 have q2:(s.extract i s.size)[2].toNat=bt s (i+2):=by rw [bt_at dl2,bt_ext]
 have e1:(((s.extract i s.size)[1].toNat:Int) == 45)=false:=by rw [q1];simp;omega
 clear q1 q2
 have ql:0 < (s.extract i s.size).size:=by omega
 have q0:(s.extract i s.size)[0].toNat=bt s i:=by rw [bt_at ql,bt_ext];rfl
 have hx256:bt s i < 256:=(bt_txt s).1 i hi
 have hw:IntKind.i64.wrap ((i:Int)+1)=(i:Int)+1:=IntWalk.i64_in _ (by omega)
 clear hE hd hc h2 h45
 clear hlz
 generalize bt s i=x at *
 have hz0:i ≤ s.size:=by omega
 go_enter Tryz.func214,Tryz.ntmps214
 go_wp2_with fail
 refine (HD.out _).mono ?_;rintro e w' ⟨rfl,rfl⟩
 generalize s.extract i s.size=t at *
 generalize hW:World.alloc (World.alloc _ _) _=W at *
 have Z:W.heap[w.heap.size+1]? = some (.cells noSet 25):=by rw [← hW];exact (two_new w _ _).2
 have Z0:W.heap[w.heap.size]? = some (.cells #[.string s,.int .i64 a] 215):=by rw [← hW];exact (two_new w _ _).1
 have hb0:Below w.heap.size w W:=by rw [← hW];go_grown
 have hsz:W.heap.size=w.heap.size+2:=by rw [← hW];simp
 have HE':=Lib.hid (HE.out.below hb0)
 have ZZ:=Lib.hid Z;have HB0:=Lib.hid hb0;have HSZ:=Lib.hid hsz
 clear hW Z hb0 hsz
 have ZR:=Lib.hid Z0
 clear Z0
 go_wp2_with fail
 refine (HC.out _).mono ?_;rintro e w' ⟨rfl,rfl⟩
 go_wp2_with fail
 refine (of_p x hx256 _ (by first | rfl | rw [q0]) _ _ rfl _).mono ?_
 rintro e w1 ⟨rfl,hb⟩
 have hbA:Below W.heap.size W w1:=((Below.refl _ _).alloc (Nat.le_refl _) _).trans (hb.mono (by simp))
 have Z:=Lib.hid (keep_blk hbA ZZ.out)
 have HB:=Lib.hid (HB0.out.trans (hbA.mono HB0.out.size))
 clear hb hbA
 go_wp2_with (first
   | (refine wpList_store_row rfl 25 (.tmp 4) (.tmp 51) rfl (w.heap.size+1) #[.int .u64 (Oc.U (Oc.mk (fun b=>b == x) 0)),.int .u64 (Oc.U (Oc.mk (fun b=>b == x) 1)),.int .u64 (Oc.U (Oc.mk (fun b=>b == x) 2)),.int .u64 (Oc.U (Oc.mk (fun b=>b == x) 3))] rfl rfl 25 _ Z.out (by kernel_rfl) rfl (setP_one _) ?_)
   | fail)
 exact bodyPost_ret (results_row_two rfl _ _ (w.heap.size+1) 25 #[.int .u64 (Oc.U (Oc.mk (fun b=>b == x) 0)),.int .u64 (Oc.U (Oc.mk (fun b=>b == x) 1)),.int .u64 (Oc.U (Oc.mk (fun b=>b == x) 2)),.int .u64 (Oc.U (Oc.mk (fun b=>b == x) 3))] (0,0) _ _ _ rfl rfl rfl (heap_setRow Z.out) Tryz.underlying25 rfl (by kernel_rfl)) rfl ⟨by exact rfl,below_setRow HB.out (Nat.le_succ _) _⟩
theorem britem_brack (A:Nat→Addr) (s:ByteArray) (_hs:s.size ≤ 4294967280) (a i:Nat) (hi:i < s.size) (hd:Br.dotted (bt s) i=false) (hc:Br.colon (bt s) i=false) (h2:i+2 < s.size) (h45:bt s (i+1)=45) (h93:bt s (i+2)=93) (w:World) (hE:BrEnv w A) :
   Calls Tryz.prog 214 #[.agg #[.string s,.int .i64 a],.int .i64 i] w (ItEnd A (.ok (fun b=>b == bt s i) (i+1)) w):=by
 have hi1:(0:Int) ≤ i:=by omega
 have hi2:(i:Int) ≤ s.size:=by omega
 have HD:=Lib.hid (coll_at s i _ hd)
 have HC:=Lib.hid (class_at s i _ hc)
 have HE:=Lib.hid hE
 have hlz:(s.extract i s.size).size=s.size - i:=by simp
 have dL:decide ((2:Int) < ((s.extract i s.size).size:Int))=true:=by rw [hlz];simp;omega
 have dM:decide (2 < (s.extract i s.size).size)=true:=by rw [hlz];simp;omega
 have dl1:1 < (s.extract i s.size).size:=by omega
 have dl2:2 < (s.extract i s.size).size:=by omega
 have q1:(s.extract i s.size)[1].toNat=bt s (i+1):=by rw [bt_at dl1,bt_ext]
 have q2:(s.extract i s.size)[2].toNat=bt s (i+2):=by rw [bt_at dl2,bt_ext]
 have e1:(((s.extract i s.size)[1].toNat:Int) == 45)=true:=by rw [q1];simp;omega
 have e2:(((s.extract i s.size)[2].toNat:Int) != 93)=false:=by rw [q2];simp;omega
 clear q1 q2
 have ql:0 < (s.extract i s.size).size:=by omega
 have q0:(s.extract i s.size)[0].toNat=bt s i:=by rw [bt_at ql,bt_ext];rfl
 have hx256:bt s i < 256:=(bt_txt s).1 i hi
 have hw:IntKind.i64.wrap ((i:Int)+1)=(i:Int)+1:=IntWalk.i64_in _ (by omega)
 clear hE hd hc h2 h45 h93
 clear hlz
 generalize bt s i=x at *
 have hz0:i ≤ s.size:=by omega
 go_enter Tryz.func214,Tryz.ntmps214
 go_wp2_with fail
 refine (HD.out _).mono ?_;rintro e w' ⟨rfl,rfl⟩
 generalize s.extract i s.size=t at *
 generalize hW:World.alloc (World.alloc _ _) _=W at *
 have Z:W.heap[w.heap.size+1]? = some (.cells noSet 25):=by rw [← hW];exact (two_new w _ _).2
 have Z0:W.heap[w.heap.size]? = some (.cells #[.string s,.int .i64 a] 215):=by rw [← hW];exact (two_new w _ _).1
 have hb0:Below w.heap.size w W:=by rw [← hW];go_grown
 have hsz:W.heap.size=w.heap.size+2:=by rw [← hW];simp
 have HE':=Lib.hid (HE.out.below hb0)
 have ZZ:=Lib.hid Z;have HB0:=Lib.hid hb0;have HSZ:=Lib.hid hsz
 clear hW Z hb0 hsz
 have ZR:=Lib.hid Z0
 clear Z0
 go_wp2_with fail
 refine (HC.out _).mono ?_;rintro e w' ⟨rfl,rfl⟩
 go_wp2_with fail
 refine (of_p x hx256 _ (by first | rfl | rw [q0]) _ _ rfl _).mono ?_
 rintro e w1 ⟨rfl,hb⟩
 have hbA:Below W.heap.size W w1:=((Below.refl _ _).alloc (Nat.le_refl _) _).trans (hb.mono (by simp))
 have Z:=Lib.hid (keep_blk hbA ZZ.out)
 have HB:=Lib.hid (HB0.out.trans (hbA.mono HB0.out.size))
 clear hb hbA
 go_wp2_with (first
   | (refine wpList_store_row rfl 25 (.tmp 4) (.tmp 51) rfl (w.heap.size+1) #[.int .u64 (Oc.U (Oc.mk (fun b=>b == x) 0)),.int .u64 (Oc.U (Oc.mk (fun b=>b == x) 1)),.int .u64 (Oc.U (Oc.mk (fun b=>b == x) 2)),.int .u64 (Oc.U (Oc.mk (fun b=>b == x) 3))] rfl rfl 25 _ Z.out (by kernel_rfl) rfl (setP_one _) ?_)
   | fail)
 exact bodyPost_ret (results_row_two rfl _ _ (w.heap.size+1) 25 #[.int .u64 (Oc.U (Oc.mk (fun b=>b == x) 0)),.int .u64 (Oc.U (Oc.mk (fun b=>b == x) 1)),.int .u64 (Oc.U (Oc.mk (fun b=>b == x) 2)),.int .u64 (Oc.U (Oc.mk (fun b=>b == x) 3))] (0,0) _ _ _ rfl rfl rfl (heap_setRow Z.out) Tryz.underlying25 rfl (by kernel_rfl)) rfl ⟨by exact rfl,below_setRow HB.out (Nat.le_succ _) _⟩
end Go.Proofs.YtfcilopifjddpaaGreatDoor
namespace Go.Proofs.YtfcilopifjddpaaGreatDoor
open Go.RowKit
theorem classed_any (A:Nat→Addr) (s:ByteArray) (hs:s.size ≤ 4294967280) (a i:Nat) (hc:Br.colon (bt s) i=true) (w:World) (hE:BrEnv w A) :
   Calls Tryz.prog 222 #[.agg #[.string s,.int .i64 a],.int .i64 i] w (ItEnd A (Br.classed (bt s) s.size i a) w):=by
 unfold Br.colon at hc
 simp only [Bool.and_eq_true,beq_iff_eq] at hc
 have h1:=(bt_txt s).lt hc.2 (by omega)
 unfold Br.classed
 cases hk:Br.clos (bt s) (s.size - (i+3)) (i+2) with
 | none=>exact brnamed_open A s hs a i (by omega) hk w hE
 | some e =>
   obtain ⟨g1,g2,g3,g4,-⟩:=Br.clos_some hk
   have hlt:=(bt_txt s).lt g4 (by omega)
   obtain ⟨m,rfl⟩:∃ m,e=i+2+m:=⟨e - (i+2),by omega⟩
   show Calls _ _ _ _ (ItEnd A (Br.named (bt s) i (i+2+m)) w)
   unfold Br.named
   rw [name_part s (i+2) (i+2+m) (by omega) (by omega)]
   cases hn:Br.clsAt ((s.extract (i+2) (i+2+m)).data.toList.map (·.toNat)) with
   | none=>exact brnamed_no A s hs a i m (by omega) hk (clsAt_none hn) w hE
   | some k =>
     obtain ⟨hk12,hnm⟩:=clsAt_some hn
     exact brnamed_yes A s hs a i m k (by omega) hk (hnm ▸ known k hk12) w hE
theorem item_any (A:Nat→Addr) (s:ByteArray) (hs:s.size ≤ 4294967280) (a i:Nat) (hi:i < s.size) (w:World) (hE:BrEnv w A) :
   Calls Tryz.prog 214 #[.agg #[.string s,.int .i64 a],.int .i64 i] w (ItEnd A (Br.item (bt s) s.size i a) w):=by
 unfold Br.item
 cases hd:Br.dotted (bt s) i with
 | true=>exact britem_coll A s hs a i hi hd w hE
 | false =>
   rw [if_neg (by simp)]
   cases hc:Br.colon (bt s) i with
   | true =>
     rw [if_pos rfl]
     have HI:=fun w hE=>classed_any A s hs a i hc w hE
     cases hR:Br.classed (bt s) s.size i a with
     | ok P j=>rw [hR] at HI;exact britem_class_ok A s hs a i hi hd hc P j HI w hE
     | err c q=>rw [hR] at HI;exact britem_class_err A s hs a i hi hd hc c q HI w hE
   | false =>
     rw [if_neg (by simp)]
     unfold Br.isRange
     by_cases h2:i+2 < s.size
     · by_cases h45:bt s (i+1)=45
       · by_cases h93:bt s (i+2)=93
         · rw [if_neg (by simp [h93])]
           exact britem_brack A s hs a i hi hd hc h2 h45 h93 w hE
         · rw [if_pos (by simp [h93,h45,h2])]
           have HI:=fun w hE=>span_any A s hs a i h2 w hE
           cases hR:Br.ranged (bt s) i with
           | ok P j=>rw [hR] at HI;exact britem_range_ok A s hs a i hi hd hc h2 h45 h93 P j HI w hE
           | err c q=>rw [hR] at HI;exact britem_range_err A s hs a i hi hd hc h2 h45 h93 c q HI w hE
       · rw [if_neg (by simp [h45])]
         exact britem_nodash A s hs a i hi hd hc h2 h45 w hE
     · rw [if_neg (by simp [h2])]
       exact britem_short A s hs a i hi hd hc (by omega) w hE
theorem join_p {w:World} {v:Value} {P Q:Nat→Bool} (h:Sl2 w v (Oc.mk P 0) (Oc.mk P 1) (Oc.mk P 2) (Oc.mk P 3) (Oc.mk Q 0) (Oc.mk Q 1) (Oc.mk Q 2) (Oc.mk Q 3)):Calls Tryz.prog 181 #[v] w fun e w' =>
   e=.returned (.agg #[.int .u64 (Oc.U (Oc.mk (fun x=>P x || Q x) 0)),.int .u64 (Oc.U (Oc.mk (fun x=>P x || Q x) 1)),.int .u64 (Oc.U (Oc.mk (fun x=>P x || Q x) 2)),.int .u64 (Oc.U (Oc.mk (fun x=>P x || Q x) 3))])∧Below w.heap.size w w':=by
 have h2:=join2_any h
 rw [Br.mk_or,Br.mk_or,Br.mk_or,Br.mk_or] at h2
 exact h2
theorem britems_any (A:Nat→Addr) (s:ByteArray) (hs:s.size ≤ 4294967280) (a first:Nat) (hf:first ≤ s.size) (R:Br.Ans) (hR:Br.items (bt s) s.size a (s.size+1) first (fun _=>false) false=R) (w:World) (hE:BrEnv w A) :
   Calls Tryz.prog 202 #[.agg #[.string s,.int .i64 a],.int .i64 first] w (ItEnd A R w):=by
 have HR:=Lib.hid hR;have HE:=Lib.hid hE
 clear hR hE
 go_enter Tryz.func202,Tryz.ntmps202
 go_wp2_with fail
 go_loopw [8] (fun iv wr=>∃ (P:Nat→Bool) (i k:Nat),iv=.int .i64 i∧first ≤ i∧i ≤ s.size∧s.size < i+k∧Hid (Br.items (bt s) s.size a k i P (decide (first < i))=R)∧Hid (Below w.heap.size w wr)∧w.heap.size+2 < wr.heap.size ∧
   Hid (wr.heap[w.heap.size]? = some (.cells #[.string s,.int .i64 a] 215))∧Hid (wr.heap[w.heap.size+1]? = some (.cells noSet 25)) ∧
   Hid (wr.heap[w.heap.size+2]? = some (.cells #[.int .u64 (Oc.U (Oc.mk (P) 0)),.int .u64 (Oc.U (Oc.mk (P) 1)),.int .u64 (Oc.U (Oc.mk (P) 2)),.int .u64 (Oc.U (Oc.mk (P) 3))] 25))) (fun iv _=>s.size - (intOf iv).toNat)
 case atStart =>
   have h3:=three_new w (.cells #[.string s,.int .i64 a] 215) (.cells noSet 25) (.cells noSet 25)
   exact ⟨fun _=>false,first,s.size+1,rfl,Nat.le_refl _,hf,by omega,Lib.hid (by rw [show decide (first < first)=false by simp];exact HR.out),Lib.hid (by go_grown),by simp,Lib.hid h3.1,Lib.hid h3.2.1,Lib.hid (h3.2.2.trans (by rw [Oc.mk_none,Oc.mk_none,Oc.mk_none,Oc.mk_none];rfl))⟩
 case round =>
   obtain ⟨P,i,k,rfl,hfi,hi,hk,hit,HB,hsz,ZR,Z1,Z2⟩:=hrel
   obtain ⟨k,rfl⟩:∃ k',k=k'+1:=⟨k - 1,by omega⟩
   have HE1:=Lib.hid (HE.out.below HB.out)
   have c0:wr.cell? ⟨w.heap.size,0,none⟩=some (.string s):=by unfold World.cell?;rw [ZR.out];rfl
   have hit':=hit.out
   clear hit
   unfold Br.items at hit'
   by_cases hlt:i < s.size
   · have hd:decide ((i:Int) < s.size)=true:=by simp;omega
     have hi0:(0:Int) ≤ i:=by omega
     by_cases hx:(decide (first < i) && bt s i == 93)=true
     · rw [if_pos hx] at hit'
       simp only [Bool.and_eq_true,decide_eq_true_eq,beq_iff_eq] at hx
       have e93:((s[i].toNat:Int) == 93)=true:=by rw [bt_at hlt,hx.2];rfl
       have hg:decide (first < i)=true:=by simpa using hx.1
       subst hit'
       clear hx
       go_wp2_with (first
         | (refine wpList_load_row rfl 25 (.tmp 7) rfl (w.heap.size+2) rfl 25 _ (0,0) _ Z2.out Tryz.underlying25 rfl (by kernel_rfl) ?_)
         | (refine wpList_store_row rfl 25 (.tmp 4) (.tmp 28) rfl (w.heap.size+1) #[.int .u64 (Oc.U (Oc.mk (P) 0)),.int .u64 (Oc.U (Oc.mk (P) 1)),.int .u64 (Oc.U (Oc.mk (P) 2)),.int .u64 (Oc.U (Oc.mk (P) 3))] rfl rfl 25 _ Z1.out (by kernel_rfl) rfl setC_one ?_)
         | fail)
       exact bodyPost_ret (results_row_two rfl _ _ (w.heap.size+1) 25 #[.int .u64 (Oc.U (Oc.mk (P) 0)),.int .u64 (Oc.U (Oc.mk (P) 1)),.int .u64 (Oc.U (Oc.mk (P) 2)),.int .u64 (Oc.U (Oc.mk (P) 3))] (0,0) _ _ _ rfl rfl rfl (heap_setRow Z1.out) Tryz.underlying25 rfl (by kernel_rfl)) rfl ⟨by exact rfl,below_setRow HB.out (Nat.le_succ _) _⟩
     · rw [if_neg hx,if_neg (by omega)] at hit'
       have hb93:(((s[i].toNat:Int) == 93)=false∧decide (i=i)=true) ∨ (((s[i].toNat:Int) == 93)=true∧decide (first < i)=false):=by
         rw [bt_at hlt]
         by_cases h93:bt s i=93
         · refine .inr ⟨by rw [h93];rfl, ?_⟩
           cases hq:decide (first < i) with
           | false=>rfl
           | true=>rw [hq,h93] at hx;exact absurd rfl hx
         · exact .inl ⟨by simp;omega,by simp⟩
       have hitem:=fun w hE=>item_any A s hs a i hlt w hE
       clear hx
       cases hI:Br.item (bt s) s.size i a with
       | err c q =>
         rw [hI] at hit' hitem
         simp only at hit'
         subst hit'
         have HI:=Lib.hid hitem
         clear hitem hI
         rcases hb93 with ⟨e93,hg⟩ | ⟨e93,hg⟩
         all_goals
           go_wp2_with (first
             | (refine wpList_load_row rfl 215 (.tmp 2) rfl w.heap.size rfl 215 _ (0,0) _ ZR.out Tryz.underlying215 rfl (by kernel_rfl) ?_)
             | fail)
           refine (HI.out _ HE1.out).mono ?_
           intro e w1 he
           obtain ⟨v,rfl,hv,hb⟩:=he.err rfl
           obtain ⟨q',rfl⟩:=hv.iface
           have hbA:Below wr.heap.size wr (w1.alloc (.cells noSet 25)):=hb.alloc hb.size _
           have Y1:=Lib.hid (keep_blk hbA Z1.out)
           have HB1:=Lib.hid (HB.out.trans (hbA.mono HB.out.size))
           have HV:=Lib.hid (hv.later ((Below.refl w1.heap.size w1).alloc (Nat.le_refl _) (.cells noSet 25)))
           clear hb hbA hv he c0
           go_wp2_with (first
             | (refine wpList_store_row rfl 25 (.tmp 4) (.tmp 39) rfl (w.heap.size+1) noSet rfl rfl 25 _ Y1.out (by kernel_rfl) rfl noSet_one ?_)
             | fail)
           exact bodyPost_ret (results_row_two rfl _ _ (w.heap.size+1) 25 noSet (0,0) _ _ _ rfl rfl rfl (heap_setRow Y1.out) Tryz.underlying25 rfl (by kernel_rfl)) rfl ⟨⟨_,rfl,(HV.out.setRow (by omega) noSet).down HB.out.size⟩,below_setRow HB1.out (Nat.le_succ _) _⟩
       | ok Q j =>
         rw [hI] at hit' hitem
         simp only at hit'
         obtain ⟨hj1,hj2⟩:=Br.item_next hlt hI
         have HI:=Lib.hid hitem
         have HIT:Hid (Br.items (bt s) s.size a k j (fun x=>P x || Q x) (decide (first < j))=R):=Lib.hid (by rw [show decide (first < j)=true by simp;omega];exact hit')
         clear hitem hI hit'
         rcases hb93 with ⟨e93,hg⟩ | ⟨e93,hg⟩
         all_goals
           go_wp2_with (first
             | (refine wpList_load_row rfl 215 (.tmp 2) rfl w.heap.size rfl 215 _ (0,0) _ ZR.out Tryz.underlying215 rfl (by kernel_rfl) ?_)
             | fail)
           refine (HI.out _ HE1.out).mono ?_
           intro e w1 he
           obtain ⟨rfl,hb⟩:=he.ok rfl
           have hbA:Below wr.heap.size wr (w1.alloc (.cells #[.int .u64 (Oc.U (Oc.mk (Q) 0)),.int .u64 (Oc.U (Oc.mk (Q) 1)),.int .u64 (Oc.U (Oc.mk (Q) 2)),.int .u64 (Oc.U (Oc.mk (Q) 3))] 25)):=hb.alloc hb.size _
           have YR:=Lib.hid (keep_blk hbA ZR.out)
           have Y1:=Lib.hid (keep_blk hbA Z1.out)
           have Y2:=Lib.hid (keep_blk hbA Z2.out)
           have Y3:=Lib.hid (heap_alloc_new w1 (.cells #[.int .u64 (Oc.U (Oc.mk (Q) 0)),.int .u64 (Oc.U (Oc.mk (Q) 1)),.int .u64 (Oc.U (Oc.mk (Q) 2)),.int .u64 (Oc.U (Oc.mk (Q) 3))] 25))
           have HB1:=Lib.hid (HB.out.trans (hbA.mono HB.out.size))
           have hsz1:wr.heap.size ≤ w1.heap.size:=hb.size
           clear hb hbA he c0
           go_wp2_with (first
             | (refine wpList_load_row rfl 25 (.tmp 7) rfl (w.heap.size+2) rfl 25 _ (0,0) _ Y2.out Tryz.underlying25 rfl (by kernel_rfl) ?_)
             | (refine wpList_load_row rfl 25 (.tmp 9) rfl w1.heap.size rfl 25 _ (0,0) _ Y3.out Tryz.underlying25 rfl (by kernel_rfl) ?_)
             | fail)
           have hsl:Sl2 ((w1.alloc (.cells #[.int .u64 (Oc.U (Oc.mk Q 0)),.int .u64 (Oc.U (Oc.mk Q 1)),.int .u64 (Oc.U (Oc.mk Q 2)),.int .u64 (Oc.U (Oc.mk Q 3))] 25)).alloc (.cells #[.int .u64 (Oc.U (Oc.mk P 0)),.int .u64 (Oc.U (Oc.mk P 1)),.int .u64 (Oc.U (Oc.mk P 2)),.int .u64 (Oc.U (Oc.mk P 3)),.int .u64 (Oc.U (Oc.mk Q 0)),.int .u64 (Oc.U (Oc.mk Q 1)),.int .u64 (Oc.U (Oc.mk Q 2)),.int .u64 (Oc.U (Oc.mk Q 3))] 25))
               (.slice (some ⟨w1.heap.size+1,0,none⟩) 2 2) (Oc.mk P 0) (Oc.mk P 1) (Oc.mk P 2) (Oc.mk P 3) (Oc.mk Q 0) (Oc.mk Q 1) (Oc.mk Q 2) (Oc.mk Q 3):=⟨_,rfl,(two_new w1 _ _).2⟩
           refine (join_p hsl).mono ?_
           rintro e w3 ⟨rfl,hb3⟩
           have hbA:Below (w1.alloc (.cells #[.int .u64 (Oc.U (Oc.mk Q 0)),.int .u64 (Oc.U (Oc.mk Q 1)),.int .u64 (Oc.U (Oc.mk Q 2)),.int .u64 (Oc.U (Oc.mk Q 3))] 25)).heap.size (w1.alloc (.cells #[.int .u64 (Oc.U (Oc.mk Q 0)),.int .u64 (Oc.U (Oc.mk Q 1)),.int .u64 (Oc.U (Oc.mk Q 2)),.int .u64 (Oc.U (Oc.mk Q 3))] 25)) w3:=((Below.refl _ _).alloc (Nat.le_refl _) _).trans (hb3.mono (by simp))
           have X0:=Lib.hid (keep_blk hbA YR.out)
           have X1:=Lib.hid (keep_blk hbA Y1.out)
           have X2:=Lib.hid (keep_blk hbA Y2.out)
           have HB3:=Lib.hid (HB1.out.trans (hbA.mono HB1.out.size))
           have hsz3:w1.heap.size+1 ≤ w3.heap.size:=by have:=hbA.size;simpa using this
           clear hb3 hbA hsl Y1 Y2 Y3 YR
           go_wp2_with (first
             | (refine wpList_store_row rfl 25 (.tmp 7) (.tmp 44) rfl (w.heap.size+2) #[.int .u64 (Oc.U (Oc.mk (fun x=>P x || Q x) 0)),.int .u64 (Oc.U (Oc.mk (fun x=>P x || Q x) 1)),.int .u64 (Oc.U (Oc.mk (fun x=>P x || Q x) 2)),.int .u64 (Oc.U (Oc.mk (fun x=>P x || Q x) 3))] rfl rfl 25 _ X2.out (by kernel_rfl) rfl setC_one ?_)
             | fail)
           go_roundw
           case rel=>exact ⟨fun x=>P x || Q x,j,k,rfl,by omega,hj2,by omega,HIT,Lib.hid (below_setRow HB3.out (by omega) _),by simp;omega,Lib.hid ((heap_setRow_other _ _ _ (by omega)).trans X0.out),Lib.hid ((heap_setRow_other _ _ _ (by omega)).trans X1.out),Lib.hid (heap_setRow X2.out)⟩
           case measure=>simp [intOf];omega
   · have hd:decide ((i:Int) < s.size)=false:=by simp;omega
     have h256:bt s i=256:=bt_out (by omega)
     rw [if_neg (by simp [h256]),if_pos (by omega)] at hit'
     subst hit'
     go_wp2_with (first
       | (refine wpList_load_row rfl 215 (.tmp 2) rfl w.heap.size rfl 215 _ (0,0) _ ZR.out Tryz.underlying215 rfl (by kernel_rfl) ?_)
       | fail)
     refine (open_any A s a _ HE1.out).mono ?_
     intro e w1 he
     obtain ⟨v,rfl,hv,hb⟩:=he.err rfl
     obtain ⟨q',rfl⟩:=hv.iface
     have Y1:=Lib.hid (keep_blk hb Z1.out)
     have HB1:=Lib.hid (HB.out.trans (hb.mono HB.out.size))
     have HV:=Lib.hid hv
     clear hb hv he c0
     go_wp2_with (first
       | (refine wpList_store_row rfl 25 (.tmp 4) (.tmp 48) rfl (w.heap.size+1) noSet rfl rfl 25 _ Y1.out (by kernel_rfl) rfl noSet_one ?_)
       | fail)
     exact bodyPost_ret (results_row_two rfl _ _ (w.heap.size+1) 25 noSet (0,0) _ _ _ rfl rfl rfl (heap_setRow Y1.out) Tryz.underlying25 rfl (by kernel_rfl)) rfl ⟨⟨_,rfl,(HV.out.setRow (by omega) noSet).down HB.out.size⟩,below_setRow HB1.out (Nat.le_succ _) _⟩
end Go.Proofs.YtfcilopifjddpaaGreatDoor
namespace Go.Proofs.YtfcilopifjddpaaGreatDoor
open Go.RowKit
def Sl2N (B:Nat) (w:World) (v:Value) (a b c d a' b' c' d':BitVec 64):Prop:=∃ g,B ≤ g∧v=.slice (some ⟨g,0,none⟩) 2 2∧w.heap[g]? = some (.cells #[.int .u64 (Oc.U a),.int .u64 (Oc.U b),.int .u64 (Oc.U c),.int .u64 (Oc.U d),.int .u64 (Oc.U a'),.int .u64 (Oc.U b'),.int .u64 (Oc.U c'),.int .u64 (Oc.U d')] 25)
theorem Sl2N.plain {B:Nat} {w:World} {v:Value} {a b c d a' b' c' d':BitVec 64} (h:Sl2N B w v a b c d a' b' c' d'):Sl2 w v a b c d a' b' c' d':=by
 obtain ⟨g,-,e,hg⟩:=h;exact ⟨g,e,hg⟩
theorem Sl2N.below {B:Nat} {w w':World} {v:Value} {a b c d a' b' c' d':BitVec 64} (h:Sl2N B w v a b c d a' b' c' d') (hb:Below w.heap.size w w'):Sl2N B w' v a b c d a' b' c' d':=by
 obtain ⟨g,hB,e,hg⟩:=h;exact ⟨g,hB,e,keep_blk hb hg⟩
theorem Sl2N.setRow {B:Nat} {w:World} {v:Value} {a b c d a' b' c' d':BitVec 64} (h:Sl2N B w v a b c d a' b' c' d') {g:Nat} (hg:g < B) (cs:Array Value):Sl2N B (w.setRow g cs) v a b c d a' b' c' d':=by
 obtain ⟨k,hB,e,hk⟩:=h;exact ⟨k,hB,e,(heap_setRow_other _ _ _ (by omega)).trans hk⟩
def One (w:World) (v:Value) (m:Nat):Prop:=∃ g,v=.slice (some ⟨g,0,none⟩) 1 1∧w.heap[g]? = some (.cells #[.int .u8 m] 5)
def OneN (B:Nat) (w:World) (v:Value) (m:Nat):Prop:=∃ g,B ≤ g∧v=.slice (some ⟨g,0,none⟩) 1 1∧w.heap[g]? = some (.cells #[.int .u8 m] 5)
theorem OneN.plain {B:Nat} {w:World} {v:Value} {m:Nat} (h:OneN B w v m):One w v m:=by
 obtain ⟨g,-,e,hg⟩:=h;exact ⟨g,e,hg⟩
theorem OneN.below {B:Nat} {w w':World} {v:Value} {m:Nat} (h:OneN B w v m) (hb:Below w.heap.size w w'):OneN B w' v m:=by
 obtain ⟨g,hB,e,hg⟩:=h;exact ⟨g,hB,e,keep_blk hb hg⟩
theorem OneN.setRow {B:Nat} {w:World} {v:Value} {m:Nat} (h:OneN B w v m) {g:Nat} (hg:g < B) (cs:Array Value):OneN B (w.setRow g cs) v m:=by
 obtain ⟨k,hB,e,hk⟩:=h;exact ⟨k,hB,e,(heap_setRow_other _ _ _ (by omega)).trans hk⟩
theorem wp_bytes1 {o:Oper} {x:Act} {w:World} {K:Act→World→Prop} {Q:Exit→Act→World→Prop} (m:Int) (ho:o.op=.buildSlice 74 1 #[(0,.const (.int .u8 m))])
   (h:K (x.put o.dst (.slice (some ⟨w.heap.size,0,none⟩) 1 1)) (w.alloc (.cells #[.int .u8 m] 5))):o.wp Tryz.prog x w K Q:=by
 obtain ⟨ie,hi,hz0,hz1,-⟩:=info_parts Tryz.infoByte
 refine wp_buildSlice 74 5 1 _ ho _ ie _ Tryz.underlying74 hi hz0 (by rw [hz1];decide) (by rw [hz1];decide) ?_ h
 rw [hz1]
 simp only [List.map_toArray,List.map_cons,List.map_nil,Act.eval]
 kernel_rfl
theorem one_any {w:World} {v:Value} {m:Nat} (hm:m < 256) (h:One w v m):Calls Tryz.prog 114 #[v] w fun e w'=>e=.returned (.agg #[.int .u64 (Oc.U (Oc.mk (fun b=>b == m) 0)),.int .u64 (Oc.U (Oc.mk (fun b=>b == m) 1)),.int .u64 (Oc.U (Oc.mk (fun b=>b == m) 2)),.int .u64 (Oc.U (Oc.mk (fun b=>b == m) 3))])∧Below w.heap.size w w':=by
 obtain ⟨g,rfl,hg⟩:=h
 have hb:Oc.anyB (fun _=>m) 1=fun b=>b == m:=by funext b;simp [Oc.anyB]
 have:=of_any (some ⟨g,0,none⟩) 1 1 (fun _=>m) (by omega) w (fun _ _=>hm) (fun i hi=>by
   obtain rfl:i=0:=by omega
   exact ⟨g,0,rfl,(Array.getElem?_eq_some_iff.1 hg).1,by unfold World.cell?;rw [hg];rfl⟩)
 rw [hb] at this
 exact this
theorem not_p (P:Nat→Bool) (w:World):Calls Tryz.prog 113 #[(.agg #[.int .u64 (Oc.U (Oc.mk P 0)),.int .u64 (Oc.U (Oc.mk P 1)),.int .u64 (Oc.U (Oc.mk P 2)),.int .u64 (Oc.U (Oc.mk P 3))])] w fun e w' =>
   e=.returned (.agg #[.int .u64 (Oc.U (Oc.mk (fun x=>!P x) 0)),.int .u64 (Oc.U (Oc.mk (fun x=>!P x) 1)),.int .u64 (Oc.U (Oc.mk (fun x=>!P x) 2)),.int .u64 (Oc.U (Oc.mk (fun x=>!P x) 3))])∧Below w.heap.size w w':=by
 have h:=not_any (Oc.mk P 0) (Oc.mk P 1) (Oc.mk P 2) (Oc.mk P 3) w
 rw [Br.mk_not,Br.mk_not,Br.mk_not,Br.mk_not] at h
 exact h
end Go.Proofs.YtfcilopifjddpaaGreatDoor
namespace Go.Proofs.YtfcilopifjddpaaGreatDoor
open Go.RowKit
namespace Cl
def capOf (j:Nat):Nat:=if 65 ≤ j∧j ≤ 90 then j else if 97 ≤ j∧j ≤ 122 then j - 32 else 300
def foldU (p:Nat→Bool) (m:Nat):Nat→Bool:=fun j=>p j || (p (oth j) && decide (capOf j < m))
theorem foldU_start (p:Nat→Bool) (j:Nat):foldU p 65 j=p j:=by
 unfold foldU
 have:¬ capOf j < 65:=by unfold capOf;split <;> (try split) <;> omega
 simp [this]
theorem foldU_end (p:Nat→Bool) (j:Nat):foldU p 91 j=fold p j:=by
 unfold foldU fold
 by_cases h:capOf j < 91
 · simp [h]
 · have:oth j=j:=by
     unfold capOf at h;unfold oth
     split at h
     · omega
     · rename_i h1
       split at h
       · omega
       · rename_i h2;rw [if_neg h1,if_neg h2]
   simp [this,h]
theorem foldU_yes {p:Nat→Bool} {m:Nat} (h1:65 ≤ m) (h2:m ≤ 90) (h:(p m || p (m+32))=true) (j:Nat):foldU p (m+1) j=(foldU p m j || (j == m || j == m+32)):=by
 by_cases e1:j=m
 · subst e1
   have:oth j=j+32:=by unfold oth;rw [if_pos ⟨h1,h2⟩]
   have hc:capOf j=j:=by unfold capOf;rw [if_pos ⟨h1,h2⟩]
   unfold foldU;rw [this,hc];simp only [Nat.lt_succ_self,decide_true,Bool.and_true,h];simp
 · by_cases e2:j=m+32
   · subst e2
     have:oth (m+32)=m:=by unfold oth;rw [if_neg (by omega),if_pos (by omega)];omega
     have hc:capOf (m+32)=m:=by unfold capOf;rw [if_neg (by omega),if_pos (by omega)];omega
     unfold foldU;rw [this,hc];simp only [Nat.lt_succ_self,decide_true,Bool.and_true];rw [Bool.or_comm,h];simp
   · have hc:decide (capOf j < m+1)=decide (capOf j < m):=by
       have:capOf j ≠ m:=by unfold capOf;split <;> (try split) <;> omega
       rw [decide_eq_decide];omega
     unfold foldU;rw [hc];simp [e1,e2]
theorem foldU_no {p:Nat→Bool} {m:Nat} (h1:65 ≤ m) (h2:m ≤ 90) (h:(p m || p (m+32))=false) (j:Nat):foldU p (m+1) j=foldU p m j:=by
 rw [Bool.or_eq_false_iff] at h
 by_cases e1:j=m
 · subst e1
   have:oth j=j+32:=by unfold oth;rw [if_pos ⟨h1,h2⟩]
   unfold foldU;rw [this,h.1,h.2];simp
 · by_cases e2:j=m+32
   · subst e2
     have:oth (m+32)=m:=by unfold oth;rw [if_neg (by omega),if_pos (by omega)];omega
     unfold foldU;rw [this,h.1,h.2];simp
   · have hc:decide (capOf j < m+1)=decide (capOf j < m):=by
       have:capOf j ≠ m:=by unfold capOf;split <;> (try split) <;> omega
       rw [decide_eq_decide];omega
     unfold foldU;rw [hc]
def pair (m q:Nat):BitVec 64:=Oc.mk (fun j=>j == m || j == m+32) q
theorem mk_or (p q:Nat→Bool) (k:Nat):Oc.mk p k ||| Oc.mk q k=Oc.mk (fun j=>p j || q j) k:=by
 apply BitVec.eq_of_getLsbD_eq
 intro i hi
 rw [BitVec.getLsbD_or,Oc.mk_bit _ _ _ hi,Oc.mk_bit _ _ _ hi,Oc.mk_bit _ _ _ hi]
theorem mk_congr {p q:Nat→Bool} (h:∀ j,p j=q j) (k:Nat):Oc.mk p k=Oc.mk q k:=by rw [funext h]
def fw (p:Nat→Bool) (m q:Nat):BitVec 64:=Oc.mk (foldU p m) q
theorem fw_yes {p:Nat→Bool} {m:Nat} (h1:65 ≤ m) (h2:m ≤ 90) (h:(p m || p (m+32))=true) (q:Nat):fw p m q ||| pair m q=fw p (m+1) q:=by
 unfold fw pair;rw [mk_or];exact (mk_congr (foldU_yes h1 h2 h) q).symm
theorem fw_no {p:Nat→Bool} {m:Nat} (h1:65 ≤ m) (h2:m ≤ 90) (h:(p m || p (m+32))=false) (q:Nat):fw p (m+1) q=fw p m q:=mk_congr (foldU_no h1 h2 h) q
theorem fw_start (a b c d:BitVec 64):fw (Oc.mem a b c d) 65 0=a∧fw (Oc.mem a b c d) 65 1=b∧fw (Oc.mem a b c d) 65 2=c∧fw (Oc.mem a b c d) 65 3=d:=by
 have h:=mk_mem a b c d
 unfold fw
 rw [mk_congr (foldU_start _),mk_congr (foldU_start _),mk_congr (foldU_start _),mk_congr (foldU_start _)]
 exact h
theorem fw_end (p:Nat→Bool) (q:Nat):fw p 91 q=Oc.mk (fold p) q:=mk_congr (foldU_end p) q
theorem zero_word {x:BitVec 64} : (Oc.U x == 0)=(x == 0#64):=by
 rw [Bool.eq_iff_iff,beq_iff_eq,beq_iff_eq]
 constructor
 · intro h;exact Oc.U_inj (y:=0#64) (by rw [h];rfl)
 · rintro rfl;rfl
theorem meets {a b c d:BitVec 64} {m:Nat} (hm:m+32 < 256) :
   (Oc.U (a &&& pair m 0) == 0 && (Oc.U (b &&& pair m 1) == 0 && (Oc.U (c &&& pair m 2) == 0 && Oc.U (d &&& pair m 3) == 0))) = !(Oc.mem a b c d m || Oc.mem a b c d (m+32)):=by
 have key:∀ i,i < 256→Oc.mem (a &&& pair m 0) (b &&& pair m 1) (c &&& pair m 2) (d &&& pair m 3) i=(Oc.mem a b c d i && (i == m || i == m+32)):=fun i hi=>by
   rw [Oc.mem_and];unfold pair;rw [Oc.mem_mk _ _ hi]
 rw [zero_word,zero_word,zero_word,zero_word,Bool.eq_iff_iff]
 simp only [Bool.and_eq_true,beq_iff_eq,Bool.not_eq_true',Bool.or_eq_false_iff]
 constructor
 · rintro ⟨h0,h1,h2,h3⟩
   rw [h0,h1,h2,h3] at key
   have z:∀ i,Oc.mem 0#64 0#64 0#64 0#64 i=false:=fun i=>by unfold Oc.mem Oc.w4;split <;> (try split) <;> (try split) <;> simp
   have k1:=key m (by omega)
   have k2:=key (m+32) hm
   rw [z] at k1 k2
   simp at k1 k2
   exact ⟨k1,k2⟩
 · rintro ⟨h0,h1⟩
   have:=Oc.ext4 (a:=a &&& pair m 0) (b:=b &&& pair m 1) (c:=c &&& pair m 2) (d:=d &&& pair m 3) (a':=0#64) (b':=0#64) (c':=0#64) (d':=0#64) (fun i hi=>by
     rw [key i hi]
     have z:Oc.mem 0#64 0#64 0#64 0#64 i=false:=by unfold Oc.mem Oc.w4;split <;> (try split) <;> (try split) <;> simp
     rw [z]
     by_cases e1:i=m
     · subst e1;simp [h0]
     · by_cases e2:i=m+32
       · subst e2;simp [h1]
       · simp [e1,e2])
   exact this
end Cl
def caseOf (m n:Nat):Nat→Nat:=fun i=>if i=0 then m else n
theorem of_pair (m:Nat) (h1:m+32 < 256) (v z:Int) (hv:v=(m:Int)) (hz:z=((m+32:Nat):Int)) (g:Nat) (w:World) (hg:w.heap.size=g) (t:TypeId) :
   Calls Tryz.prog 114 #[.slice (some ⟨g,0,none⟩) 2 2] (w.alloc (.cells #[.int .u8 v,.int .u8 z] t))
     fun e w'=>e=.returned (.agg #[.int .u64 (Oc.U (Cl.pair m 0)),.int .u64 (Oc.U (Cl.pair m 1)),.int .u64 (Oc.U (Cl.pair m 2)),.int .u64 (Oc.U (Cl.pair m 3))])∧Below (w.heap.size+1) (w.alloc (.cells #[.int .u8 v,.int .u8 z] t)) w':=by
 subst hv hz hg
 refine (of_any (some ⟨w.heap.size,0,none⟩) 2 2 (caseOf m (m+32)) (by omega) _ (fun i _=>by unfold caseOf;split <;> omega) ?_).mono ?_
 · intro i hi
   refine ⟨w.heap.size,0,rfl,by simp, ?_⟩
   rcases (show i=0 ∨ i=1 by omega) with rfl | rfl <;> (rw [cell_new];rfl)
 · rintro e w' ⟨rfl,hb⟩
   have key:∀ q,Oc.mk (Oc.anyB (caseOf m (m+32)) 2) q=Cl.pair m q:=fun q=>Cl.mk_congr (fun j=>by simp [Oc.anyB,caseOf]) q
   exact ⟨by rw [key,key,key,key],by simpa using hb⟩
theorem meet2_new (a b c d a1 b1 c1 d1:BitVec 64) (g:Nat) (w:World) (hg:w.heap.size=g) :
   Calls Tryz.prog 174 #[.slice (some ⟨g,0,none⟩) 2 2]
     (w.alloc (.cells #[.int .u64 (Oc.U a),.int .u64 (Oc.U b),.int .u64 (Oc.U c),.int .u64 (Oc.U d),.int .u64 (Oc.U a1),.int .u64 (Oc.U b1),.int .u64 (Oc.U c1),.int .u64 (Oc.U d1)] 25))
     fun e w'=>e=.returned (.agg #[.int .u64 (Oc.U (a &&& a1)),.int .u64 (Oc.U (b &&& b1)),.int .u64 (Oc.U (c &&& c1)),.int .u64 (Oc.U (d &&& d1))])∧Below (w.heap.size+1) (w.alloc (.cells #[.int .u64 (Oc.U a),.int .u64 (Oc.U b),.int .u64 (Oc.U c),.int .u64 (Oc.U d),.int .u64 (Oc.U a1),.int .u64 (Oc.U b1),.int .u64 (Oc.U c1),.int .u64 (Oc.U d1)] 25)) w':=by
 subst hg
 refine (meet2_any ⟨_,rfl,heap_alloc_new w _⟩).mono ?_
 rintro e w' ⟨rfl,hb⟩
 exact ⟨rfl,by simpa using hb⟩
theorem join2_at (a b c d a1 b1 c1 d1 e0 e1 e2 e3:BitVec 64) (g:Nat) (w:World) (hg:w.heap.size=g) (he0:a ||| a1=e0) (he1:b ||| b1=e1) (he2:c ||| c1=e2) (he3:d ||| d1=e3) :
   Calls Tryz.prog 181 #[.slice (some ⟨g,0,none⟩) 2 2]
     (w.alloc (.cells #[.int .u64 (Oc.U a),.int .u64 (Oc.U b),.int .u64 (Oc.U c),.int .u64 (Oc.U d),.int .u64 (Oc.U a1),.int .u64 (Oc.U b1),.int .u64 (Oc.U c1),.int .u64 (Oc.U d1)] 25))
     fun e w'=>e=.returned (.agg #[.int .u64 (Oc.U e0),.int .u64 (Oc.U e1),.int .u64 (Oc.U e2),.int .u64 (Oc.U e3)])∧Below (w.heap.size+1) (w.alloc (.cells #[.int .u64 (Oc.U a),.int .u64 (Oc.U b),.int .u64 (Oc.U c),.int .u64 (Oc.U d),.int .u64 (Oc.U a1),.int .u64 (Oc.U b1),.int .u64 (Oc.U c1),.int .u64 (Oc.U d1)] 25)) w':=by
 subst hg
 refine (join2_any ⟨_,rfl,heap_alloc_new w _⟩).mono ?_
 rintro e w' ⟨rfl,hb⟩
 exact ⟨by rw [he0,he1,he2,he3],by simpa using hb⟩
theorem fold_any (a b c d:BitVec 64) (w:World) :
   Calls Tryz.prog 159 #[(.agg #[.int .u64 (Oc.U a),.int .u64 (Oc.U b),.int .u64 (Oc.U c),.int .u64 (Oc.U d)])] w fun e w'=>e=.returned (.agg #[.int .u64 (Oc.U (Oc.mk (Cl.fold (Oc.mem a b c d)) 0)),.int .u64 (Oc.U (Oc.mk (Cl.fold (Oc.mem a b c d)) 1)),.int .u64 (Oc.U (Oc.mk (Cl.fold (Oc.mem a b c d)) 2)),.int .u64 (Oc.U (Oc.mk (Cl.fold (Oc.mem a b c d)) 3))])∧Below w.heap.size w w':=by
 have he:=eq4
 have hst:=Cl.fw_start a b c d
 have HST:=Lib.hid hst;clear hst
 go_enter Tryz.func159,Tryz.ntmps159
 go_wp2
 go_loopw [4] (fun i wr=>∃ m:Nat,65 ≤ m∧m ≤ 91∧i=.int .u8 m∧Below w.heap.size w wr∧w.heap.size+2 < wr.heap.size∧wr.heap[w.heap.size]? = some (.cells #[.int .u64 (Oc.U a),.int .u64 (Oc.U b),.int .u64 (Oc.U c),.int .u64 (Oc.U d)] 25)∧wr.heap[w.heap.size+1]? = some (.cells #[.int .u64 0,.int .u64 0,.int .u64 0,.int .u64 0] 25) ∧
   wr.heap[w.heap.size+1+1]? = some (.cells #[.int .u64 (Oc.U (Cl.fw (Oc.mem a b c d) m 0)),.int .u64 (Oc.U (Cl.fw (Oc.mem a b c d) m 1)),.int .u64 (Oc.U (Cl.fw (Oc.mem a b c d) m 2)),.int .u64 (Oc.U (Cl.fw (Oc.mem a b c d) m 3))] 25)) (fun i _=>91 - (intOf i).toNat)
 case atStart=>exact ⟨65,Nat.le_refl _,by omega,rfl,by go_grown,by simp,(three_new _ _ _ _).1,(three_new _ _ _ _).2.1,by rw [HST.out.1,HST.out.2.1,HST.out.2.2.1,HST.out.2.2.2];exact (three_new _ _ _ _).2.2⟩
 case round =>
   obtain ⟨m,h65,h91,rfl,hbel,hsz,hz0,hz1,hz2⟩:=hrel
   by_cases hlt:m ≤ 90
   · have hi:(m:Int) ≤ 90:=by omega
     have ho:Cl.oth m=m+32:=by unfold Cl.oth;rw [if_pos ⟨h65,hlt⟩]
     have hm0:=Cl.meets (a:=a) (b:=b) (c:=c) (d:=d) (m:=m) (by omega)
     have HO:=Lib.hid ho;have HM:=Lib.hid hm0
     have HB:=Lib.hid hbel;have Z0:=Lib.hid hz0;have Z1:=Lib.hid hz1;have Z2:=Lib.hid hz2
     clear ho hm0 hbel hz0 hz1 hz2
     go_wp2_with fail
     refine (other_any m (by omega) _).mono ?_
     rintro e w' ⟨rfl,rfl⟩
     rw [HO.out]
     go_wp2_with fail
     refine (of_pair m (by omega) _ _ rfl rfl _ _ rfl _).mono ?_
     rintro e w1 ⟨rfl,hb1⟩
     have hsz1:w.heap.size+2 < w1.heap.size:=by have:=hb1.size;simp at this;omega
     have B1:=Lib.hid ((HB.out.alloc HB.out.size _).trans (hb1.mono (by have:=HB.out.size;omega)))
     have Y0:=Lib.hid (keep_new hb1 Z0.out);have Y1:=Lib.hid (keep_new hb1 Z1.out);have Y2:=Lib.hid (keep_new hb1 Z2.out)
     clear hb1 HB Z0 Z1 Z2
     have s0:=fun o=>(four (heap_alloc_lt (o:=o) Y0.out)).1
     have s1:=fun o=>(four (heap_alloc_lt (o:=o) Y0.out)).2.1
     have s2:=fun o=>(four (heap_alloc_lt (o:=o) Y0.out)).2.2.1
     have s3:=fun o=>(four (heap_alloc_lt (o:=o) Y0.out)).2.2.2.1
     go_wp2_with fail
     clear s0 s1 s2 s3
     refine (meet2_new _ _ _ _ _ _ _ _ (w1.heap.size+1) _ (by simp)).mono ?_
     rintro e w2 ⟨rfl,hb2⟩
     have hsz2:w.heap.size+2 < w2.heap.size:=by have:=hb2.size;simp at this;omega
     have hsz3:w1.heap.size < w2.heap.size:=by have:=hb2.size;simp at this;omega
     have B2:=Lib.hid (((B1.out.alloc B1.out.size _).alloc (by have:=B1.out.size;simp;omega) _).trans (hb2.mono (by have:=B1.out.size;simp;omega)))
     have X0:=Lib.hid (keep_new hb2 (heap_alloc_lt Y0.out));have X1:=Lib.hid (keep_new hb2 (heap_alloc_lt Y1.out));have X2:=Lib.hid (keep_new hb2 (heap_alloc_lt Y2.out))
     have X3:=Lib.hid (keep_new hb2 (heap_alloc_new w1 _))
     clear hb2 B1 Y0 Y1 Y2
     cases hp:(Oc.mem a b c d m || Oc.mem a b c d (m+32)) with
     | false =>
       have hm:=HM.out
       rw [hp] at hm
       simp only [Bool.not_false] at hm
       have hn:=Cl.fw_no (p:=Oc.mem a b c d) h65 hlt hp
       have HN:=Lib.hid hn
       clear hn hp HM
       go_wp2
       refine ⟨⟨m+1,by omega,by omega,by go_num,B2.out,hsz2,X0.out,X1.out, ?_⟩,by simp [intOf];omega⟩
       rw [HN.out,HN.out,HN.out,HN.out]
       exact X2.out
     | true =>
       have hm:=HM.out
       rw [hp] at hm
       simp only [Bool.not_true] at hm
       have hn:=Cl.fw_yes (p:=Oc.mem a b c d) h65 hlt hp
       have HN:=Lib.hid hn
       clear hn hp HM
       obtain ⟨c0,c1,c2,c3,-⟩:=four X3.out
       obtain ⟨f0,f1,f2,f3,-⟩:=four X2.out
       go_wp2_with fail
       clear c0 c1 c2 c3 f0 f1 f2 f3
       refine (join2_at _ _ _ _ _ _ _ _ _ _ _ _ _ _ rfl (HN.out 0) (HN.out 1) (HN.out 2) (HN.out 3)).mono ?_
       rintro e w3 ⟨rfl,hb3⟩
       have hsz4:w.heap.size+2 < w3.heap.size:=by have:=hb3.size;simp at this;omega
       have B3:=Lib.hid ((B2.out.alloc B2.out.size _).trans (hb3.mono (by have:=B2.out.size;omega)))
       have V0:=Lib.hid (keep_new hb3 X0.out);have V1:=Lib.hid (keep_new hb3 X1.out);have V2:=Lib.hid (keep_new hb3 X2.out)
       clear hb3 B2 X0 X1 X2 X3
       obtain ⟨f0,g0,f1,g1,f2,g2,f3,g3,-⟩:=four_st V2.out
       go_wp2
       refine ⟨⟨m+1,by omega,by omega,by go_num, ?_,by simpa using hsz4, ?_, ?_, ?_⟩,by simp [intOf];omega⟩
       · have hb:=B3.out
         go_grown
       · exact set4_other _ _ _ _ V0.out (by omega)
       · exact set4_other _ _ _ _ V1.out (by omega)
       · exact set4 _ _ _ _ V2.out
   · obtain rfl:m=91:=by omega
     have HB:=Lib.hid hbel
     rw [Cl.fw_end,Cl.fw_end,Cl.fw_end,Cl.fw_end] at hz2
     obtain ⟨c0,c1,c2,c3,-⟩:=four hz2
     obtain ⟨d0,e0,d1,e1,d2,e2,d3,e3,r0,r1,r2,r3⟩:=four_st hz1
     clear hbel hz0 hz1 hz2
     go_wp2
     have hb:=HB.out
     refine bodyPost_ret (v:=(.agg #[.int .u64 (Oc.U (Oc.mk (Cl.fold (Oc.mem a b c d)) 0)),.int .u64 (Oc.U (Oc.mk (Cl.fold (Oc.mem a b c d)) 1)),.int .u64 (Oc.U (Oc.mk (Cl.fold (Oc.mem a b c d)) 2)),.int .u64 (Oc.U (Oc.mk (Cl.fold (Oc.mem a b c d)) 3))])) (by simp [results,Tryz.results159,go_sem,r0,r1,r2,r3]) rfl ⟨rfl, ?_⟩
     go_grown
end Go.Proofs.YtfcilopifjddpaaGreatDoor
namespace Go.Proofs.YtfcilopifjddpaaGreatDoor
open Go.RowKit
theorem wrap_pow:∀ k,k < 64→IntKind.i64.wrap ((2 ^ k:Nat):Int) ≠ 0:=by decide +kernel
theorem and_bit (fl:Int) (k:Nat) (hk:k < 64):(bits .and .i64 fl ((2 ^ k:Nat):Int) != 0)=(BitVec.ofInt 64 fl).getLsbD k:=by
 show (IntKind.i64.wrap ((BitVec.ofInt 64 fl &&& BitVec.ofInt 64 ((2 ^ k:Nat):Int)).toNat:Int) != 0)=_
 generalize BitVec.ofInt 64 fl=x
 have e:BitVec.ofInt 64 ((2 ^ k:Nat):Int)=BitVec.twoPow 64 k:=by
   apply BitVec.eq_of_toNat_eq
   rw [BitVec.toNat_ofInt,BitVec.toNat_twoPow]
   have:(((2 ^ k:Nat):Int) % ((2 ^ 64:Nat):Int)).toNat=2 ^ k % 2 ^ 64:=by omega
   exact this
 rw [e,BitVec.and_twoPow]
 cases hb:x.getLsbD k with
 | false=>simp;decide
 | true =>
   simp only [if_true,BitVec.toNat_twoPow,bne_iff_ne]
   have h1:2 ^ k % 2 ^ 64=2 ^ k:=Nat.mod_eq_of_lt (Nat.pow_lt_pow_right (by omega) hk)
   rw [h1]
   intro h0
   have h2:IntKind.i64.wrap ((2 ^ k:Nat):Int)=0:=h0
   exact wrap_pow k hk h2
theorem bit2 (fl:Int):(bits .and .i64 fl 2 != 0)=icB fl:=and_bit fl 1 (by omega)
theorem bit4 (fl:Int):(bits .and .i64 fl 4 != 0)=nlB fl:=and_bit fl 2 (by omega)
theorem fold_p (P:Nat→Bool) (w:World):Calls Tryz.prog 159 #[(.agg #[.int .u64 (Oc.U (Oc.mk P 0)),.int .u64 (Oc.U (Oc.mk P 1)),.int .u64 (Oc.U (Oc.mk P 2)),.int .u64 (Oc.U (Oc.mk P 3))])] w fun e w' =>
   e=.returned (.agg #[.int .u64 (Oc.U (Oc.mk (Cl.fold P) 0)),.int .u64 (Oc.U (Oc.mk (Cl.fold P) 1)),.int .u64 (Oc.U (Oc.mk (Cl.fold P) 2)),.int .u64 (Oc.U (Oc.mk (Cl.fold P) 3))])∧Below w.heap.size w w':=by
 have h:=fold_any (Oc.mk P 0) (Oc.mk P 1) (Oc.mk P 2) (Oc.mk P 3) w
 rw [Br.mk_fold P 0 (by omega),Br.mk_fold P 1 (by omega),Br.mk_fold P 2 (by omega),Br.mk_fold P 3 (by omega)] at h
 exact h
theorem others_no (P:Nat→Bool) (fl:Int) (hfl:nlB fl=false) (w:World):Calls Tryz.prog 203 #[.agg #[.int .u64 (Oc.U (Oc.mk (P) 0)),.int .u64 (Oc.U (Oc.mk (P) 1)),.int .u64 (Oc.U (Oc.mk (P) 2)),.int .u64 (Oc.U (Oc.mk (P) 3))],.int .i64 fl] w fun e w' =>
   e=.returned (.agg #[.int .u64 (Oc.U (Oc.mk (fun x=>!P x) 0)),.int .u64 (Oc.U (Oc.mk (fun x=>!P x) 1)),.int .u64 (Oc.U (Oc.mk (fun x=>!P x) 2)),.int .u64 (Oc.U (Oc.mk (fun x=>!P x) 3))])∧Below w.heap.size w w':=by
 have hb4:=bit4 fl
 rw [hfl] at hb4
 clear hfl
 have eN:(fun x=>!(P x || x == 10))=fun x=>!P x && !(x == 10):=by funext x;simp
 have hn:=fun w=>not_p (fun x=>P x || x == 10) w
 rw [show (fun x=>!(fun x=>P x || x == 10) x)=fun x=>!P x && !(x == 10) from eN] at hn
 have HN:=Lib.hid hn
 clear eN hn
 go_enter Tryz.func203,Tryz.ntmps203
 go_wp2_with fail
 have hb0:Below w.heap.size w ((w.alloc (.cells #[.int .u64 (Oc.U (Oc.mk (P) 0)),.int .u64 (Oc.U (Oc.mk (P) 1)),.int .u64 (Oc.U (Oc.mk (P) 2)),.int .u64 (Oc.U (Oc.mk (P) 3))] 25)).alloc (.cells noSet 25)):=by go_grown
 obtain ⟨z0,z1⟩:=two_new w (.cells #[.int .u64 (Oc.U (Oc.mk (P) 0)),.int .u64 (Oc.U (Oc.mk (P) 1)),.int .u64 (Oc.U (Oc.mk (P) 2)),.int .u64 (Oc.U (Oc.mk (P) 3))] 25) (.cells noSet 25)
 have Z0:=Lib.hid z0;have Z1:=Lib.hid z1;have HB0:=Lib.hid hb0
 clear z0 z1 hb0
 generalize World.alloc (World.alloc _ _) _=W at *
 go_wp2_with (first
   | (refine wpList_load_row rfl 25 (.tmp 2) rfl w.heap.size rfl 25 _ (0,0) _ Z0.out Tryz.underlying25 rfl (by kernel_rfl) ?_)
   | fail)
 refine (not_p P _).mono ?_
 rintro e w1 ⟨rfl,hb⟩
 have Y1:=Lib.hid (keep_blk hb Z1.out)
 have HB:=Lib.hid (HB0.out.trans (hb.mono HB0.out.size))
 clear hb
 go_wp2_with (first
   | (refine wpList_store_row rfl 25 (.tmp 4) (.tmp 14) rfl (w.heap.size+1) #[.int .u64 (Oc.U (Oc.mk (fun x=>!P x) 0)),.int .u64 (Oc.U (Oc.mk (fun x=>!P x) 1)),.int .u64 (Oc.U (Oc.mk (fun x=>!P x) 2)),.int .u64 (Oc.U (Oc.mk (fun x=>!P x) 3))] rfl rfl 25 _ Y1.out (by kernel_rfl) rfl setC_one ?_)
   | fail)
 exact bodyPost_ret (results_cell_row rfl _ _ (w.heap.size+1) 25 #[.int .u64 (Oc.U (Oc.mk (fun x=>!P x) 0)),.int .u64 (Oc.U (Oc.mk (fun x=>!P x) 1)),.int .u64 (Oc.U (Oc.mk (fun x=>!P x) 2)),.int .u64 (Oc.U (Oc.mk (fun x=>!P x) 3))] (0,0) _ rfl (heap_setRow Y1.out) Tryz.underlying25 rfl (by kernel_rfl)) rfl ⟨rfl,by exact below_setRow HB.out (Nat.le_succ _) _⟩
theorem others_nl (P:Nat→Bool) (fl:Int) (hfl:nlB fl=true) (w:World):Calls Tryz.prog 203 #[.agg #[.int .u64 (Oc.U (Oc.mk (P) 0)),.int .u64 (Oc.U (Oc.mk (P) 1)),.int .u64 (Oc.U (Oc.mk (P) 2)),.int .u64 (Oc.U (Oc.mk (P) 3))],.int .i64 fl] w fun e w' =>
   e=.returned (.agg #[.int .u64 (Oc.U (Oc.mk (fun x=>!P x && !(x == 10)) 0)),.int .u64 (Oc.U (Oc.mk (fun x=>!P x && !(x == 10)) 1)),.int .u64 (Oc.U (Oc.mk (fun x=>!P x && !(x == 10)) 2)),.int .u64 (Oc.U (Oc.mk (fun x=>!P x && !(x == 10)) 3))])∧Below w.heap.size w w':=by
 have hb4:=bit4 fl
 rw [hfl] at hb4
 clear hfl
 have eN:(fun x=>!(P x || x == 10))=fun x=>!P x && !(x == 10):=by funext x;simp
 have hn:=fun w=>not_p (fun x=>P x || x == 10) w
 rw [show (fun x=>!(fun x=>P x || x == 10) x)=fun x=>!P x && !(x == 10) from eN] at hn
 have HN:=Lib.hid hn
 clear eN hn
 go_enter Tryz.func203,Tryz.ntmps203
 go_wp2_with fail
 have hb0:Below w.heap.size w ((w.alloc (.cells #[.int .u64 (Oc.U (Oc.mk (P) 0)),.int .u64 (Oc.U (Oc.mk (P) 1)),.int .u64 (Oc.U (Oc.mk (P) 2)),.int .u64 (Oc.U (Oc.mk (P) 3))] 25)).alloc (.cells noSet 25)):=by go_grown
 obtain ⟨z0,z1⟩:=two_new w (.cells #[.int .u64 (Oc.U (Oc.mk (P) 0)),.int .u64 (Oc.U (Oc.mk (P) 1)),.int .u64 (Oc.U (Oc.mk (P) 2)),.int .u64 (Oc.U (Oc.mk (P) 3))] 25) (.cells noSet 25)
 have Z0:=Lib.hid z0;have Z1:=Lib.hid z1;have HB0:=Lib.hid hb0
 clear z0 z1 hb0
 generalize World.alloc (World.alloc _ _) _=W at *
 refine Ri.wp_region_frame (by kernel_rfl) (by kernel_rfl) (by kernel_rfl) (by kernel_rfl)
   (fun L v w'=>Below w.heap.size w w'∧W.heap.size ≤ w'.heap.size∧(L 5=true→w'.heap[w.heap.size]? = some (.cells #[.int .u64 (Oc.U (Oc.mk (fun x=>P x || x == 10) 0)),.int .u64 (Oc.U (Oc.mk (fun x=>P x || x == 10) 1)),.int .u64 (Oc.U (Oc.mk (fun x=>P x || x == 10) 2)),.int .u64 (Oc.U (Oc.mk (fun x=>P x || x == 10) 3))] 25))∧(L 5=false→w'.heap[w.heap.size]? = some (.cells #[.int .u64 (Oc.U (Oc.mk (P) 0)),.int .u64 (Oc.U (Oc.mk (P) 1)),.int .u64 (Oc.U (Oc.mk (P) 2)),.int .u64 (Oc.U (Oc.mk (P) 3))] 25))∧(L 5=true→L 0=true)∧w'.heap[(w.heap.size+1)]? = some (.cells noSet 25)∧(L 0=true→v 0=(.agg #[.int .u64 (Oc.U (Oc.mk (P) 0)),.int .u64 (Oc.U (Oc.mk (P) 1)),.int .u64 (Oc.U (Oc.mk (P) 2)),.int .u64 (Oc.U (Oc.mk (P) 3))]))∧(L 1=true→OneN W.heap.size w' (v 1) 10)∧(L 2=true→v 2=(.agg #[.int .u64 (Oc.U (Oc.mk (fun b=>b == 10) 0)),.int .u64 (Oc.U (Oc.mk (fun b=>b == 10) 1)),.int .u64 (Oc.U (Oc.mk (fun b=>b == 10) 2)),.int .u64 (Oc.U (Oc.mk (fun b=>b == 10) 3))]))∧(L 3=true→Sl2N W.heap.size w' (v 3) (Oc.mk (P) 0) (Oc.mk (P) 1) (Oc.mk (P) 2) (Oc.mk (P) 3) (Oc.mk (fun b=>b == 10) 0) (Oc.mk (fun b=>b == 10) 1) (Oc.mk (fun b=>b == 10) 2) (Oc.mk (fun b=>b == 10) 3))∧(L 4=true→v 4=(.agg #[.int .u64 (Oc.U (Oc.mk (fun x=>P x || x == 10) 0)),.int .u64 (Oc.U (Oc.mk (fun x=>P x || x == 10) 1)),.int .u64 (Oc.U (Oc.mk (fun x=>P x || x == 10) 2)),.int .u64 (Oc.U (Oc.mk (fun x=>P x || x == 10) 3))])))
   ?_ ?_ ?_
 · exact ⟨HB0.out.drew,Nat.le_refl _,(by simp),(fun _=>Z0.out),by simp,Z1.out,by simp,by simp,by simp,by simp,by simp⟩
 · intro i hi9 L v w9 xa hI hL hd hv ho
   have hi':i=0 ∨ i=1 ∨ i=2 ∨ i=3 ∨ i=4 ∨ i=5:=by simp at hi9;omega
   obtain ⟨hb,hz,qn,qo,qm0,k0,q0,q1,q2,q3,q4⟩:=hI
   rcases hi' with rfl | rfl | rfl | rfl | rfl | rfl
   · have e2:xa.tmps.getD 2 undef=.pointer (some ⟨w.heap.size,0,none⟩):=ho 2 (by kernel_rfl)
     refine Ri.step_plain rfl rfl (fun K' hK=>?_)
     have hl9:L 5=false:=by cases h:L 5 with | false=>rfl | true=>rw [qm0 h] at hL;cases hL
     refine wp_load_row _ _ rfl _ e2 _ _ _ _ (qo hl9) Tryz.underlying25 rfl (by kernel_rfl) ?_
     exact hK _ _ ⟨_,_,rfl,rfl,hb,hz,qn,qo,(fun _=>rfl),k0,fun _=>rfl,q1,q2,q3,q4⟩
   · refine Ri.step_plain rfl rfl (fun K' hK=>?_)
     refine wp_bytes1 _ rfl ?_
     exact hK _ _ ⟨_,_,rfl,rfl,hb.alloc hb.size _,Nat.le_trans hz (by simp),(fun l=>heap_alloc_lt (qn l)),(fun l=>heap_alloc_lt (qo l)),qm0,(heap_alloc_lt k0),q0,fun _=>⟨_,hz,rfl,heap_alloc_new _ _⟩,q2,fun l=>(q3 l).below ((Below.refl _ _).alloc (Nat.le_refl _) _),q4⟩
   · have l0:L 1=true:=by have:=hd _ rfl;simp [Region.binds] at this;simp [this]
     have f1:=hv 1 9 rfl l0
     refine Ri.step_plain rfl rfl (fun K' hK=>?_)
     go_simp
     refine (one_any (by omega) (q1 l0).plain).mono ?_
     rintro e w8 ⟨rfl,hb8⟩
     exact hK _ _ ⟨_,_,rfl,rfl,hb.trans (hb8.mono hb.size),Nat.le_trans hz hb8.size,(fun l=>keep_blk hb8 (qn l)),(fun l=>keep_blk hb8 (qo l)),qm0,(keep_blk hb8 k0),q0,fun l=>(q1 l).below hb8,fun _=>rfl,fun l=>(q3 l).below hb8,q4⟩
   · have l0:L 0=true∧L 2=true:=by have:=hd _ rfl;simp [Region.binds] at this;simp [this]
     have f0:=(hv 0 8 rfl l0.1).trans (q0 l0.1)
     have f2:=(hv 2 10 rfl l0.2).trans (q2 l0.2)
     refine Ri.step_plain rfl rfl (fun K' hK=>?_)
     refine wp_pair _ _ rfl f0 f2 ?_
     exact hK _ _ ⟨_,_,rfl,rfl,hb.alloc hb.size _,Nat.le_trans hz (by simp),(fun l=>heap_alloc_lt (qn l)),(fun l=>heap_alloc_lt (qo l)),qm0,(heap_alloc_lt k0),q0,fun l=>(q1 l).below ((Below.refl _ _).alloc (Nat.le_refl _) _),q2,fun _=>⟨_,hz,rfl,heap_alloc_new _ _⟩,q4⟩
   · have l0:L 3=true:=by have:=hd _ rfl;simp [Region.binds] at this;simp [this]
     have f3:=hv 3 11 rfl l0
     refine Ri.step_plain rfl rfl (fun K' hK=>?_)
     go_simp
     refine (join_p (q3 l0).plain).mono ?_
     rintro e w8 ⟨rfl,hb8⟩
     exact hK _ _ ⟨_,_,rfl,rfl,hb.trans (hb8.mono hb.size),Nat.le_trans hz hb8.size,(fun l=>keep_blk hb8 (qn l)),(fun l=>keep_blk hb8 (qo l)),qm0,(keep_blk hb8 k0),q0,fun l=>(q1 l).below hb8,q2,fun l=>(q3 l).below hb8,fun _=>rfl⟩
   · have l0:L 4=true:=by have:=hd _ rfl;simp [Region.binds] at this;simp [this]
     have f4:=(hv 4 12 rfl l0).trans (q4 l0)
     have e2:xa.tmps.getD 2 undef=.pointer (some ⟨w.heap.size,0,none⟩):=ho 2 (by kernel_rfl)
     refine Ri.step_plain rfl rfl (fun K' hK=>?_)
     have h0:L 0=true:=by have:=hd _ rfl;simp [Region.binds] at this;simp [this]
     refine wp_store_row _ _ _ rfl w.heap.size #[.int .u64 (Oc.U (Oc.mk (fun x=>P x || x == 10) 0)),.int .u64 (Oc.U (Oc.mk (fun x=>P x || x == 10) 1)),.int .u64 (Oc.U (Oc.mk (fun x=>P x || x == 10) 2)),.int .u64 (Oc.U (Oc.mk (fun x=>P x || x == 10) 3))] e2 f4 25 _ (qo hL) (by kernel_rfl) (by kernel_rfl) setC_one ?_
     exact hK _ _ ⟨_,undef,rfl,rfl,below_setRow hb (Nat.le_refl _) _,by simpa using hz,(fun _=>heap_setRow (qo hL)),(fun h=>by cases h),(fun _=>h0),(heap_setRow_other _ _ _ (by omega)).trans k0,q0,fun l=>(q1 l).setRow (block_lt Z0.out) _,q2,fun l=>(q3 l).setRow (block_lt Z0.out) _,q4⟩
 · rintro v w9 ⟨hb,hz,qn,-,-,k0,-,-,-,-,-⟩
   have zN:=qn rfl;clear qn
   simp only [Ri.frame,List.zipIdx,List.foldl_cons,List.foldl_nil,if_true,List.setIfInBounds_toArray,List.set_cons_zero,List.set_cons_succ,Nat.reduceAdd]
   generalize v 0=y0;generalize v 1=y1;generalize v 2=y2;generalize v 3=y3;generalize v 4=y4
   go_wp2_with (first
     | (refine wpList_load_row rfl 25 (.tmp 2) rfl w.heap.size rfl 25 _ (0,0) _ zN Tryz.underlying25 rfl (by kernel_rfl) ?_)
     | fail)
   refine (HN.out _).mono ?_
   rintro e w1 ⟨rfl,hb1⟩
   have Y1:=Lib.hid (keep_blk hb1 k0)
   have HB:=Lib.hid (hb.trans (hb1.mono hb.size))
   clear hb1
   go_wp2_with (first
     | (refine wpList_store_row rfl 25 (.tmp 4) (.tmp 14) rfl (w.heap.size+1) #[.int .u64 (Oc.U (Oc.mk (fun x=>!P x && !(x == 10)) 0)),.int .u64 (Oc.U (Oc.mk (fun x=>!P x && !(x == 10)) 1)),.int .u64 (Oc.U (Oc.mk (fun x=>!P x && !(x == 10)) 2)),.int .u64 (Oc.U (Oc.mk (fun x=>!P x && !(x == 10)) 3))] rfl rfl 25 _ Y1.out (by kernel_rfl) rfl setC_one ?_)
     | fail)
   exact bodyPost_ret (results_cell_row rfl _ _ (w.heap.size+1) 25 #[.int .u64 (Oc.U (Oc.mk (fun x=>!P x && !(x == 10)) 0)),.int .u64 (Oc.U (Oc.mk (fun x=>!P x && !(x == 10)) 1)),.int .u64 (Oc.U (Oc.mk (fun x=>!P x && !(x == 10)) 2)),.int .u64 (Oc.U (Oc.mk (fun x=>!P x && !(x == 10)) 3))] (0,0) _ rfl (heap_setRow Y1.out) Tryz.underlying25 rfl (by kernel_rfl)) rfl ⟨rfl,by exact below_setRow HB.out (Nat.le_succ _) _⟩
theorem one_prefix (l:List UInt8) (x:UInt8):[x].isPrefixOf l=((l[0]?).elim 256 UInt8.toNat == x.toNat):=by
 have hx:=UInt8.toNat_lt x
 match l with
 | []=>simp;omega
 | a :: r =>
   simp only [List.isPrefixOf,Bool.and_true,List.getElem?_cons_zero,Option.elim_some,u8_beq]
   exact Bool.beq_comm
theorem caret_at (s:ByteArray) (i:Nat) (b:Bool) (hb:(bt s i == 94)=b) (w:World) :
   Calls Tryz.prog 130 #[.string (s.extract i s.size),.string ⟨#[94]⟩] w fun e w'=>e=.returned (.bool b)∧w=w':=by
 refine (Tryz.strings_HasPrefix (s.extract i s.size) ⟨#[94]⟩ w).mono ?_
 rintro e w' ⟨rfl,rfl⟩
 refine ⟨?_,rfl⟩
 rw [← hb]
 have:=bt_ext s i 0
 rw [bt_list,Nat.add_zero] at this
 rw [← this]
 exact ret_bool (one_prefix _ 94)
theorem read_far (A:Nat→Addr) (s:ByteArray) (_hs:s.size ≤ 4294967280) (a:Nat) (h:s.size ≤ a) (fl:Int) (w:World) (hE:BrEnv w A) :
   Calls Tryz.prog 183 #[.string s,.int .i64 a,.int .i64 fl] w (ReadEnd A (.err 15 (-1)) w):=by
 have h0:(0:Int) ≤ a:=by omega
 have h1:decide (s.size ≤ a)=true:=by simpa using h
 have hg:14 < w.heap.size:=block_lt_of_cell (hE.errs 14 (by omega)).1
 have HE:=Lib.hid hE
 clear hE
 go_enter Tryz.func183,Tryz.ntmps183
 go_wp2_with fail
 have hb0:Below w.heap.size w (w.alloc (.cells noSet 25)):=by go_grown
 have z0:=heap_alloc_new w (.cells noSet 25)
 have c14:(w.alloc (.cells noSet 25)).cell? ⟨14,0,none⟩=some (.iface 232 (.pointer (some (A 14)))):=((HE.out.below hb0).errs 14 (by omega)).1
 generalize World.alloc w _=W at *
 obtain ⟨d0,e0,d1,e1',d2,e2,d3,e3,r0,r1,r2,r3⟩:=four_st z0
 have HB:=Lib.hid hb0
 clear hb0 z0
 go_region
 all_goals
   go_wp2
   have hb:=HB.out
   refine bodyPost_ret (v:=.tuple #[.agg noSet,.int .i64 0,.iface 232 (.pointer (some (A 14)))]) (by simp [results,Tryz.results183,go_sem,r0,r1,r2,r3]) rfl ⟨⟨_,rfl,14,[],by omega,rfl,.base,rfl⟩, ?_⟩
   go_grown
theorem read_err_false (A:Nat→Addr) (s:ByteArray) (hs:s.size ≤ 4294967280) (a:Nat) (ha:bt s a=91) (ht:(bt s (a+1) == 94)=false) (c:Nat) (q:Int) (hR:Br.items (bt s) s.size a (s.size+1) (a+1) (fun _=>false) false=.err c q) (fl:Int) (w:World) (hE:BrEnv w A) :
   Calls Tryz.prog 183 #[.string s,.int .i64 a,.int .i64 fl] w (ItEnd A (.err c q) w):=by
 have hal:=(bt_txt s).lt ha (by omega)
 have h0:(0:Int) ≤ a:=by omega
 have h1:decide (s.size ≤ a)=false:=by simp;omega
 have e1:((s[a].toNat:Int) != 91)=false:=by rw [bt_at hal,ha];rfl
 have hw1:IntKind.i64.wrap ((a:Int)+1)=(a:Int)+1:=IntWalk.i64_in _ (by omega)
 have hw2:IntKind.i64.wrap ((a:Int)+1+1)=(a:Int)+1+1:=IntWalk.i64_in _ (by omega)
 have h3:(0:Int) ≤ (a:Int)+1:=by omega
 have h4:(a:Int)+1 ≤ s.size:=by omega
 have HC:=Lib.hid (caret_at s (a+1) _ ht)
 have hit:=fun w hE=>britems_any A s hs a (a+1) (by omega) _ hR w hE
 rw [show ((a+1:Nat):Int)=(a:Int)+1 by omega] at hit
 have HI:=Lib.hid hit;have HE:=Lib.hid hE
 clear hit hE ha ht hR
 go_enter Tryz.func183,Tryz.ntmps183
 go_wp2_with fail
 refine (HC.out _).mono ?_;rintro e w' ⟨rfl,rfl⟩
 go_wp2_with fail
 have hb0:Below w.heap.size w ((w.alloc (.cells noSet 25)).alloc (.cells #[.string s,.int .i64 a] 215)):=by go_grown
 obtain ⟨z0,z1⟩:=two_new w (.cells noSet 25) (.cells #[.string s,.int .i64 a] 215)
 have hsz:((w.alloc (.cells noSet 25)).alloc (.cells #[.string s,.int .i64 a] 215)).heap.size=w.heap.size+2:=by simp
 generalize World.alloc (World.alloc _ _) _=W at *
 have HB0:=Lib.hid hb0;have Z0:=Lib.hid z0;have HSZ:=Lib.hid hsz
 clear hb0 z0 z1 hsz
 refine (HI.out _ (HE.out.below HB0.out)).mono ?_
 intro e w1 he
 obtain ⟨v,rfl,hv,hb⟩:=he.err rfl
 obtain ⟨q',rfl⟩:=hv.iface
 have hbA:Below W.heap.size W (w1.alloc (.cells noSet 25)):=hb.alloc hb.size _
 have Y0:=Lib.hid (keep_blk hbA Z0.out)
 have HB:=Lib.hid (HB0.out.trans (hbA.mono HB0.out.size))
 have HV:=Lib.hid (hv.later ((Below.refl w1.heap.size w1).alloc (Nat.le_refl _) (.cells noSet 25)))
 clear hb hbA hv he
 go_wp2_with (first
   | (refine wpList_store_row rfl 25 (.tmp 6) (.tmp 52) rfl (w.heap.size) noSet rfl rfl 25 _ Y0.out (by kernel_rfl) rfl setC_one ?_)
   | fail)
 exact bodyPost_ret (results_row_two rfl _ _ w.heap.size 25 noSet (0,0) _ _ _ rfl rfl rfl (heap_setRow Y0.out) Tryz.underlying25 rfl (by kernel_rfl)) rfl ⟨⟨_,rfl,(HV.out.setRow (by rw [HSZ.out];omega) noSet).down (by rw [HSZ.out];omega)⟩,by exact below_setRow HB.out (Nat.le_refl _) _⟩
theorem read_ok_false (A:Nat→Addr) (s:ByteArray) (hs:s.size ≤ 4294967280) (a:Nat) (ha:bt s a=91) (ht:(bt s (a+1) == 94)=false) (P:Nat→Bool) (j:Nat) (hR:Br.items (bt s) s.size a (s.size+1) (a+1) (fun _=>false) false=.ok P j) (fl:Int) (hic:icB fl=false) (nl:Bool) (w:World) (hE:BrEnv w A) :
   Calls Tryz.prog 183 #[.string s,.int .i64 a,.int .i64 fl] w (ItEnd A (.ok (Br.fin false nl false P) (j+1)) w):=by
 have hjn:=(Br.items_ok (bt_txt s) (by have:=(bt_txt s).lt ha (by omega);omega) hR).2.1
 have hwj:IntKind.i64.wrap ((j:Int)+1)=(j:Int)+1:=IntWalk.i64_in _ (by omega)
 have hb2:=bit2 fl
 rw [hic] at hb2
 have hal:=(bt_txt s).lt ha (by omega)
 have h0:(0:Int) ≤ a:=by omega
 have h1:decide (s.size ≤ a)=false:=by simp;omega
 have e1:((s[a].toNat:Int) != 91)=false:=by rw [bt_at hal,ha];rfl
 have hw1:IntKind.i64.wrap ((a:Int)+1)=(a:Int)+1:=IntWalk.i64_in _ (by omega)
 have hw2:IntKind.i64.wrap ((a:Int)+1+1)=(a:Int)+1+1:=IntWalk.i64_in _ (by omega)
 have h3:(0:Int) ≤ (a:Int)+1:=by omega
 have h4:(a:Int)+1 ≤ s.size:=by omega
 have HC:=Lib.hid (caret_at s (a+1) _ ht)
 have hit:=fun w hE=>britems_any A s hs a (a+1) (by omega) _ hR w hE
 rw [show ((a+1:Nat):Int)=(a:Int)+1 by omega] at hit
 have HI:=Lib.hid hit;have HE:=Lib.hid hE
 clear hit hE ha ht hR
 clear hic
 go_enter Tryz.func183,Tryz.ntmps183
 go_wp2_with fail
 refine (HC.out _).mono ?_;rintro e w' ⟨rfl,rfl⟩
 go_wp2_with fail
 have hb0:Below w.heap.size w ((w.alloc (.cells noSet 25)).alloc (.cells #[.string s,.int .i64 a] 215)):=by go_grown
 obtain ⟨z0,z1⟩:=two_new w (.cells noSet 25) (.cells #[.string s,.int .i64 a] 215)
 have hsz:((w.alloc (.cells noSet 25)).alloc (.cells #[.string s,.int .i64 a] 215)).heap.size=w.heap.size+2:=by simp
 generalize World.alloc (World.alloc _ _) _=W at *
 have HB0:=Lib.hid hb0;have Z0:=Lib.hid z0;have HSZ:=Lib.hid hsz
 clear hb0 z0 z1 hsz
 refine (HI.out _ (HE.out.below HB0.out)).mono ?_
 intro e w1 he
 obtain ⟨rfl,hb⟩:=he.ok rfl
 have hbA:Below W.heap.size W (w1.alloc (.cells #[.int .u64 (Oc.U (Oc.mk (P) 0)),.int .u64 (Oc.U (Oc.mk (P) 1)),.int .u64 (Oc.U (Oc.mk (P) 2)),.int .u64 (Oc.U (Oc.mk (P) 3))] 25)):=hb.alloc hb.size _
 have Y0:=Lib.hid (keep_blk hbA Z0.out)
 have Y1:=Lib.hid (heap_alloc_new w1 (.cells #[.int .u64 (Oc.U (Oc.mk (P) 0)),.int .u64 (Oc.U (Oc.mk (P) 1)),.int .u64 (Oc.U (Oc.mk (P) 2)),.int .u64 (Oc.U (Oc.mk (P) 3))] 25))
 have HB:=Lib.hid (HB0.out.trans (hbA.mono HB0.out.size))
 have hlt:w.heap.size < w1.heap.size:=by have:=hb.size;have:=HSZ.out;omega
 clear hb hbA he
 go_wp2_with (first
   | (refine wpList_load_row rfl 25 (.tmp 12) rfl (w1.heap.size) rfl 25 _ (0,0) _ Y1.out Tryz.underlying25 rfl (by kernel_rfl) ?_)
   | (refine wpList_store_row rfl 25 (.tmp 6) (.tmp 63) rfl (w.heap.size) #[.int .u64 (Oc.U (Oc.mk (P) 0)),.int .u64 (Oc.U (Oc.mk (P) 1)),.int .u64 (Oc.U (Oc.mk (P) 2)),.int .u64 (Oc.U (Oc.mk (P) 3))] rfl rfl 25 _ Y0.out (by kernel_rfl) rfl setC_one ?_)
   | fail)
 exact bodyPost_ret (results_row_two rfl _ _ w.heap.size 25 #[.int .u64 (Oc.U (Oc.mk (P) 0)),.int .u64 (Oc.U (Oc.mk (P) 1)),.int .u64 (Oc.U (Oc.mk (P) 2)),.int .u64 (Oc.U (Oc.mk (P) 3))] (0,0) _ _ _ rfl rfl rfl (heap_setRow Y0.out) Tryz.underlying25 rfl (by kernel_rfl)) rfl ⟨by exact rfl,by exact below_setRow HB.out (Nat.le_refl _) _⟩
theorem read_ok_false_ic (A:Nat→Addr) (s:ByteArray) (hs:s.size ≤ 4294967280) (a:Nat) (ha:bt s a=91) (ht:(bt s (a+1) == 94)=false) (P:Nat→Bool) (j:Nat) (hR:Br.items (bt s) s.size a (s.size+1) (a+1) (fun _=>false) false=.ok P j) (fl:Int) (hic:icB fl=true) (nl:Bool) (w:World) (hE:BrEnv w A) :
   Calls Tryz.prog 183 #[.string s,.int .i64 a,.int .i64 fl] w (ItEnd A (.ok (Br.fin true nl false P) (j+1)) w):=by
 have hjn:=(Br.items_ok (bt_txt s) (by have:=(bt_txt s).lt ha (by omega);omega) hR).2.1
 have hwj:IntKind.i64.wrap ((j:Int)+1)=(j:Int)+1:=IntWalk.i64_in _ (by omega)
 have hb2:=bit2 fl
 rw [hic] at hb2
 have hal:=(bt_txt s).lt ha (by omega)
 have h0:(0:Int) ≤ a:=by omega
 have h1:decide (s.size ≤ a)=false:=by simp;omega
 have e1:((s[a].toNat:Int) != 91)=false:=by rw [bt_at hal,ha];rfl
 have hw1:IntKind.i64.wrap ((a:Int)+1)=(a:Int)+1:=IntWalk.i64_in _ (by omega)
 have hw2:IntKind.i64.wrap ((a:Int)+1+1)=(a:Int)+1+1:=IntWalk.i64_in _ (by omega)
 have h3:(0:Int) ≤ (a:Int)+1:=by omega
 have h4:(a:Int)+1 ≤ s.size:=by omega
 have HC:=Lib.hid (caret_at s (a+1) _ ht)
 have hit:=fun w hE=>britems_any A s hs a (a+1) (by omega) _ hR w hE
 rw [show ((a+1:Nat):Int)=(a:Int)+1 by omega] at hit
 have HI:=Lib.hid hit;have HE:=Lib.hid hE
 clear hit hE ha ht hR
 clear hic
 go_enter Tryz.func183,Tryz.ntmps183
 go_wp2_with fail
 refine (HC.out _).mono ?_;rintro e w' ⟨rfl,rfl⟩
 go_wp2_with fail
 have hb0:Below w.heap.size w ((w.alloc (.cells noSet 25)).alloc (.cells #[.string s,.int .i64 a] 215)):=by go_grown
 obtain ⟨z0,z1⟩:=two_new w (.cells noSet 25) (.cells #[.string s,.int .i64 a] 215)
 have hsz:((w.alloc (.cells noSet 25)).alloc (.cells #[.string s,.int .i64 a] 215)).heap.size=w.heap.size+2:=by simp
 generalize World.alloc (World.alloc _ _) _=W at *
 have HB0:=Lib.hid hb0;have Z0:=Lib.hid z0;have HSZ:=Lib.hid hsz
 clear hb0 z0 z1 hsz
 refine (HI.out _ (HE.out.below HB0.out)).mono ?_
 intro e w1 he
 obtain ⟨rfl,hb⟩:=he.ok rfl
 have hbA:Below W.heap.size W (w1.alloc (.cells #[.int .u64 (Oc.U (Oc.mk (P) 0)),.int .u64 (Oc.U (Oc.mk (P) 1)),.int .u64 (Oc.U (Oc.mk (P) 2)),.int .u64 (Oc.U (Oc.mk (P) 3))] 25)):=hb.alloc hb.size _
 have Y0:=Lib.hid (keep_blk hbA Z0.out)
 have Y1:=Lib.hid (heap_alloc_new w1 (.cells #[.int .u64 (Oc.U (Oc.mk (P) 0)),.int .u64 (Oc.U (Oc.mk (P) 1)),.int .u64 (Oc.U (Oc.mk (P) 2)),.int .u64 (Oc.U (Oc.mk (P) 3))] 25))
 have HB:=Lib.hid (HB0.out.trans (hbA.mono HB0.out.size))
 have hlt:w.heap.size < w1.heap.size:=by have:=hb.size;have:=HSZ.out;omega
 clear hb hbA he
 go_wp2_with (first
   | (refine wpList_load_row rfl 25 (.tmp 12) rfl (w1.heap.size) rfl 25 _ (0,0) _ Y1.out Tryz.underlying25 rfl (by kernel_rfl) ?_)
   | fail)
 refine (fold_p P _).mono ?_
 rintro e w2 ⟨rfl,hb⟩
 have Y0a:=Lib.hid (keep_blk hb Y0.out)
 have Y1a:=Lib.hid (keep_blk hb Y1.out)
 have HBa:=Lib.hid (HB.out.trans (hb.mono HB.out.size))
 have Y0b:Hid ((w2.setRow w1.heap.size #[.int .u64 (Oc.U (Oc.mk (Cl.fold P) 0)),.int .u64 (Oc.U (Oc.mk (Cl.fold P) 1)),.int .u64 (Oc.U (Oc.mk (Cl.fold P) 2)),.int .u64 (Oc.U (Oc.mk (Cl.fold P) 3))]).heap[w.heap.size]? = some (.cells noSet 25)):=Lib.hid ((heap_setRow_other _ _ _ (by omega)).trans Y0a.out)
 have Y1b:Hid ((w2.setRow w1.heap.size #[.int .u64 (Oc.U (Oc.mk (Cl.fold P) 0)),.int .u64 (Oc.U (Oc.mk (Cl.fold P) 1)),.int .u64 (Oc.U (Oc.mk (Cl.fold P) 2)),.int .u64 (Oc.U (Oc.mk (Cl.fold P) 3))]).heap[w1.heap.size]? = some (.cells #[.int .u64 (Oc.U (Oc.mk (Cl.fold P) 0)),.int .u64 (Oc.U (Oc.mk (Cl.fold P) 1)),.int .u64 (Oc.U (Oc.mk (Cl.fold P) 2)),.int .u64 (Oc.U (Oc.mk (Cl.fold P) 3))] 25)):=Lib.hid (heap_setRow Y1a.out)
 have HBb:Hid (Below w.heap.size w (w2.setRow w1.heap.size #[.int .u64 (Oc.U (Oc.mk (Cl.fold P) 0)),.int .u64 (Oc.U (Oc.mk (Cl.fold P) 1)),.int .u64 (Oc.U (Oc.mk (Cl.fold P) 2)),.int .u64 (Oc.U (Oc.mk (Cl.fold P) 3))])):=Lib.hid (below_setRow HBa.out (Nat.le_of_lt hlt) _)
 clear hb
 go_wp2_with (first
   | (refine wpList_load_row rfl 25 (.tmp 12) rfl (w1.heap.size) rfl 25 _ (0,0) _ Y1b.out Tryz.underlying25 rfl (by kernel_rfl) ?_)
   | (refine wpList_store_row rfl 25 (.tmp 12) (.tmp 58) rfl (w1.heap.size) #[.int .u64 (Oc.U (Oc.mk (Cl.fold P) 0)),.int .u64 (Oc.U (Oc.mk (Cl.fold P) 1)),.int .u64 (Oc.U (Oc.mk (Cl.fold P) 2)),.int .u64 (Oc.U (Oc.mk (Cl.fold P) 3))] rfl rfl 25 _ Y1a.out (by kernel_rfl) rfl setC_one ?_)
   | (refine wpList_store_row rfl 25 (.tmp 6) (.tmp 63) rfl (w.heap.size) #[.int .u64 (Oc.U (Oc.mk (Cl.fold P) 0)),.int .u64 (Oc.U (Oc.mk (Cl.fold P) 1)),.int .u64 (Oc.U (Oc.mk (Cl.fold P) 2)),.int .u64 (Oc.U (Oc.mk (Cl.fold P) 3))] rfl rfl 25 _ Y0b.out (by kernel_rfl) rfl setC_one ?_)
   | fail)
 exact bodyPost_ret (results_row_two rfl _ _ w.heap.size 25 #[.int .u64 (Oc.U (Oc.mk (Cl.fold P) 0)),.int .u64 (Oc.U (Oc.mk (Cl.fold P) 1)),.int .u64 (Oc.U (Oc.mk (Cl.fold P) 2)),.int .u64 (Oc.U (Oc.mk (Cl.fold P) 3))] (0,0) _ _ _ rfl rfl rfl (heap_setRow Y0b.out) Tryz.underlying25 rfl (by kernel_rfl)) rfl ⟨by exact rfl,by exact below_setRow HBb.out (Nat.le_refl _) _⟩
theorem read_err_true (A:Nat→Addr) (s:ByteArray) (hs:s.size ≤ 4294967280) (a:Nat) (ha:bt s a=91) (ht:(bt s (a+1) == 94)=true) (c:Nat) (q:Int) (hR:Br.items (bt s) s.size a (s.size+1) (a+2) (fun _=>false) false=.err c q) (fl:Int) (w:World) (hE:BrEnv w A) :
   Calls Tryz.prog 183 #[.string s,.int .i64 a,.int .i64 fl] w (ItEnd A (.err c q) w):=by
 have hal:=(bt_txt s).lt ha (by omega)
 have h0:(0:Int) ≤ a:=by omega
 have h1:decide (s.size ≤ a)=false:=by simp;omega
 have e1:((s[a].toNat:Int) != 91)=false:=by rw [bt_at hal,ha];rfl
 have hw1:IntKind.i64.wrap ((a:Int)+1)=(a:Int)+1:=IntWalk.i64_in _ (by omega)
 have hw2:IntKind.i64.wrap ((a:Int)+1+1)=(a:Int)+1+1:=IntWalk.i64_in _ (by omega)
 have h3:(0:Int) ≤ (a:Int)+1:=by omega
 have h4:(a:Int)+1 ≤ s.size:=by omega
 have HC:=Lib.hid (caret_at s (a+1) _ ht)
 have hal2:=(bt_txt s).lt (beq_iff_eq.1 ht) (by omega)
 have hit:=fun w hE=>britems_any A s hs a (a+2) (by omega) _ hR w hE
 rw [show ((a+2:Nat):Int)=(a:Int)+1+1 by omega] at hit
 have HI:=Lib.hid hit;have HE:=Lib.hid hE
 clear hit hE ha ht hR
 go_enter Tryz.func183,Tryz.ntmps183
 go_wp2_with fail
 refine (HC.out _).mono ?_;rintro e w' ⟨rfl,rfl⟩
 go_wp2_with fail
 have hb0:Below w.heap.size w ((w.alloc (.cells noSet 25)).alloc (.cells #[.string s,.int .i64 a] 215)):=by go_grown
 obtain ⟨z0,z1⟩:=two_new w (.cells noSet 25) (.cells #[.string s,.int .i64 a] 215)
 have hsz:((w.alloc (.cells noSet 25)).alloc (.cells #[.string s,.int .i64 a] 215)).heap.size=w.heap.size+2:=by simp
 generalize World.alloc (World.alloc _ _) _=W at *
 have HB0:=Lib.hid hb0;have Z0:=Lib.hid z0;have HSZ:=Lib.hid hsz
 clear hb0 z0 z1 hsz
 refine (HI.out _ (HE.out.below HB0.out)).mono ?_
 intro e w1 he
 obtain ⟨v,rfl,hv,hb⟩:=he.err rfl
 obtain ⟨q',rfl⟩:=hv.iface
 have hbA:Below W.heap.size W (w1.alloc (.cells noSet 25)):=hb.alloc hb.size _
 have Y0:=Lib.hid (keep_blk hbA Z0.out)
 have HB:=Lib.hid (HB0.out.trans (hbA.mono HB0.out.size))
 have HV:=Lib.hid (hv.later ((Below.refl w1.heap.size w1).alloc (Nat.le_refl _) (.cells noSet 25)))
 clear hb hbA hv he
 go_wp2_with (first
   | (refine wpList_store_row rfl 25 (.tmp 6) (.tmp 52) rfl (w.heap.size) noSet rfl rfl 25 _ Y0.out (by kernel_rfl) rfl setC_one ?_)
   | fail)
 exact bodyPost_ret (results_row_two rfl _ _ w.heap.size 25 noSet (0,0) _ _ _ rfl rfl rfl (heap_setRow Y0.out) Tryz.underlying25 rfl (by kernel_rfl)) rfl ⟨⟨_,rfl,(HV.out.setRow (by rw [HSZ.out];omega) noSet).down (by rw [HSZ.out];omega)⟩,by exact below_setRow HB.out (Nat.le_refl _) _⟩
theorem read_ok_true_no (A:Nat→Addr) (s:ByteArray) (hs:s.size ≤ 4294967280) (a:Nat) (ha:bt s a=91) (ht:(bt s (a+1) == 94)=true) (P:Nat→Bool) (j:Nat) (hR:Br.items (bt s) s.size a (s.size+1) (a+2) (fun _=>false) false=.ok P j) (fl:Int) (hic:icB fl=false) (hnl:nlB fl=false) (w:World) (hE:BrEnv w A) :
   Calls Tryz.prog 183 #[.string s,.int .i64 a,.int .i64 fl] w (ItEnd A (.ok (Br.fin false false true P) (j+1)) w):=by
 have hjn:=(Br.items_ok (bt_txt s) (by have:=(bt_txt s).lt ha (by omega);have:=(bt_txt s).lt (beq_iff_eq.1 ht) (by omega);omega) hR).2.1
 have hwj:IntKind.i64.wrap ((j:Int)+1)=(j:Int)+1:=IntWalk.i64_in _ (by omega)
 have hb2:=bit2 fl
 rw [hic] at hb2
 have hal:=(bt_txt s).lt ha (by omega)
 have h0:(0:Int) ≤ a:=by omega
 have h1:decide (s.size ≤ a)=false:=by simp;omega
 have e1:((s[a].toNat:Int) != 91)=false:=by rw [bt_at hal,ha];rfl
 have hw1:IntKind.i64.wrap ((a:Int)+1)=(a:Int)+1:=IntWalk.i64_in _ (by omega)
 have hw2:IntKind.i64.wrap ((a:Int)+1+1)=(a:Int)+1+1:=IntWalk.i64_in _ (by omega)
 have h3:(0:Int) ≤ (a:Int)+1:=by omega
 have h4:(a:Int)+1 ≤ s.size:=by omega
 have HC:=Lib.hid (caret_at s (a+1) _ ht)
 have hal2:=(bt_txt s).lt (beq_iff_eq.1 ht) (by omega)
 have hit:=fun w hE=>britems_any A s hs a (a+2) (by omega) _ hR w hE
 rw [show ((a+2:Nat):Int)=(a:Int)+1+1 by omega] at hit
 have HI:=Lib.hid hit;have HE:=Lib.hid hE
 clear hit hE ha ht hR
 have HO:=Lib.hid (others_no (P) fl hnl)
 clear hnl
 clear hic
 go_enter Tryz.func183,Tryz.ntmps183
 go_wp2_with fail
 refine (HC.out _).mono ?_;rintro e w' ⟨rfl,rfl⟩
 go_wp2_with fail
 have hb0:Below w.heap.size w ((w.alloc (.cells noSet 25)).alloc (.cells #[.string s,.int .i64 a] 215)):=by go_grown
 obtain ⟨z0,z1⟩:=two_new w (.cells noSet 25) (.cells #[.string s,.int .i64 a] 215)
 have hsz:((w.alloc (.cells noSet 25)).alloc (.cells #[.string s,.int .i64 a] 215)).heap.size=w.heap.size+2:=by simp
 generalize World.alloc (World.alloc _ _) _=W at *
 have HB0:=Lib.hid hb0;have Z0:=Lib.hid z0;have HSZ:=Lib.hid hsz
 clear hb0 z0 z1 hsz
 refine (HI.out _ (HE.out.below HB0.out)).mono ?_
 intro e w1 he
 obtain ⟨rfl,hb⟩:=he.ok rfl
 have hbA:Below W.heap.size W (w1.alloc (.cells #[.int .u64 (Oc.U (Oc.mk (P) 0)),.int .u64 (Oc.U (Oc.mk (P) 1)),.int .u64 (Oc.U (Oc.mk (P) 2)),.int .u64 (Oc.U (Oc.mk (P) 3))] 25)):=hb.alloc hb.size _
 have Y0:=Lib.hid (keep_blk hbA Z0.out)
 have Y1:=Lib.hid (heap_alloc_new w1 (.cells #[.int .u64 (Oc.U (Oc.mk (P) 0)),.int .u64 (Oc.U (Oc.mk (P) 1)),.int .u64 (Oc.U (Oc.mk (P) 2)),.int .u64 (Oc.U (Oc.mk (P) 3))] 25))
 have HB:=Lib.hid (HB0.out.trans (hbA.mono HB0.out.size))
 have hlt:w.heap.size < w1.heap.size:=by have:=hb.size;have:=HSZ.out;omega
 clear hb hbA he
 go_wp2_with (first
   | (refine wpList_load_row rfl 25 (.tmp 12) rfl (w1.heap.size) rfl 25 _ (0,0) _ Y1.out Tryz.underlying25 rfl (by kernel_rfl) ?_)
   | fail)
 refine (HO.out _).mono ?_
 rintro e w3 ⟨rfl,hb⟩
 have Y0a:=Lib.hid (keep_blk hb Y0.out)
 have Y1a:=Lib.hid (keep_blk hb Y1.out)
 have HBa:=Lib.hid (HB.out.trans (hb.mono HB.out.size))
 have Y0b:Hid ((w3.setRow w1.heap.size #[.int .u64 (Oc.U (Oc.mk (fun b=>!(P) b) 0)),.int .u64 (Oc.U (Oc.mk (fun b=>!(P) b) 1)),.int .u64 (Oc.U (Oc.mk (fun b=>!(P) b) 2)),.int .u64 (Oc.U (Oc.mk (fun b=>!(P) b) 3))]).heap[w.heap.size]? = some (.cells noSet 25)):=Lib.hid ((heap_setRow_other _ _ _ (by omega)).trans Y0a.out)
 have Y1b:Hid ((w3.setRow w1.heap.size #[.int .u64 (Oc.U (Oc.mk (fun b=>!(P) b) 0)),.int .u64 (Oc.U (Oc.mk (fun b=>!(P) b) 1)),.int .u64 (Oc.U (Oc.mk (fun b=>!(P) b) 2)),.int .u64 (Oc.U (Oc.mk (fun b=>!(P) b) 3))]).heap[w1.heap.size]? = some (.cells #[.int .u64 (Oc.U (Oc.mk (fun b=>!(P) b) 0)),.int .u64 (Oc.U (Oc.mk (fun b=>!(P) b) 1)),.int .u64 (Oc.U (Oc.mk (fun b=>!(P) b) 2)),.int .u64 (Oc.U (Oc.mk (fun b=>!(P) b) 3))] 25)):=Lib.hid (heap_setRow Y1a.out)
 have HBb:Hid (Below w.heap.size w (w3.setRow w1.heap.size #[.int .u64 (Oc.U (Oc.mk (fun b=>!(P) b) 0)),.int .u64 (Oc.U (Oc.mk (fun b=>!(P) b) 1)),.int .u64 (Oc.U (Oc.mk (fun b=>!(P) b) 2)),.int .u64 (Oc.U (Oc.mk (fun b=>!(P) b) 3))])):=Lib.hid (below_setRow HBa.out (Nat.le_of_lt hlt) _)
 clear hb
 go_wp2_with (first
   | (refine wpList_load_row rfl 25 (.tmp 12) rfl (w1.heap.size) rfl 25 _ (0,0) _ Y1b.out Tryz.underlying25 rfl (by kernel_rfl) ?_)
   | (refine wpList_store_row rfl 25 (.tmp 12) (.tmp 62) rfl (w1.heap.size) #[.int .u64 (Oc.U (Oc.mk (fun b=>!(P) b) 0)),.int .u64 (Oc.U (Oc.mk (fun b=>!(P) b) 1)),.int .u64 (Oc.U (Oc.mk (fun b=>!(P) b) 2)),.int .u64 (Oc.U (Oc.mk (fun b=>!(P) b) 3))] rfl rfl 25 _ Y1a.out (by kernel_rfl) rfl setC_one ?_)
   | (refine wpList_store_row rfl 25 (.tmp 6) (.tmp 63) rfl (w.heap.size) #[.int .u64 (Oc.U (Oc.mk (fun b=>!(P) b) 0)),.int .u64 (Oc.U (Oc.mk (fun b=>!(P) b) 1)),.int .u64 (Oc.U (Oc.mk (fun b=>!(P) b) 2)),.int .u64 (Oc.U (Oc.mk (fun b=>!(P) b) 3))] rfl rfl 25 _ Y0b.out (by kernel_rfl) rfl setC_one ?_)
   | fail)
 exact bodyPost_ret (results_row_two rfl _ _ w.heap.size 25 #[.int .u64 (Oc.U (Oc.mk (fun b=>!(P) b) 0)),.int .u64 (Oc.U (Oc.mk (fun b=>!(P) b) 1)),.int .u64 (Oc.U (Oc.mk (fun b=>!(P) b) 2)),.int .u64 (Oc.U (Oc.mk (fun b=>!(P) b) 3))] (0,0) _ _ _ rfl rfl rfl (heap_setRow Y0b.out) Tryz.underlying25 rfl (by kernel_rfl)) rfl ⟨by exact rfl,by exact below_setRow HBb.out (Nat.le_refl _) _⟩
theorem read_ok_true_nl (A:Nat→Addr) (s:ByteArray) (hs:s.size ≤ 4294967280) (a:Nat) (ha:bt s a=91) (ht:(bt s (a+1) == 94)=true) (P:Nat→Bool) (j:Nat) (hR:Br.items (bt s) s.size a (s.size+1) (a+2) (fun _=>false) false=.ok P j) (fl:Int) (hic:icB fl=false) (hnl:nlB fl=true) (w:World) (hE:BrEnv w A) :
   Calls Tryz.prog 183 #[.string s,.int .i64 a,.int .i64 fl] w (ItEnd A (.ok (Br.fin false true true P) (j+1)) w):=by
 have hjn:=(Br.items_ok (bt_txt s) (by have:=(bt_txt s).lt ha (by omega);have:=(bt_txt s).lt (beq_iff_eq.1 ht) (by omega);omega) hR).2.1
 have hwj:IntKind.i64.wrap ((j:Int)+1)=(j:Int)+1:=IntWalk.i64_in _ (by omega)
 have hb2:=bit2 fl
 rw [hic] at hb2
 have hal:=(bt_txt s).lt ha (by omega)
 have h0:(0:Int) ≤ a:=by omega
 have h1:decide (s.size ≤ a)=false:=by simp;omega
 have e1:((s[a].toNat:Int) != 91)=false:=by rw [bt_at hal,ha];rfl
 have hw1:IntKind.i64.wrap ((a:Int)+1)=(a:Int)+1:=IntWalk.i64_in _ (by omega)
 have hw2:IntKind.i64.wrap ((a:Int)+1+1)=(a:Int)+1+1:=IntWalk.i64_in _ (by omega)
 have h3:(0:Int) ≤ (a:Int)+1:=by omega
 have h4:(a:Int)+1 ≤ s.size:=by omega
 have HC:=Lib.hid (caret_at s (a+1) _ ht)
 have hal2:=(bt_txt s).lt (beq_iff_eq.1 ht) (by omega)
 have hit:=fun w hE=>britems_any A s hs a (a+2) (by omega) _ hR w hE
 rw [show ((a+2:Nat):Int)=(a:Int)+1+1 by omega] at hit
 have HI:=Lib.hid hit;have HE:=Lib.hid hE
 clear hit hE ha ht hR
 have HO:=Lib.hid (others_nl (P) fl hnl)
 clear hnl
 clear hic
 go_enter Tryz.func183,Tryz.ntmps183
 go_wp2_with fail
 refine (HC.out _).mono ?_;rintro e w' ⟨rfl,rfl⟩
 go_wp2_with fail
 have hb0:Below w.heap.size w ((w.alloc (.cells noSet 25)).alloc (.cells #[.string s,.int .i64 a] 215)):=by go_grown
 obtain ⟨z0,z1⟩:=two_new w (.cells noSet 25) (.cells #[.string s,.int .i64 a] 215)
 have hsz:((w.alloc (.cells noSet 25)).alloc (.cells #[.string s,.int .i64 a] 215)).heap.size=w.heap.size+2:=by simp
 generalize World.alloc (World.alloc _ _) _=W at *
 have HB0:=Lib.hid hb0;have Z0:=Lib.hid z0;have HSZ:=Lib.hid hsz
 clear hb0 z0 z1 hsz
 refine (HI.out _ (HE.out.below HB0.out)).mono ?_
 intro e w1 he
 obtain ⟨rfl,hb⟩:=he.ok rfl
 have hbA:Below W.heap.size W (w1.alloc (.cells #[.int .u64 (Oc.U (Oc.mk (P) 0)),.int .u64 (Oc.U (Oc.mk (P) 1)),.int .u64 (Oc.U (Oc.mk (P) 2)),.int .u64 (Oc.U (Oc.mk (P) 3))] 25)):=hb.alloc hb.size _
 have Y0:=Lib.hid (keep_blk hbA Z0.out)
 have Y1:=Lib.hid (heap_alloc_new w1 (.cells #[.int .u64 (Oc.U (Oc.mk (P) 0)),.int .u64 (Oc.U (Oc.mk (P) 1)),.int .u64 (Oc.U (Oc.mk (P) 2)),.int .u64 (Oc.U (Oc.mk (P) 3))] 25))
 have HB:=Lib.hid (HB0.out.trans (hbA.mono HB0.out.size))
 have hlt:w.heap.size < w1.heap.size:=by have:=hb.size;have:=HSZ.out;omega
 clear hb hbA he
 go_wp2_with (first
   | (refine wpList_load_row rfl 25 (.tmp 12) rfl (w1.heap.size) rfl 25 _ (0,0) _ Y1.out Tryz.underlying25 rfl (by kernel_rfl) ?_)
   | fail)
 refine (HO.out _).mono ?_
 rintro e w3 ⟨rfl,hb⟩
 have Y0a:=Lib.hid (keep_blk hb Y0.out)
 have Y1a:=Lib.hid (keep_blk hb Y1.out)
 have HBa:=Lib.hid (HB.out.trans (hb.mono HB.out.size))
 have Y0b:Hid ((w3.setRow w1.heap.size #[.int .u64 (Oc.U (Oc.mk (fun b=>!(P) b && !(b == 10)) 0)),.int .u64 (Oc.U (Oc.mk (fun b=>!(P) b && !(b == 10)) 1)),.int .u64 (Oc.U (Oc.mk (fun b=>!(P) b && !(b == 10)) 2)),.int .u64 (Oc.U (Oc.mk (fun b=>!(P) b && !(b == 10)) 3))]).heap[w.heap.size]? = some (.cells noSet 25)):=Lib.hid ((heap_setRow_other _ _ _ (by omega)).trans Y0a.out)
 have Y1b:Hid ((w3.setRow w1.heap.size #[.int .u64 (Oc.U (Oc.mk (fun b=>!(P) b && !(b == 10)) 0)),.int .u64 (Oc.U (Oc.mk (fun b=>!(P) b && !(b == 10)) 1)),.int .u64 (Oc.U (Oc.mk (fun b=>!(P) b && !(b == 10)) 2)),.int .u64 (Oc.U (Oc.mk (fun b=>!(P) b && !(b == 10)) 3))]).heap[w1.heap.size]? = some (.cells #[.int .u64 (Oc.U (Oc.mk (fun b=>!(P) b && !(b == 10)) 0)),.int .u64 (Oc.U (Oc.mk (fun b=>!(P) b && !(b == 10)) 1)),.int .u64 (Oc.U (Oc.mk (fun b=>!(P) b && !(b == 10)) 2)),.int .u64 (Oc.U (Oc.mk (fun b=>!(P) b && !(b == 10)) 3))] 25)):=Lib.hid (heap_setRow Y1a.out)
 have HBb:Hid (Below w.heap.size w (w3.setRow w1.heap.size #[.int .u64 (Oc.U (Oc.mk (fun b=>!(P) b && !(b == 10)) 0)),.int .u64 (Oc.U (Oc.mk (fun b=>!(P) b && !(b == 10)) 1)),.int .u64 (Oc.U (Oc.mk (fun b=>!(P) b && !(b == 10)) 2)),.int .u64 (Oc.U (Oc.mk (fun b=>!(P) b && !(b == 10)) 3))])):=Lib.hid (below_setRow HBa.out (Nat.le_of_lt hlt) _)
 clear hb
 go_wp2_with (first
   | (refine wpList_load_row rfl 25 (.tmp 12) rfl (w1.heap.size) rfl 25 _ (0,0) _ Y1b.out Tryz.underlying25 rfl (by kernel_rfl) ?_)
   | (refine wpList_store_row rfl 25 (.tmp 12) (.tmp 62) rfl (w1.heap.size) #[.int .u64 (Oc.U (Oc.mk (fun b=>!(P) b && !(b == 10)) 0)),.int .u64 (Oc.U (Oc.mk (fun b=>!(P) b && !(b == 10)) 1)),.int .u64 (Oc.U (Oc.mk (fun b=>!(P) b && !(b == 10)) 2)),.int .u64 (Oc.U (Oc.mk (fun b=>!(P) b && !(b == 10)) 3))] rfl rfl 25 _ Y1a.out (by kernel_rfl) rfl setC_one ?_)
   | (refine wpList_store_row rfl 25 (.tmp 6) (.tmp 63) rfl (w.heap.size) #[.int .u64 (Oc.U (Oc.mk (fun b=>!(P) b && !(b == 10)) 0)),.int .u64 (Oc.U (Oc.mk (fun b=>!(P) b && !(b == 10)) 1)),.int .u64 (Oc.U (Oc.mk (fun b=>!(P) b && !(b == 10)) 2)),.int .u64 (Oc.U (Oc.mk (fun b=>!(P) b && !(b == 10)) 3))] rfl rfl 25 _ Y0b.out (by kernel_rfl) rfl setC_one ?_)
   | fail)
 exact bodyPost_ret (results_row_two rfl _ _ w.heap.size 25 #[.int .u64 (Oc.U (Oc.mk (fun b=>!(P) b && !(b == 10)) 0)),.int .u64 (Oc.U (Oc.mk (fun b=>!(P) b && !(b == 10)) 1)),.int .u64 (Oc.U (Oc.mk (fun b=>!(P) b && !(b == 10)) 2)),.int .u64 (Oc.U (Oc.mk (fun b=>!(P) b && !(b == 10)) 3))] (0,0) _ _ _ rfl rfl rfl (heap_setRow Y0b.out) Tryz.underlying25 rfl (by kernel_rfl)) rfl ⟨by exact rfl,by exact below_setRow HBb.out (Nat.le_refl _) _⟩
theorem read_ok_true_ic_no (A:Nat→Addr) (s:ByteArray) (hs:s.size ≤ 4294967280) (a:Nat) (ha:bt s a=91) (ht:(bt s (a+1) == 94)=true) (P:Nat→Bool) (j:Nat) (hR:Br.items (bt s) s.size a (s.size+1) (a+2) (fun _=>false) false=.ok P j) (fl:Int) (hic:icB fl=true) (hnl:nlB fl=false) (w:World) (hE:BrEnv w A) :
   Calls Tryz.prog 183 #[.string s,.int .i64 a,.int .i64 fl] w (ItEnd A (.ok (Br.fin true false true P) (j+1)) w):=by
 have hjn:=(Br.items_ok (bt_txt s) (by have:=(bt_txt s).lt ha (by omega);have:=(bt_txt s).lt (beq_iff_eq.1 ht) (by omega);omega) hR).2.1
 have hwj:IntKind.i64.wrap ((j:Int)+1)=(j:Int)+1:=IntWalk.i64_in _ (by omega)
 have hb2:=bit2 fl
 rw [hic] at hb2
 have hal:=(bt_txt s).lt ha (by omega)
 have h0:(0:Int) ≤ a:=by omega
 have h1:decide (s.size ≤ a)=false:=by simp;omega
 have e1:((s[a].toNat:Int) != 91)=false:=by rw [bt_at hal,ha];rfl
 have hw1:IntKind.i64.wrap ((a:Int)+1)=(a:Int)+1:=IntWalk.i64_in _ (by omega)
 have hw2:IntKind.i64.wrap ((a:Int)+1+1)=(a:Int)+1+1:=IntWalk.i64_in _ (by omega)
 have h3:(0:Int) ≤ (a:Int)+1:=by omega
 have h4:(a:Int)+1 ≤ s.size:=by omega
 have HC:=Lib.hid (caret_at s (a+1) _ ht)
 have hal2:=(bt_txt s).lt (beq_iff_eq.1 ht) (by omega)
 have hit:=fun w hE=>britems_any A s hs a (a+2) (by omega) _ hR w hE
 rw [show ((a+2:Nat):Int)=(a:Int)+1+1 by omega] at hit
 have HI:=Lib.hid hit;have HE:=Lib.hid hE
 clear hit hE ha ht hR
 have HO:=Lib.hid (others_no (Cl.fold P) fl hnl)
 clear hnl
 clear hic
 go_enter Tryz.func183,Tryz.ntmps183
 go_wp2_with fail
 refine (HC.out _).mono ?_;rintro e w' ⟨rfl,rfl⟩
 go_wp2_with fail
 have hb0:Below w.heap.size w ((w.alloc (.cells noSet 25)).alloc (.cells #[.string s,.int .i64 a] 215)):=by go_grown
 obtain ⟨z0,z1⟩:=two_new w (.cells noSet 25) (.cells #[.string s,.int .i64 a] 215)
 have hsz:((w.alloc (.cells noSet 25)).alloc (.cells #[.string s,.int .i64 a] 215)).heap.size=w.heap.size+2:=by simp
 generalize World.alloc (World.alloc _ _) _=W at *
 have HB0:=Lib.hid hb0;have Z0:=Lib.hid z0;have HSZ:=Lib.hid hsz
 clear hb0 z0 z1 hsz
 refine (HI.out _ (HE.out.below HB0.out)).mono ?_
 intro e w1 he
 obtain ⟨rfl,hb⟩:=he.ok rfl
 have hbA:Below W.heap.size W (w1.alloc (.cells #[.int .u64 (Oc.U (Oc.mk (P) 0)),.int .u64 (Oc.U (Oc.mk (P) 1)),.int .u64 (Oc.U (Oc.mk (P) 2)),.int .u64 (Oc.U (Oc.mk (P) 3))] 25)):=hb.alloc hb.size _
 have Y0:=Lib.hid (keep_blk hbA Z0.out)
 have Y1:=Lib.hid (heap_alloc_new w1 (.cells #[.int .u64 (Oc.U (Oc.mk (P) 0)),.int .u64 (Oc.U (Oc.mk (P) 1)),.int .u64 (Oc.U (Oc.mk (P) 2)),.int .u64 (Oc.U (Oc.mk (P) 3))] 25))
 have HB:=Lib.hid (HB0.out.trans (hbA.mono HB0.out.size))
 have hlt:w.heap.size < w1.heap.size:=by have:=hb.size;have:=HSZ.out;omega
 clear hb hbA he
 go_wp2_with (first
   | (refine wpList_load_row rfl 25 (.tmp 12) rfl (w1.heap.size) rfl 25 _ (0,0) _ Y1.out Tryz.underlying25 rfl (by kernel_rfl) ?_)
   | fail)
 refine (fold_p P _).mono ?_
 rintro e w2 ⟨rfl,hb⟩
 have Y0a:=Lib.hid (keep_blk hb Y0.out)
 have Y1a:=Lib.hid (keep_blk hb Y1.out)
 have HBa:=Lib.hid (HB.out.trans (hb.mono HB.out.size))
 have Y0b:Hid ((w2.setRow w1.heap.size #[.int .u64 (Oc.U (Oc.mk (Cl.fold P) 0)),.int .u64 (Oc.U (Oc.mk (Cl.fold P) 1)),.int .u64 (Oc.U (Oc.mk (Cl.fold P) 2)),.int .u64 (Oc.U (Oc.mk (Cl.fold P) 3))]).heap[w.heap.size]? = some (.cells noSet 25)):=Lib.hid ((heap_setRow_other _ _ _ (by omega)).trans Y0a.out)
 have Y1b:Hid ((w2.setRow w1.heap.size #[.int .u64 (Oc.U (Oc.mk (Cl.fold P) 0)),.int .u64 (Oc.U (Oc.mk (Cl.fold P) 1)),.int .u64 (Oc.U (Oc.mk (Cl.fold P) 2)),.int .u64 (Oc.U (Oc.mk (Cl.fold P) 3))]).heap[w1.heap.size]? = some (.cells #[.int .u64 (Oc.U (Oc.mk (Cl.fold P) 0)),.int .u64 (Oc.U (Oc.mk (Cl.fold P) 1)),.int .u64 (Oc.U (Oc.mk (Cl.fold P) 2)),.int .u64 (Oc.U (Oc.mk (Cl.fold P) 3))] 25)):=Lib.hid (heap_setRow Y1a.out)
 have HBb:Hid (Below w.heap.size w (w2.setRow w1.heap.size #[.int .u64 (Oc.U (Oc.mk (Cl.fold P) 0)),.int .u64 (Oc.U (Oc.mk (Cl.fold P) 1)),.int .u64 (Oc.U (Oc.mk (Cl.fold P) 2)),.int .u64 (Oc.U (Oc.mk (Cl.fold P) 3))])):=Lib.hid (below_setRow HBa.out (Nat.le_of_lt hlt) _)
 clear hb
 go_wp2_with (first
   | (refine wpList_load_row rfl 25 (.tmp 12) rfl (w1.heap.size) rfl 25 _ (0,0) _ Y1b.out Tryz.underlying25 rfl (by kernel_rfl) ?_)
   | (refine wpList_store_row rfl 25 (.tmp 12) (.tmp 58) rfl (w1.heap.size) #[.int .u64 (Oc.U (Oc.mk (Cl.fold P) 0)),.int .u64 (Oc.U (Oc.mk (Cl.fold P) 1)),.int .u64 (Oc.U (Oc.mk (Cl.fold P) 2)),.int .u64 (Oc.U (Oc.mk (Cl.fold P) 3))] rfl rfl 25 _ Y1a.out (by kernel_rfl) rfl setC_one ?_)
   | fail)
 refine (HO.out _).mono ?_
 rintro e w3 ⟨rfl,hb⟩
 have Y0ba:=Lib.hid (keep_blk hb Y0b.out)
 have Y1ba:=Lib.hid (keep_blk hb Y1b.out)
 have HBba:=Lib.hid (HBb.out.trans (hb.mono HBb.out.size))
 have Y0bb:Hid ((w3.setRow w1.heap.size #[.int .u64 (Oc.U (Oc.mk (fun b=>!(Cl.fold P) b) 0)),.int .u64 (Oc.U (Oc.mk (fun b=>!(Cl.fold P) b) 1)),.int .u64 (Oc.U (Oc.mk (fun b=>!(Cl.fold P) b) 2)),.int .u64 (Oc.U (Oc.mk (fun b=>!(Cl.fold P) b) 3))]).heap[w.heap.size]? = some (.cells noSet 25)):=Lib.hid ((heap_setRow_other _ _ _ (by omega)).trans Y0ba.out)
 have Y1bb:Hid ((w3.setRow w1.heap.size #[.int .u64 (Oc.U (Oc.mk (fun b=>!(Cl.fold P) b) 0)),.int .u64 (Oc.U (Oc.mk (fun b=>!(Cl.fold P) b) 1)),.int .u64 (Oc.U (Oc.mk (fun b=>!(Cl.fold P) b) 2)),.int .u64 (Oc.U (Oc.mk (fun b=>!(Cl.fold P) b) 3))]).heap[w1.heap.size]? = some (.cells #[.int .u64 (Oc.U (Oc.mk (fun b=>!(Cl.fold P) b) 0)),.int .u64 (Oc.U (Oc.mk (fun b=>!(Cl.fold P) b) 1)),.int .u64 (Oc.U (Oc.mk (fun b=>!(Cl.fold P) b) 2)),.int .u64 (Oc.U (Oc.mk (fun b=>!(Cl.fold P) b) 3))] 25)):=Lib.hid (heap_setRow Y1ba.out)
 have HBbb:Hid (Below w.heap.size w (w3.setRow w1.heap.size #[.int .u64 (Oc.U (Oc.mk (fun b=>!(Cl.fold P) b) 0)),.int .u64 (Oc.U (Oc.mk (fun b=>!(Cl.fold P) b) 1)),.int .u64 (Oc.U (Oc.mk (fun b=>!(Cl.fold P) b) 2)),.int .u64 (Oc.U (Oc.mk (fun b=>!(Cl.fold P) b) 3))])):=Lib.hid (below_setRow HBba.out (Nat.le_of_lt hlt) _)
 clear hb
 go_wp2_with (first
   | (refine wpList_load_row rfl 25 (.tmp 12) rfl (w1.heap.size) rfl 25 _ (0,0) _ Y1bb.out Tryz.underlying25 rfl (by kernel_rfl) ?_)
   | (refine wpList_store_row rfl 25 (.tmp 12) (.tmp 62) rfl (w1.heap.size) #[.int .u64 (Oc.U (Oc.mk (fun b=>!(Cl.fold P) b) 0)),.int .u64 (Oc.U (Oc.mk (fun b=>!(Cl.fold P) b) 1)),.int .u64 (Oc.U (Oc.mk (fun b=>!(Cl.fold P) b) 2)),.int .u64 (Oc.U (Oc.mk (fun b=>!(Cl.fold P) b) 3))] rfl rfl 25 _ Y1ba.out (by kernel_rfl) rfl setC_one ?_)
   | (refine wpList_store_row rfl 25 (.tmp 6) (.tmp 63) rfl (w.heap.size) #[.int .u64 (Oc.U (Oc.mk (fun b=>!(Cl.fold P) b) 0)),.int .u64 (Oc.U (Oc.mk (fun b=>!(Cl.fold P) b) 1)),.int .u64 (Oc.U (Oc.mk (fun b=>!(Cl.fold P) b) 2)),.int .u64 (Oc.U (Oc.mk (fun b=>!(Cl.fold P) b) 3))] rfl rfl 25 _ Y0bb.out (by kernel_rfl) rfl setC_one ?_)
   | fail)
 exact bodyPost_ret (results_row_two rfl _ _ w.heap.size 25 #[.int .u64 (Oc.U (Oc.mk (fun b=>!(Cl.fold P) b) 0)),.int .u64 (Oc.U (Oc.mk (fun b=>!(Cl.fold P) b) 1)),.int .u64 (Oc.U (Oc.mk (fun b=>!(Cl.fold P) b) 2)),.int .u64 (Oc.U (Oc.mk (fun b=>!(Cl.fold P) b) 3))] (0,0) _ _ _ rfl rfl rfl (heap_setRow Y0bb.out) Tryz.underlying25 rfl (by kernel_rfl)) rfl ⟨by exact rfl,by exact below_setRow HBbb.out (Nat.le_refl _) _⟩
theorem read_ok_true_ic_nl (A:Nat→Addr) (s:ByteArray) (hs:s.size ≤ 4294967280) (a:Nat) (ha:bt s a=91) (ht:(bt s (a+1) == 94)=true) (P:Nat→Bool) (j:Nat) (hR:Br.items (bt s) s.size a (s.size+1) (a+2) (fun _=>false) false=.ok P j) (fl:Int) (hic:icB fl=true) (hnl:nlB fl=true) (w:World) (hE:BrEnv w A) :
   Calls Tryz.prog 183 #[.string s,.int .i64 a,.int .i64 fl] w (ItEnd A (.ok (Br.fin true true true P) (j+1)) w):=by
 have hjn:=(Br.items_ok (bt_txt s) (by have:=(bt_txt s).lt ha (by omega);have:=(bt_txt s).lt (beq_iff_eq.1 ht) (by omega);omega) hR).2.1
 have hwj:IntKind.i64.wrap ((j:Int)+1)=(j:Int)+1:=IntWalk.i64_in _ (by omega)
 have hb2:=bit2 fl
 rw [hic] at hb2
 have hal:=(bt_txt s).lt ha (by omega)
 have h0:(0:Int) ≤ a:=by omega
 have h1:decide (s.size ≤ a)=false:=by simp;omega
 have e1:((s[a].toNat:Int) != 91)=false:=by rw [bt_at hal,ha];rfl
 have hw1:IntKind.i64.wrap ((a:Int)+1)=(a:Int)+1:=IntWalk.i64_in _ (by omega)
 have hw2:IntKind.i64.wrap ((a:Int)+1+1)=(a:Int)+1+1:=IntWalk.i64_in _ (by omega)
 have h3:(0:Int) ≤ (a:Int)+1:=by omega
 have h4:(a:Int)+1 ≤ s.size:=by omega
 have HC:=Lib.hid (caret_at s (a+1) _ ht)
 have hal2:=(bt_txt s).lt (beq_iff_eq.1 ht) (by omega)
 have hit:=fun w hE=>britems_any A s hs a (a+2) (by omega) _ hR w hE
 rw [show ((a+2:Nat):Int)=(a:Int)+1+1 by omega] at hit
 have HI:=Lib.hid hit;have HE:=Lib.hid hE
 clear hit hE ha ht hR
 have HO:=Lib.hid (others_nl (Cl.fold P) fl hnl)
 clear hnl
 clear hic
 go_enter Tryz.func183,Tryz.ntmps183
 go_wp2_with fail
 refine (HC.out _).mono ?_;rintro e w' ⟨rfl,rfl⟩
 go_wp2_with fail
 have hb0:Below w.heap.size w ((w.alloc (.cells noSet 25)).alloc (.cells #[.string s,.int .i64 a] 215)):=by go_grown
 obtain ⟨z0,z1⟩:=two_new w (.cells noSet 25) (.cells #[.string s,.int .i64 a] 215)
 have hsz:((w.alloc (.cells noSet 25)).alloc (.cells #[.string s,.int .i64 a] 215)).heap.size=w.heap.size+2:=by simp
 generalize World.alloc (World.alloc _ _) _=W at *
 have HB0:=Lib.hid hb0;have Z0:=Lib.hid z0;have HSZ:=Lib.hid hsz
 clear hb0 z0 z1 hsz
 refine (HI.out _ (HE.out.below HB0.out)).mono ?_
 intro e w1 he
 obtain ⟨rfl,hb⟩:=he.ok rfl
 have hbA:Below W.heap.size W (w1.alloc (.cells #[.int .u64 (Oc.U (Oc.mk (P) 0)),.int .u64 (Oc.U (Oc.mk (P) 1)),.int .u64 (Oc.U (Oc.mk (P) 2)),.int .u64 (Oc.U (Oc.mk (P) 3))] 25)):=hb.alloc hb.size _
 have Y0:=Lib.hid (keep_blk hbA Z0.out)
 have Y1:=Lib.hid (heap_alloc_new w1 (.cells #[.int .u64 (Oc.U (Oc.mk (P) 0)),.int .u64 (Oc.U (Oc.mk (P) 1)),.int .u64 (Oc.U (Oc.mk (P) 2)),.int .u64 (Oc.U (Oc.mk (P) 3))] 25))
 have HB:=Lib.hid (HB0.out.trans (hbA.mono HB0.out.size))
 have hlt:w.heap.size < w1.heap.size:=by have:=hb.size;have:=HSZ.out;omega
 clear hb hbA he
 go_wp2_with (first
   | (refine wpList_load_row rfl 25 (.tmp 12) rfl (w1.heap.size) rfl 25 _ (0,0) _ Y1.out Tryz.underlying25 rfl (by kernel_rfl) ?_)
   | fail)
 refine (fold_p P _).mono ?_
 rintro e w2 ⟨rfl,hb⟩
 have Y0a:=Lib.hid (keep_blk hb Y0.out)
 have Y1a:=Lib.hid (keep_blk hb Y1.out)
 have HBa:=Lib.hid (HB.out.trans (hb.mono HB.out.size))
 have Y0b:Hid ((w2.setRow w1.heap.size #[.int .u64 (Oc.U (Oc.mk (Cl.fold P) 0)),.int .u64 (Oc.U (Oc.mk (Cl.fold P) 1)),.int .u64 (Oc.U (Oc.mk (Cl.fold P) 2)),.int .u64 (Oc.U (Oc.mk (Cl.fold P) 3))]).heap[w.heap.size]? = some (.cells noSet 25)):=Lib.hid ((heap_setRow_other _ _ _ (by omega)).trans Y0a.out)
 have Y1b:Hid ((w2.setRow w1.heap.size #[.int .u64 (Oc.U (Oc.mk (Cl.fold P) 0)),.int .u64 (Oc.U (Oc.mk (Cl.fold P) 1)),.int .u64 (Oc.U (Oc.mk (Cl.fold P) 2)),.int .u64 (Oc.U (Oc.mk (Cl.fold P) 3))]).heap[w1.heap.size]? = some (.cells #[.int .u64 (Oc.U (Oc.mk (Cl.fold P) 0)),.int .u64 (Oc.U (Oc.mk (Cl.fold P) 1)),.int .u64 (Oc.U (Oc.mk (Cl.fold P) 2)),.int .u64 (Oc.U (Oc.mk (Cl.fold P) 3))] 25)):=Lib.hid (heap_setRow Y1a.out)
 have HBb:Hid (Below w.heap.size w (w2.setRow w1.heap.size #[.int .u64 (Oc.U (Oc.mk (Cl.fold P) 0)),.int .u64 (Oc.U (Oc.mk (Cl.fold P) 1)),.int .u64 (Oc.U (Oc.mk (Cl.fold P) 2)),.int .u64 (Oc.U (Oc.mk (Cl.fold P) 3))])):=Lib.hid (below_setRow HBa.out (Nat.le_of_lt hlt) _)
 clear hb
 go_wp2_with (first
   | (refine wpList_load_row rfl 25 (.tmp 12) rfl (w1.heap.size) rfl 25 _ (0,0) _ Y1b.out Tryz.underlying25 rfl (by kernel_rfl) ?_)
   | (refine wpList_store_row rfl 25 (.tmp 12) (.tmp 58) rfl (w1.heap.size) #[.int .u64 (Oc.U (Oc.mk (Cl.fold P) 0)),.int .u64 (Oc.U (Oc.mk (Cl.fold P) 1)),.int .u64 (Oc.U (Oc.mk (Cl.fold P) 2)),.int .u64 (Oc.U (Oc.mk (Cl.fold P) 3))] rfl rfl 25 _ Y1a.out (by kernel_rfl) rfl setC_one ?_)
   | fail)
 refine (HO.out _).mono ?_
 rintro e w3 ⟨rfl,hb⟩
 have Y0ba:=Lib.hid (keep_blk hb Y0b.out)
 have Y1ba:=Lib.hid (keep_blk hb Y1b.out)
 have HBba:=Lib.hid (HBb.out.trans (hb.mono HBb.out.size))
 have Y0bb:Hid ((w3.setRow w1.heap.size #[.int .u64 (Oc.U (Oc.mk (fun b=>!(Cl.fold P) b && !(b == 10)) 0)),.int .u64 (Oc.U (Oc.mk (fun b=>!(Cl.fold P) b && !(b == 10)) 1)),.int .u64 (Oc.U (Oc.mk (fun b=>!(Cl.fold P) b && !(b == 10)) 2)),.int .u64 (Oc.U (Oc.mk (fun b=>!(Cl.fold P) b && !(b == 10)) 3))]).heap[w.heap.size]? = some (.cells noSet 25)):=Lib.hid ((heap_setRow_other _ _ _ (by omega)).trans Y0ba.out)
 have Y1bb:Hid ((w3.setRow w1.heap.size #[.int .u64 (Oc.U (Oc.mk (fun b=>!(Cl.fold P) b && !(b == 10)) 0)),.int .u64 (Oc.U (Oc.mk (fun b=>!(Cl.fold P) b && !(b == 10)) 1)),.int .u64 (Oc.U (Oc.mk (fun b=>!(Cl.fold P) b && !(b == 10)) 2)),.int .u64 (Oc.U (Oc.mk (fun b=>!(Cl.fold P) b && !(b == 10)) 3))]).heap[w1.heap.size]? = some (.cells #[.int .u64 (Oc.U (Oc.mk (fun b=>!(Cl.fold P) b && !(b == 10)) 0)),.int .u64 (Oc.U (Oc.mk (fun b=>!(Cl.fold P) b && !(b == 10)) 1)),.int .u64 (Oc.U (Oc.mk (fun b=>!(Cl.fold P) b && !(b == 10)) 2)),.int .u64 (Oc.U (Oc.mk (fun b=>!(Cl.fold P) b && !(b == 10)) 3))] 25)):=Lib.hid (heap_setRow Y1ba.out)
 have HBbb:Hid (Below w.heap.size w (w3.setRow w1.heap.size #[.int .u64 (Oc.U (Oc.mk (fun b=>!(Cl.fold P) b && !(b == 10)) 0)),.int .u64 (Oc.U (Oc.mk (fun b=>!(Cl.fold P) b && !(b == 10)) 1)),.int .u64 (Oc.U (Oc.mk (fun b=>!(Cl.fold P) b && !(b == 10)) 2)),.int .u64 (Oc.U (Oc.mk (fun b=>!(Cl.fold P) b && !(b == 10)) 3))])):=Lib.hid (below_setRow HBba.out (Nat.le_of_lt hlt) _)
 clear hb
 go_wp2_with (first
   | (refine wpList_load_row rfl 25 (.tmp 12) rfl (w1.heap.size) rfl 25 _ (0,0) _ Y1bb.out Tryz.underlying25 rfl (by kernel_rfl) ?_)
   | (refine wpList_store_row rfl 25 (.tmp 12) (.tmp 62) rfl (w1.heap.size) #[.int .u64 (Oc.U (Oc.mk (fun b=>!(Cl.fold P) b && !(b == 10)) 0)),.int .u64 (Oc.U (Oc.mk (fun b=>!(Cl.fold P) b && !(b == 10)) 1)),.int .u64 (Oc.U (Oc.mk (fun b=>!(Cl.fold P) b && !(b == 10)) 2)),.int .u64 (Oc.U (Oc.mk (fun b=>!(Cl.fold P) b && !(b == 10)) 3))] rfl rfl 25 _ Y1ba.out (by kernel_rfl) rfl setC_one ?_)
   | (refine wpList_store_row rfl 25 (.tmp 6) (.tmp 63) rfl (w.heap.size) #[.int .u64 (Oc.U (Oc.mk (fun b=>!(Cl.fold P) b && !(b == 10)) 0)),.int .u64 (Oc.U (Oc.mk (fun b=>!(Cl.fold P) b && !(b == 10)) 1)),.int .u64 (Oc.U (Oc.mk (fun b=>!(Cl.fold P) b && !(b == 10)) 2)),.int .u64 (Oc.U (Oc.mk (fun b=>!(Cl.fold P) b && !(b == 10)) 3))] rfl rfl 25 _ Y0bb.out (by kernel_rfl) rfl setC_one ?_)
   | fail)
 exact bodyPost_ret (results_row_two rfl _ _ w.heap.size 25 #[.int .u64 (Oc.U (Oc.mk (fun b=>!(Cl.fold P) b && !(b == 10)) 0)),.int .u64 (Oc.U (Oc.mk (fun b=>!(Cl.fold P) b && !(b == 10)) 1)),.int .u64 (Oc.U (Oc.mk (fun b=>!(Cl.fold P) b && !(b == 10)) 2)),.int .u64 (Oc.U (Oc.mk (fun b=>!(Cl.fold P) b && !(b == 10)) 3))] (0,0) _ _ _ rfl rfl rfl (heap_setRow Y0bb.out) Tryz.underlying25 rfl (by kernel_rfl)) rfl ⟨by exact rfl,by exact below_setRow HBbb.out (Nat.le_refl _) _⟩
theorem whole_does (A:Nat→Addr) (s:ByteArray) (hs:s.size ≤ 4294967280) (a:Nat) (ha:bt s a=91) (fl:Int) (w:World) (hE:BrEnv w A) :
   Calls Tryz.prog 183 #[.string s,.int .i64 a,.int .i64 fl] w (ItEnd A (Br.whole (bt s) s.size a (icB fl) (nlB fl)) w):=by
 unfold Br.whole
 cases ht:(bt s (a+1) == 94) with
 | true =>
   simp only [if_true]
   cases hR:Br.items (bt s) s.size a (s.size+1) (a+2) (fun _=>false) false with
   | err c q=>exact read_err_true A s hs a ha ht c q hR fl w hE
   | ok P j =>
     show Calls _ _ _ _ (ItEnd A (.ok (Br.fin (icB fl) (nlB fl) true P) (j+1)) w)
     cases hic:icB fl <;> cases hnl:nlB fl
     · exact read_ok_true_no A s hs a ha ht P j hR fl hic hnl w hE
     · exact read_ok_true_nl A s hs a ha ht P j hR fl hic hnl w hE
     · exact read_ok_true_ic_no A s hs a ha ht P j hR fl hic hnl w hE
     · exact read_ok_true_ic_nl A s hs a ha ht P j hR fl hic hnl w hE
 | false =>
   simp only [Bool.false_eq_true,if_false]
   cases hR:Br.items (bt s) s.size a (s.size+1) (a+1) (fun _=>false) false with
   | err c q=>exact read_err_false A s hs a ha ht c q hR fl w hE
   | ok P j =>
     show Calls _ _ _ _ (ItEnd A (.ok (Br.fin (icB fl) (nlB fl) false P) (j+1)) w)
     cases hic:icB fl
     · exact read_ok_false A s hs a ha ht P j hR fl hic _ w hE
     · exact read_ok_false_ic A s hs a ha ht P j hR fl hic _ w hE
end Go.Proofs.YtfcilopifjddpaaGreatDoor
namespace Go.Proofs.YtfcilopifjddpaaGreatDoor
open Go.RowKit
theorem stays_is (t:Tr) (s:Value) (hs:∃ p l c,s=.slice p l c) (b:Bool) (hb:b=decide (t.least=0∧(t.most=1 ∨ t.most = -1))) (w:World):Calls Tryz.prog 107 #[.agg (t.cells s)] w fun e w'=>e=.returned (.bool b)∧Below w.heap.size w w':=by
 obtain ⟨p,l,c,rfl⟩:=hs
 unfold Tr.cells
 by_cases h0:t.least=0
 · by_cases h1:t.most=1
   · have hb1:b=true:=by rw [hb];simp [h0,h1]
     subst hb1
     rw [h0,h1]
     clear hb
     go_enter Tryz.func107,Tryz.ntmps107
     go_wp2
     go_ret
     exact ⟨rfl,by go_grown⟩
   · by_cases h2:t.most = -1
     · have hb1:b=true:=by rw [hb];simp [h0,h2]
       subst hb1
       rw [h0,h2]
       clear hb
       go_enter Tryz.func107,Tryz.ntmps107
       go_wp2
       go_ret
       exact ⟨rfl,by go_grown⟩
     · have hb1:b=false:=by rw [hb];simp [h1,h2]
       subst hb1
       rw [h0]
       have e1:(t.most == 1)=false:=by simpa using h1
       have e2:(t.most == -1)=false:=by simpa using h2
       clear hb h1 h2
       go_enter Tryz.func107,Tryz.ntmps107
       go_wp2
       go_ret
       exact ⟨rfl,by go_grown⟩
 · have hb1:b=false:=by rw [hb];simp [h0]
   subst hb1
   have e1:(t.least == 0)=false:=by simpa using h0
   clear hb h0
   go_enter Tryz.func107,Tryz.ntmps107
   go_wp2
   go_ret
   exact ⟨rfl,by go_grown⟩
theorem treerep (t x:Tr) (ih:∀ (w:World) (B:Nat→Prop) (v:Value),NodeV w B v x→Calls Tryz.prog 74 #[v] w (SizeEnd x.szT w)) (hsub:t.subs=[x]) (h0:0 ≤ t.least) (h1:t.least ≤ 255) (h2:t.most = -1 ∨ (t.least ≤ t.most∧t.most ≤ 255))
   (w:World) (B:Nat→Prop) (v:Value) (hv:NodeV w B v t):Calls Tryz.prog 108 #[v] w (SizeEnd (Tr.repSz t.least t.most x.szT) w):=by
 obtain ⟨s,rfl,hs⟩:=hv
 rw [hsub] at hs
 obtain ⟨p,cap,rfl,hlen⟩:=hs.slice
 have hs:TreesAt w B (.slice p 1 cap) [x]:=hs
 obtain ⟨b1,o1,s1,rfl,-,t1,sub1⟩:=hs.get (i:=0) (t:=x) rfl
 have t1':TenAt w b1 o1 x s1:=by simpa using t1
 have HC:=Lib.hid ih
 have T1:=Lib.hid t1';have SUB:=Lib.hid sub1
 have hN:=Tr.szT_le x
 have HST:=Lib.hid (fun b hb=>stays_is t (.slice (some ⟨b1,o1,none⟩) 1 cap) ⟨_,_,_,rfl⟩ b hb)
 clear ih hs hsub t1 t1' sub1 hlen
 obtain ⟨m,hm⟩:∃ m:Nat,t.least=m:=⟨t.least.toNat,by omega⟩
 have HM:=Lib.hid hm
 rw [hm] at h0 h1 h2
 have hm255:m ≤ 255:=by omega
 have hmul:m * x.szT ≤ 510255:=Nat.le_trans (Nat.mul_le_mul hm255 hN) (by omega)
 have wmul:IntKind.i64.wrap ((m:Int) * (x.szT:Int))=((m * x.szT:Nat):Int):=by rw [← Int.natCast_mul];exact IntWalk.i64_in _ (by omega)
 generalize hhi:t.most=hi at *
 have HHI:=Lib.hid hhi
 unfold Tr.cells
 rw [hm,hhi]
 clear hm hhi
 go_enter Tryz.func108,Tryz.ntmps108
 have d:=fun (o:Obj)=>T1.out.keep (w':=w.alloc o) (Below.heap_alloc w o b1 T1.out.lt)
 have e0:=fun o=>(d o).c0;have e1:=fun o=>(d o).c1;have e2:=fun o=>(d o).c2;have e3:=fun o=>(d o).c3;have e4:=fun o=>(d o).c4
 have e5:=fun o=>(d o).c5;have e6:=fun o=>(d o).c6;have e7:=fun o=>(d o).c7;have e8:=fun o=>(d o).c8;have e9:=fun o=>(d o).c9
 clear d
 go_wp2_with fail
 generalize hw1:World.alloc w _=w1
 have hb1:Below w.heap.size w w1:=by rw [← hw1];exact (Below.refl _ _).alloc (Nat.le_refl _) _
 have Z1:Hid (w1.heap[w.heap.size]? = some (.cells (t.cells (.slice (some ⟨b1,o1,none⟩) 1 cap)) 28)):=Lib.hid (by rw [← hw1,heap_alloc_new];unfold Tr.cells;rw [HM.out,HHI.out])
 have hs1:w.heap.size < w1.heap.size:=by rw [← hw1];simp
 have hcall:=HC.out w1 B (.agg (x.cells s1)) ⟨_,rfl,SUB.out.later hb1⟩
 unfold Tr.cells at hcall
 have HB1:=Lib.hid hb1
 clear hw1 e0 e1 e2 e3 e4 e5 e6 e7 e8 e9 hb1
 refine hcall.mono ?_
 rintro e w2 ⟨rfl,hb2⟩
 have HB2:=Lib.hid (HB1.out.trans (hb2.mono HB1.out.size));have Z2:=Lib.hid (keep_blk hb2 Z1.out)
 have hs2:w.heap.size < w2.heap.size:=Nat.lt_of_lt_of_le hs1 hb2.size
 clear hb2 hcall HB1 Z1
 generalize hNe:x.szT=N at *
 clear hNe
 obtain ⟨-,-,f5,f7,f8⟩:=box5 Z2.out
 rw [HM.out] at f7
 rw [HHI.out] at f8
 generalize hA:m * N=A at *
 have HA:=Lib.hid hA
 clear hA
 by_cases h11:m=1∧hi=1
 · obtain ⟨rfl,rfl⟩:=h11
   go_wp2
   go_ret
   exact ⟨ret_int (by unfold Tr.repSz;simp),HB2.out⟩
 · have H11:=Lib.hid h11
   clear h11 f5 f7 f8
   obtain ⟨-,-,f5,f7,f8⟩:=box5 Z2.out
   rw [HM.out] at f7
   rw [HHI.out] at f8
   by_cases hst:m=0∧(hi=1 ∨ hi = -1)
   · have HX:=Lib.hid (show Tr.repSz m hi N=Tr.sat (1+N) by unfold Tr.repSz;rw [if_neg (by omega),if_neg (by omega),if_pos ⟨by omega,hst.2⟩])
     obtain ⟨rfl,hst2⟩:=hst
     have HS2:=Lib.hid hst2
     have w1n:IntKind.i64.wrap (1+(N:Int))=1+(N:Int):=IntWalk.i64_in _ (by omega)
     clear hst2
     go_wp2_with (first
       | (refine wpList_load_row rfl 28 (.tmp 1) rfl w.heap.size rfl 28 _ (0,0) _ Z2.out Tryz.underlying28 rfl (by kernel_rfl) ?_)
       | fail)
     refine (HST.out true (by rw [HM.out];have:=HS2.out;simp [this]) _).mono ?_
     rintro e w3 ⟨rfl,hb3⟩
     obtain ⟨-,-,f5,f7,f8⟩:=box5 (keep_blk hb3 Z2.out)
     rw [HM.out] at f7
     rw [HHI.out] at f8
     have HB3:=Lib.hid (HB2.out.trans (hb3.mono HB2.out.size))
     clear hb3
     go_wp2
     all_goals
       go_ret
       exact ⟨ret_int (by have h:=HX.out;(first | rw [h] | (push_cast at h;rw [h]));unfold Tr.sat;have ha:=HA.out;(try simp only [Nat.zero_mul] at ha);omega),HB3.out⟩
   · by_cases hend:hi = -1
     · have hmpos:1 ≤ m:=by omega
       subst hend
       have HX:=Lib.hid (show Tr.repSz m (-1) N=Tr.sat (1+A+(1+N)) by unfold Tr.repSz;rw [if_neg (by omega),if_neg (by omega),if_neg (by omega),if_pos rfl];have:=HA.out;simp [this])
       have HS2:=Lib.hid hst
       have w1n:IntKind.i64.wrap (1+(N:Int))=1+(N:Int):=IntWalk.i64_in _ (by omega)
       have w1a:IntKind.i64.wrap (1+(A:Int))=1+(A:Int):=IntWalk.i64_in _ (by omega)
       have w1s:IntKind.i64.wrap (1+(A:Int)+(1+(N:Int)))=1+(A:Int)+(1+(N:Int)):=IntWalk.i64_in _ (by omega)
       clear hst
       by_cases hm1:m=1
       · subst hm1
         go_wp2_with (first
           | (refine wpList_load_row rfl 28 (.tmp 1) rfl w.heap.size rfl 28 _ (0,0) _ Z2.out Tryz.underlying28 rfl (by kernel_rfl) ?_)
           | fail)
         refine (HST.out false (by rw [HM.out];have:=HS2.out;first | (simp;done) | (simp;omega)) _).mono ?_
         rintro e w3 ⟨rfl,hb3⟩
         obtain ⟨-,-,f5,f7,f8⟩:=box5 (keep_blk hb3 Z2.out)
         rw [HM.out] at f7
         rw [HHI.out] at f8
         have HB3:=Lib.hid (HB2.out.trans (hb3.mono HB2.out.size))
         clear hb3
         go_wp2
         all_goals
           go_ret
           exact ⟨ret_int (by have h:=HX.out;(first | rw [h] | (push_cast at h;rw [h]));unfold Tr.sat;have ha:=HA.out;(try simp only [Nat.one_mul] at ha);omega),HB3.out⟩
       · have g1:((m:Int) == 1)=false:=by simp;omega
         clear hm1
         go_wp2_with (first
           | (refine wpList_load_row rfl 28 (.tmp 1) rfl w.heap.size rfl 28 _ (0,0) _ Z2.out Tryz.underlying28 rfl (by kernel_rfl) ?_)
           | fail)
         refine (HST.out false (by rw [HM.out];have:=HS2.out;first | (simp;done) | (simp;omega)) _).mono ?_
         rintro e w3 ⟨rfl,hb3⟩
         obtain ⟨-,-,f5,f7,f8⟩:=box5 (keep_blk hb3 Z2.out)
         rw [HM.out] at f7
         rw [HHI.out] at f8
         have HB3:=Lib.hid (HB2.out.trans (hb3.mono HB2.out.size))
         clear hb3
         go_wp2
         all_goals
           go_ret
           exact ⟨ret_int (by have h:=HX.out;(first | rw [h] | (push_cast at h;rw [h]));unfold Tr.sat;have ha:=HA.out;(try simp only [Nat.one_mul,Nat.zero_mul] at ha);omega),HB3.out⟩
     · obtain ⟨d,hd⟩:∃ d:Nat,hi=(m:Int)+d:=⟨(hi - m).toNat,by omega⟩
       have hdm:d * (1+N) ≤ 510510:=Nat.le_trans (Nat.mul_le_mul (show d ≤ 255 by omega) (show 1+N ≤ 2002 by omega)) (by omega)
       obtain ⟨B2,hB⟩:∃ B2,d * (1+N)=B2:=⟨_,rfl⟩
       have HX:=Lib.hid (show Tr.repSz m hi N=Tr.sat (1+A+B2) by
         rw [← hB]
         unfold Tr.repSz
         by_cases hz:hi=0
         · rw [if_pos hz]
           have hm0:m=0:=by omega
           have hd0:d=0:=by omega
           have:=HA.out
           subst hm0 hd0
           simp at this
           subst this
           simp [Tr.sat]
         · rw [if_neg hz,if_neg (by have:=H11.out;omega),if_neg (by omega),if_neg hend]
           have:=HA.out
           have hdd:(hi - (m:Int)).toNat=d:=by omega
           rw [hdd];simp [this])
       have HS2:=Lib.hid hst
       have eend:(hi == -1)=false:=by simpa using hend
       have w1n:IntKind.i64.wrap (1+(N:Int))=1+(N:Int):=IntWalk.i64_in _ (by omega)
       have w1a:IntKind.i64.wrap (1+(A:Int))=1+(A:Int):=IntWalk.i64_in _ (by omega)
       have wsub:IntKind.i64.wrap (hi - (m:Int))=(d:Int):=by rw [hd,show (m:Int)+d - m=d by omega];exact IntWalk.i64_in _ (by omega)
       have wmul2:IntKind.i64.wrap ((d:Int) * (1+(N:Int)))=((d * (1+N):Nat):Int):=by
         rw [show (d:Int) * (1+(N:Int))=((d * (1+N):Nat):Int) by push_cast;rfl];exact IntWalk.i64_in _ (by omega)
       have HD:=Lib.hid hd
       rw [hB] at hdm wmul2
       have w1s:IntKind.i64.wrap (1+(A:Int)+(B2:Int))=1+(A:Int)+(B2:Int):=IntWalk.i64_in _ (by omega)
       clear hst hd hB
       by_cases hm1:m=1
       · subst hm1
         have g2:(hi == 1)=false:=by have:=H11.out;simp;omega
         have wsub':IntKind.i64.wrap (hi - 1)=(d:Int):=by simpa using wsub
         have w1s':IntKind.i64.wrap (1+(N:Int)+(B2:Int))=1+(N:Int)+(B2:Int):=IntWalk.i64_in _ (by omega)
         clear wsub w1s w1a wmul
         go_wp2_with (first
           | (refine wpList_load_row rfl 28 (.tmp 1) rfl w.heap.size rfl 28 _ (0,0) _ Z2.out Tryz.underlying28 rfl (by kernel_rfl) ?_)
           | fail)
         refine (HST.out false (by rw [HM.out];have:=HS2.out;first | (simp;done) | (simp;omega)) _).mono ?_
         rintro e w3 ⟨rfl,hb3⟩
         obtain ⟨-,-,f5,f7,f8⟩:=box5 (keep_blk hb3 Z2.out)
         rw [HM.out] at f7
         rw [HHI.out] at f8
         have HB3:=Lib.hid (HB2.out.trans (hb3.mono HB2.out.size))
         clear hb3
         go_wp2
         all_goals
           go_ret
           exact ⟨ret_int (by have h:=HX.out;(first | rw [h] | (push_cast at h;rw [h]));unfold Tr.sat;have ha:=HA.out;(try simp only [Nat.one_mul] at ha);omega),HB3.out⟩
       · have g1:((m:Int) == 1)=false:=by simp;omega
         clear hm1
         go_wp2_with (first
           | (refine wpList_load_row rfl 28 (.tmp 1) rfl w.heap.size rfl 28 _ (0,0) _ Z2.out Tryz.underlying28 rfl (by kernel_rfl) ?_)
           | fail)
         refine (HST.out false (by rw [HM.out];have:=HS2.out;first | (simp;done) | (simp;omega)) _).mono ?_
         rintro e w3 ⟨rfl,hb3⟩
         obtain ⟨-,-,f5,f7,f8⟩:=box5 (keep_blk hb3 Z2.out)
         rw [HM.out] at f7
         rw [HHI.out] at f8
         have HB3:=Lib.hid (HB2.out.trans (hb3.mono HB2.out.size))
         clear hb3
         go_wp2
         all_goals
           go_ret
           exact ⟨ret_int (by have h:=HX.out;(first | rw [h] | (push_cast at h;rw [h]));unfold Tr.sat;have ha:=HA.out;(try simp only [Nat.one_mul,Nat.zero_mul] at ha);omega),HB3.out⟩
end Go.Proofs.YtfcilopifjddpaaGreatDoor
namespace Go.Proofs.YtfcilopifjddpaaGreatDoor
open Go.RowKit
def SameEnd (t u:Tr) (w:World) (e:Ending) (w':World):Prop:=∃ b:Bool,e=.returned (.bool b)∧(b=true ↔ t=u)∧Below w.heap.size w w'
theorem sameEnd_no {t u:Tr} {w w':World} (h:t ≠ u) (hb:Below w.heap.size w w'):SameEnd t u w (.returned (.bool false)) w':=⟨false,rfl,⟨fun h=>(by cases h),fun e=>absurd e h⟩,hb⟩
theorem sameEnd_yes {t u:Tr} {w w':World} (h:t=u) (hb:Below w.heap.size w w'):SameEnd t u w (.returned (.bool true)) w':=⟨true,rfl,⟨fun _=>h,fun _=>rfl⟩,hb⟩
theorem SameEnd.yes {t u:Tr} {w w':World} {e:Ending} (h:SameEnd t u w e w') (ht:t=u):e=.returned (.bool true)∧Below w.heap.size w w':=by
 obtain ⟨b,rfl,hb,hw⟩:=h;rw [hb.2 ht];exact ⟨rfl,hw⟩
theorem SameEnd.no {t u:Tr} {w w':World} {e:Ending} (h:SameEnd t u w e w') (ht:t ≠ u):e=.returned (.bool false)∧Below w.heap.size w w':=by
 obtain ⟨b,rfl,hb,hw⟩:=h
 cases b with
 | false=>exact ⟨rfl,hw⟩
 | true=>exact absurd (hb.1 rfl) ht
theorem U_ne {a b c d a' b' c' d':BitVec 64} (h:¬ (a=a'∧b=b'∧c=c'∧d=d')):(Oc.U a == Oc.U a' && (Oc.U b == Oc.U b' && (Oc.U c == Oc.U c' && Oc.U d == Oc.U d')))=false:=by
 cases hb:(Oc.U a == Oc.U a' && (Oc.U b == Oc.U b' && (Oc.U c == Oc.U c' && Oc.U d == Oc.U d'))) with
 | false=>rfl
 | true =>
   simp only [Bool.and_eq_true,beq_iff_eq] at hb
   exact absurd ⟨Oc.U_inj hb.1,Oc.U_inj hb.2.1,Oc.U_inj hb.2.2.1,Oc.U_inj hb.2.2.2⟩ h
theorem field5 {w:World} {b:Nat} {x0 x1 x2 x3 x4 x5 x6 x7 x8 x9:Value} {t:TypeId} (h:w.heap[b]? = some (.cells #[x0,x1,x2,x3,x4,x5,x6,x7,x8,x9] t)):w.cell? ⟨b,5,none⟩=some x5:=by
 simp [World.cell?,h]
theorem samenodes_any:∀ t u:Tr,∀ (w:World) (B C:Nat→Prop) (va vb:Value),NodeV w B va t→NodeV w C vb u →
   Calls Tryz.prog 11 #[va,vb] w (SameEnd t u w):=by
 intro t
 induction t using Tr.rec_subs with
 | h t ih =>
   intro u w B C va vb ha hb
   obtain ⟨sa,rfl,hsa⟩:=ha
   obtain ⟨sb,rfl,hsb⟩:=hb
   obtain ⟨p,cap,rfl,hla⟩:=hsa.slice
   obtain ⟨q,cbp,rfl,hlb⟩:=hsb.slice
   have he:=eq4
   cases t with | node k a b c d ts n lo hi br =>
   cases u with | node k' a' b' c' d' us n' lo' hi' br' =>
   simp only [Tr.cells,Tr.kind,Tr.w0,Tr.w1,Tr.w2,Tr.w3,Tr.num,Tr.least,Tr.most,Tr.bare,Tr.subs] at *
   have IH:=Lib.hid ih
   clear ih
   by_cases hx:k=k'
   case neg =>
     have HN:=Lib.hid (show Tr.node k a b c d ts n lo hi br ≠ .node k' a' b' c' d' us n' lo' hi' br' from fun h=>by cases h;exact hx rfl)
     have e1:(k != k')=true:=by simpa using hx
     clear hx
     go_enter Tryz.func11,Tryz.ntmps11
     go_wp2
     go_ret
     exact sameEnd_no HN.out (by go_grown)
   obtain rfl:=hx
   by_cases hx:a=a'∧b=b'∧c=c'∧d=d'
   case neg =>
     have HN:=Lib.hid (show Tr.node k a b c d ts n lo hi br ≠ .node k a' b' c' d' us n' lo' hi' br' from fun h=>by cases h;exact hx ⟨rfl,rfl,rfl,rfl⟩)
     have e2:=U_ne hx
     clear hx
     go_enter Tryz.func11,Tryz.ntmps11
     go_wp2
     go_ret
     exact sameEnd_no HN.out (by go_grown)
   obtain ⟨rfl,rfl,rfl,rfl⟩:=hx
   by_cases hx:n=n'
   case neg =>
     have HN:=Lib.hid (show Tr.node k a b c d ts n lo hi br ≠ .node k a b c d us n' lo' hi' br' from fun h=>by cases h;exact hx rfl)
     have e1:(n != n')=true:=by simpa using hx
     clear hx
     go_enter Tryz.func11,Tryz.ntmps11
     go_wp2
     go_ret
     exact sameEnd_no HN.out (by go_grown)
   obtain rfl:=hx
   by_cases hx:lo=lo'
   case neg =>
     have HN:=Lib.hid (show Tr.node k a b c d ts n lo hi br ≠ .node k a b c d us n lo' hi' br' from fun h=>by cases h;exact hx rfl)
     have e1:(lo != lo')=true:=by simpa using hx
     clear hx
     go_enter Tryz.func11,Tryz.ntmps11
     go_wp2
     go_ret
     exact sameEnd_no HN.out (by go_grown)
   obtain rfl:=hx
   by_cases hx:hi=hi'
   case neg =>
     have HN:=Lib.hid (show Tr.node k a b c d ts n lo hi br ≠ .node k a b c d us n lo hi' br' from fun h=>by cases h;exact hx rfl)
     have e1:(hi != hi')=true:=by simpa using hx
     clear hx
     go_enter Tryz.func11,Tryz.ntmps11
     go_wp2
     go_ret
     exact sameEnd_no HN.out (by go_grown)
   obtain rfl:=hx
   by_cases hx:br=br'
   case neg =>
     have HN:=Lib.hid (show Tr.node k a b c d ts n lo hi br ≠ .node k a b c d us n lo hi br' from fun h=>by cases h;exact hx rfl)
     have hbb:(br=true∧br'=false) ∨ (br=false∧br'=true):=by cases br <;> cases br' <;> simp at hx ⊢
     clear hx
     rcases hbb with ⟨rfl,rfl⟩ | ⟨rfl,rfl⟩
     all_goals
       go_enter Tryz.func11,Tryz.ntmps11
       go_wp2
       go_ret
       exact sameEnd_no HN.out (by go_grown)
   obtain rfl:=hx
   by_cases hx:ts.length=us.length
   case neg =>
     have HN:=Lib.hid (show Tr.node k a b c d ts n lo hi br ≠ .node k a b c d us n lo hi br from fun h=>by cases h;exact hx rfl)
     have e1:((ts.length:Int) != (us.length:Int))=true:=by simp;omega
     have e2:(ts.length != us.length)=true:=by simpa using hx
     have e3:(ts.length == us.length)=false:=by simpa using hx
     clear hx
     go_enter Tryz.func11,Tryz.ntmps11
     go_wp2
     go_ret
     exact sameEnd_no HN.out (by go_grown)
   have hlen:us.length=ts.length:=hx.symm
   clear hx
   have HSA:=Lib.hid hsa;have HSB:=Lib.hid hsb
   clear hsa hsb
   rw [hlen] at HSB hlb ⊢
   go_enter Tryz.func11,Tryz.ntmps11
   go_wp2
   go_loopw [58] (fun iv wr=>∃ m:Nat,iv=.int .i64 m∧m ≤ ts.length∧Hid (∀ j,j < m→ts[j]? = us[j]?)∧Below w.heap.size w wr∧w.heap.size+1 < wr.heap.size ∧
     wr.heap[w.heap.size]? = some (.cells #[.int .i64 k,.int .u64 (Oc.U a),.int .u64 (Oc.U b),.int .u64 (Oc.U c),.int .u64 (Oc.U d),.slice p ts.length cap,.int .i64 n,.int .i64 lo,.int .i64 hi,.bool br] 28)∧wr.heap[w.heap.size+1]? = some (.cells #[.int .i64 k,.int .u64 (Oc.U a),.int .u64 (Oc.U b),.int .u64 (Oc.U c),.int .u64 (Oc.U d),.slice q ts.length cbp,.int .i64 n,.int .i64 lo,.int .i64 hi,.bool br] 28)) (fun iv _=>ts.length - (intOf iv).toNat)
   case atStart=>exact ⟨0,rfl,Nat.zero_le _,Lib.hid (fun j hj=>absurd hj (Nat.not_lt_zero _)),by go_grown,by simp,(two_new _ _ _).1,(two_new _ _ _).2⟩
   case round =>
     obtain ⟨m,rfl,hm,hall,hbel,hsz,z2,z3⟩:=hrel
     have Z2:=Lib.hid z2;have Z3:=Lib.hid z3;have HB:=Lib.hid hbel
     clear z2 z3 hbel
     have wm:IntKind.i64.wrap ((m:Int)+1)=(m:Int)+1:=IntWalk.i64_in _ (by omega)
     by_cases hlt:m < ts.length
     · obtain ⟨x,hx⟩:∃ x,ts[m]? = some x:=⟨_,List.getElem?_eq_getElem hlt⟩
       obtain ⟨y,hy⟩:∃ y,us[m]? = some y:=⟨_,List.getElem?_eq_getElem (by omega)⟩
       obtain ⟨b1,o1,s1,rfl,-,t1,sub1⟩:=HSA.out.get hx
       obtain ⟨b2,o2,s2,rfl,-,t2,sub2⟩:=HSB.out.get hy
       have T1:=Lib.hid t1;have T2:=Lib.hid t2
       have l1:=t1.lt;have l2:=t2.lt
       have HS:=Lib.hid (fun w9 (hb:Below wr.heap.size wr w9)=>IH.out x (List.mem_of_getElem? hx) y w9 B C (.agg #[.int .i64 x.kind,.int .u64 (Oc.U x.w0),.int .u64 (Oc.U x.w1),.int .u64 (Oc.U x.w2),.int .u64 (Oc.U x.w3),s1,.int .i64 x.num,.int .i64 x.least,.int .i64 x.most,.bool x.bare]) (.agg #[.int .i64 y.kind,.int .u64 (Oc.U y.w0),.int .u64 (Oc.U y.w1),.int .u64 (Oc.U y.w2),.int .u64 (Oc.U y.w3),s2,.int .i64 y.num,.int .i64 y.least,.int .i64 y.most,.bool y.bare]) ⟨s1,rfl,sub1.later (HB.out.trans (hb.mono HB.out.size))⟩ ⟨s2,rfl,sub2.later (HB.out.trans (hb.mono HB.out.size))⟩)
       clear t1 t2 sub1 sub2
       have HX:=Lib.hid hx;have HY:=Lib.hid hy
       clear hx hy
       by_cases heq:x=y
       · have HQ:=Lib.hid heq
         clear heq
         go_wp2
         refine Ri.wp_region_frame (by kernel_rfl) (by kernel_rfl) (by kernel_rfl) (by kernel_rfl)
           (fun L v w'=>Below wr.heap.size wr w'∧(L 0=true→v 0=.pointer (some ⟨w.heap.size,5,none⟩))∧(L 1=true→v 1=.slice (some ⟨b1,o1,none⟩) ts.length cap)∧(L 2=true→v 2=.int .i64 m)∧(L 3=true→v 3=.pointer (some ⟨b1,o1+m * 10,none⟩))∧(L 4=true→v 4=.agg #[.int .i64 x.kind,.int .u64 (Oc.U x.w0),.int .u64 (Oc.U x.w1),.int .u64 (Oc.U x.w2),.int .u64 (Oc.U x.w3),s1,.int .i64 x.num,.int .i64 x.least,.int .i64 x.most,.bool x.bare])∧(L 5=true→v 5=.pointer (some ⟨w.heap.size+1,5,none⟩))∧(L 6=true→v 6=.slice (some ⟨b2,o2,none⟩) ts.length cbp)∧(L 7=true→v 7=.int .i64 m)∧(L 8=true→v 8=.pointer (some ⟨b2,o2+m * 10,none⟩))∧(L 9=true→v 9=.agg #[.int .i64 y.kind,.int .u64 (Oc.U y.w0),.int .u64 (Oc.U y.w1),.int .u64 (Oc.U y.w2),.int .u64 (Oc.U y.w3),s2,.int .i64 y.num,.int .i64 y.least,.int .i64 y.most,.bool y.bare])∧(L 10=true→v 10=.bool true)∧(L 11=true→v 11=.bool false))
           ?_ ?_ ?_
         · exact ⟨(Below.refl _ _).drew,by simp,by simp,by simp,by simp,by simp,by simp,by simp,by simp,by simp,by simp,by simp,by simp⟩
         · intro i hi9 L v w9 xa hI hL hd hv ho
           have hi':i=0 ∨ i=1 ∨ i=2 ∨ i=3 ∨ i=4 ∨ i=5 ∨ i=6 ∨ i=7 ∨ i=8 ∨ i=9 ∨ i=10 ∨ i=11:=by simp at hi9;omega
           obtain ⟨hb,q0,q1,q2,q3,q4,q5,q6,q7,q8,q9,q10,q11⟩:=hI
           rcases hi' with rfl | rfl | rfl | rfl | rfl | rfl | rfl | rfl | rfl | rfl | rfl | rfl
           · have e2:xa.tmps.getD 2 undef=.pointer (some ⟨w.heap.size,0,none⟩):=ho 2 (by kernel_rfl)
             refine Ri.step_plain rfl rfl (fun K' hK=>?_)
             go_simp
             exact hK _ _ ⟨_,_,rfl,rfl,hb,fun _=>rfl,q1,q2,q3,q4,q5,q6,q7,q8,q9,q10,q11⟩
           · have l0:L 0=true:=by have:=hd _ rfl;simp [Region.binds] at this;simp [this]
             have f0:=(hv 0 61 rfl l0).trans (q0 l0)
             refine Ri.step_plain rfl rfl (fun K' hK=>?_)
             obtain c5:=field5 (keep_blk hb Z2.out)
             go_simp
             exact hK _ _ ⟨_,_,rfl,rfl,hb,q0,fun _=>rfl,q2,q3,q4,q5,q6,q7,q8,q9,q10,q11⟩
           · have e5:xa.tmps.getD 5 undef=.int .i64 m:=ho 5 (by kernel_rfl)
             refine Ri.step_plain rfl rfl (fun K' hK=>?_)
             go_simp
             exact hK _ _ ⟨_,_,rfl,rfl,hb,q0,q1,fun _=>rfl,q3,q4,q5,q6,q7,q8,q9,q10,q11⟩
           · have l0:L 1=true∧L 2=true:=by have:=hd _ rfl;simp [Region.binds] at this;simp [this]
             have f1:=(hv 1 62 rfl l0.1).trans (q1 l0.1)
             have f2:=(hv 2 63 rfl l0.2).trans (q2 l0.2)
             refine Ri.step_plain rfl rfl (fun K' hK=>?_)
             go_simp
             exact hK _ _ ⟨_,_,rfl,rfl,hb,q0,q1,q2,fun _=>rfl,q4,q5,q6,q7,q8,q9,q10,q11⟩
           · have l0:L 3=true:=by have:=hd _ rfl;simp [Region.binds] at this;simp [this]
             have f3:=(hv 3 64 rfl l0).trans (q3 l0)
             refine Ri.step_plain rfl rfl (fun K' hK=>?_)
             obtain ⟨d0,d1,d2,d3,d4,d5,d6,d7,d8,d9⟩:=(T1.out.keep ((HB.out.trans (hb.mono HB.out.size)).block _ l1))
             go_simp
             exact hK _ _ ⟨_,_,rfl,rfl,hb,q0,q1,q2,q3,fun _=>rfl,q5,q6,q7,q8,q9,q10,q11⟩
           · have e3:xa.tmps.getD 3 undef=.pointer (some ⟨w.heap.size+1,0,none⟩):=ho 3 (by kernel_rfl)
             refine Ri.step_plain rfl rfl (fun K' hK=>?_)
             go_simp
             exact hK _ _ ⟨_,_,rfl,rfl,hb,q0,q1,q2,q3,q4,fun _=>rfl,q6,q7,q8,q9,q10,q11⟩
           · have l0:L 5=true:=by have:=hd _ rfl;simp [Region.binds] at this;simp [this]
             have f5:=(hv 5 66 rfl l0).trans (q5 l0)
             refine Ri.step_plain rfl rfl (fun K' hK=>?_)
             obtain c5:=field5 (keep_blk hb Z3.out)
             go_simp
             exact hK _ _ ⟨_,_,rfl,rfl,hb,q0,q1,q2,q3,q4,q5,fun _=>rfl,q7,q8,q9,q10,q11⟩
           · have e5:xa.tmps.getD 5 undef=.int .i64 m:=ho 5 (by kernel_rfl)
             refine Ri.step_plain rfl rfl (fun K' hK=>?_)
             go_simp
             exact hK _ _ ⟨_,_,rfl,rfl,hb,q0,q1,q2,q3,q4,q5,q6,fun _=>rfl,q8,q9,q10,q11⟩
           · have l0:L 6=true∧L 7=true:=by have:=hd _ rfl;simp [Region.binds] at this;simp [this]
             have f6:=(hv 6 67 rfl l0.1).trans (q6 l0.1)
             have f7:=(hv 7 68 rfl l0.2).trans (q7 l0.2)
             refine Ri.step_plain rfl rfl (fun K' hK=>?_)
             go_simp
             exact hK _ _ ⟨_,_,rfl,rfl,hb,q0,q1,q2,q3,q4,q5,q6,q7,fun _=>rfl,q9,q10,q11⟩
           · have l0:L 8=true:=by have:=hd _ rfl;simp [Region.binds] at this;simp [this]
             have f8:=(hv 8 69 rfl l0).trans (q8 l0)
             refine Ri.step_plain rfl rfl (fun K' hK=>?_)
             obtain ⟨d0,d1,d2,d3,d4,d5,d6,d7,d8,d9⟩:=(T2.out.keep ((HB.out.trans (hb.mono HB.out.size)).block _ l2))
             go_simp
             exact hK _ _ ⟨_,_,rfl,rfl,hb,q0,q1,q2,q3,q4,q5,q6,q7,q8,fun _=>rfl,q10,q11⟩
           · have l0:L 4=true∧L 9=true:=by have:=hd _ rfl;simp [Region.binds] at this;simp [this]
             have f4:=(hv 4 65 rfl l0.1).trans (q4 l0.1)
             have f9:=(hv 9 70 rfl l0.2).trans (q9 l0.2)
             refine Ri.step_plain rfl rfl (fun K' hK=>?_)
             go_simp
             refine ((HS.out _ hb).mono fun _ _ h=>h.yes HQ.out).mono ?_
             rintro e w8 ⟨rfl,hb8⟩
             exact hK _ _ ⟨_,_,rfl,rfl,hb.trans (hb8.mono hb.size),q0,q1,q2,q3,q4,q5,q6,q7,q8,q9,fun _=>rfl,q11⟩
           · have l0:L 10=true:=by have:=hd _ rfl;simp [Region.binds] at this;simp [this]
             have f10:=(hv 10 71 rfl l0).trans (q10 l0)
             refine Ri.step_plain rfl rfl (fun K' hK=>?_)
             go_simp
             exact hK _ _ ⟨_,_,rfl,rfl,hb,q0,q1,q2,q3,q4,q5,q6,q7,q8,q9,q10,fun _=>rfl⟩
         · rintro v w9 ⟨hb,-,-,-,-,-,-,-,-,-,-,-,q11⟩
           have q11':v 11=.bool false:=q11 rfl
           simp only [Ri.frame,List.zipIdx,List.foldl_cons,List.foldl_nil,if_true,List.setIfInBounds_toArray,List.set_cons_zero,List.set_cons_succ,Nat.reduceAdd,q11']
           clear q11 q11'
           generalize v 0=y0;generalize v 1=y1;generalize v 2=y2;generalize v 3=y3;generalize v 4=y4;generalize v 5=y5;generalize v 6=y6;generalize v 7=y7;generalize v 8=y8;generalize v 9=y9;generalize v 10=y10
           have Y2:=keep_blk hb Z2.out;have Y3:=keep_blk hb Z3.out;have HB9:=HB.out.trans (hb.mono HB.out.size);have hz9:=hb.size
           have W2:=Lib.hid Y2;have W3:=Lib.hid Y3;have HB10:=Lib.hid HB9
           clear hb Y2 Y3 HB9
           go_wp2
           exact ⟨⟨m+1,by go_num,by omega,Lib.hid (fun j hj=>by
             by_cases hjm:j=m
             · rw [hjm,HX.out,HY.out,HQ.out]
             · exact hall.out j (by omega)),HB10.out,by omega,W2.out,W3.out⟩,by simp [intOf];omega⟩
       · have HQ:=Lib.hid heq
         clear heq
         go_wp2
         refine Ri.wp_region_frame (by kernel_rfl) (by kernel_rfl) (by kernel_rfl) (by kernel_rfl)
           (fun L v w'=>Below wr.heap.size wr w'∧(L 0=true→v 0=.pointer (some ⟨w.heap.size,5,none⟩))∧(L 1=true→v 1=.slice (some ⟨b1,o1,none⟩) ts.length cap)∧(L 2=true→v 2=.int .i64 m)∧(L 3=true→v 3=.pointer (some ⟨b1,o1+m * 10,none⟩))∧(L 4=true→v 4=.agg #[.int .i64 x.kind,.int .u64 (Oc.U x.w0),.int .u64 (Oc.U x.w1),.int .u64 (Oc.U x.w2),.int .u64 (Oc.U x.w3),s1,.int .i64 x.num,.int .i64 x.least,.int .i64 x.most,.bool x.bare])∧(L 5=true→v 5=.pointer (some ⟨w.heap.size+1,5,none⟩))∧(L 6=true→v 6=.slice (some ⟨b2,o2,none⟩) ts.length cbp)∧(L 7=true→v 7=.int .i64 m)∧(L 8=true→v 8=.pointer (some ⟨b2,o2+m * 10,none⟩))∧(L 9=true→v 9=.agg #[.int .i64 y.kind,.int .u64 (Oc.U y.w0),.int .u64 (Oc.U y.w1),.int .u64 (Oc.U y.w2),.int .u64 (Oc.U y.w3),s2,.int .i64 y.num,.int .i64 y.least,.int .i64 y.most,.bool y.bare])∧(L 10=true→v 10=.bool false)∧(L 11=true→v 11=.bool true))
           ?_ ?_ ?_
         · exact ⟨(Below.refl _ _).drew,by simp,by simp,by simp,by simp,by simp,by simp,by simp,by simp,by simp,by simp,by simp,by simp⟩
         · intro i hi9 L v w9 xa hI hL hd hv ho
           have hi':i=0 ∨ i=1 ∨ i=2 ∨ i=3 ∨ i=4 ∨ i=5 ∨ i=6 ∨ i=7 ∨ i=8 ∨ i=9 ∨ i=10 ∨ i=11:=by simp at hi9;omega
           obtain ⟨hb,q0,q1,q2,q3,q4,q5,q6,q7,q8,q9,q10,q11⟩:=hI
           rcases hi' with rfl | rfl | rfl | rfl | rfl | rfl | rfl | rfl | rfl | rfl | rfl | rfl
           · have e2:xa.tmps.getD 2 undef=.pointer (some ⟨w.heap.size,0,none⟩):=ho 2 (by kernel_rfl)
             refine Ri.step_plain rfl rfl (fun K' hK=>?_)
             go_simp
             exact hK _ _ ⟨_,_,rfl,rfl,hb,fun _=>rfl,q1,q2,q3,q4,q5,q6,q7,q8,q9,q10,q11⟩
           · have l0:L 0=true:=by have:=hd _ rfl;simp [Region.binds] at this;simp [this]
             have f0:=(hv 0 61 rfl l0).trans (q0 l0)
             refine Ri.step_plain rfl rfl (fun K' hK=>?_)
             obtain c5:=field5 (keep_blk hb Z2.out)
             go_simp
             exact hK _ _ ⟨_,_,rfl,rfl,hb,q0,fun _=>rfl,q2,q3,q4,q5,q6,q7,q8,q9,q10,q11⟩
           · have e5:xa.tmps.getD 5 undef=.int .i64 m:=ho 5 (by kernel_rfl)
             refine Ri.step_plain rfl rfl (fun K' hK=>?_)
             go_simp
             exact hK _ _ ⟨_,_,rfl,rfl,hb,q0,q1,fun _=>rfl,q3,q4,q5,q6,q7,q8,q9,q10,q11⟩
           · have l0:L 1=true∧L 2=true:=by have:=hd _ rfl;simp [Region.binds] at this;simp [this]
             have f1:=(hv 1 62 rfl l0.1).trans (q1 l0.1)
             have f2:=(hv 2 63 rfl l0.2).trans (q2 l0.2)
             refine Ri.step_plain rfl rfl (fun K' hK=>?_)
             go_simp
             exact hK _ _ ⟨_,_,rfl,rfl,hb,q0,q1,q2,fun _=>rfl,q4,q5,q6,q7,q8,q9,q10,q11⟩
           · have l0:L 3=true:=by have:=hd _ rfl;simp [Region.binds] at this;simp [this]
             have f3:=(hv 3 64 rfl l0).trans (q3 l0)
             refine Ri.step_plain rfl rfl (fun K' hK=>?_)
             obtain ⟨d0,d1,d2,d3,d4,d5,d6,d7,d8,d9⟩:=(T1.out.keep ((HB.out.trans (hb.mono HB.out.size)).block _ l1))
             go_simp
             exact hK _ _ ⟨_,_,rfl,rfl,hb,q0,q1,q2,q3,fun _=>rfl,q5,q6,q7,q8,q9,q10,q11⟩
           · have e3:xa.tmps.getD 3 undef=.pointer (some ⟨w.heap.size+1,0,none⟩):=ho 3 (by kernel_rfl)
             refine Ri.step_plain rfl rfl (fun K' hK=>?_)
             go_simp
             exact hK _ _ ⟨_,_,rfl,rfl,hb,q0,q1,q2,q3,q4,fun _=>rfl,q6,q7,q8,q9,q10,q11⟩
           · have l0:L 5=true:=by have:=hd _ rfl;simp [Region.binds] at this;simp [this]
             have f5:=(hv 5 66 rfl l0).trans (q5 l0)
             refine Ri.step_plain rfl rfl (fun K' hK=>?_)
             obtain c5:=field5 (keep_blk hb Z3.out)
             go_simp
             exact hK _ _ ⟨_,_,rfl,rfl,hb,q0,q1,q2,q3,q4,q5,fun _=>rfl,q7,q8,q9,q10,q11⟩
           · have e5:xa.tmps.getD 5 undef=.int .i64 m:=ho 5 (by kernel_rfl)
             refine Ri.step_plain rfl rfl (fun K' hK=>?_)
             go_simp
             exact hK _ _ ⟨_,_,rfl,rfl,hb,q0,q1,q2,q3,q4,q5,q6,fun _=>rfl,q8,q9,q10,q11⟩
           · have l0:L 6=true∧L 7=true:=by have:=hd _ rfl;simp [Region.binds] at this;simp [this]
             have f6:=(hv 6 67 rfl l0.1).trans (q6 l0.1)
             have f7:=(hv 7 68 rfl l0.2).trans (q7 l0.2)
             refine Ri.step_plain rfl rfl (fun K' hK=>?_)
             go_simp
             exact hK _ _ ⟨_,_,rfl,rfl,hb,q0,q1,q2,q3,q4,q5,q6,q7,fun _=>rfl,q9,q10,q11⟩
           · have l0:L 8=true:=by have:=hd _ rfl;simp [Region.binds] at this;simp [this]
             have f8:=(hv 8 69 rfl l0).trans (q8 l0)
             refine Ri.step_plain rfl rfl (fun K' hK=>?_)
             obtain ⟨d0,d1,d2,d3,d4,d5,d6,d7,d8,d9⟩:=(T2.out.keep ((HB.out.trans (hb.mono HB.out.size)).block _ l2))
             go_simp
             exact hK _ _ ⟨_,_,rfl,rfl,hb,q0,q1,q2,q3,q4,q5,q6,q7,q8,fun _=>rfl,q10,q11⟩
           · have l0:L 4=true∧L 9=true:=by have:=hd _ rfl;simp [Region.binds] at this;simp [this]
             have f4:=(hv 4 65 rfl l0.1).trans (q4 l0.1)
             have f9:=(hv 9 70 rfl l0.2).trans (q9 l0.2)
             refine Ri.step_plain rfl rfl (fun K' hK=>?_)
             go_simp
             refine ((HS.out _ hb).mono fun _ _ h=>h.no HQ.out).mono ?_
             rintro e w8 ⟨rfl,hb8⟩
             exact hK _ _ ⟨_,_,rfl,rfl,hb.trans (hb8.mono hb.size),q0,q1,q2,q3,q4,q5,q6,q7,q8,q9,fun _=>rfl,q11⟩
           · have l0:L 10=true:=by have:=hd _ rfl;simp [Region.binds] at this;simp [this]
             have f10:=(hv 10 71 rfl l0).trans (q10 l0)
             refine Ri.step_plain rfl rfl (fun K' hK=>?_)
             go_simp
             exact hK _ _ ⟨_,_,rfl,rfl,hb,q0,q1,q2,q3,q4,q5,q6,q7,q8,q9,q10,fun _=>rfl⟩
         · rintro v w9 ⟨hb,-,-,-,-,-,-,-,-,-,-,-,q11⟩
           have q11':v 11=.bool true:=q11 rfl
           simp only [Ri.frame,List.zipIdx,List.foldl_cons,List.foldl_nil,if_true,List.setIfInBounds_toArray,List.set_cons_zero,List.set_cons_succ,Nat.reduceAdd,q11']
           clear q11 q11'
           generalize v 0=y0;generalize v 1=y1;generalize v 2=y2;generalize v 3=y3;generalize v 4=y4;generalize v 5=y5;generalize v 6=y6;generalize v 7=y7;generalize v 8=y8;generalize v 9=y9;generalize v 10=y10
           have HB10:=Lib.hid (HB.out.trans (hb.mono HB.out.size))
           clear hb
           go_wp2
           go_ret
           refine sameEnd_no (fun h=>?_) HB10.out
           have hts:ts=us:=by injection h
           have:=HX.out
           rw [hts,HY.out] at this
           exact HQ.out (Option.some.inj this).symm
     · obtain rfl:m=ts.length:=by omega
       have hts:ts=us:=List.ext_getElem? fun j=>by
         by_cases hj:j < ts.length
         · exact hall.out j hj
         · rw [List.getElem?_eq_none (by omega),List.getElem?_eq_none (by omega)]
       have HTS:=Lib.hid hts
       clear hts hlt
       go_wp2
       go_ret
       exact sameEnd_yes (by rw [HTS.out]) HB.out
end Go.Proofs.YtfcilopifjddpaaGreatDoor
namespace Go.Proofs.YtfcilopifjddpaaGreatDoor
open Go.RowKit
theorem treesize_seq (t:Tr) (ih:∀ u,u ∈ t.subs→u.InForm→∀ (w:World) (B:Nat→Prop) (v:Value),NodeV w B v u→Calls Tryz.prog 74 #[v] w (SizeEnd u.szT w)) (hf:t.InForm) (hk:t.kind ≠ 8)
   (w:World) (B:Nat→Prop) (v:Value) (hv:NodeV w B v t):Calls Tryz.prog 74 #[v] w (SizeEnd t.szT w):=by
 obtain ⟨s,rfl,hs⟩:=hv
 obtain ⟨p,cap,rfl,hlen⟩:=hs.slice
 have HE:=Lib.hid (show t.szT=Tr.sat (1+Tr.szS t.subs) by cases t;rw [Tr.szT];simp only [Tr.kind] at hk;rw [if_neg hk];rfl)
 have HF:=Lib.hid hf
 generalize hts:t.subs=ts at *
 have HTS:=Lib.hid hts;have IH:=Lib.hid ih;have HS:=Lib.hid hs
 have e8:(t.kind == 8)=false:=by simpa using hk
 clear ih hs hf hk hts
 unfold Tr.cells
 go_enter Tryz.func74,Tryz.ntmps74
 go_wp2
 go_loopw [3,14] (fun nv iv wr=>∃ m:Nat,iv=.int .i64 m∧m ≤ ts.length∧nv=.int .i64 (Tr.sat (1+Tr.szS (ts.take m)):Nat)∧Hid (Below w.heap.size w wr)) (fun _ iv _=>ts.length - (intOf iv).toNat)
 case atStart=>exact ⟨0,rfl,Nat.zero_le _,rfl,Lib.hid (by go_grown)⟩
 case round =>
   obtain ⟨m,rfl,hm,rfl,HB⟩:=hrel
   have wm:IntKind.i64.wrap ((m:Int)+1)=(m:Int)+1:=IntWalk.i64_in _ (by omega)
   by_cases hlt:m < ts.length
   · obtain ⟨x,hx⟩:∃ x,ts[m]? = some x:=⟨_,List.getElem?_eq_getElem hlt⟩
     obtain ⟨b1,o1,s1,rfl,-,t1,sub1⟩:=HS.out.get hx
     obtain ⟨d0,d1,d2,d3,d4,d5,d6,d7,d8,d9⟩:=t1.keep (HB.out.block _ t1.lt)
     have hmem:=List.mem_of_getElem? hx
     obtain ⟨p1,c1,rfl,hl1⟩:=sub1.slice
     have HC:=Lib.hid (fun w9 hb=>IH.out x hmem (HF.out.sub (by rw [HTS.out];exact hmem)) w9 B (.agg (x.cells (.slice p1 x.subs.length c1))) ⟨_,rfl,sub1.later hb⟩)
     have hle:=Tr.sat_le (1+Tr.szS (ts.take m));have hlx:=Tr.szT_le x
     have HST:=Lib.hid (Tr.szS_take ts m x hx)
     clear t1 sub1 hmem hx
     generalize hn:Tr.sat (1+Tr.szS (ts.take m))=n at *
     have HN:=Lib.hid hn
     clear hn
     unfold Tr.cells at HC
     go_wp2_with fail
     generalize hw1:World.alloc wr _=w1
     have hb1:Below wr.heap.size wr w1:=by rw [← hw1];exact (Below.refl _ _).alloc (Nat.le_refl _) _
     clear hw1
     refine (HC.out w1 (HB.out.trans (hb1.mono HB.out.size))).mono ?_
     rintro e w2 ⟨rfl,hb2⟩
     have HB2:=Lib.hid (HB.out.trans ((hb1.trans (hb2.mono hb1.size)).mono HB.out.size))
     have wsum:IntKind.i64.wrap ((n:Int)+(x.szT:Int))=(n:Int)+x.szT:=IntWalk.i64_in _ (by omega)
     have HSUM:=Lib.hid (show Tr.sat (n+x.szT)=Tr.sat (1+Tr.szS (ts.take (m+1))) by rw [← HN.out,Tr.sat_sat,HST.out];congr 1;omega)
     generalize x.szT=N at *
     clear d0 d1 d2 d3 d4 d5 d6 d7 d8 d9 hb1 hb2 HC
     go_wp2
     all_goals
       exact ⟨⟨m+1,by go_num,by omega,by rw [← HSUM.out];unfold Tr.sat;congr 1;omega,HB2⟩,by simp [intOf];omega⟩
   · obtain rfl:m=ts.length:=by omega
     have HX:=Lib.hid (show Tr.sat (1+Tr.szS (ts.take ts.length))=t.szT by rw [List.take_length,HE.out])
     go_wp2
     go_ret
     exact ⟨ret_int (by rw [HX.out]),HB.out⟩
theorem treesize_rep (t x:Tr) (ih:∀ (w:World) (B:Nat→Prop) (v:Value),NodeV w B v x→Calls Tryz.prog 74 #[v] w (SizeEnd x.szT w)) (hsub:t.subs=[x]) (hk:t.kind=8) (h0:0 ≤ t.least) (h1:t.least ≤ 255) (h2:t.most = -1 ∨ (t.least ≤ t.most∧t.most ≤ 255))
   (w:World) (B:Nat→Prop) (v:Value) (hv:NodeV w B v t):Calls Tryz.prog 74 #[v] w (SizeEnd t.szT w):=by
 obtain ⟨s,rfl,hs⟩:=hv
 have hsz0:t.szT=Tr.repSz t.least t.most x.szT:=by
   cases t;simp only [Tr.kind,Tr.subs] at hk hsub;subst hk hsub;rw [Tr.szT,if_pos rfl,Tr.szH];rfl
 have HSZ:=Lib.hid hsz0
 have HC:=Lib.hid (fun w9 (hb:Below w.heap.size w w9)=>treerep t x ih hsub h0 h1 h2 w9 B _ ⟨s,rfl,hs.later hb⟩)
 obtain ⟨p,cap,rfl,hlen⟩:=hs.slice
 have z0:=heap_alloc_new w (.cells (t.cells (.slice p t.subs.length cap)) 28)
 have Z0:=Lib.hid z0
 clear hsz0 ih hsub h0 h1 h2 hs z0
 unfold Tr.cells at *
 rw [hk] at *
 clear hk
 go_enter Tryz.func74,Tryz.ntmps74
 go_wp2_with (first
   | (refine wpList_load_row rfl 28 (.tmp 1) rfl w.heap.size rfl 28 _ (0,0) _ Z0.out Tryz.underlying28 rfl (by kernel_rfl) ?_)
   | fail)
 refine (HC.out _ ((Below.refl _ _).alloc (Nat.le_refl _) _)).mono ?_
 rintro e w2 ⟨rfl,hb2⟩
 have HB2:=Lib.hid (((Below.refl w.heap.size w).alloc (Nat.le_refl _) _).trans (hb2.mono (by simp)))
 clear hb2
 go_wp2
 go_ret
 exact ⟨ret_int (by rw [HSZ.out]),HB2.out⟩
theorem treesize_any:∀ t:Tr,t.InForm→∀ (w:World) (B:Nat→Prop) (v:Value),NodeV w B v t→Calls Tryz.prog 74 #[v] w (SizeEnd t.szT w):=by
 intro t
 induction t using Tr.rec_subs with
 | h t ih =>
   intro hf w B v hv
   by_cases hk:t.kind=8
   · have hfl:=hf.fields
     unfold Tr.fieldsOk at hfl
     obtain ⟨-,-,-,-,-,hl,-,h0,h1,h2,-⟩:t.kind=8∧t.w0=0#64∧t.w1=0#64∧t.w2=0#64∧t.w3=0#64∧t.subs.length=1∧t.num=0∧0 ≤ t.least∧t.least ≤ 255∧(t.most = -1 ∨ (t.least ≤ t.most∧t.most ≤ 255))∧(t.bare=true→t.least=0):=by
       rcases hfl with h | h | h | h | h
       · omega
       · omega
       · omega
       · omega
       · exact h
     obtain ⟨x,hx⟩:=List.length_eq_one_iff.1 hl
     have hmem:x ∈ t.subs:=by rw [hx];exact List.mem_cons_self
     exact treesize_rep t x (fun w B v hv=>ih x hmem (hf.sub hmem) w B v hv) hx hk h0 h1 h2 w B v hv
   · exact treesize_seq t ih hf hk w B v hv
theorem counts_yes (k a b c d n lo hi:Int) (br:Bool) (p:Option Addr) (l cap:Nat) (h0:0 ≤ lo) (h1:lo ≤ 255) (h2:hi = -1 ∨ (lo ≤ hi∧hi ≤ 255)) (h3:br=true→lo=0) (w:World) :
   Calls Tryz.prog 142 #[.agg #[.int .i64 k,.int .u64 a,.int .u64 b,.int .u64 c,.int .u64 d,.slice p l cap,.int .i64 n,.int .i64 lo,.int .i64 hi,.bool br]] w fun e w'=>e=.returned (.bool true)∧Below w.heap.size w w':=by
 have e1:decide (lo < 0)=false:=by simpa using h0
 have e2:decide (255 < lo)=false:=by simpa using h1
 have H3:=Lib.hid h3
 rcases h2 with rfl | ⟨h2,h4⟩
 · cases br with
   | true =>
     have h5:=H3.out rfl
     subst h5
     clear e1 e2 h0 h1 h3
     go_enter Tryz.func142,Tryz.ntmps142
     go_wp2
     go_ret
     exact ⟨rfl,by go_grown⟩
   | false =>
     clear h3
     go_enter Tryz.func142,Tryz.ntmps142
     go_wp2
     go_ret
     exact ⟨rfl,by go_grown⟩
 · have e3:(hi == -1)=false:=by rw [beq_eq_false_iff_ne];omega
   have e4:decide (lo ≤ hi)=true:=by simpa using h2
   have e5:decide (hi ≤ 255)=true:=by simpa using h4
   cases br with
   | true =>
     have h5:=H3.out rfl
     subst h5
     clear e1 e2 h0 h1 h3
     go_enter Tryz.func142,Tryz.ntmps142
     go_wp2
     go_ret
     exact ⟨rfl,by go_grown⟩
   | false =>
     clear h3
     go_enter Tryz.func142,Tryz.ntmps142
     go_wp2
     go_ret
     exact ⟨rfl,by go_grown⟩
theorem fields_rep (lo hi:Int) (br:Bool) (p:Option Addr) (cap:Nat) (h1:0 ≤ lo) (h2:lo ≤ 255) (h3:hi = -1 ∨ (lo ≤ hi∧hi ≤ 255)) (h4:br=true→lo=0) (w:World) :
   Calls Tryz.prog 106 #[.agg #[.int .i64 8,.int .u64 0,.int .u64 0,.int .u64 0,.int .u64 0,.slice p 1 cap,.int .i64 0,.int .i64 lo,.int .i64 hi,.bool br]] w fun e w'=>e=.returned (.bool true)∧Below w.heap.size w w':=by
 have he:=eq4
 have HC:=Lib.hid (fun w=>counts_yes 8 0 0 0 0 0 lo hi br p 1 cap h1 h2 h3 h4 w)
 have z0:=heap_alloc_new w (.cells #[.int .i64 8,.int .u64 0,.int .u64 0,.int .u64 0,.int .u64 0,.slice p 1 cap,.int .i64 0,.int .i64 lo,.int .i64 hi,.bool br] 28)
 have Z0:=Lib.hid z0
 clear h1 h2 h3 h4 z0
 by_cases hl:lo=0
 · subst hl
   by_cases hh:hi=0
   · subst hh
     cases br
     all_goals
       go_enter Tryz.func106,Tryz.ntmps106
       go_wp2_with (first
         | (refine wpList_load_row rfl 28 (.tmp 1) rfl w.heap.size rfl 28 _ (0,0) _ Z0.out Tryz.underlying28 rfl (by kernel_rfl) ?_)
         | fail)
       refine (HC.out _).mono ?_
       rintro e w2 ⟨rfl,hb2⟩
       have HB2:=Lib.hid (((Below.refl w.heap.size w).alloc (Nat.le_refl _) _).trans (hb2.mono (by simp)))
       clear hb2
       go_wp2
       go_ret
       exact ⟨rfl,HB2.out⟩
   · have e2:(hi == 0)=false:=by simpa using hh
     clear hh
     go_enter Tryz.func106,Tryz.ntmps106
     go_wp2_with (first
       | (refine wpList_load_row rfl 28 (.tmp 1) rfl w.heap.size rfl 28 _ (0,0) _ Z0.out Tryz.underlying28 rfl (by kernel_rfl) ?_)
       | fail)
     refine (HC.out _).mono ?_
     rintro e w2 ⟨rfl,hb2⟩
     have HB2:=Lib.hid (((Below.refl w.heap.size w).alloc (Nat.le_refl _) _).trans (hb2.mono (by simp)))
     clear hb2
     go_wp2
     go_ret
     exact ⟨rfl,HB2.out⟩
 · have e1:(lo == 0)=false:=by simpa using hl
   clear hl
   go_enter Tryz.func106,Tryz.ntmps106
   go_wp2_with (first
     | (refine wpList_load_row rfl 28 (.tmp 1) rfl w.heap.size rfl 28 _ (0,0) _ Z0.out Tryz.underlying28 rfl (by kernel_rfl) ?_)
     | fail)
   refine (HC.out _).mono ?_
   rintro e w2 ⟨rfl,hb2⟩
   have HB2:=Lib.hid (((Below.refl w.heap.size w).alloc (Nat.le_refl _) _).trans (hb2.mono (by simp)))
   clear hb2
   go_wp2
   go_ret
   exact ⟨rfl,HB2.out⟩
theorem fields_yes (t:Tr) (p:Option Addr) (cap:Nat) (hfl:t.fieldsOk) (hlen:t.subs.length * 96 ≤ 140737488351232) (w:World) :
   Calls Tryz.prog 106 #[.agg (t.cells (.slice p t.subs.length cap))] w fun e w'=>e=.returned (.bool true)∧Below w.heap.size w w':=by
 have he:=eq4
 cases t with | node k a b c d us n lo hi br =>
 unfold Tr.fieldsOk at hfl
 simp only [Tr.cells,Tr.kind,Tr.w0,Tr.w1,Tr.w2,Tr.w3,Tr.num,Tr.least,Tr.most,Tr.bare,Tr.subs] at *
 rcases hfl with ⟨h | h | h,rfl,rfl,rfl,rfl,hl,rfl,rfl,rfl,rfl⟩ | ⟨h,hl,rfl,rfl,rfl,rfl⟩ | ⟨h | h,rfl,rfl,rfl,rfl,hl,rfl,rfl,rfl,rfl⟩ | ⟨h,rfl,rfl,rfl,rfl,hl,hn1,hn2,rfl,rfl,rfl⟩ | ⟨h,rfl,rfl,rfl,rfl,hl,rfl,h1,h2,h3,h4⟩
 · subst h hl
   go_enter Tryz.func106,Tryz.ntmps106
   go_wp2
   go_ret
   exact ⟨rfl,by go_grown⟩
 · subst h hl
   go_enter Tryz.func106,Tryz.ntmps106
   go_wp2
   go_ret
   exact ⟨rfl,by go_grown⟩
 · subst h hl
   go_enter Tryz.func106,Tryz.ntmps106
   go_wp2
   go_ret
   exact ⟨rfl,by go_grown⟩
 · subst h hl
   go_enter Tryz.func106,Tryz.ntmps106
   go_wp2
   go_ret
   exact ⟨rfl,by go_grown⟩
 · subst h
   go_enter Tryz.func106,Tryz.ntmps106
   go_wp2
   go_ret
   exact ⟨ret_bool (by simp;omega),by go_grown⟩
 · subst h
   go_enter Tryz.func106,Tryz.ntmps106
   go_wp2
   go_ret
   exact ⟨ret_bool (by simp;omega),by go_grown⟩
 · subst h
   rw [hl]
   have e1:decide (1 ≤ n)=true:=by simpa using hn1
   have e2:decide (n ≤ 999)=true:=by simpa using hn2
   clear hl
   go_enter Tryz.func106,Tryz.ntmps106
   go_wp2
   go_ret
   exact ⟨rfl,by go_grown⟩
 · subst h
   rw [hl]
   have hu:Oc.U 0#64=0:=by decide
   simp only [hu]
   exact fields_rep lo hi br p cap h1 h2 h3 h4 w
theorem inform_yes:∀ t:Tr,t.InForm→∀ (w:World) (B:Nat→Prop) (v:Value),NodeV w B v t→Calls Tryz.prog 72 #[v] w fun e w'=>e=.returned (.bool true)∧Below w.heap.size w w':=by
 intro t
 induction t using Tr.rec_subs with
 | h t ih =>
   intro hf w B v hv
   obtain ⟨s,rfl,hs⟩:=hv
   obtain ⟨p,cap,rfl,hlen⟩:=hs.slice
   have HFL:=Lib.hid (fun w=>fields_yes t p cap hf.fields hlen w)
   have z0:=heap_alloc_new w (.cells (t.cells (.slice p t.subs.length cap)) 28)
   have Z0:=Lib.hid z0
   have HF:=Lib.hid hf
   generalize hts:t.subs=ts at *
   have HTS:=Lib.hid hts;have IH:=Lib.hid ih;have HS:=Lib.hid hs
   clear ih hs hf hts z0
   unfold Tr.cells at *
   go_enter Tryz.func72,Tryz.ntmps72
   go_wp2_with (first
     | (refine wpList_load_row rfl 28 (.tmp 1) rfl w.heap.size rfl 28 _ (0,0) _ Z0.out Tryz.underlying28 rfl (by kernel_rfl) ?_)
     | fail)
   refine (HFL.out _).mono ?_
   rintro e w1 ⟨rfl,hb1⟩
   have z1:=keep_blk hb1 Z0.out
   have HB1:=Lib.hid (((Below.refl w.heap.size w).alloc (Nat.le_refl _) _).trans (hb1.mono (by simp)))
   have f5:=field5 z1
   clear hb1 Z0 z1
   go_wp2
   clear f5
   go_loopw [11] (fun iv wr=>∃ m:Nat,iv=.int .i64 m∧m ≤ ts.length∧Hid (Below w.heap.size w wr)) (fun iv _=>ts.length - (intOf iv).toNat)
   case atStart=>exact ⟨0,rfl,Nat.zero_le _,HB1⟩
   case round =>
     obtain ⟨m,rfl,hm,HB⟩:=hrel
     have wm:IntKind.i64.wrap ((m:Int)+1)=(m:Int)+1:=IntWalk.i64_in _ (by omega)
     by_cases hlt:m < ts.length
     · obtain ⟨x,hx⟩:∃ x,ts[m]? = some x:=⟨_,List.getElem?_eq_getElem hlt⟩
       obtain ⟨b1,o1,s1,rfl,-,t1,sub1⟩:=HS.out.get hx
       obtain ⟨d0,d1,d2,d3,d4,d5,d6,d7,d8,d9⟩:=t1.keep (HB.out.block _ t1.lt)
       have hmem:=List.mem_of_getElem? hx
       obtain ⟨p1,c1,rfl,hl1⟩:=sub1.slice
       have HC:=Lib.hid (fun w9 hb=>IH.out x hmem (HF.out.sub (by rw [HTS.out];exact hmem)) w9 B (.agg (x.cells (.slice p1 x.subs.length c1))) ⟨_,rfl,sub1.later hb⟩)
       clear t1 sub1 hmem hx
       unfold Tr.cells at HC
       go_wp2_with fail
       generalize hw1:World.alloc wr _=w1
       have hb1:Below wr.heap.size wr w1:=by rw [← hw1];exact (Below.refl _ _).alloc (Nat.le_refl _) _
       clear hw1
       refine (HC.out w1 (HB.out.trans (hb1.mono HB.out.size))).mono ?_
       rintro e w2 ⟨rfl,hb2⟩
       have HB2:=Lib.hid (HB.out.trans ((hb1.trans (hb2.mono hb1.size)).mono HB.out.size))
       clear d0 d1 d2 d3 d4 d5 d6 d7 d8 d9 hb1 hb2 HC
       go_wp2
       exact ⟨⟨m+1,by go_num,by omega,HB2⟩,by simp [intOf];omega⟩
     · obtain rfl:m=ts.length:=by omega
       go_wp2
       go_ret
       exact ⟨rfl,HB.out⟩
theorem treeSize_any (t:Tr) (hf:t.InForm) (w:World) (B:Nat→Prop) (v:Value) (hv:NodeV w B v t):Calls Tryz.prog 57 #[v] w (SizeEnd t.szT w):=by
 obtain ⟨s,rfl,hs⟩:=hv
 have H1:=Lib.hid (fun w' hb=>inform_yes t hf w' B (.agg (t.cells s)) ⟨s,rfl,TreesAt.later (w':=w') hs hb⟩)
 have H2:=Lib.hid (fun w' hb=>treesize_any t hf w' B (.agg (t.cells s)) ⟨s,rfl,TreesAt.later (w':=w') hs hb⟩)
 obtain ⟨p,cap,rfl,hlen⟩:=hs.slice
 have z0:=heap_alloc_new w (.cells (t.cells (.slice p t.subs.length cap)) 28)
 have Z0:=Lib.hid z0
 clear hs hf z0
 unfold Tr.cells at *
 go_enter Tryz.func57,Tryz.ntmps57
 go_wp2_with (first
   | (refine wpList_load_row rfl 28 (.tmp 1) rfl w.heap.size rfl 28 _ (0,0) _ Z0.out Tryz.underlying28 rfl (by kernel_rfl) ?_)
   | fail)
 refine (H1.out _ ((Below.refl _ _).alloc (Nat.le_refl _) _)).mono ?_
 rintro e w1 ⟨rfl,hb1⟩
 have Z1:=Lib.hid (keep_blk hb1 Z0.out)
 have HB1:=Lib.hid (((Below.refl w.heap.size w).alloc (Nat.le_refl _) _).trans (hb1.mono (by simp)))
 clear hb1 Z0
 go_wp2_with (first
   | (refine wpList_load_row rfl 28 (.tmp 1) rfl w.heap.size rfl 28 _ (0,0) _ Z1.out Tryz.underlying28 rfl (by kernel_rfl) ?_)
   | fail)
 refine (H2.out _ HB1.out).mono ?_
 rintro e w2 ⟨rfl,hb2⟩
 have HB2:=Lib.hid (HB1.out.trans (hb2.mono HB1.out.size))
 clear hb2
 go_wp2
 go_ret
 exact ⟨rfl,HB2.out⟩
end Go.Proofs.YtfcilopifjddpaaGreatDoor
namespace Go.Proofs.YtfcilopifjddpaaGreatDoor
open Go.RowKit
theorem ErrOne.below {A:Nat→Addr} {B:Nat} {w w':World} {v:Value} {c:Nat} {n:Int} (h:ErrOne A B w v c n) (hb:Below w.heap.size w w'):ErrOne A B w' v c n:=h.later hb
abbrev rdC (s:ByteArray) (fl:Int) (i g d:Nat):Array Value:=#[.string s,.int .i64 fl,.int .i64 i,.int .i64 g,.int .i64 d]
theorem rd5 {w:World} {R:Nat} {s:ByteArray} {fl:Int} {i g d:Nat} (h:w.heap[R]? = some (.cells (rdC s fl i g d) 85)) :
   w.cell? ⟨R,0,none⟩=some (.string s)∧w.cell? ⟨R,1,none⟩=some (.int .i64 fl)∧w.cell? ⟨R,2,none⟩=some (.int .i64 i)∧w.cell? ⟨R,3,none⟩=some (.int .i64 g)∧w.cell? ⟨R,4,none⟩=some (.int .i64 d):=by
 simp [World.cell?,h]
theorem Touch.setCell {F:List Nat} {a w:World} {b:Nat} (h:Touch F a w) (hb:b ∈ F) (o:Nat) (v:Value):Touch F a (w.setCell ⟨b,o,none⟩ v) :=
 h.setCells hb o [v]
theorem Touch.refl (F:List Nat) (w:World):Touch F w w:=⟨rfl,rfl,rfl,Nat.le_refl _,fun _ _ _=>rfl⟩
theorem Touch.later {F:List Nat} {a w w':World} (h:Touch F a w) (hb:Below w.heap.size w w'):Touch F a w':=h.trans (Touch.of_below F hb)
theorem Touch.drewN {F:List Nat} {a w:World} (h:Touch F a w) (n:Nat):Touch F a (w.drewN n):=h.trans ⟨rfl,rfl,rfl,Nat.le_refl _,fun _ _ _=>rfl⟩
def NdEnd (A:Nat→Addr) (R:Nat) (s:ByteArray) (fl:Int) (d:Nat) (O:Ep.Out) (w:World) (e:Ending) (w':World):Prop :=
 (match O with
 | .ok t j g=>∃ v F,e=.returned (.tuple #[.agg (t.cells v),.nilIface])∧Owned w' v t.subs F∧(∀ b,b ∈ F→w.heap.size ≤ b)∧w'.heap[R]? = some (.cells (rdC s fl j g d) 85)
 | .err c p=>∃ v,e=.returned (.tuple #[.agg noNode,v])∧ErrOne A w.heap.size w' v c p)∧Touch [R] w w'
theorem NdEnd.ok {A:Nat→Addr} {R:Nat} {s:ByteArray} {fl:Int} {d:Nat} {O:Ep.Out} {w:World} {e:Ending} {w':World} (h:NdEnd A R s fl d O w e w') {t:Tr} {j g:Nat} (hO:O=.ok t j g) :
   ∃ v F,e=.returned (.tuple #[.agg (t.cells v),.nilIface])∧Owned w' v t.subs F∧(∀ b,b ∈ F→w.heap.size ≤ b)∧w'.heap[R]? = some (.cells (rdC s fl j g d) 85)∧Touch [R] w w':=by
 subst hO;obtain ⟨⟨v,F,h1,h2,h3,h4⟩,h5⟩:=h;exact ⟨v,F,h1,h2,h3,h4,h5⟩
theorem NdEnd.err {A:Nat→Addr} {R:Nat} {s:ByteArray} {fl:Int} {d:Nat} {O:Ep.Out} {w:World} {e:Ending} {w':World} (h:NdEnd A R s fl d O w e w') {c:Nat} {p:Int} (hO:O=.err c p) :
   ∃ v,e=.returned (.tuple #[.agg noNode,v])∧ErrOne A w.heap.size w' v c p∧Touch [R] w w':=by
 subst hO;obtain ⟨⟨v,h1,h2⟩,h5⟩:=h;exact ⟨v,h1,h2,h5⟩
theorem results_row_1 {P:Program} {fn:Func} {p q:Tmp} {ty:TypeId} (h:fn.results=#[.cell p ty,.tmp q]) (tmps:Array Value) (w:World) (g:Nat) (t:TypeId) (cs:Array Value) (fr:Nat × Nat) (d:TypeDesc) (y:Value)
   (hp:tmps.getD p undef=.pointer (some ⟨g,0,none⟩)) (hy:tmps.getD q undef=y) (hg:w.heap[g]? = some (.cells cs t fr))
   (hu:P.underlying ty=some d) (hd:(match d with | .struct _ | .array _ _=>true | _=>false)=true) (hi:(P.info? ty).map (·.size)=some cs.size) :
   (results fn tmps).run P w=.ok (.tuple #[.agg cs,y]) w:=by
 have hp':tmps[p]?.getD undef=.pointer (some ⟨g,0,none⟩):=by simpa using hp
 have hy':tmps[q]?.getD undef=y:=by simpa using hy
 simp [results,h,hp',hy',asAddr,run_loadVar_row w g t ty cs fr d hg hu hd hi]
end Go.Proofs.YtfcilopifjddpaaGreatDoor
namespace Go.Proofs.YtfcilopifjddpaaGreatDoor
open Go.RowKit
def cntV:Option Nat→Value
 | some m=>.tuple #[.int .i64 m,.bool true]
 | none=>.tuple #[.int .i64 0,.bool false]
theorem toList_len (s:ByteArray):s.toList.length=s.size:=by rw [toList_eq];simp
theorem empty_yes {s:ByteArray} (h:s.size=0):s.toList=[]∧(!s.toList.isEmpty)=false:=by
 have:s.toList=[]:=List.eq_nil_of_length_eq_zero (by rw [toList_len];exact h)
 rw [this];exact ⟨rfl,rfl⟩
theorem empty_no {s:ByteArray} (h:0 < s.size):s.toList.isEmpty=false:=by
 cases hl:s.toList with
 | nil=>have:=toList_len s;rw [hl] at this;simp at this;omega
 | cons a r=>rfl
def few (k a:Nat):Prop:=(k=0∧a=0) ∨ (k=1∧a ≤ 9) ∨ (k=2∧a ≤ 99) ∨ (k=3∧a ≤ 999)
theorem erecount_any (t:ByteArray) (O:Option Nat) (hO:Ep.num (bt t) 0 t.size=O) (w:World) :
   Calls Tryz.prog 179 #[.string t] w fun e w'=>e=.returned (cntV O)∧w=w':=by
 unfold Ep.num at hO
 by_cases h0:t.size=0
 · rw [if_pos (by omega)] at hO
   subst hO
   obtain ⟨e1,e2⟩:=empty_yes h0
   clear h0
   go_enter Tryz.func179,Tryz.ntmps179
   go_wp2
   go_ret2
   exact ⟨rfl,rfl⟩
 · have e1:=empty_no (s:=t) (by omega)
   by_cases h3:3 < t.size
   · rw [if_pos (by omega)] at hO
     subst hO
     have d3:decide ((3:Int) < t.size)=true:=by simp;omega
     have d3':decide (3 < t.size)=true:=by simp;omega
     clear h0 h3
     go_enter Tryz.func179,Tryz.ntmps179
     go_wp2
     go_ret2
     exact ⟨rfl,rfl⟩
   · rw [if_neg (by omega)] at hO
     have hsz:t.size ≤ 3:=by omega
     have d3:decide ((3:Int) < t.size)=false:=by simp;omega
     have d3':decide (3 < t.size)=false:=by simp;omega
     generalize hD:Ep.digs (bt t) (t.size - 0) 0 0=D at *
     have HO:=Lib.hid hO;have HD:=Lib.hid hD
     clear hO hD h3 h0
     go_enter Tryz.func179,Tryz.ntmps179
     go_wp2
     clear e1 d3 d3'
     go_loop [4,15] (fun nv iv=>∃ k a:Nat,iv=.int .i64 k∧nv=.int .i64 a∧k ≤ t.size∧Hid (few k a)∧Hid (Ep.digs (bt t) (t.size - k) k a=D)) (fun _ iv=>t.size - (intOf iv).toNat)
     case atStart=>exact ⟨0,0,rfl,rfl,Nat.zero_le _,Lib.hid (.inl ⟨rfl,rfl⟩),HD⟩
     case round =>
       obtain ⟨k,a,rfl,rfl,hk,HF,HD2⟩:=hrel
       have hk3:k ≤ 3:=by omega
       have hfew:=HF.out
       unfold few at hfew
       have ha:a ≤ 999:=by omega
       by_cases hlt:k < t.size
       · have wm:IntKind.i64.wrap ((k:Int)+1)=(k:Int)+1:=IntWalk.i64_in _ (by omega)
         have w10:IntKind.i64.wrap (10 * (a:Int))=10 * (a:Int):=IntWalk.i64_in _ (by omega)
         have hd2:=HD2.out
         rw [show t.size - k=t.size - (k+1)+1 by omega,Ep.digs] at hd2
         have hbt:=bt_at hlt
         have hx:=UInt8.toNat_lt t[k]
         by_cases hdig:48 ≤ bt t k∧bt t k ≤ 57
         · rw [if_pos hdig,← hbt] at hd2
           rw [← hbt] at hdig
           have g1:decide ((t[k].toNat:Int) < 48)=false:=by simp;omega
           have g2:decide ((57:Int) < t[k].toNat)=false:=by simp;omega
           have g1':decide (t[k].toNat < 48)=false:=by simp;omega
           have g2':decide (57 < t[k].toNat)=false:=by simp;omega
           generalize hc:t[k].toNat=c at *
           have w48:IntKind.u8.wrap ((c:Int) - 48)=(c:Int) - 48:=by rw [IntKind.wrap_u8];omega
           have w49:IntKind.i64.wrap ((c:Int) - 48)=(c:Int) - 48:=IntWalk.i64_in _ (by omega)
           have wsum:IntKind.i64.wrap (10 * (a:Int)+((c:Int) - 48))=10 * (a:Int)+((c:Int) - 48):=IntWalk.i64_in _ (by omega)
           have HD3:=Lib.hid hd2
           have HC:=Lib.hid hdig;have HCC:=Lib.hid hc;have HBT:=Lib.hid hbt
           have HF2:=Lib.hid hfew
           clear hd2 hdig hbt hfew
           go_wp2
           have hdg:=HC.out
           have hfw:=HF2.out
           refine ⟨⟨k+1,10 * a+(c - 48),by go_num,by congr 1;omega,by omega,Lib.hid (by unfold few;omega),HD3⟩,by simp [intOf];omega⟩
         · rw [if_neg hdig] at hd2
           subst hd2
           rw [← hbt] at hdig
           have HO2:Hid (O=none):=Lib.hid HO.out.symm
           by_cases hlow:t[k].toNat < 48
           · have g1:decide ((t[k].toNat:Int) < 48)=true:=by simp;omega
             have g1':decide (t[k].toNat < 48)=true:=by simp;omega
             clear hdig hlow hbt hfew HD HD2
             go_wp2
             go_ret2
             exact ⟨by rw [HO2.out];rfl,rfl⟩
           · have g1:decide ((t[k].toNat:Int) < 48)=false:=by simp;omega
             have g1':decide (t[k].toNat < 48)=false:=by simp;omega
             have g2:decide ((57:Int) < t[k].toNat)=true:=by simp;omega
             have g2':decide (57 < t[k].toNat)=true:=by simp;omega
             clear hdig hlow hbt hfew HD HD2
             go_wp2
             go_ret2
             exact ⟨by rw [HO2.out];rfl,rfl⟩
       · obtain rfl:k=t.size:=by omega
         have hd2:=HD2.out
         rw [Nat.sub_self,Ep.digs] at hd2
         subst hd2
         have hO:=HO.out
         simp only at hO
         by_cases h255:a ≤ 255
         · rw [if_pos h255] at hO
           have HO2:=Lib.hid hO
           have g1:decide ((255:Int) < a)=false:=by simp;omega
           have g1':decide (255 < a)=false:=by simp;omega
           clear hO HO h255 HD HD2 hfew
           go_wp2
           go_ret2
           exact ⟨by rw [← HO2.out];rfl,rfl⟩
         · rw [if_neg h255] at hO
           have HO2:=Lib.hid hO
           have g1:decide ((255:Int) < a)=true:=by simp;omega
           have g1':decide (255 < a)=true:=by simp;omega
           clear hO HO h255 HD HD2 hfew
           go_wp2
           go_ret2
           exact ⟨by rw [← HO2.out];rfl,rfl⟩
end Go.Proofs.YtfcilopifjddpaaGreatDoor
namespace Go.Proofs.YtfcilopifjddpaaGreatDoor
open Go.RowKit
theorem bt_mid (s:ByteArray) (a b i:Nat) (hb:b ≤ s.size) (hi:i < b - a):bt (s.extract a b) i=bt s (a+i):=by
 have hz:(s.extract a b).size=b - a:=by simp;omega
 have h1:i < (s.extract a b).size:=by omega
 have h2:a+i < s.size:=by omega
 rw [← bt_at h1,← bt_at h2,ByteArray.getElem_extract]
theorem digs_mid (s:ByteArray) (a b:Nat) (hb:b ≤ s.size):∀ k i x,i+k ≤ b - a→Ep.digs (bt (s.extract a b)) k i x=Ep.digs (bt s) k (a+i) x
 | 0,_,_,_=>rfl
 | k+1,i,x,h=>by
   rw [Ep.digs,Ep.digs,bt_mid s a b i hb (by omega),digs_mid s a b hb k (i+1) _ (by omega),show a+i+1=a+(i+1) by omega]
theorem num_mid (s:ByteArray) (a b:Nat) (hab:a ≤ b) (hb:b ≤ s.size):Ep.num (bt (s.extract a b)) 0 (s.extract a b).size=Ep.num (bt s) a b:=by
 have hz:(s.extract a b).size=b - a:=by simp;omega
 unfold Ep.num
 rw [hz,Nat.sub_zero,digs_mid s a b hb (b - a) 0 0 (by omega),Nat.add_zero]
 by_cases h:b ≤ a ∨ a+3 < b
 · rw [if_pos h,if_pos (by omega)]
 · rw [if_neg h,if_neg (by omega)];rfl
theorem find_mid (s:ByteArray) (a b c:Nat) (hb:b ≤ s.size):∀ k i,i+k ≤ b - a→Ep.find (bt (s.extract a b)) c k i=(Ep.find (bt s) c k (a+i)).map (· - a)
 | 0,_,_=>rfl
 | k+1,i,h=>by
   rw [Ep.find,Ep.find,bt_mid s a b i hb (by omega),find_mid s a b c hb k (i+1) (by omega),show a+i+1=a+(i+1) by omega]
   split
   · simp
   · rfl
theorem occ_one (t:ByteArray) (c:UInt8) (j:Nat):Lib.occAt t.data.toList [c] j=(bt t j == c.toNat):=by
 unfold Lib.occAt
 rw [one_prefix,bt_list,List.getElem?_drop];rfl
theorem cut1_none {A:Nat→Addr} (t:ByteArray) (ht:t.size ≤ 4294967280) (c:UInt8) (hc:Ep.find (bt t) c.toNat t.size 0=none) (w:World) (hE:BrEnv w A) :
   Calls Tryz.prog 157 #[.string t,.string ⟨#[c]⟩] w fun e w'=>e=.returned (.tuple #[.string t,.string ByteArray.empty,.bool false])∧∃ n,w'=w.drewN n:=by
 obtain ⟨m,hm⟩:=hE.idx
 have h:=Tryz.strings_Cut t ⟨#[c]⟩ m w (by omega) hm
 have hi:Lib.indexB t ⟨#[c]⟩ = -1:=Lib.index_none fun j hj=>by
   show Lib.occAt t.data.toList [c] j=false
   rw [occ_one]
   by_cases hl:j < t.size
   · have:=Ep.find_none hc j (by omega) (by omega)
     simpa using this
   · rw [bt_out (by omega)];have:=UInt8.toNat_lt c;simp;omega
 obtain ⟨e1,e2,e3⟩:=Lib.cutB_miss _ _ hi
 rw [e1,e2,e3] at h;exact h
theorem cut1_some {A:Nat→Addr} (t:ByteArray) (ht:t.size ≤ 4294967280) (c:UInt8) (k:Nat) (hc:Ep.find (bt t) c.toNat t.size 0=some k) (w:World) (hE:BrEnv w A) :
   Calls Tryz.prog 157 #[.string t,.string ⟨#[c]⟩] w fun e w'=>e=.returned (.tuple #[.string (t.extract 0 k),.string (t.extract (k+1) t.size),.bool true])∧∃ n,w'=w.drewN n:=by
 obtain ⟨m,hm⟩:=hE.idx
 have h:=Tryz.strings_Cut t ⟨#[c]⟩ m w (by omega) hm
 obtain ⟨h1,h2,h3,h4⟩:=Ep.find_some hc
 have hi:Lib.indexB t ⟨#[c]⟩=(k:Int):=Lib.index_first (by simp;show k ≤ t.size;omega) (by show Lib.occAt t.data.toList [c] k=true;rw [occ_one,h3];simp) (fun j hj=>by
   show Lib.occAt t.data.toList [c] j=false
   rw [occ_one]
   have:=h4 j (by omega) hj
   simpa using this)
 obtain ⟨e1,e2,e3⟩:=Lib.cutB_hit _ _ k hi
 rw [e1,e2,e3] at h;exact h
def cntsV:Option (Int × Int)→Value
 | some (a,b)=>.tuple #[.agg #[.int .i64 a,.int .i64 b],.bool true]
 | none=>.tuple #[.agg #[.int .i64 0,.int .i64 0],.bool false]
theorem two_one {a b:Int} : (#[.int .i64 a,.int .i64 b]:Array Value).all (·.oneCell')=true:=by simp [Value.oneCell']
theorem counts_one_no (A:Nat→Addr) (t:ByteArray) (ht:t.size ≤ 4294967280) (hf:Ep.find (bt t) 44 t.size 0=none) (hn:Ep.num (bt t) 0 t.size=none) (w:World) (hE:BrEnv w A) :
   Calls Tryz.prog 158 #[.string t] w fun e w'=>e=.returned (cntsV none)∧Below w.heap.size w w':=by
 have HCUT:=Lib.hid (fun w hE=>cut1_none (A:=A) t ht 44 hf w hE)
 have HNA:=Lib.hid (fun w=>erecount_any t _ hn w)
 clear hf hn
 have z0:=heap_alloc_new w (.cells #[.int .i64 0,.int .i64 0] 163)
 have hb0:Below w.heap.size w (w.alloc (.cells #[.int .i64 0,.int .i64 0] 163)):=(Below.refl _ _).alloc (Nat.le_refl _) _
 have Z0:=Lib.hid z0;have HB0:=Lib.hid hb0;have HE:=Lib.hid hE
 clear z0 hb0 hE
 go_enter Tryz.func158,Tryz.ntmps158
 go_wp2_with fail
 refine (HCUT.out _ (HE.out.below HB0.out)).mono ?_
 rintro e w1 ⟨rfl,n,rfl⟩
 have Z:Hid (((w.alloc (.cells #[.int .i64 0,.int .i64 0] 163)).drewN n).heap[w.heap.size]? = some (.cells #[.int .i64 0,.int .i64 0] 163)):=Lib.hid Z0.out
 have HB:=Lib.hid (drewN_below HB0.out n)
 clear Z0 HB0
 generalize World.drewN _ _=W at *
 go_wp2_with fail
 refine (HNA.out _).mono ?_
 rintro e w2 ⟨rfl,rfl⟩
 unfold cntV
 go_wp2_with (first
   | (refine wpList_store_row rfl 163 (.tmp 2) (.tmp 23) rfl w.heap.size #[.int .i64 0,.int .i64 0] rfl rfl 163 _ Z.out (by kernel_rfl) rfl two_one ?_)
   | fail)
 exact bodyPost_ret (results_row_1 rfl _ _ w.heap.size 163 #[.int .i64 0,.int .i64 0] (0,0) _ _ rfl rfl (heap_setRow Z.out) Tryz.underlying163 rfl (by kernel_rfl)) rfl ⟨by first | rfl | (rw [← HC.out];rfl),below_setRow HB.out (Nat.le_refl _) _⟩
theorem counts_one (A:Nat→Addr) (t:ByteArray) (ht:t.size ≤ 4294967280) (hf:Ep.find (bt t) 44 t.size 0=none) (m:Nat) (hn:Ep.num (bt t) 0 t.size=some m) (w:World) (hE:BrEnv w A) :
   Calls Tryz.prog 158 #[.string t] w fun e w'=>e=.returned (cntsV (some (m,m)))∧Below w.heap.size w w':=by
 have HCUT:=Lib.hid (fun w hE=>cut1_none (A:=A) t ht 44 hf w hE)
 have HNA:=Lib.hid (fun w=>erecount_any t _ hn w)
 clear hf hn
 have z0:=heap_alloc_new w (.cells #[.int .i64 0,.int .i64 0] 163)
 have hb0:Below w.heap.size w (w.alloc (.cells #[.int .i64 0,.int .i64 0] 163)):=(Below.refl _ _).alloc (Nat.le_refl _) _
 have Z0:=Lib.hid z0;have HB0:=Lib.hid hb0;have HE:=Lib.hid hE
 clear z0 hb0 hE
 go_enter Tryz.func158,Tryz.ntmps158
 go_wp2_with fail
 refine (HCUT.out _ (HE.out.below HB0.out)).mono ?_
 rintro e w1 ⟨rfl,n,rfl⟩
 have Z:Hid (((w.alloc (.cells #[.int .i64 0,.int .i64 0] 163)).drewN n).heap[w.heap.size]? = some (.cells #[.int .i64 0,.int .i64 0] 163)):=Lib.hid Z0.out
 have HB:=Lib.hid (drewN_below HB0.out n)
 clear Z0 HB0
 generalize World.drewN _ _=W at *
 go_wp2_with fail
 refine (HNA.out _).mono ?_
 rintro e w2 ⟨rfl,rfl⟩
 unfold cntV
 go_wp2_with (first
   | (refine wpList_store_row rfl 163 (.tmp 2) (.tmp 28) rfl w.heap.size #[.int .i64 m,.int .i64 m] rfl rfl 163 _ Z.out (by kernel_rfl) rfl two_one ?_)
   | fail)
 exact bodyPost_ret (results_row_1 rfl _ _ w.heap.size 163 #[.int .i64 m,.int .i64 m] (0,0) _ _ rfl rfl (heap_setRow Z.out) Tryz.underlying163 rfl (by kernel_rfl)) rfl ⟨by first | rfl | (rw [← HC.out];rfl),below_setRow HB.out (Nat.le_refl _) _⟩
theorem counts_two_no (A:Nat→Addr) (t:ByteArray) (ht:t.size ≤ 4294967280) (k:Nat) (hf:Ep.find (bt t) 44 t.size 0=some k) (hn:Ep.num (bt t) 0 k=none) (w:World) (hE:BrEnv w A) :
   Calls Tryz.prog 158 #[.string t] w fun e w'=>e=.returned (cntsV none)∧Below w.heap.size w w':=by
 have hk:=(Ep.find_some hf).2.1
 have HCUT:=Lib.hid (fun w hE=>cut1_some (A:=A) t ht 44 k hf w hE)
 have HNA:=Lib.hid (fun w=>erecount_any (t.extract 0 k) _ ((num_mid t 0 k (by omega) (by omega)).trans hn) w)
 clear hf hn
 generalize t.extract 0 k=ta at *
 generalize t.extract (k+1) t.size=tb at *
 have z0:=heap_alloc_new w (.cells #[.int .i64 0,.int .i64 0] 163)
 have hb0:Below w.heap.size w (w.alloc (.cells #[.int .i64 0,.int .i64 0] 163)):=(Below.refl _ _).alloc (Nat.le_refl _) _
 have Z0:=Lib.hid z0;have HB0:=Lib.hid hb0;have HE:=Lib.hid hE
 clear z0 hb0 hE
 go_enter Tryz.func158,Tryz.ntmps158
 go_wp2_with fail
 refine (HCUT.out _ (HE.out.below HB0.out)).mono ?_
 rintro e w1 ⟨rfl,n,rfl⟩
 have Z:Hid (((w.alloc (.cells #[.int .i64 0,.int .i64 0] 163)).drewN n).heap[w.heap.size]? = some (.cells #[.int .i64 0,.int .i64 0] 163)):=Lib.hid Z0.out
 have HB:=Lib.hid (drewN_below HB0.out n)
 clear Z0 HB0
 generalize World.drewN _ _=W at *
 go_wp2_with fail
 refine (HNA.out _).mono ?_
 rintro e w2 ⟨rfl,rfl⟩
 unfold cntV
 go_wp2_with (first
   | (refine wpList_store_row rfl 163 (.tmp 2) (.tmp 23) rfl w.heap.size #[.int .i64 0,.int .i64 0] rfl rfl 163 _ Z.out (by kernel_rfl) rfl two_one ?_)
   | fail)
 exact bodyPost_ret (results_row_1 rfl _ _ w.heap.size 163 #[.int .i64 0,.int .i64 0] (0,0) _ _ rfl rfl (heap_setRow Z.out) Tryz.underlying163 rfl (by kernel_rfl)) rfl ⟨by first | rfl | (rw [← HC.out];rfl),below_setRow HB.out (Nat.le_refl _) _⟩
theorem counts_two_end (A:Nat→Addr) (t:ByteArray) (ht:t.size ≤ 4294967280) (k:Nat) (hf:Ep.find (bt t) 44 t.size 0=some k) (m:Nat) (hn:Ep.num (bt t) 0 k=some m) (he:k+1=t.size) (w:World) (hE:BrEnv w A) :
   Calls Tryz.prog 158 #[.string t] w fun e w'=>e=.returned (cntsV (some (m,-1)))∧Below w.heap.size w w':=by
 have hk:=(Ep.find_some hf).2.1
 have HCUT:=Lib.hid (fun w hE=>cut1_some (A:=A) t ht 44 k hf w hE)
 have HNA:=Lib.hid (fun w=>erecount_any (t.extract 0 k) _ ((num_mid t 0 k (by omega) (by omega)).trans hn) w)
 obtain ⟨e1,e2⟩:=empty_yes (s:=t.extract (k+1) t.size) (by simp;omega)
 clear hf hn
 clear he
 generalize t.extract 0 k=ta at *
 generalize t.extract (k+1) t.size=tb at *
 have z0:=heap_alloc_new w (.cells #[.int .i64 0,.int .i64 0] 163)
 have hb0:Below w.heap.size w (w.alloc (.cells #[.int .i64 0,.int .i64 0] 163)):=(Below.refl _ _).alloc (Nat.le_refl _) _
 have Z0:=Lib.hid z0;have HB0:=Lib.hid hb0;have HE:=Lib.hid hE
 clear z0 hb0 hE
 go_enter Tryz.func158,Tryz.ntmps158
 go_wp2_with fail
 refine (HCUT.out _ (HE.out.below HB0.out)).mono ?_
 rintro e w1 ⟨rfl,n,rfl⟩
 have Z:Hid (((w.alloc (.cells #[.int .i64 0,.int .i64 0] 163)).drewN n).heap[w.heap.size]? = some (.cells #[.int .i64 0,.int .i64 0] 163)):=Lib.hid Z0.out
 have HB:=Lib.hid (drewN_below HB0.out n)
 clear Z0 HB0
 generalize World.drewN _ _=W at *
 go_wp2_with fail
 refine (HNA.out _).mono ?_
 rintro e w2 ⟨rfl,rfl⟩
 unfold cntV
 go_wp2_with (first
   | (refine wpList_store_row rfl 163 (.tmp 2) (.tmp 32) rfl w.heap.size #[.int .i64 m,.int .i64 (-1)] rfl rfl 163 _ Z.out (by kernel_rfl) rfl two_one ?_)
   | fail)
 exact bodyPost_ret (results_row_1 rfl _ _ w.heap.size 163 #[.int .i64 m,.int .i64 (-1)] (0,0) _ _ rfl rfl (heap_setRow Z.out) Tryz.underlying163 rfl (by kernel_rfl)) rfl ⟨by first | rfl | (rw [← HC.out];rfl),below_setRow HB.out (Nat.le_refl _) _⟩
theorem counts_two_bad (A:Nat→Addr) (t:ByteArray) (ht:t.size ≤ 4294967280) (k:Nat) (hf:Ep.find (bt t) 44 t.size 0=some k) (m:Nat) (hn:Ep.num (bt t) 0 k=some m) (he:k+1 < t.size) (hn2:Ep.num (bt t) (k+1) t.size=none) (w:World) (hE:BrEnv w A) :
   Calls Tryz.prog 158 #[.string t] w fun e w'=>e=.returned (cntsV none)∧Below w.heap.size w w':=by
 have hk:=(Ep.find_some hf).2.1
 have HCUT:=Lib.hid (fun w hE=>cut1_some (A:=A) t ht 44 k hf w hE)
 have HNA:=Lib.hid (fun w=>erecount_any (t.extract 0 k) _ ((num_mid t 0 k (by omega) (by omega)).trans hn) w)
 have HNB:=Lib.hid (fun w=>erecount_any (t.extract (k+1) t.size) _ ((num_mid t (k+1) t.size (by omega) (Nat.le_refl _)).trans hn2) w)
 have e1:=empty_no (s:=t.extract (k+1) t.size) (by simp;omega)
 clear hn2
 clear hf hn
 clear he
 generalize t.extract 0 k=ta at *
 generalize t.extract (k+1) t.size=tb at *
 have z0:=heap_alloc_new w (.cells #[.int .i64 0,.int .i64 0] 163)
 have hb0:Below w.heap.size w (w.alloc (.cells #[.int .i64 0,.int .i64 0] 163)):=(Below.refl _ _).alloc (Nat.le_refl _) _
 have Z0:=Lib.hid z0;have HB0:=Lib.hid hb0;have HE:=Lib.hid hE
 clear z0 hb0 hE
 go_enter Tryz.func158,Tryz.ntmps158
 go_wp2_with fail
 refine (HCUT.out _ (HE.out.below HB0.out)).mono ?_
 rintro e w1 ⟨rfl,n,rfl⟩
 have Z:Hid (((w.alloc (.cells #[.int .i64 0,.int .i64 0] 163)).drewN n).heap[w.heap.size]? = some (.cells #[.int .i64 0,.int .i64 0] 163)):=Lib.hid Z0.out
 have HB:=Lib.hid (drewN_below HB0.out n)
 clear Z0 HB0
 generalize World.drewN _ _=W at *
 go_wp2_with fail
 refine (HNA.out _).mono ?_
 rintro e w2 ⟨rfl,rfl⟩
 unfold cntV
 go_wp2_with fail
 refine (HNB.out _).mono ?_
 rintro e w2 ⟨rfl,rfl⟩
 unfold cntV
 go_wp2_with (first
   | (refine wpList_store_row rfl 163 (.tmp 2) (.tmp 45) rfl w.heap.size #[.int .i64 0,.int .i64 0] rfl rfl 163 _ Z.out (by kernel_rfl) rfl two_one ?_)
   | fail)
 exact bodyPost_ret (results_row_1 rfl _ _ w.heap.size 163 #[.int .i64 0,.int .i64 0] (0,0) _ _ rfl rfl (heap_setRow Z.out) Tryz.underlying163 rfl (by kernel_rfl)) rfl ⟨by first | rfl | (rw [← HC.out];rfl),below_setRow HB.out (Nat.le_refl _) _⟩
theorem counts_two_less (A:Nat→Addr) (t:ByteArray) (ht:t.size ≤ 4294967280) (k:Nat) (hf:Ep.find (bt t) 44 t.size 0=some k) (m:Nat) (hn:Ep.num (bt t) 0 k=some m) (he:k+1 < t.size) (x:Nat) (hn2:Ep.num (bt t) (k+1) t.size=some x) (hl:x < m) (w:World) (hE:BrEnv w A) :
   Calls Tryz.prog 158 #[.string t] w fun e w'=>e=.returned (cntsV none)∧Below w.heap.size w w':=by
 have hk:=(Ep.find_some hf).2.1
 have HCUT:=Lib.hid (fun w hE=>cut1_some (A:=A) t ht 44 k hf w hE)
 have HNA:=Lib.hid (fun w=>erecount_any (t.extract 0 k) _ ((num_mid t 0 k (by omega) (by omega)).trans hn) w)
 have HNB:=Lib.hid (fun w=>erecount_any (t.extract (k+1) t.size) _ ((num_mid t (k+1) t.size (by omega) (Nat.le_refl _)).trans hn2) w)
 have e1:=empty_no (s:=t.extract (k+1) t.size) (by simp;omega)
 clear hn2
 have g1:decide ((x:Int) < m)=true:=by simp;omega
 have g1':decide (x < m)=true:=by simp;omega
 clear hf hn
 clear he
 clear hl
 generalize t.extract 0 k=ta at *
 generalize t.extract (k+1) t.size=tb at *
 have z0:=heap_alloc_new w (.cells #[.int .i64 0,.int .i64 0] 163)
 have hb0:Below w.heap.size w (w.alloc (.cells #[.int .i64 0,.int .i64 0] 163)):=(Below.refl _ _).alloc (Nat.le_refl _) _
 have Z0:=Lib.hid z0;have HB0:=Lib.hid hb0;have HE:=Lib.hid hE
 clear z0 hb0 hE
 go_enter Tryz.func158,Tryz.ntmps158
 go_wp2_with fail
 refine (HCUT.out _ (HE.out.below HB0.out)).mono ?_
 rintro e w1 ⟨rfl,n,rfl⟩
 have Z:Hid (((w.alloc (.cells #[.int .i64 0,.int .i64 0] 163)).drewN n).heap[w.heap.size]? = some (.cells #[.int .i64 0,.int .i64 0] 163)):=Lib.hid Z0.out
 have HB:=Lib.hid (drewN_below HB0.out n)
 clear Z0 HB0
 generalize World.drewN _ _=W at *
 go_wp2_with fail
 refine (HNA.out _).mono ?_
 rintro e w2 ⟨rfl,rfl⟩
 unfold cntV
 go_wp2_with fail
 refine (HNB.out _).mono ?_
 rintro e w2 ⟨rfl,rfl⟩
 unfold cntV
 go_wp2_with (first
   | (refine wpList_store_row rfl 163 (.tmp 2) (.tmp 45) rfl w.heap.size #[.int .i64 0,.int .i64 0] rfl rfl 163 _ Z.out (by kernel_rfl) rfl two_one ?_)
   | fail)
 exact bodyPost_ret (results_row_1 rfl _ _ w.heap.size 163 #[.int .i64 0,.int .i64 0] (0,0) _ _ rfl rfl (heap_setRow Z.out) Tryz.underlying163 rfl (by kernel_rfl)) rfl ⟨by first | rfl | (rw [← HC.out];rfl),below_setRow HB.out (Nat.le_refl _) _⟩
theorem counts_two (A:Nat→Addr) (t:ByteArray) (ht:t.size ≤ 4294967280) (k:Nat) (hf:Ep.find (bt t) 44 t.size 0=some k) (m:Nat) (hn:Ep.num (bt t) 0 k=some m) (he:k+1 < t.size) (x:Nat) (hn2:Ep.num (bt t) (k+1) t.size=some x) (hl:m ≤ x) (w:World) (hE:BrEnv w A) :
   Calls Tryz.prog 158 #[.string t] w fun e w'=>e=.returned (cntsV (some (m,x)))∧Below w.heap.size w w':=by
 have hk:=(Ep.find_some hf).2.1
 have HCUT:=Lib.hid (fun w hE=>cut1_some (A:=A) t ht 44 k hf w hE)
 have HNA:=Lib.hid (fun w=>erecount_any (t.extract 0 k) _ ((num_mid t 0 k (by omega) (by omega)).trans hn) w)
 have HNB:=Lib.hid (fun w=>erecount_any (t.extract (k+1) t.size) _ ((num_mid t (k+1) t.size (by omega) (Nat.le_refl _)).trans hn2) w)
 have e1:=empty_no (s:=t.extract (k+1) t.size) (by simp;omega)
 clear hn2
 have g1:decide ((x:Int) < m)=false:=by simp;omega
 have g1':decide (x < m)=false:=by simp;omega
 clear hf hn
 clear he
 clear hl
 generalize t.extract 0 k=ta at *
 generalize t.extract (k+1) t.size=tb at *
 have z0:=heap_alloc_new w (.cells #[.int .i64 0,.int .i64 0] 163)
 have hb0:Below w.heap.size w (w.alloc (.cells #[.int .i64 0,.int .i64 0] 163)):=(Below.refl _ _).alloc (Nat.le_refl _) _
 have Z0:=Lib.hid z0;have HB0:=Lib.hid hb0;have HE:=Lib.hid hE
 clear z0 hb0 hE
 go_enter Tryz.func158,Tryz.ntmps158
 go_wp2_with fail
 refine (HCUT.out _ (HE.out.below HB0.out)).mono ?_
 rintro e w1 ⟨rfl,n,rfl⟩
 have Z:Hid (((w.alloc (.cells #[.int .i64 0,.int .i64 0] 163)).drewN n).heap[w.heap.size]? = some (.cells #[.int .i64 0,.int .i64 0] 163)):=Lib.hid Z0.out
 have HB:=Lib.hid (drewN_below HB0.out n)
 clear Z0 HB0
 generalize World.drewN _ _=W at *
 go_wp2_with fail
 refine (HNA.out _).mono ?_
 rintro e w2 ⟨rfl,rfl⟩
 unfold cntV
 go_wp2_with fail
 refine (HNB.out _).mono ?_
 rintro e w2 ⟨rfl,rfl⟩
 unfold cntV
 go_wp2_with (first
   | (refine wpList_store_row rfl 163 (.tmp 2) (.tmp 48) rfl w.heap.size #[.int .i64 m,.int .i64 x] rfl rfl 163 _ Z.out (by kernel_rfl) rfl two_one ?_)
   | fail)
 exact bodyPost_ret (results_row_1 rfl _ _ w.heap.size 163 #[.int .i64 m,.int .i64 x] (0,0) _ _ rfl rfl (heap_setRow Z.out) Tryz.underlying163 rfl (by kernel_rfl)) rfl ⟨by first | rfl | (rw [← HC.out];rfl),below_setRow HB.out (Nat.le_refl _) _⟩
theorem erecounts_any (A:Nat→Addr) (t:ByteArray) (ht:t.size ≤ 4294967280) (O:Option (Int × Int)) (hO:Ep.counts (bt t) 0 t.size=O) (w:World) (hE:BrEnv w A) :
   Calls Tryz.prog 158 #[.string t] w fun e w'=>e=.returned (cntsV O)∧Below w.heap.size w w':=by
 unfold Ep.counts at hO
 rw [Nat.sub_zero] at hO
 cases hf:Ep.find (bt t) 44 t.size 0 with
 | none =>
   rw [hf] at hO
   cases hn:Ep.num (bt t) 0 t.size with
   | none=>rw [hn] at hO;subst hO;exact counts_one_no A t ht hf hn w hE
   | some m=>rw [hn] at hO;subst hO;exact counts_one A t ht hf m hn w hE
 | some k =>
   have hk:=(Ep.find_some hf).2.1
   rw [hf] at hO
   cases hn:Ep.num (bt t) 0 k with
   | none=>simp only [hn] at hO;subst hO;exact counts_two_no A t ht k hf hn w hE
   | some m =>
     simp only [hn] at hO
     by_cases he:k+1=t.size
     · rw [if_pos he] at hO;subst hO;exact counts_two_end A t ht k hf m hn he w hE
     · rw [if_neg he] at hO
       cases hn2:Ep.num (bt t) (k+1) t.size with
       | none=>simp only [hn2] at hO;subst hO;exact counts_two_bad A t ht k hf m hn (by omega) hn2 w hE
       | some x =>
         simp only [hn2] at hO
         by_cases hl:m ≤ x
         · rw [if_pos hl] at hO;subst hO;exact counts_two A t ht k hf m hn (by omega) x hn2 hl w hE
         · rw [if_neg hl] at hO;subst hO;exact counts_two_less A t ht k hf m hn (by omega) x hn2 (by omega) w hE
end Go.Proofs.YtfcilopifjddpaaGreatDoor
namespace Go.Proofs.YtfcilopifjddpaaGreatDoor
open Go.RowKit
def TmEnd (A:Nat→Addr) (R:Nat) (s:ByteArray) (fl:Int) (i g d:Nat) (O:Option (Int × Int × Nat)) (c:Nat) (w:World) (e:Ending) (w':World):Prop :=
 (match O with
 | some (a,b,j)=>e=.returned (.tuple #[.agg #[.int .i64 a,.int .i64 b],.nilIface])∧w'.heap[R]? = some (.cells (rdC s fl j g d) 85)
 | none=>∃ v,e=.returned (.tuple #[.agg #[.int .i64 0,.int .i64 0],v])∧ErrOne A w.heap.size w' v c i)∧Touch [R] w w'
theorem TmEnd.ok {A:Nat→Addr} {R:Nat} {s:ByteArray} {fl:Int} {i g d c:Nat} {O:Option (Int × Int × Nat)} {w:World} {e:Ending} {w':World} (h:TmEnd A R s fl i g d O c w e w') {a b:Int} {j:Nat} (hO:O=some (a,b,j)) :
   e=.returned (.tuple #[.agg #[.int .i64 a,.int .i64 b],.nilIface])∧w'.heap[R]? = some (.cells (rdC s fl j g d) 85)∧Touch [R] w w':=by subst hO;exact ⟨h.1.1,h.1.2,h.2⟩
theorem TmEnd.err {A:Nat→Addr} {R:Nat} {s:ByteArray} {fl:Int} {i g d c:Nat} {O:Option (Int × Int × Nat)} {w:World} {e:Ending} {w':World} (h:TmEnd A R s fl i g d O c w e w') (hO:O=none) :
   ∃ v,e=.returned (.tuple #[.agg #[.int .i64 0,.int .i64 0],v])∧ErrOne A w.heap.size w' v c i∧Touch [R] w w':=by
 subst hO;obtain ⟨⟨v,h1,h2⟩,h3⟩:=h;exact ⟨v,h1,h2,h3⟩
theorem Touch.setRow_new {F:List Nat} {a w:World} {g:Nat} (h:Touch F a w) (hg:a.heap.size ≤ g) (cs:Array Value):Touch F a (w.setRow g cs) :=
 ⟨h.os,h.tape,h.output,by simpa using h.size,fun k hk hn=>(heap_setRow_other _ _ _ (by omega)).trans (h.block k hk hn)⟩
theorem num_in (s:ByteArray) (a b x y:Nat) (hb:b ≤ s.size) (hy:y ≤ b - a):Ep.num (bt (s.extract a b)) x y=Ep.num (bt s) (a+x) (a+y):=by
 unfold Ep.num
 by_cases h:y ≤ x ∨ x+3 < y
 · rw [if_pos h,if_pos (by omega)]
 · rw [if_neg h,if_neg (by omega),digs_mid s a b hb (y - x) x 0 (by omega),show a+y - (a+x)=y - x by omega]
theorem counts_mid (s:ByteArray) (a b:Nat) (hab:a ≤ b) (hb:b ≤ s.size):Ep.counts (bt (s.extract a b)) 0 (s.extract a b).size=Ep.counts (bt s) a b:=by
 have hz:(s.extract a b).size=b - a:=by simp;omega
 unfold Ep.counts
 rw [hz,Nat.sub_zero,find_mid s a b 44 hb _ _ (by omega),Nat.add_zero]
 cases hf:Ep.find (bt s) 44 (b - a) a with
 | none =>
   simp only [Option.map_none]
   rw [num_in s a b 0 (b - a) hb (by omega),Nat.add_zero,show a+(b - a)=b by omega]
 | some m =>
   obtain ⟨h1,h2,-,-⟩:=Ep.find_some hf
   simp only [Option.map_some]
   rw [num_in s a b 0 (m - a) hb (by omega),Nat.add_zero,show a+(m - a)=m by omega,num_in s a b (m - a+1) (b - a) hb (by omega),show a+(m - a+1)=m+1 by omega,show a+(b - a)=b by omega]
   by_cases he:m+1=b
   · simp only [he,if_true,show m - a+1=b - a by omega]
   · simp only [he,if_false,show ¬ m - a+1=b - a by omega]
end Go.Proofs.YtfcilopifjddpaaGreatDoor
namespace Go.Proofs.YtfcilopifjddpaaGreatDoor
open Go.RowKit
theorem punct_has (n:Nat) (hn:n < 256) (b:Bool) (hb:Cl.cls 8 n=b) (w:World) :
   Calls Tryz.prog 172 #[(.agg #[.int .u64 (Oc.U (Cl.cw 8 0)),.int .u64 (Oc.U (Cl.cw 8 1)),.int .u64 (Oc.U (Cl.cw 8 2)),.int .u64 (Oc.U (Cl.cw 8 3))]),.int .u8 n] w fun e w'=>e=.returned (.bool b)∧Below w.heap.size w w':=by
 refine (has_any (Cl.cw 8 0) (Cl.cw 8 1) (Cl.cw 8 2) (Cl.cw 8 3) n hn w).mono ?_
 rintro e w' ⟨rfl,h⟩
 refine ⟨ret_bool ?_,h⟩
 rw [← hb]
 exact Oc.mem_mk (Cl.cls 8) n hn
theorem set_cells {w:World} {b:Nat} {x0 x1 x2 x3:Value} {t:TypeId} (h:w.heap[b]? = some (.cells #[x0,x1,x2,x3] t)):w.cell? ⟨b,0,none⟩=some x0∧w.cell? ⟨b,1,none⟩=some x1∧w.cell? ⟨b,2,none⟩=some x2∧w.cell? ⟨b,3,none⟩=some x3:=by
 simp [World.cell?,h]
theorem ptdot_no (fl:Int) (hnl:nlB fl=false) (w:World) :
   Calls Tryz.prog 161 #[.int .i64 fl] w fun e w'=>e=.returned (.agg ((Ep.dot false).cells (.slice none 0 0)))∧Below w.heap.size w w':=by
 have hb4:=bit4 fl
 rw [hnl] at hb4
 have hb0:Below w.heap.size w (w.alloc (.cells noNode 28)):=(Below.refl _ _).alloc (Nat.le_refl _) _
 have Z4:=Lib.hid (heap_alloc_new w (.cells noNode 28))
 have HB4:=Lib.hid hb0
 have hn:=fun w=>not_p (fun _=>false) w
 simp only [Oc.mk_none,u0] at hn
 have HN:=Lib.hid hn
 have Z5:=Lib.hid Z4.out;have HB5:=Lib.hid HB4.out
 clear hnl hb0 hn Z4 HB4
 go_enter Tryz.func161,Tryz.ntmps161
 go_wp2_with fail
 refine (HN.out _).mono ?_
 rintro e w4 ⟨rfl,hb4'⟩
 have Z6:=Lib.hid (keep_blk hb4' Z5.out);have HB6:=Lib.hid (HB5.out.trans (hb4'.mono HB5.out.size))
 clear hb4' HB5 Z5
 go_wp2_with fail
 refine (bytes_is _ _ _ _ _).mono ?_
 rintro e w5 ⟨rfl,hb5⟩
 have Z9:=Lib.hid (keep_blk hb5 Z6.out);have HB9:=Lib.hid (HB6.out.trans (hb5.mono HB6.out.size))
 clear hb5 HB6 Z6
 go_wp2_with (first
   | (refine wpList_store_row rfl 28 (.tmp 2) (.tmp 12) rfl w.heap.size #[.int .i64 2,.int .u64 (Oc.U (Oc.mk (fun x=>!false) 0)),.int .u64 (Oc.U (Oc.mk (fun x=>!false) 1)),.int .u64 (Oc.U (Oc.mk (fun x=>!false) 2)),.int .u64 (Oc.U (Oc.mk (fun x=>!false) 3)),.slice none 0 0,.int .i64 0,.int .i64 0,.int .i64 0,.bool false] rfl rfl 28 _ Z9.out (by kernel_rfl) rfl (by simp [Value.oneCell']) ?_)
   | fail)
 exact bodyPost_ret (results_cell_row rfl _ _ w.heap.size 28 #[.int .i64 2,.int .u64 (Oc.U (Oc.mk (fun x=>!false) 0)),.int .u64 (Oc.U (Oc.mk (fun x=>!false) 1)),.int .u64 (Oc.U (Oc.mk (fun x=>!false) 2)),.int .u64 (Oc.U (Oc.mk (fun x=>!false) 3)),.slice none 0 0,.int .i64 0,.int .i64 0,.int .i64 0,.bool false] (0,0) _ rfl (heap_setRow Z9.out) Tryz.underlying28 rfl (by kernel_rfl)) rfl ⟨rfl,below_setRow HB9.out (Nat.le_refl _) _⟩
theorem ptdot_nl (fl:Int) (hnl:nlB fl=true) (w:World) :
   Calls Tryz.prog 161 #[.int .i64 fl] w fun e w'=>e=.returned (.agg ((Ep.dot true).cells (.slice none 0 0)))∧Below w.heap.size w w':=by
 have hb4:=bit4 fl
 rw [hnl] at hb4
 have hb0:Below w.heap.size w (w.alloc (.cells noNode 28)):=(Below.refl _ _).alloc (Nat.le_refl _) _
 have Z4:=Lib.hid (heap_alloc_new w (.cells noNode 28))
 have HB4:=Lib.hid hb0
 have HN:=Lib.hid (fun w=>not_p (fun b=>b == 10) w)
 clear hnl hb0
 go_enter Tryz.func161,Tryz.ntmps161
 go_wp2_with fail
 have hsz:(w.alloc (.cells noNode 28)).heap.size=w.heap.size+1:=by simp
 generalize World.alloc w _=W at *
 refine (of_p 10 (by omega) 10 rfl W (w.heap.size+1) hsz _).mono ?_
 rintro e w3 ⟨rfl,hb3⟩
 have hbA:Below W.heap.size W w3:=((Below.refl W.heap.size W).alloc (Nat.le_refl _) _).trans (hb3.mono (by simp))
 have Z5:=Lib.hid (keep_blk hbA Z4.out);have HB5:=Lib.hid (HB4.out.trans (hbA.mono HB4.out.size))
 clear hb3 hbA HB4 Z4
 go_wp2_with fail
 refine (HN.out _).mono ?_
 rintro e w4 ⟨rfl,hb4'⟩
 have Z6:=Lib.hid (keep_blk hb4' Z5.out);have HB6:=Lib.hid (HB5.out.trans (hb4'.mono HB5.out.size))
 clear hb4' HB5 Z5
 go_wp2_with fail
 refine (bytes_is _ _ _ _ _).mono ?_
 rintro e w5 ⟨rfl,hb5⟩
 have Z9:=Lib.hid (keep_blk hb5 Z6.out);have HB9:=Lib.hid (HB6.out.trans (hb5.mono HB6.out.size))
 clear hb5 HB6 Z6
 go_wp2_with (first
   | (refine wpList_store_row rfl 28 (.tmp 2) (.tmp 9) rfl w.heap.size #[.int .i64 2,.int .u64 (Oc.U (Oc.mk (fun x=>!(x == 10)) 0)),.int .u64 (Oc.U (Oc.mk (fun x=>!(x == 10)) 1)),.int .u64 (Oc.U (Oc.mk (fun x=>!(x == 10)) 2)),.int .u64 (Oc.U (Oc.mk (fun x=>!(x == 10)) 3)),.slice none 0 0,.int .i64 0,.int .i64 0,.int .i64 0,.bool false] rfl rfl 28 _ Z9.out (by kernel_rfl) rfl (by simp [Value.oneCell']) ?_)
   | fail)
 exact bodyPost_ret (results_cell_row rfl _ _ w.heap.size 28 #[.int .i64 2,.int .u64 (Oc.U (Oc.mk (fun x=>!(x == 10)) 0)),.int .u64 (Oc.U (Oc.mk (fun x=>!(x == 10)) 1)),.int .u64 (Oc.U (Oc.mk (fun x=>!(x == 10)) 2)),.int .u64 (Oc.U (Oc.mk (fun x=>!(x == 10)) 3)),.slice none 0 0,.int .i64 0,.int .i64 0,.int .i64 0,.bool false] (0,0) _ rfl (heap_setRow Z9.out) Tryz.underlying28 rfl (by kernel_rfl)) rfl ⟨rfl,below_setRow HB9.out (Nat.le_refl _) _⟩
theorem ptdot_any (fl:Int) (w:World):Calls Tryz.prog 161 #[.int .i64 fl] w fun e w'=>e=.returned (.agg ((Ep.dot (nlB fl)).cells (.slice none 0 0)))∧Below w.heap.size w w':=by
 cases hnl:nlB fl with
 | true=>exact ptdot_nl fl hnl w
 | false=>exact ptdot_no fl hnl w
theorem ptplain_no (b:Nat) (hbb:b < 256) (fl:Int) (hic:icB fl=false) (w:World) :
   Calls Tryz.prog 132 #[.int .u8 (b:Int),.int .i64 fl] w fun e w'=>e=.returned (.agg ((Ep.one false b).cells (.slice none 0 0)))∧Below w.heap.size w w':=by
 have hb2:=bit2 fl
 rw [hic] at hb2
 have hb0:Below w.heap.size w (w.alloc (.cells noNode 28)):=(Below.refl _ _).alloc (Nat.le_refl _) _
 have Z4:=Lib.hid (heap_alloc_new w (.cells noNode 28))
 have HB4:=Lib.hid hb0
 clear hic hb0
 go_enter Tryz.func132,Tryz.ntmps132
 go_wp2_with fail
 have hsz:(w.alloc (.cells noNode 28)).heap.size=w.heap.size+1:=by simp
 generalize World.alloc w _=W at *
 refine (of_p b hbb (b:Int) rfl W (w.heap.size+1) hsz _).mono ?_
 rintro e w3 ⟨rfl,hb3⟩
 have hbA:Below W.heap.size W (w3.alloc (.cells #[.int .u64 (Oc.U (Oc.mk (fun x=>x == b) 0)),.int .u64 (Oc.U (Oc.mk (fun x=>x == b) 1)),.int .u64 (Oc.U (Oc.mk (fun x=>x == b) 2)),.int .u64 (Oc.U (Oc.mk (fun x=>x == b) 3))] 25)):=(((Below.refl W.heap.size W).alloc (Nat.le_refl _) _).trans (hb3.mono (by simp))).alloc (by have:=hb3.size;simp at this;omega) _
 have Z5:=Lib.hid (keep_blk hbA Z4.out);have HB5:=Lib.hid (HB4.out.trans (hbA.mono HB4.out.size))
 have S5:=Lib.hid (heap_alloc_new w3 (.cells #[.int .u64 (Oc.U (Oc.mk (fun x=>x == b) 0)),.int .u64 (Oc.U (Oc.mk (fun x=>x == b) 1)),.int .u64 (Oc.U (Oc.mk (fun x=>x == b) 2)),.int .u64 (Oc.U (Oc.mk (fun x=>x == b) 3))] 25))
 have hgw:w3.heap.size ≠ w.heap.size:=by have:=hb3.size;simp at this;omega
 have hgw':w.heap.size ≤ w3.heap.size:=by have:=hb3.size;simp at this;omega
 clear hb3 hbA HB4 Z4
 have Z6:=Lib.hid Z5.out;have HB6:=Lib.hid HB5.out
 clear Z5 HB5
 go_wp2_with (first
   | (refine wpList_load_row rfl 25 (.tmp 5) rfl w3.heap.size rfl 25 _ (0,0) _ S5.out Tryz.underlying25 rfl (by kernel_rfl) ?_)
   | fail)
 refine (bytes_is _ _ _ _ _).mono ?_
 rintro e w5 ⟨rfl,hb5⟩
 have Z9:=Lib.hid (keep_blk hb5 Z6.out);have HB9:=Lib.hid (HB6.out.trans (hb5.mono HB6.out.size))
 clear hb5 HB6 Z6
 go_wp2_with (first
   | (refine wpList_store_row rfl 28 (.tmp 4) (.tmp 15) rfl w.heap.size #[.int .i64 2,.int .u64 (Oc.U (Oc.mk (fun x=>x == b) 0)),.int .u64 (Oc.U (Oc.mk (fun x=>x == b) 1)),.int .u64 (Oc.U (Oc.mk (fun x=>x == b) 2)),.int .u64 (Oc.U (Oc.mk (fun x=>x == b) 3)),.slice none 0 0,.int .i64 0,.int .i64 0,.int .i64 0,.bool false] rfl rfl 28 _ Z9.out (by kernel_rfl) rfl (by simp [Value.oneCell']) ?_)
   | fail)
 exact bodyPost_ret (results_cell_row rfl _ _ w.heap.size 28 #[.int .i64 2,.int .u64 (Oc.U (Oc.mk (fun x=>x == b) 0)),.int .u64 (Oc.U (Oc.mk (fun x=>x == b) 1)),.int .u64 (Oc.U (Oc.mk (fun x=>x == b) 2)),.int .u64 (Oc.U (Oc.mk (fun x=>x == b) 3)),.slice none 0 0,.int .i64 0,.int .i64 0,.int .i64 0,.bool false] (0,0) _ rfl (heap_setRow Z9.out) Tryz.underlying28 rfl (by kernel_rfl)) rfl ⟨rfl,below_setRow HB9.out (Nat.le_refl _) _⟩
theorem ptplain_ic (b:Nat) (hbb:b < 256) (fl:Int) (hic:icB fl=true) (w:World) :
   Calls Tryz.prog 132 #[.int .u8 (b:Int),.int .i64 fl] w fun e w'=>e=.returned (.agg ((Ep.one true b).cells (.slice none 0 0)))∧Below w.heap.size w w':=by
 have hb2:=bit2 fl
 rw [hic] at hb2
 have hb0:Below w.heap.size w (w.alloc (.cells noNode 28)):=(Below.refl _ _).alloc (Nat.le_refl _) _
 have Z4:=Lib.hid (heap_alloc_new w (.cells noNode 28))
 have HB4:=Lib.hid hb0
 clear hic hb0
 go_enter Tryz.func132,Tryz.ntmps132
 go_wp2_with fail
 have hsz:(w.alloc (.cells noNode 28)).heap.size=w.heap.size+1:=by simp
 generalize World.alloc w _=W at *
 refine (of_p b hbb (b:Int) rfl W (w.heap.size+1) hsz _).mono ?_
 rintro e w3 ⟨rfl,hb3⟩
 have hbA:Below W.heap.size W (w3.alloc (.cells #[.int .u64 (Oc.U (Oc.mk (fun x=>x == b) 0)),.int .u64 (Oc.U (Oc.mk (fun x=>x == b) 1)),.int .u64 (Oc.U (Oc.mk (fun x=>x == b) 2)),.int .u64 (Oc.U (Oc.mk (fun x=>x == b) 3))] 25)):=(((Below.refl W.heap.size W).alloc (Nat.le_refl _) _).trans (hb3.mono (by simp))).alloc (by have:=hb3.size;simp at this;omega) _
 have Z5:=Lib.hid (keep_blk hbA Z4.out);have HB5:=Lib.hid (HB4.out.trans (hbA.mono HB4.out.size))
 have S5:=Lib.hid (heap_alloc_new w3 (.cells #[.int .u64 (Oc.U (Oc.mk (fun x=>x == b) 0)),.int .u64 (Oc.U (Oc.mk (fun x=>x == b) 1)),.int .u64 (Oc.U (Oc.mk (fun x=>x == b) 2)),.int .u64 (Oc.U (Oc.mk (fun x=>x == b) 3))] 25))
 have hgw:w3.heap.size ≠ w.heap.size:=by have:=hb3.size;simp at this;omega
 have hgw':w.heap.size ≤ w3.heap.size:=by have:=hb3.size;simp at this;omega
 clear hb3 hbA HB4 Z4
 go_wp2_with (first
   | (refine wpList_load_row rfl 25 (.tmp 5) rfl w3.heap.size rfl 25 _ (0,0) _ S5.out Tryz.underlying25 rfl (by kernel_rfl) ?_)
   | fail)
 generalize World.alloc w3 _=W3 at *
 refine (fold_p _ _).mono ?_
 rintro e w4 ⟨rfl,hb4⟩
 have Z6:=Lib.hid ((heap_setRow_other w4 w3.heap.size #[.int .u64 (Oc.U (Oc.mk (Cl.fold (fun x=>x == b)) 0)),.int .u64 (Oc.U (Oc.mk (Cl.fold (fun x=>x == b)) 1)),.int .u64 (Oc.U (Oc.mk (Cl.fold (fun x=>x == b)) 2)),.int .u64 (Oc.U (Oc.mk (Cl.fold (fun x=>x == b)) 3))] (Ne.symm hgw)).trans (keep_blk hb4 Z5.out))
 have S4:=Lib.hid (keep_blk hb4 S5.out)
 have S6:=Lib.hid (heap_setRow (cs:=#[.int .u64 (Oc.U (Oc.mk (Cl.fold (fun x=>x == b)) 0)),.int .u64 (Oc.U (Oc.mk (Cl.fold (fun x=>x == b)) 1)),.int .u64 (Oc.U (Oc.mk (Cl.fold (fun x=>x == b)) 2)),.int .u64 (Oc.U (Oc.mk (Cl.fold (fun x=>x == b)) 3))]) (keep_blk hb4 S5.out))
 have HB6:=Lib.hid (below_setRow (HB5.out.trans (hb4.mono HB5.out.size)) hgw' #[.int .u64 (Oc.U (Oc.mk (Cl.fold (fun x=>x == b)) 0)),.int .u64 (Oc.U (Oc.mk (Cl.fold (fun x=>x == b)) 1)),.int .u64 (Oc.U (Oc.mk (Cl.fold (fun x=>x == b)) 2)),.int .u64 (Oc.U (Oc.mk (Cl.fold (fun x=>x == b)) 3))])
 clear hb4 HB5 Z5 S5
 go_wp2_with (first
   | (refine wpList_store_row rfl 25 (.tmp 5) (.tmp 13) rfl w3.heap.size #[.int .u64 (Oc.U (Oc.mk (Cl.fold (fun x=>x == b)) 0)),.int .u64 (Oc.U (Oc.mk (Cl.fold (fun x=>x == b)) 1)),.int .u64 (Oc.U (Oc.mk (Cl.fold (fun x=>x == b)) 2)),.int .u64 (Oc.U (Oc.mk (Cl.fold (fun x=>x == b)) 3))] rfl rfl 25 _ S4.out (by kernel_rfl) rfl setC_one ?_)
   | (refine wpList_load_row rfl 25 (.tmp 5) rfl w3.heap.size rfl 25 _ (0,0) _ S6.out Tryz.underlying25 rfl (by kernel_rfl) ?_)
   | fail)
 refine (bytes_is _ _ _ _ _).mono ?_
 rintro e w5 ⟨rfl,hb5⟩
 have Z9:=Lib.hid (keep_blk hb5 Z6.out);have HB9:=Lib.hid (HB6.out.trans (hb5.mono HB6.out.size))
 clear hb5 HB6 Z6
 go_wp2_with (first
   | (refine wpList_store_row rfl 28 (.tmp 4) (.tmp 15) rfl w.heap.size #[.int .i64 2,.int .u64 (Oc.U (Oc.mk (Cl.fold (fun x=>x == b)) 0)),.int .u64 (Oc.U (Oc.mk (Cl.fold (fun x=>x == b)) 1)),.int .u64 (Oc.U (Oc.mk (Cl.fold (fun x=>x == b)) 2)),.int .u64 (Oc.U (Oc.mk (Cl.fold (fun x=>x == b)) 3)),.slice none 0 0,.int .i64 0,.int .i64 0,.int .i64 0,.bool false] rfl rfl 28 _ Z9.out (by kernel_rfl) rfl (by simp [Value.oneCell']) ?_)
   | fail)
 exact bodyPost_ret (results_cell_row rfl _ _ w.heap.size 28 #[.int .i64 2,.int .u64 (Oc.U (Oc.mk (Cl.fold (fun x=>x == b)) 0)),.int .u64 (Oc.U (Oc.mk (Cl.fold (fun x=>x == b)) 1)),.int .u64 (Oc.U (Oc.mk (Cl.fold (fun x=>x == b)) 2)),.int .u64 (Oc.U (Oc.mk (Cl.fold (fun x=>x == b)) 3)),.slice none 0 0,.int .i64 0,.int .i64 0,.int .i64 0,.bool false] (0,0) _ rfl (heap_setRow Z9.out) Tryz.underlying28 rfl (by kernel_rfl)) rfl ⟨rfl,below_setRow HB9.out (Nat.le_refl _) _⟩
theorem ptplain_any (b:Nat) (hbb:b < 256) (fl:Int) (w:World):Calls Tryz.prog 132 #[.int .u8 (b:Int),.int .i64 fl] w fun e w'=>e=.returned (.agg ((Ep.one (icB fl) b).cells (.slice none 0 0)))∧Below w.heap.size w w':=by
 cases hic:icB fl with
 | true=>exact ptplain_ic b hbb fl hic w
 | false=>exact ptplain_no b hbb fl hic w
theorem ptpunct_any (n:Nat) (hn:n < 256) (b:Bool) (hb:Cl.cls 8 n=b) (w:World) :
   Calls Tryz.prog 184 #[.int .u8 (n:Int)] w fun e w'=>e=.returned (.bool b)∧Below w.heap.size w w':=by
 have HK:=Lib.hid (known 8 (by omega)).1
 have HH:=Lib.hid (punct_has n hn b hb)
 clear hb
 go_enter Tryz.func184,Tryz.ntmps184
 go_wp2_with fail
 refine (HK.out _).mono ?_
 rintro e w1 ⟨rfl,hb1⟩
 have HB:=Lib.hid (hb1.alloc hb1.size (.cells #[.int .u64 (Oc.U (Cl.cw 8 0)),.int .u64 (Oc.U (Cl.cw 8 1)),.int .u64 (Oc.U (Cl.cw 8 2)),.int .u64 (Oc.U (Cl.cw 8 3))] 25))
 obtain ⟨d0,d1,d2,d3⟩:=set_cells (heap_alloc_new w1 (.cells #[.int .u64 (Oc.U (Cl.cw 8 0)),.int .u64 (Oc.U (Cl.cw 8 1)),.int .u64 (Oc.U (Cl.cw 8 2)),.int .u64 (Oc.U (Cl.cw 8 3))] 25))
 clear hb1
 go_wp2_with fail
 refine (HH.out _).mono ?_
 rintro e w2 ⟨rfl,hb2⟩
 have HB2:=Lib.hid (HB.out.trans (hb2.mono HB.out.size))
 clear hb2 d0 d1 d2 d3 HB
 go_wp2
 go_ret
 exact ⟨rfl,HB2.out⟩
end Go.Proofs.YtfcilopifjddpaaGreatDoor
namespace Go.Proofs.YtfcilopifjddpaaGreatDoor
open Go.RowKit
def NewAt (N:Nat) (w:World) (v:Value) (b:Bool) (old new:Array Value) (ty:TypeId):Prop:=∃ g,N ≤ g∧v=.pointer (some ⟨g,0,none⟩)∧w.heap[g]? = some (.cells (bif b then new else old) ty)
theorem NewAt.below {N:Nat} {w w':World} {v:Value} {b:Bool} {old new:Array Value} {ty:TypeId} (h:NewAt N w v b old new ty) (hb:Below w.heap.size w w'):NewAt N w' v b old new ty:=by
 obtain ⟨g,h1,h2,h3⟩:=h;exact ⟨g,h1,h2,keep_blk hb h3⟩
theorem NewAt.before {N:Nat} {w:World} {v:Value} {b:Bool} {old new:Array Value} {ty:TypeId} (h:NewAt N w v b old new ty) (hb:b=false):∃ g,N ≤ g∧v=.pointer (some ⟨g,0,none⟩)∧w.heap[g]? = some (.cells old ty):=by
 subst hb;exact h
theorem NewAt.new {N:Nat} {w:World} {b:Bool} {old new:Array Value} {ty:TypeId} (hN:N ≤ w.heap.size) (hb:b=false):NewAt N (w.alloc (.cells old ty)) (.pointer (some ⟨w.heap.size,0,none⟩)) b old new ty:=by
 subst hb;exact ⟨_,hN,rfl,heap_alloc_new _ _⟩
theorem ErrOne.setRow_new {A:Nat→Addr} {B:Nat} {w:World} {v:Value} {c:Nat} {n:Int} (h:ErrOne A B w v c n) {g:Nat} {t:TypeId} (hz:w.heap[g]? = some (.cells #[.int .u64 0,.int .u64 0,.int .u64 0,.int .u64 0] t)) (cs:Array Value):ErrOne A B (w.setRow g cs) v c n:=by
 obtain ⟨k,p,hk,hc,hv,hp,c0,c1⟩:=h
 have hne:p ≠ g:=by
   rintro rfl
   simp [World.cell?,hz] at c0
 exact ⟨k,p,hk,hc,hv,hp,(cell_setRow_other cs hne).trans c0,(cell_setRow_other cs hne).trans c1⟩
end Go.Proofs.YtfcilopifjddpaaGreatDoor
namespace Go.Proofs.YtfcilopifjddpaaGreatDoor
open Go.RowKit
theorem Owned.touch {R:Nat} {w w':World} {s:Value} {ts:List Tr} {F:List Nat} {B:Nat} (h:Owned w s ts F) (hF:∀ b,b ∈ F→B ≤ b) (hR:R < B) (ht:Touch [R] w w'):Owned w' s ts F :=
 h.keep fun b hb=>ht.block b (h.lt b hb) (by have:=hF b hb;simp;omega)
end Go.Proofs.YtfcilopifjddpaaGreatDoor
namespace Go.Proofs.YtfcilopifjddpaaGreatDoor
open Go.RowKit
structure RowAt (w:World) (base:Nat) (v:Value) (ps:List (Tr × Value)):Prop where
 own:w.ownsRow base 28 10 v ps.length (rowOf ps)
 subs:∀ (i:Nat) (t:Tr) (s:Value),ps[i]? = some (t,s)→TreesAt w (fun b=>base ≤ b∧v.ownBlock ≠ some b) s t.subs
theorem RowAt.nil (w:World) (base:Nat):RowAt w base (.slice none 0 0) []:=⟨World.ownsRow_nil _ _ _ _,fun i t s h=>by simp at h⟩
theorem RowAt.touch {w w':World} {base:Nat} {v:Value} {ps:List (Tr × Value)} {R:Nat} (h:RowAt w base v ps) (ht:Touch [R] w w') (hR:R < base):RowAt w' base v ps:=by
 refine ⟨h.own.kept (w':=w') (row:=some R) ⟨ht.os,ht.tape,ht.output,ht.size,fun k hk hne=>ht.block k hk (by simp;exact fun e=>hne (by rw [e]))⟩ ?_,fun i t s hi=>(h.subs i t s hi).keep fun b hb hB=>ht.block b hb (by simp;omega)⟩
 cases hv:v.ownBlock with
 | none=>exact .inl rfl
 | some g=>exact .inr fun e=>by have:=(h.own.lt g hv).1;have:=Option.some.inj e;omega
theorem RowAt.later {w w':World} {base:Nat} {v:Value} {ps:List (Tr × Value)} (h:RowAt w base v ps) (hb:Below w.heap.size w w'):RowAt w' base v ps:=by
 refine ⟨h.own.kept (w':=w') (row:=none) ⟨hb.os,hb.tape,hb.output,hb.size,fun k hk _=>hb.block k hk⟩ ?_,fun i t s hi=>(h.subs i t s hi).later hb⟩
 cases hv:v.ownBlock with
 | none=>exact .inl rfl
 | some g=>exact .inr (by simp)
theorem RowAt.trees {w:World} {base:Nat} {v:Value} {ps:List (Tr × Value)} (h:RowAt w base v ps) (hn:ps.length * 96 ≤ 140737488351232):TreesAt w (fun b=>base ≤ b) v (ps.map (·.1)) :=
 trees_of_row h.own hn h.subs (fun _ hb=>hb.1) (fun g hg=>(h.own.lt g hg).1)
theorem RowAt.snoc {w w4:World} {base:Nat} {v v':Value} {ps:List (Tr × Value)} {x:Tr} {s:Value} (h:RowAt w base v ps) (hx:TreesAt w (fun b=>base ≤ b∧v.ownBlock ≠ some b) s x.subs)
   (ho:w4.ownsRow base 28 10 v' (ps.length+1) (rowOf ps ++ (x.cells s).toList)) (hg:w.grownBy w4 v.ownBlock) (hw:v'.ownBlock=v.ownBlock ∨ v'.ownBlock=some w.heap.size):RowAt w4 base v' (ps ++ [(x,s)]):=by
 refine ⟨by rw [rowOf_snoc,List.length_append];exact ho,fun i t s' hi=>?_⟩
 by_cases hip:i < ps.length
 · rw [List.getElem?_append_left hip] at hi
   exact subs_step (h.subs i t s' hi) hg hw
 · rw [List.getElem?_append_right (by omega)] at hi
   have hi0:i - ps.length=0:=by
     by_cases h0:i - ps.length=0
     · exact h0
     · rw [List.getElem?_eq_none (by simp;omega)] at hi;cases hi
   rw [hi0] at hi
   simp only [List.getElem?_cons_zero,Option.some.injEq,Prod.mk.injEq] at hi
   obtain ⟨rfl,rfl⟩:=hi
   exact subs_step hx hg hw
theorem RowAt.len {w:World} {base:Nat} {v:Value} {ps:List (Tr × Value)} (h:RowAt w base v ps):∃ q c,v=.slice q ps.length c:=by
 rcases h.own.2 with ⟨rfl,hn⟩ | ⟨g,cap,cur,rfl,-⟩
 · exact ⟨none,0,by rw [hn]⟩
 · exact ⟨_,_,rfl⟩
theorem Touch.grown {F:List Nat} {a w w':World} {row:Option Nat} (h:Touch F a w) (hg:w.grownBy w' row) (hr:∀ k,row=some k→a.heap.size ≤ k):Touch F a w' :=
 ⟨hg.os.trans h.os,hg.tape.trans h.tape,hg.output.trans h.output,Nat.le_trans h.size hg.size,fun k hk hn=>(hg.block k (Nat.lt_of_lt_of_le hk h.size) (fun e=>by have:=hr k e.symm;omega)).trans (h.block k hk hn)⟩
theorem place_of {w:World} {R:Nat} {s:ByteArray} {fl:Int} {i g d:Nat} (h:w.heap[R]? = some (.cells (rdC s fl i g d) 85)):(match w.cell? ⟨R,2,none⟩ with | some (.int _ n)=>n.toNat | _=>0)=i:=by
 rw [(rd5 h).2.2.1];simp
def placeOf (R:Nat) (w:World):Nat:=match w.cell? ⟨R,2,none⟩ with | some (.int _ n)=>n.toNat | _=>0
end Go.Proofs.YtfcilopifjddpaaGreatDoor
namespace Go.Proofs.YtfcilopifjddpaaGreatDoor
open Go.RowKit
def PaEnd (A:Nat→Addr) (O:Ep.Out) (w:World) (e:Ending) (w':World):Prop :=
 (match O with
 | .ok t _ g=>∃ v F,e=.returned (.tuple #[.agg (t.cells v),.int .i64 g,.nilIface])∧Owned w' v t.subs F∧(∀ b,b ∈ F→w.heap.size ≤ b)
 | .err c q=>∃ v,e=.returned (.tuple #[.agg noNode,.int .i64 0,v])∧ErrOne A w.heap.size w' v c q)∧Below w.heap.size w w'
theorem PaEnd.ok {A:Nat→Addr} {O:Ep.Out} {w:World} {e:Ending} {w':World} (h:PaEnd A O w e w') {t:Tr} {j g:Nat} (hO:O=.ok t j g) :
   ∃ v F,e=.returned (.tuple #[.agg (t.cells v),.int .i64 g,.nilIface])∧Owned w' v t.subs F∧(∀ b,b ∈ F→w.heap.size ≤ b)∧Below w.heap.size w w':=by
 subst hO;obtain ⟨⟨v,F,h1,h2,h3⟩,h4⟩:=h;exact ⟨v,F,h1,h2,h3,h4⟩
theorem PaEnd.err {A:Nat→Addr} {O:Ep.Out} {w:World} {e:Ending} {w':World} (h:PaEnd A O w e w') {c:Nat} {q:Int} (hO:O=.err c q) :
   ∃ v,e=.returned (.tuple #[.agg noNode,.int .i64 0,v])∧ErrOne A w.heap.size w' v c q∧Below w.heap.size w w':=by
 subst hO;obtain ⟨⟨v,h1,h2⟩,h4⟩:=h;exact ⟨v,h1,h2,h4⟩
end Go.Proofs.YtfcilopifjddpaaGreatDoor
namespace Go.Proofs.YtfcilopifjddpaaGreatDoor
open Go.RowKit
theorem ten3 {w:World} {b:Nat} {x0 x1 x2 x3 x4 x5 x6 x7 x8 x9:Value} {t:TypeId} (h:w.heap[b]? = some (.cells #[x0,x1,x2,x3,x4,x5,x6,x7,x8,x9] t)):w.cell? ⟨b,0,none⟩=some x0∧w.cell? ⟨b,7,none⟩=some x7∧w.cell? ⟨b,8,none⟩=some x8:=by
 simp [World.cell?,h]
theorem ic0:icB 0=false:=by decide
theorem nl0:nlB 0=false:=by decide
end Go.Proofs.YtfcilopifjddpaaGreatDoor
namespace Go.Proofs.YtfcilopifjddpaaGreatDoor
namespace Bp
open Ep (Out)
def two (f:Nat→Nat) (a b i:Nat):Bool:=f i == a && f (i+1) == b
theorem two_iff {f:Nat→Nat} {a b i:Nat} : two f a b i=true ↔ f i=a∧f (i+1)=b:=by
 unfold two;simp
def close (f:Nat→Nat):Nat→Nat→Option Nat
 | 0,_=>none
 | k+1,i=>if two f 92 125 i then some i else close f k (i+1)
def rep (f:Nat→Nat) (n:Nat) (t:Tr) (i g:Nat):Out :=
 if f i=42 then Ep.counted t 0 (-1) i (i+1) g
 else if two f 92 123 i then match close f (n - (i+2)) (i+2) with
   | none=>.err 3 i
   | some e=>match Ep.counts f (i+2) e with
     | none=>.err 4 i
     | some (a,b)=>Ep.counted t a b i (e+2) g
 else .ok t i g
def atom (f:Nat→Nat) (n:Nat) (ic nl:Bool) (H:Nat→Nat→Out) (i g:Nat):Out :=
 if f i=46 then .ok (Ep.dot nl) (i+1) g
 else if f i=91 then match Br.whole f n i ic nl with
   | .ok P j=>.ok (.bytes P) j g
   | .err c p=>.err c p
 else if two f 92 40 i then H i g
 else if two f 92 125 i then .err 3 i
 else if f i=92 then (if Cl.cls 8 (f (i+1)) then .ok (Ep.one ic (f (i+1))) (i+2) g else .err 8 i)
 else .ok (Ep.one ic (f i)) (i+1) g
def isEnd (f:Nat→Nat) (n i:Nat):Bool:=f i == 36 && (decide (n ≤ i+1) || two f 92 41 (i+1))
def piece (f:Nat→Nat) (n:Nat) (ic nl:Bool) (H:Nat→Nat→Out) (i g:Nat):Out :=
 if isEnd f n i then .ok (.leaf 4) (i+1) g
 else if f i=42 then .err 9 i
 else if two f 92 123 i then .err 9 i
 else match atom f n ic nl H i g with
 | .err c p=>.err c p
 | .ok t j g'=>rep f n t j g'
def more (f:Nat→Nat) (n:Nat):Out→Out
 | .err c p=>.err c p
 | .ok t j g=>rep f n t j g
def loop (f:Nat→Nat) (n:Nat) (ic nl:Bool) (H:Nat→Nat→Out):Nat→List Tr→Nat→Nat→Out
 | 0,_,_,_=>.err 0 0
 | k+1,l,i,g =>
   if n ≤ i ∨ two f 92 41 i=true then .ok (.several 5 l) i g
   else match piece f n ic nl H i g with
   | .err c p=>.err c p
   | .ok t j g'=>loop f n ic nl H k (l ++ [t]) j g'
def star (f:Nat→Nat) (n:Nat) (ic nl:Bool) (H:Nat→Nat→Out) (l:List Tr) (i g:Nat):Out :=
 if f i=42 then match rep f n (Ep.one ic 42) (i+1) g with
   | .err c p=>.err c p
   | .ok t j g'=>loop f n ic nl H (n+1) (l ++ [t]) j g'
 else loop f n ic nl H (n+1) l i g
def seq (f:Nat→Nat) (n:Nat) (ic nl:Bool) (H:Nat→Nat→Out) (i g:Nat):Out :=
 if f i=94 then star f n ic nl H [.leaf 3] (i+1) g else star f n ic nl H [] i g
def group (f:Nat→Nat) (n:Nat) (ic nl:Bool):Nat→Nat→Nat→Out
 | 0,i,_=>.err 11 i
 | r+1,i,g=>match seq f n ic nl (group f n ic nl r) (i+2) (g+1) with
   | .err c p=>.err c p
   | .ok t j g'=>if two f 92 41 j then .ok (.grp (g+1:Nat) t) (j+2) g' else .err 2 i
def pat (f:Nat→Nat) (n:Nat) (ic nl:Bool) (r i g:Nat):Out:=seq f n ic nl (group f n ic nl r) i g
def whole (f:Nat→Nat) (n:Nat) (ic nl:Bool):Out :=
 match pat f n ic nl 32 0 0 with
 | .err c p=>.err c p
 | .ok t j g=>if j < n then .err 2 j else if 2000 < t.szT then .err 10 n else .ok t j g
def parse (f:Nat→Nat) (n:Nat) (ic nl:Bool):Out:=if 1024 < n then .err 12 1024 else whole f n ic nl
theorem two_lt {f:Nat→Nat} {n a b i:Nat} (hf:Br.Txt f n) (h:two f a b i=true) (_ha:a < 256) (hb:b < 256):i+1 < n:=by
 obtain ⟨h1,h2⟩:=two_iff.1 h
 have:=hf.lt h2 hb
 omega
theorem close_some {f:Nat→Nat} : ∀ {k i e:Nat},close f k i=some e→i ≤ e∧e < i+k∧two f 92 125 e=true∧∀ j,i ≤ j→j < e→two f 92 125 j=false
 | 0,_,_,h=>by simp [close] at h
 | k+1,i,e,h=>by
   unfold close at h
   split at h
   · rename_i hc
     obtain rfl:=Option.some.inj h
     exact ⟨Nat.le_refl _,by omega,hc,fun j h1 h2=>by omega⟩
   · rename_i hc
     obtain ⟨h1,h2,h3,h4⟩:=close_some h
     refine ⟨by omega,by omega,h3,fun j h5 h6=>?_⟩
     by_cases e:j=i
     · subst e;simpa using hc
     · exact h4 j (by omega) h6
theorem close_none {f:Nat→Nat} : ∀ {k i:Nat},close f k i=none→∀ j,i ≤ j→j < i+k→two f 92 125 j=false
 | 0,_,_,j,h1,h2=>by omega
 | k+1,i,h,j,h1,h2=>by
   unfold close at h
   split at h
   · cases h
   · rename_i hc
     by_cases e:j=i
     · subst e;simpa using hc
     · exact close_none h j (by omega) (by omega)
theorem rep_ok {f:Nat→Nat} {n i g j g':Nat} {t u:Tr} (h:rep f n t i g=.ok u j g') (hf:Br.Txt f n) (hi:i ≤ n) :
   i ≤ j∧j ≤ n∧g'=g∧(u=t ∨ ∃ a b,u=.rep a b t∧0 ≤ a∧a ≤ 255∧(b = -1 ∨ (a ≤ b∧b ≤ 255))):=by
 unfold rep at h
 split at h
 · rename_i hc
   have:=hf.lt hc (by omega)
   obtain ⟨rfl,rfl,rfl⟩:=Ep.counted_ok h
   exact ⟨by omega,by omega,rfl,.inr ⟨_,_,rfl,by omega⟩⟩
 split at h
 · split at h
   · cases h
   · rename_i e he
     obtain ⟨h1,h2,h3,-⟩:=close_some he
     have:=two_lt hf h3 (by omega) (by omega)
     split at h
     · cases h
     · rename_i a b hab
       obtain ⟨rfl,rfl,rfl⟩:=Ep.counted_ok h
       exact ⟨by omega,by omega,rfl,.inr ⟨_,_,rfl,Ep.counts_ok hab⟩⟩
 · injection h with h1 h2 h3
   subst h1 h2 h3
   exact ⟨Nat.le_refl _,hi,rfl,.inl rfl⟩
def Ahead (n:Nat) (H:Nat→Nat→Out):Prop:=∀ i g t j g',i+1 < n→H i g=.ok t j g'→i < j∧j ≤ n
theorem atom_next {f:Nat→Nat} {n i g j g':Nat} {ic nl:Bool} {H:Nat→Nat→Out} {t:Tr} (hf:Br.Txt f n) (hH:Ahead n H) (hi:i < n) (h:atom f n ic nl H i g=.ok t j g'):i < j∧j ≤ n:=by
 unfold atom at h
 split at h
 · injection h with h1 h2 h3;omega
 split at h
 · cases hw:Br.whole f n i ic nl with
   | err c p=>rw [hw] at h;cases h
   | ok P k =>
     rw [hw] at h
     injection h with h1 h2 h3
     subst h2
     exact Ep.whole_next hf hi hw
 split at h
 · rename_i hc
   exact hH i g t j g' (two_lt hf hc (by omega) (by omega)) h
 split at h
 · cases h
 split at h
 · split at h
   · rename_i hc
     injection h with h1 h2 h3
     have:i+1 < n:=by
       by_cases hl:i+1 < n
       · exact hl
       · rw [hf.2 (i+1) (by omega)] at hc;exact absurd hc (by decide)
     omega
   · cases h
 · injection h with h1 h2 h3;omega
theorem piece_next {f:Nat→Nat} {n i g j g':Nat} {ic nl:Bool} {H:Nat→Nat→Out} {t:Tr} (hf:Br.Txt f n) (hH:Ahead n H) (hi:i < n) (h:piece f n ic nl H i g=.ok t j g'):i < j∧j ≤ n:=by
 unfold piece at h
 split at h
 · injection h with h1 h2 h3;omega
 split at h
 · cases h
 split at h
 · cases h
 cases ha:atom f n ic nl H i g with
 | err c p=>rw [ha] at h;cases h
 | ok u k g2 =>
   rw [ha] at h
   have h1:=atom_next hf hH hi ha
   have h2:=rep_ok h hf h1.2
   omega
theorem loop_next {f:Nat→Nat} {n:Nat} {ic nl:Bool} {H:Nat→Nat→Out} (hf:Br.Txt f n) (hH:Ahead n H):∀ {k:Nat} {l:List Tr} {i g j g':Nat} {t:Tr},i ≤ n→loop f n ic nl H k l i g=.ok t j g'→i ≤ j∧j ≤ n
 | 0,_,_,_,_,_,_,_,h=>by cases h
 | k+1,l,i,g,j,g',t,hi,h=>by
   unfold loop at h
   split at h
   · injection h with h1 h2 h3;omega
   · rename_i hc
     cases hp:piece f n ic nl H i g with
     | err c p=>rw [hp] at h;cases h
     | ok u m g2 =>
       rw [hp] at h
       have h1:=piece_next hf hH (by omega) hp
       have h2:=loop_next hf hH h1.2 h
       omega
theorem star_next {f:Nat→Nat} {n:Nat} {ic nl:Bool} {H:Nat→Nat→Out} (hf:Br.Txt f n) (hH:Ahead n H) {l:List Tr} {i g j g':Nat} {t:Tr} (hi:i ≤ n) (h:star f n ic nl H l i g=.ok t j g'):i ≤ j∧j ≤ n:=by
 unfold star at h
 split at h
 · rename_i hc
   have:=hf.lt hc (by omega)
   cases hp:rep f n (Ep.one ic 42) (i+1) g with
   | err c p=>rw [hp] at h;cases h
   | ok u m g2 =>
     rw [hp] at h
     have h1:=rep_ok hp hf (by omega)
     have h2:=loop_next hf hH h1.2.1 h
     omega
 · exact loop_next hf hH hi h
theorem seq_next {f:Nat→Nat} {n:Nat} {ic nl:Bool} {H:Nat→Nat→Out} (hf:Br.Txt f n) (hH:Ahead n H) {i g j g':Nat} {t:Tr} (hi:i ≤ n) (h:seq f n ic nl H i g=.ok t j g'):i ≤ j∧j ≤ n:=by
 unfold seq at h
 split at h
 · rename_i hc
   have:=hf.lt hc (by omega)
   have:=star_next hf hH (by omega) h
   omega
 · exact star_next hf hH hi h
theorem group_next {f:Nat→Nat} {n:Nat} {ic nl:Bool} (hf:Br.Txt f n):∀ r,Ahead n (group f n ic nl r)
 | 0=>fun i g t j g' _ h=>by cases h
 | r+1=>fun i g t j g' hi h=>by
   unfold group at h
   cases hp:seq f n ic nl (group f n ic nl r) (i+2) (g+1) with
   | err c p=>rw [hp] at h;cases h
   | ok u m g2 =>
     rw [hp] at h
     have h1:=seq_next hf (group_next hf r) (by omega) hp
     simp only at h
     split at h
     · rename_i hc
       have:=two_lt hf hc (by omega) (by omega)
       injection h with h3 h4 h5
       omega
     · cases h
def Right (n:Nat) (H:Nat→Nat→Out):Prop:=∀ i g t j g',i+1 < n→2 * g ≤ i→H i g=.ok t j g'→t.InForm∧2 * g' ≤ j
theorem atom_form {f:Nat→Nat} {n i g j g':Nat} {ic nl:Bool} {H:Nat→Nat→Out} {t:Tr} (hf:Br.Txt f n) (hA:Ahead n H) (hH:Right n H) (hi:i < n) (hg:2 * g ≤ i) (h:atom f n ic nl H i g=.ok t j g'):t.InForm∧2 * g' ≤ j:=by
 have hn:=atom_next hf hA hi h
 unfold atom at h
 split at h
 · injection h with h1 h2 h3
   subst h1 h2 h3
   exact ⟨Ep.form_bytes _,by omega⟩
 split at h
 · cases hw:Br.whole f n i ic nl with
   | err c p=>rw [hw] at h;cases h
   | ok P k =>
     rw [hw] at h
     injection h with h1 h2 h3
     subst h1 h2 h3
     exact ⟨Ep.form_bytes _,by omega⟩
 split at h
 · rename_i hc
   exact hH i g t j g' (two_lt hf hc (by omega) (by omega)) hg h
 split at h
 · cases h
 split at h
 · split at h
   · injection h with h1 h2 h3
     subst h1 h2 h3
     exact ⟨Ep.form_bytes _,by omega⟩
   · cases h
 · injection h with h1 h2 h3
   subst h1 h2 h3
   exact ⟨Ep.form_bytes _,by omega⟩
theorem rep_form {f:Nat→Nat} {n i g j g':Nat} {t u:Tr} (h:rep f n t i g=.ok u j g') (hf:Br.Txt f n) (hi:i ≤ n) (ht:t.InForm):u.InForm:=by
 obtain ⟨-,-,-,rfl | ⟨a,b,rfl,h1,h2,h3⟩⟩:=rep_ok h hf hi
 · exact ht
 · exact Ep.form_rep a b t h1 h2 h3 ht
theorem piece_form {f:Nat→Nat} {n i g j g':Nat} {ic nl:Bool} {H:Nat→Nat→Out} {t:Tr} (hf:Br.Txt f n) (hA:Ahead n H) (hH:Right n H) (hi:i < n) (hg:2 * g ≤ i) (h:piece f n ic nl H i g=.ok t j g'):t.InForm∧2 * g' ≤ j:=by
 unfold piece at h
 split at h
 · injection h with h1 h2 h3;subst h1 h2 h3;exact ⟨Ep.form_leaf 4 (by omega),by omega⟩
 split at h
 · cases h
 split at h
 · cases h
 cases ha:atom f n ic nl H i g with
 | err c p=>rw [ha] at h;cases h
 | ok u k g2 =>
   rw [ha] at h
   have h1:=atom_next hf hA hi ha
   have h2:=rep_ok h hf h1.2
   have h3:=atom_form hf hA hH hi hg ha
   exact ⟨rep_form h hf h1.2 h3.1,by omega⟩
theorem loop_form {f:Nat→Nat} {n:Nat} {ic nl:Bool} {H:Nat→Nat→Out} (hf:Br.Txt f n) (hA:Ahead n H) (hH:Right n H):∀ {k:Nat} {l:List Tr} {i g j g':Nat} {t:Tr},i ≤ n→(∀ u,u ∈ l→u.InForm)→2 * g ≤ i→loop f n ic nl H k l i g=.ok t j g'→t.InForm∧2 * g' ≤ j
 | 0,_,_,_,_,_,_,_,_,_,h=>by cases h
 | k+1,l,i,g,j,g',t,hi,hl,hg,h=>by
   unfold loop at h
   split at h
   · injection h with h1 h2 h3;subst h1 h2 h3;exact ⟨Ep.form_several 5 (.inl rfl) l hl,hg⟩
   · rename_i hc
     cases hp:piece f n ic nl H i g with
     | err c p=>rw [hp] at h;cases h
     | ok u m g2 =>
       rw [hp] at h
       have h1:=piece_next hf hA (by omega) hp
       have h2:=piece_form hf hA hH (by omega) hg hp
       refine loop_form hf hA hH h1.2 (fun x hx=>?_) h2.2 h
       rcases List.mem_append.1 hx with hx | hx
       · exact hl x hx
       · rw [List.mem_singleton.1 hx];exact h2.1
theorem star_form {f:Nat→Nat} {n:Nat} {ic nl:Bool} {H:Nat→Nat→Out} (hf:Br.Txt f n) (hA:Ahead n H) (hH:Right n H) {l:List Tr} {i g j g':Nat} {t:Tr} (hi:i ≤ n) (hl:∀ u,u ∈ l→u.InForm) (hg:2 * g ≤ i) (h:star f n ic nl H l i g=.ok t j g'):t.InForm∧2 * g' ≤ j:=by
 unfold star at h
 split at h
 · rename_i hc
   have:=hf.lt hc (by omega)
   cases hp:rep f n (Ep.one ic 42) (i+1) g with
   | err c p=>rw [hp] at h;cases h
   | ok u m g2 =>
     rw [hp] at h
     have h1:=rep_ok hp hf (by omega)
     have h2:=rep_form hp hf (by omega) (Ep.form_bytes _)
     refine loop_form hf hA hH h1.2.1 (fun x hx=>?_) (by omega) h
     rcases List.mem_append.1 hx with hx | hx
     · exact hl x hx
     · rw [List.mem_singleton.1 hx];exact h2
 · exact loop_form hf hA hH hi hl hg h
theorem seq_form {f:Nat→Nat} {n:Nat} {ic nl:Bool} {H:Nat→Nat→Out} (hf:Br.Txt f n) (hA:Ahead n H) (hH:Right n H) {i g j g':Nat} {t:Tr} (hi:i ≤ n) (hg:2 * g ≤ i) (h:seq f n ic nl H i g=.ok t j g'):t.InForm∧2 * g' ≤ j:=by
 unfold seq at h
 split at h
 · rename_i hc
   have:=hf.lt hc (by omega)
   refine star_form hf hA hH (by omega) (fun x hx=>?_) (by omega) h
   rw [List.mem_singleton.1 hx];exact Ep.form_leaf 3 (by omega)
 · exact star_form hf hA hH hi (fun x hx=>by cases hx) hg h
theorem group_right {f:Nat→Nat} {n:Nat} {ic nl:Bool} (hf:Br.Txt f n) (hn:n ≤ 1024):∀ r,Right n (group f n ic nl r)
 | 0=>fun i g t j g' _ _ h=>by cases h
 | r+1=>fun i g t j g' hi hg h=>by
   unfold group at h
   cases hp:seq f n ic nl (group f n ic nl r) (i+2) (g+1) with
   | err c p=>rw [hp] at h;cases h
   | ok u m g2 =>
     rw [hp] at h
     have h1:=seq_next hf (group_next hf r) (by omega) hp
     have h2:=seq_form hf (group_next hf r) (group_right hf hn r) (by omega) (by omega) hp
     simp only at h
     split at h
     · rename_i hc
       injection h with h3 h4 h5
       subst h3 h4 h5
       exact ⟨Ep.form_grp _ _ (by omega) (by omega) h2.1,by omega⟩
     · cases h
end Bp
end Go.Proofs.YtfcilopifjddpaaGreatDoor
namespace Go.Proofs.YtfcilopifjddpaaGreatDoor
open Go.RowKit
structure BqAt (w0:World) (A:Nat→Addr) (w:World) (R:Nat) (s:ByteArray) (fl:Int) (i g d:Nat):Prop where
 env:BrEnv w0 A
 old:w0.heap.size ≤ R
 bel:Below w0.heap.size w0 w
 cell:w.heap[R]? = some (.cells (rdC s fl i g d) 53)
theorem BqAt.lt {w0:World} {A:Nat→Addr} {w:World} {R:Nat} {s:ByteArray} {fl:Int} {i g d:Nat} (h:BqAt w0 A w R s fl i g d):R < w.heap.size:=(Array.getElem?_eq_some_iff.1 h.cell).1
theorem BqAt.now {w0:World} {A:Nat→Addr} {w:World} {R:Nat} {s:ByteArray} {fl:Int} {i g d:Nat} (h:BqAt w0 A w R s fl i g d):BrEnv w A:=h.env.below h.bel
theorem BqAt.next {w0:World} {A:Nat→Addr} {w w':World} {R:Nat} {s:ByteArray} {fl:Int} {i g d i' g' d':Nat} (h:BqAt w0 A w R s fl i g d) (ht:Touch [R] w w') (hc:w'.heap[R]? = some (.cells (rdC s fl i' g' d') 53)):BqAt w0 A w' R s fl i' g' d' :=
 ⟨h.env,h.old,h.bel.trans (ht.below (fun k hk=>by rw [List.mem_singleton.1 hk];exact h.old) h.bel.size),hc⟩
theorem BqAt.later {w0:World} {A:Nat→Addr} {w w':World} {R:Nat} {s:ByteArray} {fl:Int} {i g d:Nat} (h:BqAt w0 A w R s fl i g d) (hb:Below w.heap.size w w'):BqAt w0 A w' R s fl i g d :=
 h.next (Touch.of_below _ hb) (keep_blk hb h.cell)
theorem bq5 {w:World} {R:Nat} {s:ByteArray} {fl:Int} {i g d:Nat} (h:w.heap[R]? = some (.cells (rdC s fl i g d) 53)) :
   w.cell? ⟨R,0,none⟩=some (.string s)∧w.cell? ⟨R,1,none⟩=some (.int .i64 fl)∧w.cell? ⟨R,2,none⟩=some (.int .i64 i)∧w.cell? ⟨R,3,none⟩=some (.int .i64 g)∧w.cell? ⟨R,4,none⟩=some (.int .i64 d):=by
 simp [World.cell?,h]
theorem bqf {w:World} {R:Nat} {s:ByteArray} {fl:Int} {i g d:Nat} (h:w.heap[R]? = some (.cells (rdC s fl i g d) 53)):w.frozen? ⟨R,2,none⟩=false∧w.frozen? ⟨R,3,none⟩=false∧w.frozen? ⟨R,4,none⟩=false:=by
 simp [World.frozen?,h]
theorem bq_place {w:World} {R:Nat} {s:ByteArray} {fl:Int} {i g d:Nat} (h:w.heap[R]? = some (.cells (rdC s fl i g d) 53)) (j:Nat) {v:Int} (hv:v=(j:Int)):(w.setCell ⟨R,2,none⟩ (.int .i64 v)).heap[R]? = some (.cells (rdC s fl j g d) 53):=by
 subst hv;simp [World.setCell,Array.getElem?_modify,h]
theorem bq_groups {w:World} {R:Nat} {s:ByteArray} {fl:Int} {i g d:Nat} (h:w.heap[R]? = some (.cells (rdC s fl i g d) 53)) (j:Nat) {v:Int} (hv:v=(j:Int)):(w.setCell ⟨R,3,none⟩ (.int .i64 v)).heap[R]? = some (.cells (rdC s fl i j d) 53):=by
 subst hv;simp [World.setCell,Array.getElem?_modify,h]
theorem bq_open {w:World} {R:Nat} {s:ByteArray} {fl:Int} {i g d:Nat} (h:w.heap[R]? = some (.cells (rdC s fl i g d) 53)) (j:Nat) {v:Int} (hv:v=(j:Int)):(w.setCell ⟨R,4,none⟩ (.int .i64 v)).heap[R]? = some (.cells (rdC s fl i g j) 53):=by
 subst hv;simp [World.setCell,Array.getElem?_modify,h]
def Gave (A:Nat→Addr) (B:Nat) (w:World) (e:Ending) (c:Nat) (p:Int):Prop :=
 ∃ v,e=.panicked [{ v:=.iface 93 (.agg #[v]),recovered:=false }]∧ErrOne A B w v c p
def BqEnd (A:Nat→Addr) (R:Nat) (s:ByteArray) (fl:Int) (d:Nat) (O:Ep.Out) (w:World) (e:Ending) (w':World):Prop :=
 (match O with
 | .ok t j g=>∃ v F,e=.returned (.agg (t.cells v))∧Owned w' v t.subs F∧(∀ b,b ∈ F→w.heap.size ≤ b)∧w'.heap[R]? = some (.cells (rdC s fl j g d) 53)
 | .err c p=>Gave A w.heap.size w' e c p)∧Touch [R] w w'
theorem BqEnd.ok {A:Nat→Addr} {R:Nat} {s:ByteArray} {fl:Int} {d:Nat} {O:Ep.Out} {w:World} {e:Ending} {w':World} (h:BqEnd A R s fl d O w e w') {t:Tr} {j g:Nat} (hO:O=.ok t j g) :
   ∃ v F,e=.returned (.agg (t.cells v))∧Owned w' v t.subs F∧(∀ b,b ∈ F→w.heap.size ≤ b)∧w'.heap[R]? = some (.cells (rdC s fl j g d) 53)∧Touch [R] w w':=by
 subst hO;obtain ⟨⟨v,F,h1,h2,h3,h4⟩,h5⟩:=h;exact ⟨v,F,h1,h2,h3,h4,h5⟩
theorem BqEnd.err {A:Nat→Addr} {R:Nat} {s:ByteArray} {fl:Int} {d:Nat} {O:Ep.Out} {w:World} {e:Ending} {w':World} (h:BqEnd A R s fl d O w e w') {c:Nat} {p:Int} (hO:O=.err c p) :
   ∃ v,e=.panicked [{ v:=.iface 93 (.agg #[v]),recovered:=false }]∧ErrOne A w.heap.size w' v c p∧Touch [R] w w':=by
 subst hO;obtain ⟨⟨v,h1,h2⟩,h5⟩:=h;exact ⟨v,h1,h2,h5⟩
theorem BqEnd.gave {A:Nat→Addr} {R:Nat} {s:ByteArray} {fl:Int} {d:Nat} {w W w':World} {v:Value} {c:Nat} {p:Int} (hv:ErrOne A W.heap.size w' v c p) (hw:w.heap.size ≤ W.heap.size) (ht:Touch [R] w w') :
   BqEnd A R s fl d (.err c p) w (.panicked [{ v:=.iface 93 (.agg #[v]),recovered:=false }]) w':=⟨⟨v,rfl,hv.down hw⟩,ht⟩
theorem giveup_any (q:Value) (w:World) :
   Calls Tryz.prog 54 #[.iface 63 q] w fun e w'=>e=.panicked [{ v:=.iface 93 (.agg #[.iface 63 q]),recovered:=false }]∧w=w':=by
 go_enter Tryz.func54,Tryz.ntmps54
 go_wp2
 exact ⟨rfl,rfl,rfl⟩
def Pre (p:ByteArray) (s:ByteArray) (i:Nat) (b:Bool):Prop:=∀ w,Calls Tryz.prog 130 #[.string (s.extract i s.size),.string p] w fun e w'=>e=.returned (.bool b)∧w'=w
theorem pre_one (s:ByteArray) (i:Nat) (c:UInt8) (b:Bool) (hb:(bt s i == c.toNat)=b):Pre ⟨#[c]⟩ s i b:=fun w=>by
 refine (Tryz.strings_HasPrefix (s.extract i s.size) ⟨#[c]⟩ w).mono ?_
 rintro e w' ⟨rfl,rfl⟩
 refine ⟨?_,rfl⟩
 rw [← hb]
 have:=bt_ext s i 0
 rw [bt_list,Nat.add_zero] at this
 rw [← this]
 exact ret_bool (one_prefix _ c)
theorem pre_two (s:ByteArray) (i:Nat) (x y:UInt8) (b:Bool) (hb:Bp.two (bt s) x.toNat y.toNat i=b):Pre ⟨#[x,y]⟩ s i b:=fun w=>by
 refine (hasp (s.extract i s.size) x y b ?_ w).mono ?_
 · rw [← hb,bt_ext,bt_ext];rfl
 · rintro e w' ⟨h1,h2⟩;exact ⟨h1,h2.symm⟩
theorem bqstands_any (p:ByteArray) (b:Bool) (w0:World) (A:Nat→Addr) (w:World) (R:Nat) (s:ByteArray) (_hs:s.size ≤ 4294967280) (fl:Int) (i g d:Nat) (hR:BqAt w0 A w R s fl i g d) (hi:i ≤ s.size) (hp:Pre p s i b) :
   Calls Tryz.prog 93 #[.pointer (some ⟨R,0,none⟩),.string p] w fun e w'=>e=.returned (.bool b)∧∃ n,w'=w.drewN n:=by
 obtain ⟨c0,c1,c2,-,-⟩:=bq5 hR.cell
 have HI:Hid (∀ w,Calls Tryz.prog 130 #[.string (s.extract i s.size),.string p] w fun e w'=>e=.returned (.bool b)∧w'=w):=Lib.hid hp
 have hi0:(0:Int) ≤ i:=by omega
 have hi1:(i:Int) ≤ s.size:=by omega
 clear hR hp
 go_enter Tryz.func93,Tryz.ntmps93
 go_wp2
 go_quiet ((go_at_call 130;exact Calls.quiet_of_same (HI.out _)))
 go_wp2
 go_ret
 exact ⟨rfl,_,rfl⟩
theorem bqtakes_no (p:ByteArray) (w0:World) (A:Nat→Addr) (w:World) (R:Nat) (s:ByteArray) (hs:s.size ≤ 4294967280) (fl:Int) (i g d:Nat) (hR:BqAt w0 A w R s fl i g d) (hi:i ≤ s.size) (hp:Pre p s i false) :
   Calls Tryz.prog 92 #[.pointer (some ⟨R,0,none⟩),.string p] w fun e w'=>e=.returned (.bool false)∧∃ n,w'=w.drewN n:=by
 have HS:=Lib.hid (bqstands_any p false w0 A w R s hs fl i g d hR hi hp)
 clear hR hp
 go_enter Tryz.func92,Tryz.ntmps92
 go_wp2_with fail
 refine HS.out.mono ?_
 rintro e w1 ⟨rfl,n,rfl⟩
 go_wp2
 go_ret
 exact ⟨rfl,_,rfl⟩
theorem bqtakes_yes (p:ByteArray) (k:Nat) (hk:p.size=k) (w0:World) (A:Nat→Addr) (w:World) (R:Nat) (s:ByteArray) (hs:s.size ≤ 4294967280) (fl:Int) (i g d:Nat) (hR:BqAt w0 A w R s fl i g d) (hi:i+k ≤ s.size) (hp:Pre p s i true) :
   Calls Tryz.prog 92 #[.pointer (some ⟨R,0,none⟩),.string p] w fun e w'=>e=.returned (.bool true)∧w'.heap[R]? = some (.cells (rdC s fl (i+k) g d) 53)∧Touch [R] w w':=by
 have HS:=Lib.hid (bqstands_any p true w0 A w R s hs fl i g d hR (by omega) hp)
 have HR:=Lib.hid hR
 have hw:IntKind.i64.wrap ((i:Int)+p.size)=(i:Int)+p.size:=IntWalk.i64_in _ (by omega)
 have h1:(i:Int)+p.size ≤ 4294967280:=by omega
 have hv:(i:Int)+p.size=((i+k:Nat):Int):=by omega
 have HV:=Lib.hid hv
 clear hR hp hk hv
 go_enter Tryz.func92,Tryz.ntmps92
 go_wp2_with fail
 refine HS.out.mono ?_
 rintro e w1 ⟨rfl,n,rfl⟩
 have HR1:Hid (BqAt w0 A (w.drewN n) R s fl i g d):=Lib.hid (HR.out.later (drewN_below (Below.refl _ _) n))
 have HT1:Hid (Touch [R] w (w.drewN n)):=Lib.hid ((Touch.refl [R] w).drewN n)
 clear HR HS
 generalize World.drewN w n=W at *
 obtain ⟨-,-,c2,-,-⟩:=bq5 HR1.out.cell
 obtain ⟨f2,-,-⟩:=bqf HR1.out.cell
 go_wp2
 go_ret
 exact ⟨rfl,bq_place HR1.out.cell (i+k) HV.out,HT1.out.setCell List.mem_cons_self 2 _⟩
theorem bqfails_any (w0:World) (A:Nat→Addr) (k:Nat) (hk:k < 21) (w:World) (R:Nat) (s:ByteArray) (fl:Int) (i g d:Nat) (hR:BqAt w0 A w R s fl i g d) :
   Calls Tryz.prog 56 #[.pointer (some ⟨R,0,none⟩),.iface 232 (.pointer (some (A k)))] w (BqEnd A R s fl d (.err (k+1) i) w):=by
 obtain ⟨c0,c1,c2,-,-⟩:=bq5 hR.cell
 clear hR
 go_enter Tryz.func56,Tryz.ntmps56
 go_wp2_with fail
 refine (at_err A k hk i _).mono ?_
 rintro e w1 ⟨v,rfl,hv,hb⟩
 obtain ⟨q,rfl⟩:=hv.iface
 have HG:=Lib.hid (BqEnd.gave (R:=R) (s:=s) (fl:=fl) (d:=d) hv (Nat.le_refl _) (Touch.of_below _ hb))
 clear hb hv c0 c1 c2
 go_wp2_with fail
 refine (giveup_any q _).mono ?_
 rintro e w2 ⟨rfl,rfl⟩
 go_wp2
 exact ⟨rfl,HG.out⟩
def BqPl (R:Nat) (s:ByteArray) (fl:Int) (g d:Nat) (t:Tr) (j:Nat) (w:World) (e:Ending) (w':World):Prop :=
 e=.returned (.agg (t.cells (.slice none 0 0)))∧w'.heap[R]? = some (.cells (rdC s fl j g d) 53)∧Touch [R] w w'
theorem bqplain_any (w0:World) (A:Nat→Addr) (w:World) (R:Nat) (s:ByteArray) (hs:s.size ≤ 4294967280) (fl:Int) (i g d:Nat) (hR:BqAt w0 A w R s fl i g d) (hi:i < s.size) :
   Calls Tryz.prog 95 #[.pointer (some ⟨R,0,none⟩)] w (BqPl R s fl g d (Ep.one (icB fl) (bt s i)) (i+1) w):=by
 have hlt:=hR.lt
 have hb0:Below w.heap.size w (w.alloc (.cells noNode 28)):=(Below.refl _ _).alloc (Nat.le_refl _) _
 have hR1:=hR.later hb0
 have hi0:(0:Int) ≤ i:=by omega
 have hi1:(i:Int) < s.size:=by omega
 have hx:Value.int .u8 (s[i].toNat:Int)=Value.int .u8 ((bt s i:Nat):Int):=by rw [bt_at hi]
 have hbt:bt s i < 256:=(bt_txt s).1 i hi
 have HR1:=Lib.hid hR1
 have Z1:=Lib.hid (heap_alloc_new w (.cells noNode 28))
 have HB1:=Lib.hid hb0
 have HX:=Lib.hid hx
 have hRw:R ≠ w.heap.size:=by omega
 have hw:IntKind.i64.wrap ((i:Int)+1)=(i:Int)+1:=IntWalk.i64_in _ (by omega)
 obtain ⟨c0,-,c2,-,-⟩:=bq5 hR1.cell
 clear hR hR1 hb0 hx
 go_enter Tryz.func95,Tryz.ntmps95
 go_wp2
 go_quiet (fail)
 simp only [HX.out]
 have HR2:Hid (BqAt w0 A ((w.alloc (.cells noNode 28)).drewN nq) R s fl i g d):=Lib.hid (HR1.out.later (drewN_below (Below.refl _ _) nq))
 have Z2:Hid (((w.alloc (.cells noNode 28)).drewN nq).heap[w.heap.size]? = some (.cells noNode 28)):=Lib.hid Z1.out
 have HB2:Hid (Below w.heap.size w ((w.alloc (.cells noNode 28)).drewN nq)):=Lib.hid (drewN_below HB1.out nq)
 clear hi hi0 hi1 HX c0 c2 HR1 Z1 HB1
 generalize World.drewN _ nq=W at *
 obtain ⟨-,c1,c2,-,-⟩:=bq5 HR2.out.cell
 obtain ⟨f2,-,-⟩:=bqf HR2.out.cell
 have HP:=Lib.hid (bq_place HR2.out.cell (i+1) (v:=(i:Int)+1) (by omega))
 have HT:=Lib.hid ((Touch.of_below [R] HB2.out).setCell List.mem_cons_self 2 (.int .i64 ((i:Int)+1)))
 have Z4:=Lib.hid ((Below.heap_setCell W ⟨R,2,none⟩ (.int .i64 ((i:Int)+1)) w.heap.size (Ne.symm hRw)).trans Z2.out)
 clear HR2 HB2 Z2
 go_wp2_with fail
 refine (ptplain_any (bt s i) hbt fl _).mono ?_
 rintro e w5 ⟨rfl,hb5⟩
 have HP5:=Lib.hid (keep_blk hb5 HP.out);have HT5:=Lib.hid (HT.out.later hb5);have Z5:=Lib.hid (keep_blk hb5 Z4.out)
 clear c1 c2 f2 hb5 HP HT Z4
 generalize Ep.one (icB fl) (bt s i)=T at *
 unfold Tr.cells
 go_wp2_with (first
   | (refine wpList_store_row rfl 28 (.tmp 2) (.tmp 25) rfl w.heap.size #[.int .i64 T.kind,.int .u64 (Oc.U T.w0),.int .u64 (Oc.U T.w1),.int .u64 (Oc.U T.w2),.int .u64 (Oc.U T.w3),.slice none 0 0,.int .i64 T.num,.int .i64 T.least,.int .i64 T.most,.bool T.bare] rfl rfl 28 _ Z5.out (by kernel_rfl) rfl (by simp [Value.oneCell']) ?_)
   | fail)
 exact bodyPost_ret (results_cell_row rfl _ _ w.heap.size 28 #[.int .i64 T.kind,.int .u64 (Oc.U T.w0),.int .u64 (Oc.U T.w1),.int .u64 (Oc.U T.w2),.int .u64 (Oc.U T.w3),.slice none 0 0,.int .i64 T.num,.int .i64 T.least,.int .i64 T.most,.bool T.bare] (0,0) _ rfl (heap_setRow Z5.out) Tryz.underlying28 rfl (by kernel_rfl)) rfl ⟨rfl,(heap_setRow_other _ _ _ hRw).trans HP5.out,HT5.out.setRow_new (Nat.le_refl _) _⟩
end Go.Proofs.YtfcilopifjddpaaGreatDoor
