/- What an item of a bracket expression is read to. -/
import Derived.Test.YtbpecijdmhablaaDoorBrDo1
import Derived.Test.YtbpecijdmhablaaDoorClKnown
import Derived.Test.YtbpecijdmhablaaDoorOcRange
import Derived.Deep.QuietTactic
import Derived.BigQuiet
import Derived.RegionTactic
import Derived.ChangeAlike
namespace Go.Proofs.YtbpecijdmhablaaDoor
open Go.RowKit
theorem dotted_ext (s : ByteArray) (i : Nat) : Br.dotted (bt (s.extract i s.size)) 0 = Br.dotted (bt s) i := by unfold Br.dotted; rw [bt_ext, bt_ext]; rfl
theorem colon_ext (s : ByteArray) (i : Nat) : Br.colon (bt (s.extract i s.size)) 0 = Br.colon (bt s) i := by unfold Br.colon; rw [bt_ext, bt_ext]; rfl
theorem coll_at (s : ByteArray) (i : Nat) (b : Bool) (hb : Br.dotted (bt s) i = b) (w : World) : Calls Tryd.prog 50 #[.string (s.extract i s.size)] w fun e w' => e = .returned (.bool b) ∧ w = w' := by
  have := opens_coll (s.extract i s.size) w; rw [dotted_ext, hb] at this; exact this
theorem class_at (s : ByteArray) (i : Nat) (b : Bool) (hb : Br.colon (bt s) i = b) (w : World) : Calls Tryd.prog 52 #[.string (s.extract i s.size)] w fun e w' => e = .returned (.bool b) ∧ w = w' := by
  have := opens_class (s.extract i s.size) w; rw [colon_ext, hb] at this; exact this
theorem range_p (lo hi : Nat) (h1 : lo < 256) (h2 : hi < 256) (w : World) : Calls Tryd.prog 62 #[.int .u8 lo, .int .u8 hi] w fun e w' =>
    e = .returned (.agg #[.int .u64 (Oc.U (Oc.mk (Br.rng lo hi) 0)), .int .u64 (Oc.U (Oc.mk (Br.rng lo hi) 1)), .int .u64 (Oc.U (Oc.mk (Br.rng lo hi) 2)), .int .u64 (Oc.U (Oc.mk (Br.rng lo hi) 3))]) ∧ Below w.heap.size w w' := by
  have e : ∀ q, Oc.mk (upto lo (hi + 1)) q = Oc.mk (Br.rng lo hi) q := fun q => Oc.mk_eq fun i hi' => by
    rw [Oc.mk_bit _ _ _ hi']; unfold upto Br.rng
    rw [Bool.eq_iff_iff]; simp; omega
  have := range_any lo hi h1 h2 w
  rw [e, e, e, e] at this
  exact this
theorem setP_one (P : Nat → Bool) : (#[.int .u64 (Oc.U (Oc.mk (P) 0)), .int .u64 (Oc.U (Oc.mk (P) 1)), .int .u64 (Oc.U (Oc.mk (P) 2)), .int .u64 (Oc.U (Oc.mk (P) 3))] : Array Value).all (·.oneCell') = true := setC_one
theorem drewN_below {B : Nat} {w w' : World} (h : Below B w w') (n : Nat) : Below B w (w'.drewN n) := h.trans ⟨rfl, rfl, rfl, Nat.le_refl _, fun _ _ => rfl⟩
set_option maxRecDepth 100000 in
set_option maxHeartbeats 4000000 in
theorem span_coll (A : Nat → Addr) (s : ByteArray) (hs : s.size ≤ 4294967280) (a i : Nat) (hi : i + 2 < s.size) (hd : Br.dotted (bt s) (i + 2) = true) (w : World) (hE : BrEnv w A) :
    Calls Tryd.prog 54 #[.agg #[.string s, .int .i64 a], .int .i64 i] w (ItEnd A (.err 7 ((i : Int) + 2)) w) := by
  have h1 := bt_at (show i < s.size by omega)
  have h2 := bt_at hi
  have hw : IntKind.i64.wrap ((i : Int) + 2) = (i : Int) + 2 := IntWalk.i64_in _ (by omega)
  have hi1 : (0 : Int) ≤ i := by omega
  have hi2 : (i : Int) < s.size := by omega
  have hi3 : (0 : Int) ≤ (i : Int) + 2 := by omega
  have hi4 : (i : Int) + 2 < s.size := by omega
  have hx256 : bt s i < 256 := (bt_txt s).1 i (by omega)
  have hy256 : bt s (i + 2) < 256 := (bt_txt s).1 (i + 2) hi
  have HD := Lib.hid (coll_at s (i + 2) _ hd)
  have HE := Lib.hid hE
  clear hE hd
  generalize bt s i = x at *
  generalize bt s (i + 2) = y at *
  go_enter Tryd.func54, Tryd.ntmps54
  go_wp2
  go_quiet (fail)
  generalize hW : World.drewN _ _ = W at *
  have Z : W.heap[w.heap.size + 1]? = some (.cells noSet 25) := by rw [← hW]; exact (two_new w _ _).2
  have Z0 : W.heap[w.heap.size]? = some (.cells #[.string s, .int .i64 a] 45) := by rw [← hW]; exact (two_new w _ _).1
  have hb0 : Below w.heap.size w W := by rw [← hW]; exact drewN_below (by go_grown) _
  have hsz : W.heap.size = w.heap.size + 2 := by rw [← hW]; simp
  have HE' := Lib.hid (HE.out.below hb0)
  have c6 : W.cell? ⟨7, 0, none⟩ = some (.iface 115 (.pointer (some (A 6)))) := (HE'.out.errs 6 (by omega)).1
  have ZZ := Lib.hid Z; have HB0 := Lib.hid hb0; have HSZ := Lib.hid hsz
  clear hW Z hb0 hsz
  clear Z0
  go_wp2_with fail
  refine (HD.out _).mono ?_; rintro e w' ⟨rfl, rfl⟩
  go_wp2_with fail
  refine (at_err A 6 (by omega) ((i : Int) + 2) _).mono ?_
  rintro e w1 ⟨v, rfl, hv, hb⟩
  have Z := Lib.hid (keep_blk hb ZZ.out)
  have HB := Lib.hid (HB0.out.trans (hb.mono HB0.out.size))
  have HV := Lib.hid hv
  clear hb hv
  go_wp2_with (first
    | (refine wpList_store_row rfl 25 (.tmp 4) (.tmp 28) rfl (w.heap.size + 1) noSet rfl rfl 25 _ Z.out (by kernel_rfl) rfl noSet_one ?_)
    | fail)
  exact bodyPost_ret (results_row_two rfl _ _ (w.heap.size + 1) 25 noSet (0, 0) _ _ _ rfl rfl rfl (heap_setRow Z.out) Tryd.underlying25 rfl (by kernel_rfl)) rfl ⟨⟨v, rfl, (HV.out.setRow (by rw [HSZ.out]; omega) noSet).down HB0.out.size⟩, below_setRow HB.out (Nat.le_succ _) _⟩
set_option maxRecDepth 100000 in
set_option maxHeartbeats 4000000 in
theorem span_class (A : Nat → Addr) (s : ByteArray) (hs : s.size ≤ 4294967280) (a i : Nat) (hi : i + 2 < s.size) (hd : Br.dotted (bt s) (i + 2) = false) (hc : Br.colon (bt s) (i + 2) = true) (w : World) (hE : BrEnv w A) :
    Calls Tryd.prog 54 #[.agg #[.string s, .int .i64 a], .int .i64 i] w (ItEnd A (.err 5 i) w) := by
  have h1 := bt_at (show i < s.size by omega)
  have h2 := bt_at hi
  have hw : IntKind.i64.wrap ((i : Int) + 2) = (i : Int) + 2 := IntWalk.i64_in _ (by omega)
  have hi1 : (0 : Int) ≤ i := by omega
  have hi2 : (i : Int) < s.size := by omega
  have hi3 : (0 : Int) ≤ (i : Int) + 2 := by omega
  have hi4 : (i : Int) + 2 < s.size := by omega
  have hx256 : bt s i < 256 := (bt_txt s).1 i (by omega)
  have hy256 : bt s (i + 2) < 256 := (bt_txt s).1 (i + 2) hi
  have HD := Lib.hid (coll_at s (i + 2) _ hd)
  have HC := Lib.hid (class_at s (i + 2) _ hc)
  have HE := Lib.hid hE
  clear hE hd hc
  generalize bt s i = x at *
  generalize bt s (i + 2) = y at *
  go_enter Tryd.func54, Tryd.ntmps54
  go_wp2
  go_quiet (fail)
  generalize hW : World.drewN _ _ = W at *
  have Z : W.heap[w.heap.size + 1]? = some (.cells noSet 25) := by rw [← hW]; exact (two_new w _ _).2
  have Z0 : W.heap[w.heap.size]? = some (.cells #[.string s, .int .i64 a] 45) := by rw [← hW]; exact (two_new w _ _).1
  have hb0 : Below w.heap.size w W := by rw [← hW]; exact drewN_below (by go_grown) _
  have hsz : W.heap.size = w.heap.size + 2 := by rw [← hW]; simp
  have HE' := Lib.hid (HE.out.below hb0)
  have c4 : W.cell? ⟨5, 0, none⟩ = some (.iface 115 (.pointer (some (A 4)))) := (HE'.out.errs 4 (by omega)).1
  have ZZ := Lib.hid Z; have HB0 := Lib.hid hb0; have HSZ := Lib.hid hsz
  clear hW Z hb0 hsz
  clear Z0
  go_wp2_with fail
  refine (HD.out _).mono ?_; rintro e w' ⟨rfl, rfl⟩
  go_wp2_with fail
  refine (HC.out _).mono ?_; rintro e w' ⟨rfl, rfl⟩
  go_wp2_with fail
  refine (at_err A 4 (by omega) i _).mono ?_
  rintro e w1 ⟨v, rfl, hv, hb⟩
  have Z := Lib.hid (keep_blk hb ZZ.out)
  have HB := Lib.hid (HB0.out.trans (hb.mono HB0.out.size))
  have HV := Lib.hid hv
  clear hb hv
  go_wp2_with (first
    | (refine wpList_store_row rfl 25 (.tmp 4) (.tmp 38) rfl (w.heap.size + 1) noSet rfl rfl 25 _ Z.out (by kernel_rfl) rfl noSet_one ?_)
    | fail)
  exact bodyPost_ret (results_row_two rfl _ _ (w.heap.size + 1) 25 noSet (0, 0) _ _ _ rfl rfl rfl (heap_setRow Z.out) Tryd.underlying25 rfl (by kernel_rfl)) rfl ⟨⟨v, rfl, (HV.out.setRow (by rw [HSZ.out]; omega) noSet).down HB0.out.size⟩, below_setRow HB.out (Nat.le_succ _) _⟩
set_option maxRecDepth 100000 in
set_option maxHeartbeats 4000000 in
theorem span_less (A : Nat → Addr) (s : ByteArray) (hs : s.size ≤ 4294967280) (a i : Nat) (hi : i + 2 < s.size) (hd : Br.dotted (bt s) (i + 2) = false) (hc : Br.colon (bt s) (i + 2) = false) (hlt : bt s (i + 2) < bt s i) (w : World) (hE : BrEnv w A) :
    Calls Tryd.prog 54 #[.agg #[.string s, .int .i64 a], .int .i64 i] w (ItEnd A (.err 5 i) w) := by
  have h1 := bt_at (show i < s.size by omega)
  have h2 := bt_at hi
  have hw : IntKind.i64.wrap ((i : Int) + 2) = (i : Int) + 2 := IntWalk.i64_in _ (by omega)
  have hi1 : (0 : Int) ≤ i := by omega
  have hi2 : (i : Int) < s.size := by omega
  have hi3 : (0 : Int) ≤ (i : Int) + 2 := by omega
  have hi4 : (i : Int) + 2 < s.size := by omega
  have hx256 : bt s i < 256 := (bt_txt s).1 i (by omega)
  have hy256 : bt s (i + 2) < 256 := (bt_txt s).1 (i + 2) hi
  have HD := Lib.hid (coll_at s (i + 2) _ hd)
  have HC := Lib.hid (class_at s (i + 2) _ hc)
  have HE := Lib.hid hE
  clear hE hd hc
  generalize bt s i = x at *
  generalize bt s (i + 2) = y at *
  have hl : decide (y < x) = true := by simpa using hlt
  clear hlt
  go_enter Tryd.func54, Tryd.ntmps54
  go_wp2
  go_quiet (fail)
  generalize hW : World.drewN _ _ = W at *
  have Z : W.heap[w.heap.size + 1]? = some (.cells noSet 25) := by rw [← hW]; exact (two_new w _ _).2
  have Z0 : W.heap[w.heap.size]? = some (.cells #[.string s, .int .i64 a] 45) := by rw [← hW]; exact (two_new w _ _).1
  have hb0 : Below w.heap.size w W := by rw [← hW]; exact drewN_below (by go_grown) _
  have hsz : W.heap.size = w.heap.size + 2 := by rw [← hW]; simp
  have HE' := Lib.hid (HE.out.below hb0)
  have c4 : W.cell? ⟨5, 0, none⟩ = some (.iface 115 (.pointer (some (A 4)))) := (HE'.out.errs 4 (by omega)).1
  have ZZ := Lib.hid Z; have HB0 := Lib.hid hb0; have HSZ := Lib.hid hsz
  clear hW Z hb0 hsz
  clear Z0
  go_wp2_with fail
  refine (HD.out _).mono ?_; rintro e w' ⟨rfl, rfl⟩
  go_wp2_with fail
  refine (HC.out _).mono ?_; rintro e w' ⟨rfl, rfl⟩
  go_wp2_with fail
  refine (at_err A 4 (by omega) i _).mono ?_
  rintro e w1 ⟨v, rfl, hv, hb⟩
  have Z := Lib.hid (keep_blk hb ZZ.out)
  have HB := Lib.hid (HB0.out.trans (hb.mono HB0.out.size))
  have HV := Lib.hid hv
  clear hb hv
  go_wp2_with (first
    | (refine wpList_store_row rfl 25 (.tmp 4) (.tmp 38) rfl (w.heap.size + 1) noSet rfl rfl 25 _ Z.out (by kernel_rfl) rfl noSet_one ?_)
    | fail)
  exact bodyPost_ret (results_row_two rfl _ _ (w.heap.size + 1) 25 noSet (0, 0) _ _ _ rfl rfl rfl (heap_setRow Z.out) Tryd.underlying25 rfl (by kernel_rfl)) rfl ⟨⟨v, rfl, (HV.out.setRow (by rw [HSZ.out]; omega) noSet).down HB0.out.size⟩, below_setRow HB.out (Nat.le_succ _) _⟩
set_option maxRecDepth 100000 in
set_option maxHeartbeats 4000000 in
theorem span_ok (A : Nat → Addr) (s : ByteArray) (hs : s.size ≤ 4294967280) (a i : Nat) (hi : i + 2 < s.size) (hd : Br.dotted (bt s) (i + 2) = false) (hc : Br.colon (bt s) (i + 2) = false) (hlt : ¬ bt s (i + 2) < bt s i) (w : World) (hE : BrEnv w A) :
    Calls Tryd.prog 54 #[.agg #[.string s, .int .i64 a], .int .i64 i] w (ItEnd A (.ok (Br.rng (bt s i) (bt s (i + 2))) (i + 3)) w) := by
  have h1 := bt_at (show i < s.size by omega)
  have h2 := bt_at hi
  have hw : IntKind.i64.wrap ((i : Int) + 2) = (i : Int) + 2 := IntWalk.i64_in _ (by omega)
  have hi1 : (0 : Int) ≤ i := by omega
  have hi2 : (i : Int) < s.size := by omega
  have hi3 : (0 : Int) ≤ (i : Int) + 2 := by omega
  have hi4 : (i : Int) + 2 < s.size := by omega
  have hx256 : bt s i < 256 := (bt_txt s).1 i (by omega)
  have hy256 : bt s (i + 2) < 256 := (bt_txt s).1 (i + 2) hi
  have HD := Lib.hid (coll_at s (i + 2) _ hd)
  have HC := Lib.hid (class_at s (i + 2) _ hc)
  have HE := Lib.hid hE
  clear hE hd hc
  generalize bt s i = x at *
  generalize bt s (i + 2) = y at *
  have hl : decide (y < x) = false := by simpa using hlt
  have hw3 : IntKind.i64.wrap ((i : Int) + 2 + 1) = (i : Int) + 3 := by rw [IntWalk.i64_in _ (by omega)]; omega
  clear hlt
  go_enter Tryd.func54, Tryd.ntmps54
  go_wp2
  go_quiet (fail)
  generalize hW : World.drewN _ _ = W at *
  have Z : W.heap[w.heap.size + 1]? = some (.cells noSet 25) := by rw [← hW]; exact (two_new w _ _).2
  have Z0 : W.heap[w.heap.size]? = some (.cells #[.string s, .int .i64 a] 45) := by rw [← hW]; exact (two_new w _ _).1
  have hb0 : Below w.heap.size w W := by rw [← hW]; exact drewN_below (by go_grown) _
  have hsz : W.heap.size = w.heap.size + 2 := by rw [← hW]; simp
  have HE' := Lib.hid (HE.out.below hb0)
  have ZZ := Lib.hid Z; have HB0 := Lib.hid hb0; have HSZ := Lib.hid hsz
  clear hW Z hb0 hsz
  clear Z0
  go_wp2_with fail
  refine (HD.out _).mono ?_; rintro e w' ⟨rfl, rfl⟩
  go_wp2_with fail
  refine (HC.out _).mono ?_; rintro e w' ⟨rfl, rfl⟩
  go_wp2_with fail
  refine (range_p x y hx256 hy256 _).mono ?_
  rintro e w1 ⟨rfl, hb⟩
  have Z := Lib.hid (keep_blk hb ZZ.out)
  have HB := Lib.hid (HB0.out.trans (hb.mono HB0.out.size))
  clear hb
  go_wp2_with (first
    | (refine wpList_store_row rfl 25 (.tmp 4) (.tmp 44) rfl (w.heap.size + 1) #[.int .u64 (Oc.U (Oc.mk (Br.rng x y) 0)), .int .u64 (Oc.U (Oc.mk (Br.rng x y) 1)), .int .u64 (Oc.U (Oc.mk (Br.rng x y) 2)), .int .u64 (Oc.U (Oc.mk (Br.rng x y) 3))] rfl rfl 25 _ Z.out (by kernel_rfl) rfl (setP_one _) ?_)
    | fail)
  exact bodyPost_ret (results_row_two rfl _ _ (w.heap.size + 1) 25 #[.int .u64 (Oc.U (Oc.mk (Br.rng x y) 0)), .int .u64 (Oc.U (Oc.mk (Br.rng x y) 1)), .int .u64 (Oc.U (Oc.mk (Br.rng x y) 2)), .int .u64 (Oc.U (Oc.mk (Br.rng x y) 3))] (0, 0) _ _ _ rfl rfl rfl (heap_setRow Z.out) Tryd.underlying25 rfl (by kernel_rfl)) rfl ⟨by first | rfl | (push_cast; rfl), below_setRow HB.out (Nat.le_succ _) _⟩
theorem span_any (A : Nat → Addr) (s : ByteArray) (hs : s.size ≤ 4294967280) (a i : Nat) (hi : i + 2 < s.size) (w : World) (hE : BrEnv w A) :
    Calls Tryd.prog 54 #[.agg #[.string s, .int .i64 a], .int .i64 i] w (ItEnd A (Br.ranged (bt s) i) w) := by
  unfold Br.ranged
  cases hd : Br.dotted (bt s) (i + 2) with
  | true => exact span_coll A s hs a i hi hd w hE
  | false =>
    cases hc : Br.colon (bt s) (i + 2) with
    | true => exact span_class A s hs a i hi hd hc w hE
    | false =>
      by_cases hlt : bt s (i + 2) < bt s i
      · have h := span_less A s hs a i hi hd hc hlt w hE
        simpa [hlt] using h
      · have h := span_ok A s hs a i hi hd hc hlt w hE
        simpa [hlt] using h
end Go.Proofs.YtbpecijdmhablaaDoor
