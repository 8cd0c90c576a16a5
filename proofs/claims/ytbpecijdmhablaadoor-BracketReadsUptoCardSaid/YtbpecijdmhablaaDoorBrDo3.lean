/- What an item of a bracket expression is read to: a class's name, and any item. -/
import Derived.Test.YtbpecijdmhablaaDoorBrDo2
namespace Go.Proofs.YtbpecijdmhablaaDoor
open Go.RowKit
theorem ext_ext (s : ByteArray) (k m : Nat) (h : k + m ≤ s.size) : (s.extract k s.size).extract 0 m = s.extract k (k + m) := by
  have e : ((s.extract k s.size).extract 0 m).data.toList = (s.extract k (k + m)).data.toList := by
    simp only [ByteArray.data_extract, Array.toList_extract, List.extract_eq_take_drop, List.drop_zero]
    have : s.size = s.data.toList.length := by simp
    rw [List.take_take]; congr 1; omega
  cases h1 : (s.extract k s.size).extract 0 m with
  | mk x => cases h2 : s.extract k (k + m) with
    | mk y => rw [h1, h2] at e; simp only at e; rw [Array.toList_inj.1 e]
theorem cut_none {A : Nat → Addr} (s : ByteArray) (hs : s.size ≤ 4294967280) (k : Nat) (hc : Br.clos (bt s) (s.size - (k + 1)) k = none) (w : World) (hE : BrEnv w A) :
    Calls Tryd.prog 60 #[.string (s.extract k s.size), .string ⟨#[58, 93]⟩] w fun e w' => e = .returned (.tuple #[.string (s.extract k s.size), .string ByteArray.empty, .bool false]) ∧ ∃ n, w' = w.drewN n := by
  obtain ⟨m, hm⟩ := hE.idx
  have hz : (s.extract k s.size).size < 4294967281 := by simp; omega
  have h := Tryd.strings_Cut (s.extract k s.size) ⟨#[58, 93]⟩ m w hz hm
  obtain ⟨e1, e2, e3⟩ := Lib.cutB_miss _ _ (index_noclos hc)
  rw [e1, e2, e3] at h; exact h
theorem cut_some {A : Nat → Addr} (s : ByteArray) (hs : s.size ≤ 4294967280) (k m : Nat) (hc : Br.clos (bt s) (s.size - (k + 1)) k = some (k + m)) (w : World) (hE : BrEnv w A) :
    Calls Tryd.prog 60 #[.string (s.extract k s.size), .string ⟨#[58, 93]⟩] w fun e w' => ∃ r, e = .returned (.tuple #[.string (s.extract k (k + m)), .string r, .bool true]) ∧ ∃ n, w' = w.drewN n := by
  obtain ⟨mx, hm⟩ := hE.idx
  have hz : (s.extract k s.size).size < 4294967281 := by simp; omega
  have h := Tryd.strings_Cut (s.extract k s.size) ⟨#[58, 93]⟩ mx w hz hm
  obtain ⟨g1, g2, g3, g4, -⟩ := Br.clos_some hc
  have hlt := (bt_txt s).lt g4 (by omega)
  have hix := index_clos hc
  rw [show k + m - k = m by omega] at hix
  obtain ⟨e1, e2, e3⟩ := Lib.cutB_hit _ _ m hix
  rw [e1, e2, e3, ext_ext s k m (by omega)] at h
  exact h.mono fun e w' hh => ⟨_, hh⟩
theorem of_p (x : Nat) (hx : x < 256) (v : Int) (hv : v = (x : Int)) (w : World) (g : Nat) (hg : w.heap.size = g) (t : TypeId) :
    Calls Tryd.prog 14 #[.slice (some ⟨g, 0, none⟩) 1 1] (w.alloc (.cells #[.int .u8 v] t))
      fun e w' => e = .returned (.agg #[.int .u64 (Oc.U (Oc.mk (fun b => b == x) 0)), .int .u64 (Oc.U (Oc.mk (fun b => b == x) 1)), .int .u64 (Oc.U (Oc.mk (fun b => b == x) 2)), .int .u64 (Oc.U (Oc.mk (fun b => b == x) 3))]) ∧ Below (w.alloc (.cells #[.int .u8 v] t)).heap.size (w.alloc (.cells #[.int .u8 v] t)) w' := by
  have hb : Oc.anyB (oneOf x) 1 = fun b => b == x := by funext b; simp [Oc.anyB, oneOf]
  exact (of_one x hx v hv w g hg t _ _ _ _ (by rw [hb]) (by rw [hb]) (by rw [hb]) (by rw [hb])).mono fun e w' h => ⟨h.1, by simpa using h.2⟩
set_option maxRecDepth 100000 in
set_option maxHeartbeats 4000000 in
theorem brnamed_open (A : Nat → Addr) (s : ByteArray) (_hs : s.size ≤ 4294967280) (a i : Nat) (hi : i + 2 ≤ s.size) (hc : Br.clos (bt s) (s.size - (i + 3)) (i + 2) = none) (w : World) (hE : BrEnv w A) :
    Calls Tryd.prog 53 #[.agg #[.string s, .int .i64 a], .int .i64 i] w (ItEnd A (.err 1 a) w) := by
  have hw : IntKind.i64.wrap ((i : Int) + 2) = (i : Int) + 2 := IntWalk.i64_in _ (by omega)
  have hi3 : (0 : Int) ≤ (i : Int) + 2 := by omega
  have hi4 : (i : Int) + 2 ≤ s.size := by omega
  have HCUT := Lib.hid (fun w hE => cut_none (A := A) s _hs (i + 2) hc w hE)
  have HE := Lib.hid hE
  clear hE hc
  go_enter Tryd.func53, Tryd.ntmps53
  go_wp2_with fail
  refine (HCUT.out _ (HE.out.below (by go_grown))).mono ?_
  rintro e w' ⟨rfl, n, rfl⟩
  generalize hW : World.drewN _ _ = W at *
  have Z : W.heap[w.heap.size + 1]? = some (.cells noSet 25) := by rw [← hW]; exact (two_new w _ _).2
  have Z0 : W.heap[w.heap.size]? = some (.cells #[.string s, .int .i64 a] 45) := by rw [← hW]; exact (two_new w _ _).1
  have hb0 : Below w.heap.size w W := by rw [← hW]; exact drewN_below (by go_grown) _
  have hsz : W.heap.size = w.heap.size + 2 := by rw [← hW]; simp
  have HE' := Lib.hid (HE.out.below hb0)
  have ZZ := Lib.hid Z; have HB0 := Lib.hid hb0; have HSZ := Lib.hid hsz
  clear hW Z hb0 hsz
  have ZR := Lib.hid Z0
  clear Z0
  go_wp2_with (first
    | (refine wpList_load_row rfl 45 (.tmp 2) rfl w.heap.size rfl 45 _ (0, 0) _ ZR.out Tryd.underlying45 rfl (by kernel_rfl) ?_)
    | fail)
  refine (open_any A s a _ HE'.out).mono ?_
  intro e w1 he
  obtain ⟨v, rfl, hv, hb⟩ := he.err rfl
  obtain ⟨q, rfl⟩ := hv.iface
  have Z := Lib.hid (keep_blk hb ZZ.out)
  have HB := Lib.hid (HB0.out.trans (hb.mono HB0.out.size))
  have HV := Lib.hid hv
  clear hb hv he
  go_wp2_with (first
    | (refine wpList_store_row rfl 25 (.tmp 4) (.tmp 26) rfl (w.heap.size + 1) noSet rfl rfl 25 _ Z.out (by kernel_rfl) rfl noSet_one ?_)
    | fail)
  exact bodyPost_ret (results_row_two rfl _ _ (w.heap.size + 1) 25 noSet (0, 0) _ _ _ rfl rfl rfl (heap_setRow Z.out) Tryd.underlying25 rfl (by kernel_rfl)) rfl ⟨⟨_, rfl, (HV.out.setRow (by rw [HSZ.out]; omega) noSet).down HB0.out.size⟩, below_setRow HB.out (Nat.le_succ _) _⟩
set_option maxRecDepth 100000 in
set_option maxHeartbeats 4000000 in
theorem brnamed_no (A : Nat → Addr) (s : ByteArray) (_hs : s.size ≤ 4294967280) (a i : Nat) (m : Nat) (hm : i + m + 4 ≤ s.size) (hc : Br.clos (bt s) (s.size - (i + 3)) (i + 2) = some (i + 2 + m)) (hn : Cl.No (s.extract (i + 2) (i + 2 + m))) (w : World) (hE : BrEnv w A) :
    Calls Tryd.prog 53 #[.agg #[.string s, .int .i64 a], .int .i64 i] w (ItEnd A (.err 6 i) w) := by
  have hi : i + 2 ≤ s.size := by omega
  have hl : (s.extract (i + 2) (i + 2 + m)).size = m := by simp; omega
  have hw : IntKind.i64.wrap ((i : Int) + 2) = (i : Int) + 2 := IntWalk.i64_in _ (by omega)
  have hi3 : (0 : Int) ≤ (i : Int) + 2 := by omega
  have hi4 : (i : Int) + 2 ≤ s.size := by omega
  have HCUT := Lib.hid (fun w hE => cut_some (A := A) s _hs (i + 2) m hc w hE)
  have HE := Lib.hid hE
  have HN := Lib.hid (named_no _ hn)
  clear hE hc hn
  generalize s.extract (i + 2) (i + 2 + m) = t at *
  go_enter Tryd.func53, Tryd.ntmps53
  go_wp2_with fail
  refine (HCUT.out _ (HE.out.below (by go_grown))).mono ?_
  rintro e w' ⟨r, rfl, n, rfl⟩
  generalize hW : World.drewN _ _ = W at *
  have Z : W.heap[w.heap.size + 1]? = some (.cells noSet 25) := by rw [← hW]; exact (two_new w _ _).2
  have Z0 : W.heap[w.heap.size]? = some (.cells #[.string s, .int .i64 a] 45) := by rw [← hW]; exact (two_new w _ _).1
  have hb0 : Below w.heap.size w W := by rw [← hW]; exact drewN_below (by go_grown) _
  have hsz : W.heap.size = w.heap.size + 2 := by rw [← hW]; simp
  have HE' := Lib.hid (HE.out.below hb0)
  have c5 : W.cell? ⟨6, 0, none⟩ = some (.iface 115 (.pointer (some (A 5)))) := (HE'.out.errs 5 (by omega)).1
  have C5 := Lib.hid c5
  clear c5
  have ZZ := Lib.hid Z; have HB0 := Lib.hid hb0; have HSZ := Lib.hid hsz
  clear hW Z hb0 hsz
  have ZR := Lib.hid Z0
  clear Z0
  go_wp2_with fail
  refine (HN.out _ _ C5.out).mono ?_
  rintro e w1 ⟨rfl, hb⟩
  have hbA : Below W.heap.size W (w1.alloc (.cells noSet 25)) := hb.alloc hb.size _
  have Z := Lib.hid (keep_blk hbA ZZ.out)
  have HB := Lib.hid (HB0.out.trans (hbA.mono HB0.out.size))
  have HBA := Lib.hid hbA
  clear hb hbA
  go_wp2_with fail
  generalize World.alloc w1 _ = W2 at *
  refine (at_err A 5 (by omega) i _).mono ?_
  rintro e w3 ⟨v, rfl, hv, hb⟩
  have Y := Lib.hid (keep_blk hb Z.out)
  have HB3 := Lib.hid (HB.out.trans (hb.mono HB.out.size))
  have HV := Lib.hid (hv.down HBA.out.size)
  clear hb hv
  go_wp2_with (first
    | (refine wpList_store_row rfl 25 (.tmp 4) (.tmp 36) rfl (w.heap.size + 1) noSet rfl rfl 25 _ Y.out (by kernel_rfl) rfl noSet_one ?_)
    | fail)
  exact bodyPost_ret (results_row_two rfl _ _ (w.heap.size + 1) 25 noSet (0, 0) _ _ _ rfl rfl rfl (heap_setRow Y.out) Tryd.underlying25 rfl (by kernel_rfl)) rfl ⟨⟨v, rfl, (HV.out.setRow (by rw [HSZ.out]; omega) noSet).down HB0.out.size⟩, below_setRow HB3.out (Nat.le_succ _) _⟩
set_option maxRecDepth 100000 in
set_option maxHeartbeats 4000000 in
theorem brnamed_yes (A : Nat → Addr) (s : ByteArray) (_hs : s.size ≤ 4294967280) (a i : Nat) (m k : Nat) (hm : i + m + 4 ≤ s.size) (hc : Br.clos (bt s) (s.size - (i + 3)) (i + 2) = some (i + 2 + m)) (hk : Known (s.extract (i + 2) (i + 2 + m)) k) (w : World) (hE : BrEnv w A) :
    Calls Tryd.prog 53 #[.agg #[.string s, .int .i64 a], .int .i64 i] w (ItEnd A (.ok (Cl.cls k) (i + 2 + m + 2)) w) := by
  have hi : i + 2 ≤ s.size := by omega
  have hl : (s.extract (i + 2) (i + 2 + m)).size = m := by simp; omega
  have hw : IntKind.i64.wrap ((i : Int) + 2) = (i : Int) + 2 := IntWalk.i64_in _ (by omega)
  have hi3 : (0 : Int) ≤ (i : Int) + 2 := by omega
  have hi4 : (i : Int) + 2 ≤ s.size := by omega
  have HCUT := Lib.hid (fun w hE => cut_some (A := A) s _hs (i + 2) m hc w hE)
  have HE := Lib.hid hE
  have HK := Lib.hid hk.1
  have hw2 : IntKind.i64.wrap ((i : Int) + 2 + m) = (i : Int) + 2 + m := IntWalk.i64_in _ (by omega)
  have hw3 : IntKind.i64.wrap ((i : Int) + 2 + m + 2) = (i : Int) + 2 + m + 2 := IntWalk.i64_in _ (by omega)
  clear hE hc hk
  generalize s.extract (i + 2) (i + 2 + m) = t at *
  go_enter Tryd.func53, Tryd.ntmps53
  go_wp2_with fail
  refine (HCUT.out _ (HE.out.below (by go_grown))).mono ?_
  rintro e w' ⟨r, rfl, n, rfl⟩
  generalize hW : World.drewN _ _ = W at *
  have Z : W.heap[w.heap.size + 1]? = some (.cells noSet 25) := by rw [← hW]; exact (two_new w _ _).2
  have Z0 : W.heap[w.heap.size]? = some (.cells #[.string s, .int .i64 a] 45) := by rw [← hW]; exact (two_new w _ _).1
  have hb0 : Below w.heap.size w W := by rw [← hW]; exact drewN_below (by go_grown) _
  have hsz : W.heap.size = w.heap.size + 2 := by rw [← hW]; simp
  have HE' := Lib.hid (HE.out.below hb0)
  have ZZ := Lib.hid Z; have HB0 := Lib.hid hb0; have HSZ := Lib.hid hsz
  clear hW Z hb0 hsz
  have ZR := Lib.hid Z0
  clear Z0
  go_wp2_with fail
  refine (HK.out _).mono ?_
  rintro e w1 ⟨rfl, hb⟩
  have hbA : Below W.heap.size W (w1.alloc (.cells #[.int .u64 (Oc.U (Cl.cw k 0)), .int .u64 (Oc.U (Cl.cw k 1)), .int .u64 (Oc.U (Cl.cw k 2)), .int .u64 (Oc.U (Cl.cw k 3))] 25)) := hb.alloc hb.size _
  have Z := Lib.hid (keep_blk hbA ZZ.out)
  have ZK := Lib.hid (heap_alloc_new w1 (.cells #[.int .u64 (Oc.U (Cl.cw k 0)), .int .u64 (Oc.U (Cl.cw k 1)), .int .u64 (Oc.U (Cl.cw k 2)), .int .u64 (Oc.U (Cl.cw k 3))] 25))
  have HB := Lib.hid (HB0.out.trans (hbA.mono HB0.out.size))
  clear hb hbA
  go_wp2_with (first
    | (refine wpList_load_row rfl 25 (.tmp 10) rfl w1.heap.size rfl 25 _ (0, 0) _ ZK.out Tryd.underlying25 rfl (by kernel_rfl) ?_)
    | (refine wpList_store_row rfl 25 (.tmp 4) (.tmp 40) rfl (w.heap.size + 1) #[.int .u64 (Oc.U (Cl.cw k 0)), .int .u64 (Oc.U (Cl.cw k 1)), .int .u64 (Oc.U (Cl.cw k 2)), .int .u64 (Oc.U (Cl.cw k 3))] rfl rfl 25 _ Z.out (by kernel_rfl) rfl setC_one ?_)
    | fail)
  exact bodyPost_ret (results_row_two rfl _ _ (w.heap.size + 1) 25 #[.int .u64 (Oc.U (Cl.cw k 0)), .int .u64 (Oc.U (Cl.cw k 1)), .int .u64 (Oc.U (Cl.cw k 2)), .int .u64 (Oc.U (Cl.cw k 3))] (0, 0) _ _ _ rfl rfl rfl (heap_setRow Z.out) Tryd.underlying25 rfl (by kernel_rfl)) rfl ⟨by exact rfl, below_setRow HB.out (Nat.le_succ _) _⟩
set_option maxRecDepth 100000 in
set_option maxHeartbeats 4000000 in
theorem britem_coll (A : Nat → Addr) (s : ByteArray) (_hs : s.size ≤ 4294967280) (a i : Nat) (hi : i < s.size) (hd : Br.dotted (bt s) i = true) (w : World) (hE : BrEnv w A) :
    Calls Tryd.prog 32 #[.agg #[.string s, .int .i64 a], .int .i64 i] w (ItEnd A (.err 7 i) w) := by
  have hi1 : (0 : Int) ≤ i := by omega
  have hi2 : (i : Int) ≤ s.size := by omega
  have HD := Lib.hid (coll_at s i _ hd)
  have HE := Lib.hid hE
  clear hE hd
  clear hi _hs
  have hz0 : i ≤ s.size := by omega
  go_enter Tryd.func32, Tryd.ntmps32
  go_wp2_with fail
  refine (HD.out _).mono ?_; rintro e w' ⟨rfl, rfl⟩
  generalize hW : World.alloc (World.alloc _ _) _ = W at *
  have Z : W.heap[w.heap.size + 1]? = some (.cells noSet 25) := by rw [← hW]; exact (two_new w _ _).2
  have Z0 : W.heap[w.heap.size]? = some (.cells #[.string s, .int .i64 a] 45) := by rw [← hW]; exact (two_new w _ _).1
  have hb0 : Below w.heap.size w W := by rw [← hW]; go_grown
  have hsz : W.heap.size = w.heap.size + 2 := by rw [← hW]; simp
  have HE' := Lib.hid (HE.out.below hb0)
  have c6 : W.cell? ⟨7, 0, none⟩ = some (.iface 115 (.pointer (some (A 6)))) := (HE'.out.errs 6 (by omega)).1
  have ZZ := Lib.hid Z; have HB0 := Lib.hid hb0; have HSZ := Lib.hid hsz
  clear hW Z hb0 hsz
  have ZR := Lib.hid Z0
  clear Z0
  go_wp2_with fail
  refine (at_err A 6 (by omega) i _).mono ?_
  rintro e w1 ⟨v, rfl, hv, hb⟩
  have Z := Lib.hid (keep_blk hb ZZ.out)
  have HB := Lib.hid (HB0.out.trans (hb.mono HB0.out.size))
  have HV := Lib.hid hv
  clear hb hv
  go_wp2_with (first
    | (refine wpList_store_row rfl 25 (.tmp 4) (.tmp 15) rfl (w.heap.size + 1) noSet rfl rfl 25 _ Z.out (by kernel_rfl) rfl noSet_one ?_)
    | fail)
  exact bodyPost_ret (results_row_two rfl _ _ (w.heap.size + 1) 25 noSet (0, 0) _ _ _ rfl rfl rfl (heap_setRow Z.out) Tryd.underlying25 rfl (by kernel_rfl)) rfl ⟨⟨v, rfl, (HV.out.setRow (by rw [HSZ.out]; omega) noSet).down HB0.out.size⟩, below_setRow HB.out (Nat.le_succ _) _⟩
set_option maxRecDepth 100000 in
set_option maxHeartbeats 4000000 in
theorem britem_class_ok (A : Nat → Addr) (s : ByteArray) (_hs : s.size ≤ 4294967280) (a i : Nat) (hi : i < s.size) (hd : Br.dotted (bt s) i = false) (hc : Br.colon (bt s) i = true) (P : Nat → Bool) (j : Nat) (HI : ∀ w, BrEnv w A → Calls Tryd.prog 53 #[.agg #[.string s, .int .i64 a], .int .i64 i] w (ItEnd A (.ok P j) w)) (w : World) (hE : BrEnv w A) :
    Calls Tryd.prog 32 #[.agg #[.string s, .int .i64 a], .int .i64 i] w (ItEnd A (.ok P j) w) := by
  have hi1 : (0 : Int) ≤ i := by omega
  have hi2 : (i : Int) ≤ s.size := by omega
  have HD := Lib.hid (coll_at s i _ hd)
  have HC := Lib.hid (class_at s i _ hc)
  have HE := Lib.hid hE
  have HX := Lib.hid HI
  clear HI
  clear hE hd hc
  have hz0 : i ≤ s.size := by omega
  go_enter Tryd.func32, Tryd.ntmps32
  go_wp2_with fail
  refine (HD.out _).mono ?_; rintro e w' ⟨rfl, rfl⟩
  generalize hW : World.alloc (World.alloc _ _) _ = W at *
  have Z : W.heap[w.heap.size + 1]? = some (.cells noSet 25) := by rw [← hW]; exact (two_new w _ _).2
  have Z0 : W.heap[w.heap.size]? = some (.cells #[.string s, .int .i64 a] 45) := by rw [← hW]; exact (two_new w _ _).1
  have hb0 : Below w.heap.size w W := by rw [← hW]; go_grown
  have hsz : W.heap.size = w.heap.size + 2 := by rw [← hW]; simp
  have HE' := Lib.hid (HE.out.below hb0)
  have ZZ := Lib.hid Z; have HB0 := Lib.hid hb0; have HSZ := Lib.hid hsz
  clear hW Z hb0 hsz
  have ZR := Lib.hid Z0
  clear Z0
  go_wp2_with fail
  refine (HC.out _).mono ?_; rintro e w' ⟨rfl, rfl⟩
  go_wp2_with (first
    | (refine wpList_load_row rfl 45 (.tmp 2) rfl w.heap.size rfl 45 _ (0, 0) _ ZR.out Tryd.underlying45 rfl (by kernel_rfl) ?_)
    | fail)
  refine (HX.out _ HE'.out).mono ?_
  intro e w1 he
  obtain ⟨rfl, hb⟩ := he.ok rfl
  have Z := Lib.hid (keep_blk hb ZZ.out)
  have HB := Lib.hid (HB0.out.trans (hb.mono HB0.out.size))
  clear hb he
  go_wp2_with (first
    | (refine wpList_store_row rfl 25 (.tmp 4) (.tmp 25) rfl (w.heap.size + 1) #[.int .u64 (Oc.U (Oc.mk (P) 0)), .int .u64 (Oc.U (Oc.mk (P) 1)), .int .u64 (Oc.U (Oc.mk (P) 2)), .int .u64 (Oc.U (Oc.mk (P) 3))] rfl rfl 25 _ Z.out (by kernel_rfl) rfl (setP_one _) ?_)
    | fail)
  exact bodyPost_ret (results_row_two rfl _ _ (w.heap.size + 1) 25 #[.int .u64 (Oc.U (Oc.mk (P) 0)), .int .u64 (Oc.U (Oc.mk (P) 1)), .int .u64 (Oc.U (Oc.mk (P) 2)), .int .u64 (Oc.U (Oc.mk (P) 3))] (0, 0) _ _ _ rfl rfl rfl (heap_setRow Z.out) Tryd.underlying25 rfl (by kernel_rfl)) rfl ⟨by exact rfl, below_setRow HB.out (Nat.le_succ _) _⟩
set_option maxRecDepth 100000 in
set_option maxHeartbeats 4000000 in
theorem britem_class_err (A : Nat → Addr) (s : ByteArray) (_hs : s.size ≤ 4294967280) (a i : Nat) (hi : i < s.size) (hd : Br.dotted (bt s) i = false) (hc : Br.colon (bt s) i = true) (c : Nat) (q : Int) (HI : ∀ w, BrEnv w A → Calls Tryd.prog 53 #[.agg #[.string s, .int .i64 a], .int .i64 i] w (ItEnd A (.err c q) w)) (w : World) (hE : BrEnv w A) :
    Calls Tryd.prog 32 #[.agg #[.string s, .int .i64 a], .int .i64 i] w (ItEnd A (.err c q) w) := by
  have hi1 : (0 : Int) ≤ i := by omega
  have hi2 : (i : Int) ≤ s.size := by omega
  have HD := Lib.hid (coll_at s i _ hd)
  have HC := Lib.hid (class_at s i _ hc)
  have HE := Lib.hid hE
  have HX := Lib.hid HI
  clear HI
  clear hE hd hc
  have hz0 : i ≤ s.size := by omega
  go_enter Tryd.func32, Tryd.ntmps32
  go_wp2_with fail
  refine (HD.out _).mono ?_; rintro e w' ⟨rfl, rfl⟩
  generalize hW : World.alloc (World.alloc _ _) _ = W at *
  have Z : W.heap[w.heap.size + 1]? = some (.cells noSet 25) := by rw [← hW]; exact (two_new w _ _).2
  have Z0 : W.heap[w.heap.size]? = some (.cells #[.string s, .int .i64 a] 45) := by rw [← hW]; exact (two_new w _ _).1
  have hb0 : Below w.heap.size w W := by rw [← hW]; go_grown
  have hsz : W.heap.size = w.heap.size + 2 := by rw [← hW]; simp
  have HE' := Lib.hid (HE.out.below hb0)
  have ZZ := Lib.hid Z; have HB0 := Lib.hid hb0; have HSZ := Lib.hid hsz
  clear hW Z hb0 hsz
  have ZR := Lib.hid Z0
  clear Z0
  go_wp2_with fail
  refine (HC.out _).mono ?_; rintro e w' ⟨rfl, rfl⟩
  go_wp2_with (first
    | (refine wpList_load_row rfl 45 (.tmp 2) rfl w.heap.size rfl 45 _ (0, 0) _ ZR.out Tryd.underlying45 rfl (by kernel_rfl) ?_)
    | fail)
  refine (HX.out _ HE'.out).mono ?_
  intro e w1 he
  obtain ⟨v, rfl, hv, hb⟩ := he.err rfl
  obtain ⟨q', rfl⟩ := hv.iface
  have Z := Lib.hid (keep_blk hb ZZ.out)
  have HB := Lib.hid (HB0.out.trans (hb.mono HB0.out.size))
  have HV := Lib.hid hv
  clear hb hv he
  go_wp2_with (first
    | (refine wpList_store_row rfl 25 (.tmp 4) (.tmp 25) rfl (w.heap.size + 1) noSet rfl rfl 25 _ Z.out (by kernel_rfl) rfl noSet_one ?_)
    | fail)
  exact bodyPost_ret (results_row_two rfl _ _ (w.heap.size + 1) 25 noSet (0, 0) _ _ _ rfl rfl rfl (heap_setRow Z.out) Tryd.underlying25 rfl (by kernel_rfl)) rfl ⟨⟨_, rfl, (HV.out.setRow (by rw [HSZ.out]; omega) noSet).down HB0.out.size⟩, below_setRow HB.out (Nat.le_succ _) _⟩
set_option maxRecDepth 100000 in
set_option maxHeartbeats 4000000 in
theorem britem_range_ok (A : Nat → Addr) (s : ByteArray) (_hs : s.size ≤ 4294967280) (a i : Nat) (hi : i < s.size) (hd : Br.dotted (bt s) i = false) (hc : Br.colon (bt s) i = false) (h2 : i + 2 < s.size) (h45 : bt s (i + 1) = 45) (h93 : bt s (i + 2) ≠ 93) (P : Nat → Bool) (j : Nat) (HI : ∀ w, BrEnv w A → Calls Tryd.prog 54 #[.agg #[.string s, .int .i64 a], .int .i64 i] w (ItEnd A (.ok P j) w)) (w : World) (hE : BrEnv w A) :
    Calls Tryd.prog 32 #[.agg #[.string s, .int .i64 a], .int .i64 i] w (ItEnd A (.ok P j) w) := by
  have hi1 : (0 : Int) ≤ i := by omega
  have hi2 : (i : Int) ≤ s.size := by omega
  have HD := Lib.hid (coll_at s i _ hd)
  have HC := Lib.hid (class_at s i _ hc)
  have HE := Lib.hid hE
  have HX := Lib.hid HI
  clear HI
  have hlz : (s.extract i s.size).size = s.size - i := by simp
  have dL : decide ((2 : Int) < ((s.extract i s.size).size : Int)) = true := by rw [hlz]; simp; omega
  have dM : decide (2 < (s.extract i s.size).size) = true := by rw [hlz]; simp; omega
  have dl1 : 1 < (s.extract i s.size).size := by omega
  have dl2 : 2 < (s.extract i s.size).size := by omega
  have q1 : (s.extract i s.size)[1].toNat = bt s (i + 1) := by rw [bt_at dl1, bt_ext]
  have q2 : (s.extract i s.size)[2].toNat = bt s (i + 2) := by rw [bt_at dl2, bt_ext]
  have e1 : (((s.extract i s.size)[1].toNat : Int) == 45) = true := by rw [q1]; simp; omega
  have e2 : (((s.extract i s.size)[2].toNat : Int) != 93) = true := by rw [q2]; simp; omega
  clear q1 q2
  clear hE hd hc h2 h45 h93
  clear hlz
  have hz0 : i ≤ s.size := by omega
  go_enter Tryd.func32, Tryd.ntmps32
  go_wp2_with fail
  refine (HD.out _).mono ?_; rintro e w' ⟨rfl, rfl⟩
  generalize s.extract i s.size = t at *
  generalize hW : World.alloc (World.alloc _ _) _ = W at *
  have Z : W.heap[w.heap.size + 1]? = some (.cells noSet 25) := by rw [← hW]; exact (two_new w _ _).2
  have Z0 : W.heap[w.heap.size]? = some (.cells #[.string s, .int .i64 a] 45) := by rw [← hW]; exact (two_new w _ _).1
  have hb0 : Below w.heap.size w W := by rw [← hW]; go_grown
  have hsz : W.heap.size = w.heap.size + 2 := by rw [← hW]; simp
  have HE' := Lib.hid (HE.out.below hb0)
  have ZZ := Lib.hid Z; have HB0 := Lib.hid hb0; have HSZ := Lib.hid hsz
  clear hW Z hb0 hsz
  have ZR := Lib.hid Z0
  clear Z0
  go_wp2_with fail
  refine (HC.out _).mono ?_; rintro e w' ⟨rfl, rfl⟩
  go_wp2_with (first
    | (refine wpList_load_row rfl 45 (.tmp 2) rfl w.heap.size rfl 45 _ (0, 0) _ ZR.out Tryd.underlying45 rfl (by kernel_rfl) ?_)
    | fail)
  refine (HX.out _ HE'.out).mono ?_
  intro e w1 he
  obtain ⟨rfl, hb⟩ := he.ok rfl
  have Z := Lib.hid (keep_blk hb ZZ.out)
  have HB := Lib.hid (HB0.out.trans (hb.mono HB0.out.size))
  clear hb he
  go_wp2_with (first
    | (refine wpList_store_row rfl 25 (.tmp 4) (.tmp 45) rfl (w.heap.size + 1) #[.int .u64 (Oc.U (Oc.mk (P) 0)), .int .u64 (Oc.U (Oc.mk (P) 1)), .int .u64 (Oc.U (Oc.mk (P) 2)), .int .u64 (Oc.U (Oc.mk (P) 3))] rfl rfl 25 _ Z.out (by kernel_rfl) rfl (setP_one _) ?_)
    | fail)
  exact bodyPost_ret (results_row_two rfl _ _ (w.heap.size + 1) 25 #[.int .u64 (Oc.U (Oc.mk (P) 0)), .int .u64 (Oc.U (Oc.mk (P) 1)), .int .u64 (Oc.U (Oc.mk (P) 2)), .int .u64 (Oc.U (Oc.mk (P) 3))] (0, 0) _ _ _ rfl rfl rfl (heap_setRow Z.out) Tryd.underlying25 rfl (by kernel_rfl)) rfl ⟨by exact rfl, below_setRow HB.out (Nat.le_succ _) _⟩
set_option maxRecDepth 100000 in
set_option maxHeartbeats 4000000 in
theorem britem_range_err (A : Nat → Addr) (s : ByteArray) (_hs : s.size ≤ 4294967280) (a i : Nat) (hi : i < s.size) (hd : Br.dotted (bt s) i = false) (hc : Br.colon (bt s) i = false) (h2 : i + 2 < s.size) (h45 : bt s (i + 1) = 45) (h93 : bt s (i + 2) ≠ 93) (c : Nat) (q : Int) (HI : ∀ w, BrEnv w A → Calls Tryd.prog 54 #[.agg #[.string s, .int .i64 a], .int .i64 i] w (ItEnd A (.err c q) w)) (w : World) (hE : BrEnv w A) :
    Calls Tryd.prog 32 #[.agg #[.string s, .int .i64 a], .int .i64 i] w (ItEnd A (.err c q) w) := by
  have hi1 : (0 : Int) ≤ i := by omega
  have hi2 : (i : Int) ≤ s.size := by omega
  have HD := Lib.hid (coll_at s i _ hd)
  have HC := Lib.hid (class_at s i _ hc)
  have HE := Lib.hid hE
  have HX := Lib.hid HI
  clear HI
  have hlz : (s.extract i s.size).size = s.size - i := by simp
  have dL : decide ((2 : Int) < ((s.extract i s.size).size : Int)) = true := by rw [hlz]; simp; omega
  have dM : decide (2 < (s.extract i s.size).size) = true := by rw [hlz]; simp; omega
  have dl1 : 1 < (s.extract i s.size).size := by omega
  have dl2 : 2 < (s.extract i s.size).size := by omega
  have q1 : (s.extract i s.size)[1].toNat = bt s (i + 1) := by rw [bt_at dl1, bt_ext]
  have q2 : (s.extract i s.size)[2].toNat = bt s (i + 2) := by rw [bt_at dl2, bt_ext]
  have e1 : (((s.extract i s.size)[1].toNat : Int) == 45) = true := by rw [q1]; simp; omega
  have e2 : (((s.extract i s.size)[2].toNat : Int) != 93) = true := by rw [q2]; simp; omega
  clear q1 q2
  clear hE hd hc h2 h45 h93
  clear hlz
  have hz0 : i ≤ s.size := by omega
  go_enter Tryd.func32, Tryd.ntmps32
  go_wp2_with fail
  refine (HD.out _).mono ?_; rintro e w' ⟨rfl, rfl⟩
  generalize s.extract i s.size = t at *
  generalize hW : World.alloc (World.alloc _ _) _ = W at *
  have Z : W.heap[w.heap.size + 1]? = some (.cells noSet 25) := by rw [← hW]; exact (two_new w _ _).2
  have Z0 : W.heap[w.heap.size]? = some (.cells #[.string s, .int .i64 a] 45) := by rw [← hW]; exact (two_new w _ _).1
  have hb0 : Below w.heap.size w W := by rw [← hW]; go_grown
  have hsz : W.heap.size = w.heap.size + 2 := by rw [← hW]; simp
  have HE' := Lib.hid (HE.out.below hb0)
  have ZZ := Lib.hid Z; have HB0 := Lib.hid hb0; have HSZ := Lib.hid hsz
  clear hW Z hb0 hsz
  have ZR := Lib.hid Z0
  clear Z0
  go_wp2_with fail
  refine (HC.out _).mono ?_; rintro e w' ⟨rfl, rfl⟩
  go_wp2_with (first
    | (refine wpList_load_row rfl 45 (.tmp 2) rfl w.heap.size rfl 45 _ (0, 0) _ ZR.out Tryd.underlying45 rfl (by kernel_rfl) ?_)
    | fail)
  refine (HX.out _ HE'.out).mono ?_
  intro e w1 he
  obtain ⟨v, rfl, hv, hb⟩ := he.err rfl
  obtain ⟨q', rfl⟩ := hv.iface
  have Z := Lib.hid (keep_blk hb ZZ.out)
  have HB := Lib.hid (HB0.out.trans (hb.mono HB0.out.size))
  have HV := Lib.hid hv
  clear hb hv he
  go_wp2_with (first
    | (refine wpList_store_row rfl 25 (.tmp 4) (.tmp 45) rfl (w.heap.size + 1) noSet rfl rfl 25 _ Z.out (by kernel_rfl) rfl noSet_one ?_)
    | fail)
  exact bodyPost_ret (results_row_two rfl _ _ (w.heap.size + 1) 25 noSet (0, 0) _ _ _ rfl rfl rfl (heap_setRow Z.out) Tryd.underlying25 rfl (by kernel_rfl)) rfl ⟨⟨_, rfl, (HV.out.setRow (by rw [HSZ.out]; omega) noSet).down HB0.out.size⟩, below_setRow HB.out (Nat.le_succ _) _⟩
set_option maxRecDepth 100000 in
set_option maxHeartbeats 4000000 in
theorem britem_short (A : Nat → Addr) (s : ByteArray) (_hs : s.size ≤ 4294967280) (a i : Nat) (hi : i < s.size) (hd : Br.dotted (bt s) i = false) (hc : Br.colon (bt s) i = false) (h2 : s.size ≤ i + 2) (w : World) (hE : BrEnv w A) :
    Calls Tryd.prog 32 #[.agg #[.string s, .int .i64 a], .int .i64 i] w (ItEnd A (.ok (fun b => b == bt s i) (i + 1)) w) := by
  have hi1 : (0 : Int) ≤ i := by omega
  have hi2 : (i : Int) ≤ s.size := by omega
  have HD := Lib.hid (coll_at s i _ hd)
  have HC := Lib.hid (class_at s i _ hc)
  have HE := Lib.hid hE
  have hlz : (s.extract i s.size).size = s.size - i := by simp
  have dL : decide ((2 : Int) < ((s.extract i s.size).size : Int)) = false := by rw [hlz]; simp; omega
  have dM : decide (2 < (s.extract i s.size).size) = false := by rw [hlz]; simp; omega
  have ql : 0 < (s.extract i s.size).size := by omega
  have q0 : (s.extract i s.size)[0].toNat = bt s i := by rw [bt_at ql, bt_ext]; rfl
  have hx256 : bt s i < 256 := (bt_txt s).1 i hi
  have hw : IntKind.i64.wrap ((i : Int) + 1) = (i : Int) + 1 := IntWalk.i64_in _ (by omega)
  clear hE hd hc h2
  clear hlz
  generalize bt s i = x at *
  have hz0 : i ≤ s.size := by omega
  go_enter Tryd.func32, Tryd.ntmps32
  go_wp2_with fail
  refine (HD.out _).mono ?_; rintro e w' ⟨rfl, rfl⟩
  generalize s.extract i s.size = t at *
  generalize hW : World.alloc (World.alloc _ _) _ = W at *
  have Z : W.heap[w.heap.size + 1]? = some (.cells noSet 25) := by rw [← hW]; exact (two_new w _ _).2
  have Z0 : W.heap[w.heap.size]? = some (.cells #[.string s, .int .i64 a] 45) := by rw [← hW]; exact (two_new w _ _).1
  have hb0 : Below w.heap.size w W := by rw [← hW]; go_grown
  have hsz : W.heap.size = w.heap.size + 2 := by rw [← hW]; simp
  have HE' := Lib.hid (HE.out.below hb0)
  have ZZ := Lib.hid Z; have HB0 := Lib.hid hb0; have HSZ := Lib.hid hsz
  clear hW Z hb0 hsz
  have ZR := Lib.hid Z0
  clear Z0
  go_wp2_with fail
  refine (HC.out _).mono ?_; rintro e w' ⟨rfl, rfl⟩
  go_wp2_with fail
  refine (of_p x hx256 _ (by first | rfl | rw [q0]) _ _ rfl _).mono ?_
  rintro e w1 ⟨rfl, hb⟩
  have hbA : Below W.heap.size W w1 := ((Below.refl _ _).alloc (Nat.le_refl _) _).trans (hb.mono (by simp))
  have Z := Lib.hid (keep_blk hbA ZZ.out)
  have HB := Lib.hid (HB0.out.trans (hbA.mono HB0.out.size))
  clear hb hbA
  go_wp2_with (first
    | (refine wpList_store_row rfl 25 (.tmp 4) (.tmp 51) rfl (w.heap.size + 1) #[.int .u64 (Oc.U (Oc.mk (fun b => b == x) 0)), .int .u64 (Oc.U (Oc.mk (fun b => b == x) 1)), .int .u64 (Oc.U (Oc.mk (fun b => b == x) 2)), .int .u64 (Oc.U (Oc.mk (fun b => b == x) 3))] rfl rfl 25 _ Z.out (by kernel_rfl) rfl (setP_one _) ?_)
    | fail)
  exact bodyPost_ret (results_row_two rfl _ _ (w.heap.size + 1) 25 #[.int .u64 (Oc.U (Oc.mk (fun b => b == x) 0)), .int .u64 (Oc.U (Oc.mk (fun b => b == x) 1)), .int .u64 (Oc.U (Oc.mk (fun b => b == x) 2)), .int .u64 (Oc.U (Oc.mk (fun b => b == x) 3))] (0, 0) _ _ _ rfl rfl rfl (heap_setRow Z.out) Tryd.underlying25 rfl (by kernel_rfl)) rfl ⟨by exact rfl, below_setRow HB.out (Nat.le_succ _) _⟩
set_option maxRecDepth 100000 in
set_option maxHeartbeats 4000000 in
theorem britem_nodash (A : Nat → Addr) (s : ByteArray) (_hs : s.size ≤ 4294967280) (a i : Nat) (hi : i < s.size) (hd : Br.dotted (bt s) i = false) (hc : Br.colon (bt s) i = false) (h2 : i + 2 < s.size) (h45 : bt s (i + 1) ≠ 45) (w : World) (hE : BrEnv w A) :
    Calls Tryd.prog 32 #[.agg #[.string s, .int .i64 a], .int .i64 i] w (ItEnd A (.ok (fun b => b == bt s i) (i + 1)) w) := by
  have hi1 : (0 : Int) ≤ i := by omega
  have hi2 : (i : Int) ≤ s.size := by omega
  have HD := Lib.hid (coll_at s i _ hd)
  have HC := Lib.hid (class_at s i _ hc)
  have HE := Lib.hid hE
  have hlz : (s.extract i s.size).size = s.size - i := by simp
  have dL : decide ((2 : Int) < ((s.extract i s.size).size : Int)) = true := by rw [hlz]; simp; omega
  have dM : decide (2 < (s.extract i s.size).size) = true := by rw [hlz]; simp; omega
  have dl1 : 1 < (s.extract i s.size).size := by omega
  have dl2 : 2 < (s.extract i s.size).size := by omega
  have q1 : (s.extract i s.size)[1].toNat = bt s (i + 1) := by rw [bt_at dl1, bt_ext]
  have q2 : (s.extract i s.size)[2].toNat = bt s (i + 2) := by rw [bt_at dl2, bt_ext]
  have e1 : (((s.extract i s.size)[1].toNat : Int) == 45) = false := by rw [q1]; simp; omega
  clear q1 q2
  have ql : 0 < (s.extract i s.size).size := by omega
  have q0 : (s.extract i s.size)[0].toNat = bt s i := by rw [bt_at ql, bt_ext]; rfl
  have hx256 : bt s i < 256 := (bt_txt s).1 i hi
  have hw : IntKind.i64.wrap ((i : Int) + 1) = (i : Int) + 1 := IntWalk.i64_in _ (by omega)
  clear hE hd hc h2 h45
  clear hlz
  generalize bt s i = x at *
  have hz0 : i ≤ s.size := by omega
  go_enter Tryd.func32, Tryd.ntmps32
  go_wp2_with fail
  refine (HD.out _).mono ?_; rintro e w' ⟨rfl, rfl⟩
  generalize s.extract i s.size = t at *
  generalize hW : World.alloc (World.alloc _ _) _ = W at *
  have Z : W.heap[w.heap.size + 1]? = some (.cells noSet 25) := by rw [← hW]; exact (two_new w _ _).2
  have Z0 : W.heap[w.heap.size]? = some (.cells #[.string s, .int .i64 a] 45) := by rw [← hW]; exact (two_new w _ _).1
  have hb0 : Below w.heap.size w W := by rw [← hW]; go_grown
  have hsz : W.heap.size = w.heap.size + 2 := by rw [← hW]; simp
  have HE' := Lib.hid (HE.out.below hb0)
  have ZZ := Lib.hid Z; have HB0 := Lib.hid hb0; have HSZ := Lib.hid hsz
  clear hW Z hb0 hsz
  have ZR := Lib.hid Z0
  clear Z0
  go_wp2_with fail
  refine (HC.out _).mono ?_; rintro e w' ⟨rfl, rfl⟩
  go_wp2_with fail
  refine (of_p x hx256 _ (by first | rfl | rw [q0]) _ _ rfl _).mono ?_
  rintro e w1 ⟨rfl, hb⟩
  have hbA : Below W.heap.size W w1 := ((Below.refl _ _).alloc (Nat.le_refl _) _).trans (hb.mono (by simp))
  have Z := Lib.hid (keep_blk hbA ZZ.out)
  have HB := Lib.hid (HB0.out.trans (hbA.mono HB0.out.size))
  clear hb hbA
  go_wp2_with (first
    | (refine wpList_store_row rfl 25 (.tmp 4) (.tmp 51) rfl (w.heap.size + 1) #[.int .u64 (Oc.U (Oc.mk (fun b => b == x) 0)), .int .u64 (Oc.U (Oc.mk (fun b => b == x) 1)), .int .u64 (Oc.U (Oc.mk (fun b => b == x) 2)), .int .u64 (Oc.U (Oc.mk (fun b => b == x) 3))] rfl rfl 25 _ Z.out (by kernel_rfl) rfl (setP_one _) ?_)
    | fail)
  exact bodyPost_ret (results_row_two rfl _ _ (w.heap.size + 1) 25 #[.int .u64 (Oc.U (Oc.mk (fun b => b == x) 0)), .int .u64 (Oc.U (Oc.mk (fun b => b == x) 1)), .int .u64 (Oc.U (Oc.mk (fun b => b == x) 2)), .int .u64 (Oc.U (Oc.mk (fun b => b == x) 3))] (0, 0) _ _ _ rfl rfl rfl (heap_setRow Z.out) Tryd.underlying25 rfl (by kernel_rfl)) rfl ⟨by exact rfl, below_setRow HB.out (Nat.le_succ _) _⟩
set_option maxRecDepth 100000 in
set_option maxHeartbeats 4000000 in
theorem britem_brack (A : Nat → Addr) (s : ByteArray) (_hs : s.size ≤ 4294967280) (a i : Nat) (hi : i < s.size) (hd : Br.dotted (bt s) i = false) (hc : Br.colon (bt s) i = false) (h2 : i + 2 < s.size) (h45 : bt s (i + 1) = 45) (h93 : bt s (i + 2) = 93) (w : World) (hE : BrEnv w A) :
    Calls Tryd.prog 32 #[.agg #[.string s, .int .i64 a], .int .i64 i] w (ItEnd A (.ok (fun b => b == bt s i) (i + 1)) w) := by
  have hi1 : (0 : Int) ≤ i := by omega
  have hi2 : (i : Int) ≤ s.size := by omega
  have HD := Lib.hid (coll_at s i _ hd)
  have HC := Lib.hid (class_at s i _ hc)
  have HE := Lib.hid hE
  have hlz : (s.extract i s.size).size = s.size - i := by simp
  have dL : decide ((2 : Int) < ((s.extract i s.size).size : Int)) = true := by rw [hlz]; simp; omega
  have dM : decide (2 < (s.extract i s.size).size) = true := by rw [hlz]; simp; omega
  have dl1 : 1 < (s.extract i s.size).size := by omega
  have dl2 : 2 < (s.extract i s.size).size := by omega
  have q1 : (s.extract i s.size)[1].toNat = bt s (i + 1) := by rw [bt_at dl1, bt_ext]
  have q2 : (s.extract i s.size)[2].toNat = bt s (i + 2) := by rw [bt_at dl2, bt_ext]
  have e1 : (((s.extract i s.size)[1].toNat : Int) == 45) = true := by rw [q1]; simp; omega
  have e2 : (((s.extract i s.size)[2].toNat : Int) != 93) = false := by rw [q2]; simp; omega
  clear q1 q2
  have ql : 0 < (s.extract i s.size).size := by omega
  have q0 : (s.extract i s.size)[0].toNat = bt s i := by rw [bt_at ql, bt_ext]; rfl
  have hx256 : bt s i < 256 := (bt_txt s).1 i hi
  have hw : IntKind.i64.wrap ((i : Int) + 1) = (i : Int) + 1 := IntWalk.i64_in _ (by omega)
  clear hE hd hc h2 h45 h93
  clear hlz
  generalize bt s i = x at *
  have hz0 : i ≤ s.size := by omega
  go_enter Tryd.func32, Tryd.ntmps32
  go_wp2_with fail
  refine (HD.out _).mono ?_; rintro e w' ⟨rfl, rfl⟩
  generalize s.extract i s.size = t at *
  generalize hW : World.alloc (World.alloc _ _) _ = W at *
  have Z : W.heap[w.heap.size + 1]? = some (.cells noSet 25) := by rw [← hW]; exact (two_new w _ _).2
  have Z0 : W.heap[w.heap.size]? = some (.cells #[.string s, .int .i64 a] 45) := by rw [← hW]; exact (two_new w _ _).1
  have hb0 : Below w.heap.size w W := by rw [← hW]; go_grown
  have hsz : W.heap.size = w.heap.size + 2 := by rw [← hW]; simp
  have HE' := Lib.hid (HE.out.below hb0)
  have ZZ := Lib.hid Z; have HB0 := Lib.hid hb0; have HSZ := Lib.hid hsz
  clear hW Z hb0 hsz
  have ZR := Lib.hid Z0
  clear Z0
  go_wp2_with fail
  refine (HC.out _).mono ?_; rintro e w' ⟨rfl, rfl⟩
  go_wp2_with fail
  refine (of_p x hx256 _ (by first | rfl | rw [q0]) _ _ rfl _).mono ?_
  rintro e w1 ⟨rfl, hb⟩
  have hbA : Below W.heap.size W w1 := ((Below.refl _ _).alloc (Nat.le_refl _) _).trans (hb.mono (by simp))
  have Z := Lib.hid (keep_blk hbA ZZ.out)
  have HB := Lib.hid (HB0.out.trans (hbA.mono HB0.out.size))
  clear hb hbA
  go_wp2_with (first
    | (refine wpList_store_row rfl 25 (.tmp 4) (.tmp 51) rfl (w.heap.size + 1) #[.int .u64 (Oc.U (Oc.mk (fun b => b == x) 0)), .int .u64 (Oc.U (Oc.mk (fun b => b == x) 1)), .int .u64 (Oc.U (Oc.mk (fun b => b == x) 2)), .int .u64 (Oc.U (Oc.mk (fun b => b == x) 3))] rfl rfl 25 _ Z.out (by kernel_rfl) rfl (setP_one _) ?_)
    | fail)
  exact bodyPost_ret (results_row_two rfl _ _ (w.heap.size + 1) 25 #[.int .u64 (Oc.U (Oc.mk (fun b => b == x) 0)), .int .u64 (Oc.U (Oc.mk (fun b => b == x) 1)), .int .u64 (Oc.U (Oc.mk (fun b => b == x) 2)), .int .u64 (Oc.U (Oc.mk (fun b => b == x) 3))] (0, 0) _ _ _ rfl rfl rfl (heap_setRow Z.out) Tryd.underlying25 rfl (by kernel_rfl)) rfl ⟨by exact rfl, below_setRow HB.out (Nat.le_succ _) _⟩
end Go.Proofs.YtbpecijdmhablaaDoor
