/- Part 5 of what these proofs need. -/
import Derived.Deep.DeepCutAuto
import Derived.Recover
import Derived.ChangeOld
import Derived.Deep.Slices
import Derived.Laws.IdiomArrays
import Derived.Lib.SmallJoins
import Derived.Lib.LaidTab
import Derived.Lib.ItoaNum
import Derived.Lib.AppendIntMem
import Derived.LaidLaws
import Derived.Laws.IdiomStrings
import Derived.Test.YtlbhbjmobcikfaaGreatDoorBreR4
/- What the reader of basic patterns answers of an atom, and of a piece. -/
namespace Go.Proofs.YtlbhbjmobcikfaaGreatDoor
open Go.RowKit
theorem ba_ext {a b : ByteArray} (h : a.data.toList = b.data.toList) : a = b := by
  cases a; cases b; simp only at h; rw [Array.toList_inj.1 h]
theorem cutdollar_no (s : ByteArray) (i : Nat) (hb : bt s i ≠ 36) (w : World) :
    Calls Tryz.prog 120 #[.string (s.extract i s.size), .string ⟨#[36]⟩] w fun e w' => e = .returned (.tuple #[.string (s.extract i s.size), .bool false]) ∧ w' = w := by
  refine (Tryz.strings_CutPrefix (s.extract i s.size) ⟨#[36]⟩ w).mono ?_
  rintro e w' ⟨rfl, rfl⟩
  have h0 : Lib.hasPrefix (s.extract i s.size).data.toList (⟨#[36]⟩ : ByteArray).data.toList = false := by
    show [(36 : UInt8)].isPrefixOf _ = false
    rw [one_prefix, ← bt_list, bt_ext]
    simpa using hb
  refine ⟨?_, rfl⟩
  unfold Lib.trimPrefix
  rw [h0]
  rfl
theorem cutdollar_yes (s : ByteArray) (i : Nat) (hb : bt s i = 36) (w : World) :
    Calls Tryz.prog 120 #[.string (s.extract i s.size), .string ⟨#[36]⟩] w fun e w' => e = .returned (.tuple #[.string (s.extract (i + 1) s.size), .bool true]) ∧ w' = w := by
  refine (Tryz.strings_CutPrefix (s.extract i s.size) ⟨#[36]⟩ w).mono ?_
  rintro e w' ⟨rfl, rfl⟩
  have h0 : Lib.hasPrefix (s.extract i s.size).data.toList (⟨#[36]⟩ : ByteArray).data.toList = true := by
    show [(36 : UInt8)].isPrefixOf _ = true
    rw [one_prefix, ← bt_list, bt_ext]
    simpa using hb
  refine ⟨?_, rfl⟩
  unfold Lib.trimPrefix
  rw [h0]
  have : (⟨(List.drop 1 (s.extract i s.size).data.toList).toArray⟩ : ByteArray) = s.extract (i + 1) s.size := by
    apply ba_ext
    simp only [Lib.extract_to_end, List.drop_drop]
  rw [← this]
  rfl
set_option maxRecDepth 100000 in
set_option maxHeartbeats 4000000 in
theorem isend_no (w0 : World) (A : Nat → Addr) (w : World) (R : Nat) (s : ByteArray) (_hs : s.size ≤ 4294967280) (fl : Int) (i g d : Nat) (hR : BqAt w0 A w R s fl i g d) (hi : i ≤ s.size) (hb : bt s i ≠ 36) :
    Calls Tryz.prog 101 #[.pointer (some ⟨R, 0, none⟩)] w fun e w' => e = .returned (.bool false) ∧ ∃ n, w' = w.drewN n := by
  obtain ⟨c0, c1, c2, -, -⟩ := bq5 hR.cell
  have hi0 : (0 : Int) ≤ i := by omega
  have hi1 : (i : Int) ≤ s.size := by omega
  have HI := Lib.hid (cutdollar_no s i hb)
  clear hR hb
  go_enter Tryz.func101, Tryz.ntmps101
  go_wp2
  go_quiet ((go_at_call 120; exact Calls.quiet_of_same (HI.out _)))
  go_wp2
  go_ret
  exact ⟨rfl, _, rfl⟩
set_option maxRecDepth 100000 in
set_option maxHeartbeats 4000000 in
theorem isend_end (w0 : World) (A : Nat → Addr) (w : World) (R : Nat) (s : ByteArray) (hs : s.size ≤ 4294967280) (fl : Int) (i g d : Nat) (hR : BqAt w0 A w R s fl i g d) (_hi : i ≤ s.size) (hb : bt s i = 36) (hl : i + 1 = s.size) :
    Calls Tryz.prog 101 #[.pointer (some ⟨R, 0, none⟩)] w fun e w' => e = .returned (.bool true) ∧ ∃ n, w' = w.drewN n := by
  obtain ⟨c0, c1, c2, -, -⟩ := bq5 hR.cell
  have hi0 : (0 : Int) ≤ i := by omega
  have hi1 : (i : Int) ≤ s.size := by omega
  have HI := Lib.hid (cutdollar_yes s i hb)
  have hz : (s.extract (i + 1) s.size).size = 0 := by simp; omega
  obtain ⟨e1, e2⟩ := empty_yes hz
  generalize s.extract (i + 1) s.size = ta at *
  clear hR hb hl hz
  go_enter Tryz.func101, Tryz.ntmps101
  go_wp2
  go_quiet ((go_at_call 120; exact Calls.quiet_of_same (HI.out _)))
  go_wp2
  go_ret
  exact ⟨rfl, _, rfl⟩
set_option maxRecDepth 100000 in
set_option maxHeartbeats 4000000 in
theorem isend_group (w0 : World) (A : Nat → Addr) (w : World) (R : Nat) (s : ByteArray) (_hs : s.size ≤ 4294967280) (fl : Int) (i g d : Nat) (hR : BqAt w0 A w R s fl i g d) (_hi : i ≤ s.size) (hb : bt s i = 36) (hl : i + 1 < s.size) (b : Bool) (h2 : Bp.two (bt s) (92 : UInt8).toNat (41 : UInt8).toNat (i + 1) = b) :
    Calls Tryz.prog 101 #[.pointer (some ⟨R, 0, none⟩)] w fun e w' => e = .returned (.bool b) ∧ ∃ n, w' = w.drewN n := by
  obtain ⟨c0, c1, c2, -, -⟩ := bq5 hR.cell
  have hi0 : (0 : Int) ≤ i := by omega
  have hi1 : (i : Int) ≤ s.size := by omega
  have HI := Lib.hid (cutdollar_yes s i hb)
  have HJ : Hid (∀ w, Calls Tryz.prog 97 #[.string (s.extract (i + 1) s.size), .string ⟨#[92, 41]⟩] w fun e w' => e = .returned (.bool b) ∧ w' = w) := Lib.hid (pre_two s (i + 1) 92 41 b h2)
  have hz : 0 < (s.extract (i + 1) s.size).size := by simp; omega
  have e1 := empty_no hz
  generalize s.extract (i + 1) s.size = ta at *
  clear hR hb hl hz h2
  go_enter Tryz.func101, Tryz.ntmps101
  go_wp2
  go_quiet ((go_at_call 120; exact Calls.quiet_of_same (HI.out _)))
  go_wp2_with fail
  refine (HJ.out _).mono ?_
  rintro e w' ⟨rfl, rfl⟩
  go_wp2
  go_ret
  exact ⟨rfl, _, rfl⟩
theorem isend_any (w0 : World) (A : Nat → Addr) (w : World) (R : Nat) (s : ByteArray) (hs : s.size ≤ 4294967280) (fl : Int) (i g d : Nat) (hR : BqAt w0 A w R s fl i g d) (hi : i ≤ s.size) (b : Bool) (hb : Bp.isEnd (bt s) s.size i = b) :
    Calls Tryz.prog 101 #[.pointer (some ⟨R, 0, none⟩)] w fun e w' => e = .returned (.bool b) ∧ ∃ n, w' = w.drewN n := by
  subst hb
  unfold Bp.isEnd
  by_cases h : bt s i = 36
  · have hlt := (bt_txt s).lt h (by omega)
    rw [show (bt s i == 36) = true by rw [h]; rfl, Bool.true_and]
    by_cases hl : i + 1 = s.size
    · rw [show decide (s.size ≤ i + 1) = true by simp; omega, Bool.true_or]
      exact isend_end w0 A w R s hs fl i g d hR hi h hl
    · rw [show decide (s.size ≤ i + 1) = false by simp; omega, Bool.false_or]
      exact isend_group w0 A w R s hs fl i g d hR hi h (by omega) _ rfl
  · rw [show (bt s i == 36) = false by simpa using h, Bool.false_and]
    exact isend_no w0 A w R s hs fl i g d hR hi h
theorem BqPl.nd {A : Nat → Addr} {R : Nat} {s : ByteArray} {fl : Int} {g d : Nat} {t : Tr} {j : Nat} {w : World} {e : Ending} {w' : World} (h : BqPl R s fl g d t j w e w') (ht : t.subs = []) : BqEnd A R s fl d (.ok t j g) w e w' := by
  obtain ⟨h1, h2, h3⟩ := h
  exact ⟨⟨.slice none 0 0, [], h1, by rw [ht]; exact .nil _ _, fun b hb => (by cases hb), h2⟩, h3⟩
set_option maxRecDepth 100000 in
set_option maxHeartbeats 4000000 in
theorem bqatom_dot (w0 : World) (A : Nat → Addr) (w : World) (R : Nat) (s : ByteArray) (hs : s.size ≤ 4294967280) (fl : Int) (i g d : Nat) (hR : BqAt w0 A w R s fl i g d) (_hi : i ≤ s.size) (h0 : (bt s i == (46 : UInt8).toNat) = true) (hin : i + 1 ≤ s.size) :
    Calls Tryz.prog 102 #[.pointer (some ⟨R, 0, none⟩)] w (BqEnd A R s fl d (.ok (Ep.dot (nlB fl)) (i + 1) g) w) := by
  have hlt := hR.lt
  have hb0 : Below w.heap.size w (w.alloc (.cells noNode 28)) := (Below.refl _ _).alloc (Nat.le_refl _) _
  have HR1 := Lib.hid (hR.later hb0)
  have Z1 := Lib.hid (heap_alloc_new w (.cells noNode 28))
  have HB1 := Lib.hid hb0
  have hs1 : w.heap.size < (w.alloc (.cells noNode 28)).heap.size := by simp
  have hRw : R ≠ w.heap.size := by omega
  clear hR hb0
  go_enter Tryz.func102, Tryz.ntmps102
  go_wp2_with fail
  generalize World.alloc _ _ = W at *
  refine (bqtakes_yes ⟨#[46]⟩ 1 rfl w0 A W R s hs fl i g d HR1.out hin (pre_one s i 46 true h0)).mono ?_
  rintro e w1 ⟨rfl, hr1, ht1⟩
  have Z2 := Lib.hid ((ht1.block w.heap.size hs1 (by simp; omega)).trans Z1.out)
  have HT2 := Lib.hid ((Touch.of_below [R] HB1.out).trans ht1)
  have HR2 := Lib.hid hr1
  obtain ⟨-, c1, -, -, -⟩ := bq5 hr1
  clear hr1 ht1 Z1 HB1 HR1
  go_wp2_with fail
  refine (ptdot_any fl _).mono ?_
  rintro e w5 ⟨rfl, hb5⟩
  have HP5 := Lib.hid (keep_blk hb5 HR2.out); have HT5 := Lib.hid (HT2.out.later hb5); have Z5 := Lib.hid (keep_blk hb5 Z2.out)
  clear c1 hb5 HR2 HT2 Z2
  have HTS : Hid ((Ep.dot (nlB fl)).subs = []) := Lib.hid rfl
  generalize Ep.dot (nlB fl) = T at *
  unfold Tr.cells
  go_wp2_with (first
    | (refine wpList_store_row rfl 28 (.tmp 2) (.tmp 10) rfl w.heap.size #[.int .i64 (T).kind, .int .u64 (Oc.U (T).w0), .int .u64 (Oc.U (T).w1), .int .u64 (Oc.U (T).w2), .int .u64 (Oc.U (T).w3), .slice none 0 0, .int .i64 (T).num, .int .i64 (T).least, .int .i64 (T).most, .bool (T).bare] rfl rfl 28 _ Z5.out (by kernel_rfl) rfl (by simp [Value.oneCell']) ?_)
    | fail)
  refine bodyPost_ret (results_cell_row rfl _ _ w.heap.size 28 #[.int .i64 (T).kind, .int .u64 (Oc.U (T).w0), .int .u64 (Oc.U (T).w1), .int .u64 (Oc.U (T).w2), .int .u64 (Oc.U (T).w3), .slice none 0 0, .int .i64 (T).num, .int .i64 (T).least, .int .i64 (T).most, .bool (T).bare] (0, 0) _ rfl (heap_setRow Z5.out) Tryz.underlying28 rfl (by kernel_rfl)) rfl ⟨⟨.slice none 0 0, [], rfl, ?_, fun b hb => (by cases hb), (heap_setRow_other _ _ _ hRw).trans HP5.out⟩, HT5.out.setRow_new (Nat.le_refl _) _⟩
  rw [HTS.out]; exact .nil _ _
set_option maxRecDepth 100000 in
set_option maxHeartbeats 4000000 in
theorem bqatom_brace (w0 : World) (A : Nat → Addr) (w : World) (R : Nat) (s : ByteArray) (hs : s.size ≤ 4294967280) (fl : Int) (i g d : Nat) (hR : BqAt w0 A w R s fl i g d) (hi : i ≤ s.size) (h0 : (bt s i == (46 : UInt8).toNat) = false) (h1 : (bt s i == (91 : UInt8).toNat) = false) (h2 : Bp.two (bt s) (92 : UInt8).toNat (40 : UInt8).toNat i = false) (h3 : Bp.two (bt s) (92 : UInt8).toNat (125 : UInt8).toNat i = true) :
    Calls Tryz.prog 102 #[.pointer (some ⟨R, 0, none⟩)] w (BqEnd A R s fl d (.err 3 i) w) := by
  have hlt := hR.lt
  have hb0 : Below w.heap.size w (w.alloc (.cells noNode 28)) := (Below.refl _ _).alloc (Nat.le_refl _) _
  have HR1 := Lib.hid (hR.later hb0)
  have Z1 := Lib.hid (heap_alloc_new w (.cells noNode 28))
  have HB1 := Lib.hid hb0
  have hs1 : w.heap.size < (w.alloc (.cells noNode 28)).heap.size := by simp
  have hRw : R ≠ w.heap.size := by omega
  clear hR hb0
  go_enter Tryz.func102, Tryz.ntmps102
  go_wp2_with fail
  generalize World.alloc _ _ = W at *
  refine (bqtakes_no ⟨#[46]⟩ w0 A W R s hs fl i g d HR1.out hi (pre_one s i 46 false h0)).mono ?_
  rintro e w1 ⟨rfl, n, rfl⟩
  have hbn := drewN_below (Below.refl W.heap.size W) n
  have HR2 := Lib.hid (HR1.out.later hbn)
  have Z2 := Lib.hid (keep_blk hbn Z1.out)
  have HB2 := Lib.hid (HB1.out.trans (hbn.mono HB1.out.size))
  have hs2 := Nat.lt_of_lt_of_le hs1 hbn.size
  clear hbn HR1 Z1 HB1 hs1
  generalize World.drewN W n = W2 at *
  go_wp2_with fail
  refine (bqstands_any ⟨#[91]⟩ false w0 A W2 R s hs fl i g d HR2.out hi (pre_one s i 91 false h1)).mono ?_
  rintro e w1 ⟨rfl, n, rfl⟩
  have hbn := drewN_below (Below.refl W2.heap.size W2) n
  have HR3 := Lib.hid (HR2.out.later hbn)
  have Z3 := Lib.hid (keep_blk hbn Z2.out)
  have HB3 := Lib.hid (HB2.out.trans (hbn.mono HB2.out.size))
  have hs3 := Nat.lt_of_lt_of_le hs2 hbn.size
  clear hbn HR2 Z2 HB2 hs2
  generalize World.drewN W2 n = W3 at *
  go_wp2_with fail
  refine (bqstands_any ⟨#[92, 40]⟩ false w0 A W3 R s hs fl i g d HR3.out hi (pre_two s i 92 40 false h2)).mono ?_
  rintro e w1 ⟨rfl, n, rfl⟩
  have hbn := drewN_below (Below.refl W3.heap.size W3) n
  have HR4 := Lib.hid (HR3.out.later hbn)
  have Z4 := Lib.hid (keep_blk hbn Z3.out)
  have HB4 := Lib.hid (HB3.out.trans (hbn.mono HB3.out.size))
  have hs4 := Nat.lt_of_lt_of_le hs3 hbn.size
  clear hbn HR3 Z3 HB3 hs3
  generalize World.drewN W3 n = W4 at *
  go_wp2_with fail
  refine (bqstands_any ⟨#[92, 125]⟩ true w0 A W4 R s hs fl i g d HR4.out hi (pre_two s i 92 125 true h3)).mono ?_
  rintro e w1 ⟨rfl, n, rfl⟩
  have hbn := drewN_below (Below.refl W4.heap.size W4) n
  have HR5 := Lib.hid (HR4.out.later hbn)
  have Z5 := Lib.hid (keep_blk hbn Z4.out)
  have HB5 := Lib.hid (HB4.out.trans (hbn.mono HB4.out.size))
  have hs5 := Nat.lt_of_lt_of_le hs4 hbn.size
  clear hbn HR4 Z4 HB4 hs4
  generalize World.drewN W4 n = W5 at *
  have ce : W5.cell? ⟨3, 0, none⟩ = some (.iface 184 (.pointer (some (A 2)))) := (HR5.out.now.errs 2 (by omega)).1
  go_wp2_with fail
  refine (bqfails_any w0 A 2 (by omega) W5 R s fl i g d HR5.out).mono ?_
  intro e w9 he4
  clear ce
  obtain ⟨v4, rfl, hv4, ht4⟩ := he4.err rfl
  have HG := Lib.hid (BqEnd.gave (R := R) (w := w) (fl := fl) (s := s) (d := d) hv4 (Nat.le_of_lt hs5) ((Touch.of_below [R] HB5.out).trans ht4))
  clear hv4 ht4 he4
  go_wp2
  exact ⟨rfl, HG.out⟩
set_option maxRecDepth 100000 in
set_option maxHeartbeats 4000000 in
theorem bqatom_set (w0 : World) (A : Nat → Addr) (w : World) (R : Nat) (s : ByteArray) (hs : s.size ≤ 4294967280) (fl : Int) (i g d : Nat) (hR : BqAt w0 A w R s fl i g d) (hi : i ≤ s.size) (h0 : (bt s i == (46 : UInt8).toNat) = false) (h1 : (bt s i == (91 : UInt8).toNat) = true) (O : Ep.Out) (HC : ∀ w, BqAt w0 A w R s fl i g d → Calls Tryz.prog 122 #[.pointer (some ⟨R, 0, none⟩)] w (BqEnd A R s fl d O w)) :
    Calls Tryz.prog 102 #[.pointer (some ⟨R, 0, none⟩)] w (BqEnd A R s fl d (O) w) := by
  have HC := Lib.hid HC
  have hlt := hR.lt
  have hb0 : Below w.heap.size w (w.alloc (.cells noNode 28)) := (Below.refl _ _).alloc (Nat.le_refl _) _
  have HR1 := Lib.hid (hR.later hb0)
  have Z1 := Lib.hid (heap_alloc_new w (.cells noNode 28))
  have HB1 := Lib.hid hb0
  have hs1 : w.heap.size < (w.alloc (.cells noNode 28)).heap.size := by simp
  have hRw : R ≠ w.heap.size := by omega
  clear hR hb0
  go_enter Tryz.func102, Tryz.ntmps102
  go_wp2_with fail
  generalize World.alloc _ _ = W at *
  refine (bqtakes_no ⟨#[46]⟩ w0 A W R s hs fl i g d HR1.out hi (pre_one s i 46 false h0)).mono ?_
  rintro e w1 ⟨rfl, n, rfl⟩
  have hbn := drewN_below (Below.refl W.heap.size W) n
  have HR2 := Lib.hid (HR1.out.later hbn)
  have Z2 := Lib.hid (keep_blk hbn Z1.out)
  have HB2 := Lib.hid (HB1.out.trans (hbn.mono HB1.out.size))
  have hs2 := Nat.lt_of_lt_of_le hs1 hbn.size
  clear hbn HR1 Z1 HB1 hs1
  generalize World.drewN W n = W2 at *
  go_wp2_with fail
  refine (bqstands_any ⟨#[91]⟩ true w0 A W2 R s hs fl i g d HR2.out hi (pre_one s i 91 true h1)).mono ?_
  rintro e w1 ⟨rfl, n, rfl⟩
  have hbn := drewN_below (Below.refl W2.heap.size W2) n
  have HR3 := Lib.hid (HR2.out.later hbn)
  have Z3 := Lib.hid (keep_blk hbn Z2.out)
  have HB3 := Lib.hid (HB2.out.trans (hbn.mono HB2.out.size))
  have hs3 := Nat.lt_of_lt_of_le hs2 hbn.size
  clear hbn HR2 Z2 HB2 hs2
  generalize World.drewN W2 n = W3 at *
  go_wp2_with fail
  refine (HC.out _ HR3.out).mono ?_
  intro e w9 he4
  clear HC
  cases O with
  | err c q =>
    obtain ⟨v4, rfl, hv4, ht4⟩ := he4.err rfl
    have HG := Lib.hid (BqEnd.gave (R := R) (w := w) (fl := fl) (s := s) (d := d) hv4 (Nat.le_of_lt hs3) ((Touch.of_below [R] HB3.out).trans ht4))
    clear hv4 ht4 he4
    go_wp2
    exact ⟨rfl, HG.out⟩
  | ok t j g' =>
    obtain ⟨v4, F4, rfl, ho4, hF4, hr4, ht4⟩ := he4.ok rfl
    obtain ⟨p4, c4, rfl, hl4⟩ := ho4.slice
    have Z9 := Lib.hid ((ht4.block w.heap.size hs3 (by simp; omega)).trans Z3.out)
    have HO9 := Lib.hid ho4
    have HF9 : Hid (∀ b, b ∈ F4 → w.heap.size < b) := Lib.hid fun b hb => Nat.lt_of_lt_of_le hs3 (hF4 b hb)
    have HRC := Lib.hid hr4
    have HT9 := Lib.hid ((Touch.of_below [R] HB3.out).trans ht4)
    clear ho4 hF4 hr4 ht4 he4 HR3 Z3 HB3 hs3
    unfold Tr.cells at *
    go_wp2_with (first
      | (refine wpList_store_row rfl 28 (.tmp 2) (.tmp 15) rfl w.heap.size #[.int .i64 (t).kind, .int .u64 (Oc.U (t).w0), .int .u64 (Oc.U (t).w1), .int .u64 (Oc.U (t).w2), .int .u64 (Oc.U (t).w3), .slice p4 t.subs.length c4, .int .i64 (t).num, .int .i64 (t).least, .int .i64 (t).most, .bool (t).bare] rfl rfl 28 _ Z9.out (by kernel_rfl) rfl (by simp [Value.oneCell']) ?_)
      | fail)
    exact bodyPost_ret (results_cell_row rfl _ _ w.heap.size 28 #[.int .i64 (t).kind, .int .u64 (Oc.U (t).w0), .int .u64 (Oc.U (t).w1), .int .u64 (Oc.U (t).w2), .int .u64 (Oc.U (t).w3), .slice p4 t.subs.length c4, .int .i64 (t).num, .int .i64 (t).least, .int .i64 (t).most, .bool (t).bare] (0, 0) _ rfl (heap_setRow Z9.out) Tryz.underlying28 rfl (by kernel_rfl)) rfl ⟨⟨.slice p4 t.subs.length c4, F4, rfl, HO9.out.keep fun b hb => heap_setRow_other _ _ _ (by have := HF9.out b hb; omega), fun b hb => Nat.le_of_lt (HF9.out b hb), (heap_setRow_other _ _ _ hRw).trans HRC.out⟩, HT9.out.setRow_new (Nat.le_refl _) _⟩
set_option maxRecDepth 100000 in
set_option maxHeartbeats 4000000 in
theorem bqatom_group (w0 : World) (A : Nat → Addr) (w : World) (R : Nat) (s : ByteArray) (hs : s.size ≤ 4294967280) (fl : Int) (i g d : Nat) (hR : BqAt w0 A w R s fl i g d) (hi : i ≤ s.size) (h0 : (bt s i == (46 : UInt8).toNat) = false) (h1 : (bt s i == (91 : UInt8).toNat) = false) (h2 : Bp.two (bt s) (92 : UInt8).toNat (40 : UInt8).toNat i = true) (O : Ep.Out) (HC : ∀ w, BqAt w0 A w R s fl i g d → Calls Tryz.prog 123 #[.pointer (some ⟨R, 0, none⟩)] w (BqEnd A R s fl d O w)) :
    Calls Tryz.prog 102 #[.pointer (some ⟨R, 0, none⟩)] w (BqEnd A R s fl d (O) w) := by
  have HC := Lib.hid HC
  have hlt := hR.lt
  have hb0 : Below w.heap.size w (w.alloc (.cells noNode 28)) := (Below.refl _ _).alloc (Nat.le_refl _) _
  have HR1 := Lib.hid (hR.later hb0)
  have Z1 := Lib.hid (heap_alloc_new w (.cells noNode 28))
  have HB1 := Lib.hid hb0
  have hs1 : w.heap.size < (w.alloc (.cells noNode 28)).heap.size := by simp
  have hRw : R ≠ w.heap.size := by omega
  clear hR hb0
  go_enter Tryz.func102, Tryz.ntmps102
  go_wp2_with fail
  generalize World.alloc _ _ = W at *
  refine (bqtakes_no ⟨#[46]⟩ w0 A W R s hs fl i g d HR1.out hi (pre_one s i 46 false h0)).mono ?_
  rintro e w1 ⟨rfl, n, rfl⟩
  have hbn := drewN_below (Below.refl W.heap.size W) n
  have HR2 := Lib.hid (HR1.out.later hbn)
  have Z2 := Lib.hid (keep_blk hbn Z1.out)
  have HB2 := Lib.hid (HB1.out.trans (hbn.mono HB1.out.size))
  have hs2 := Nat.lt_of_lt_of_le hs1 hbn.size
  clear hbn HR1 Z1 HB1 hs1
  generalize World.drewN W n = W2 at *
  go_wp2_with fail
  refine (bqstands_any ⟨#[91]⟩ false w0 A W2 R s hs fl i g d HR2.out hi (pre_one s i 91 false h1)).mono ?_
  rintro e w1 ⟨rfl, n, rfl⟩
  have hbn := drewN_below (Below.refl W2.heap.size W2) n
  have HR3 := Lib.hid (HR2.out.later hbn)
  have Z3 := Lib.hid (keep_blk hbn Z2.out)
  have HB3 := Lib.hid (HB2.out.trans (hbn.mono HB2.out.size))
  have hs3 := Nat.lt_of_lt_of_le hs2 hbn.size
  clear hbn HR2 Z2 HB2 hs2
  generalize World.drewN W2 n = W3 at *
  go_wp2_with fail
  refine (bqstands_any ⟨#[92, 40]⟩ true w0 A W3 R s hs fl i g d HR3.out hi (pre_two s i 92 40 true h2)).mono ?_
  rintro e w1 ⟨rfl, n, rfl⟩
  have hbn := drewN_below (Below.refl W3.heap.size W3) n
  have HR4 := Lib.hid (HR3.out.later hbn)
  have Z4 := Lib.hid (keep_blk hbn Z3.out)
  have HB4 := Lib.hid (HB3.out.trans (hbn.mono HB3.out.size))
  have hs4 := Nat.lt_of_lt_of_le hs3 hbn.size
  clear hbn HR3 Z3 HB3 hs3
  generalize World.drewN W3 n = W4 at *
  go_wp2_with fail
  refine (HC.out _ HR4.out).mono ?_
  intro e w9 he4
  clear HC
  cases O with
  | err c q =>
    obtain ⟨v4, rfl, hv4, ht4⟩ := he4.err rfl
    have HG := Lib.hid (BqEnd.gave (R := R) (w := w) (fl := fl) (s := s) (d := d) hv4 (Nat.le_of_lt hs4) ((Touch.of_below [R] HB4.out).trans ht4))
    clear hv4 ht4 he4
    go_wp2
    exact ⟨rfl, HG.out⟩
  | ok t j g' =>
    obtain ⟨v4, F4, rfl, ho4, hF4, hr4, ht4⟩ := he4.ok rfl
    obtain ⟨p4, c4, rfl, hl4⟩ := ho4.slice
    have Z9 := Lib.hid ((ht4.block w.heap.size hs4 (by simp; omega)).trans Z4.out)
    have HO9 := Lib.hid ho4
    have HF9 : Hid (∀ b, b ∈ F4 → w.heap.size < b) := Lib.hid fun b hb => Nat.lt_of_lt_of_le hs4 (hF4 b hb)
    have HRC := Lib.hid hr4
    have HT9 := Lib.hid ((Touch.of_below [R] HB4.out).trans ht4)
    clear ho4 hF4 hr4 ht4 he4 HR4 Z4 HB4 hs4
    unfold Tr.cells at *
    go_wp2_with (first
      | (refine wpList_store_row rfl 28 (.tmp 2) (.tmp 20) rfl w.heap.size #[.int .i64 (t).kind, .int .u64 (Oc.U (t).w0), .int .u64 (Oc.U (t).w1), .int .u64 (Oc.U (t).w2), .int .u64 (Oc.U (t).w3), .slice p4 t.subs.length c4, .int .i64 (t).num, .int .i64 (t).least, .int .i64 (t).most, .bool (t).bare] rfl rfl 28 _ Z9.out (by kernel_rfl) rfl (by simp [Value.oneCell']) ?_)
      | fail)
    exact bodyPost_ret (results_cell_row rfl _ _ w.heap.size 28 #[.int .i64 (t).kind, .int .u64 (Oc.U (t).w0), .int .u64 (Oc.U (t).w1), .int .u64 (Oc.U (t).w2), .int .u64 (Oc.U (t).w3), .slice p4 t.subs.length c4, .int .i64 (t).num, .int .i64 (t).least, .int .i64 (t).most, .bool (t).bare] (0, 0) _ rfl (heap_setRow Z9.out) Tryz.underlying28 rfl (by kernel_rfl)) rfl ⟨⟨.slice p4 t.subs.length c4, F4, rfl, HO9.out.keep fun b hb => heap_setRow_other _ _ _ (by have := HF9.out b hb; omega), fun b hb => Nat.le_of_lt (HF9.out b hb), (heap_setRow_other _ _ _ hRw).trans HRC.out⟩, HT9.out.setRow_new (Nat.le_refl _) _⟩
set_option maxRecDepth 100000 in
set_option maxHeartbeats 4000000 in
theorem bqatom_esc (w0 : World) (A : Nat → Addr) (w : World) (R : Nat) (s : ByteArray) (hs : s.size ≤ 4294967280) (fl : Int) (i g d : Nat) (hR : BqAt w0 A w R s fl i g d) (hi : i ≤ s.size) (h0 : (bt s i == (46 : UInt8).toNat) = false) (h1 : (bt s i == (91 : UInt8).toNat) = false) (h2 : Bp.two (bt s) (92 : UInt8).toNat (40 : UInt8).toNat i = false) (h3 : Bp.two (bt s) (92 : UInt8).toNat (125 : UInt8).toNat i = false) (h4 : (bt s i == (92 : UInt8).toNat) = true) (O : Ep.Out) (HC : ∀ w, BqAt w0 A w R s fl i g d → Calls Tryz.prog 124 #[.pointer (some ⟨R, 0, none⟩)] w (BqEnd A R s fl d O w)) :
    Calls Tryz.prog 102 #[.pointer (some ⟨R, 0, none⟩)] w (BqEnd A R s fl d (O) w) := by
  have HC := Lib.hid HC
  have hlt := hR.lt
  have hb0 : Below w.heap.size w (w.alloc (.cells noNode 28)) := (Below.refl _ _).alloc (Nat.le_refl _) _
  have HR1 := Lib.hid (hR.later hb0)
  have Z1 := Lib.hid (heap_alloc_new w (.cells noNode 28))
  have HB1 := Lib.hid hb0
  have hs1 : w.heap.size < (w.alloc (.cells noNode 28)).heap.size := by simp
  have hRw : R ≠ w.heap.size := by omega
  clear hR hb0
  go_enter Tryz.func102, Tryz.ntmps102
  go_wp2_with fail
  generalize World.alloc _ _ = W at *
  refine (bqtakes_no ⟨#[46]⟩ w0 A W R s hs fl i g d HR1.out hi (pre_one s i 46 false h0)).mono ?_
  rintro e w1 ⟨rfl, n, rfl⟩
  have hbn := drewN_below (Below.refl W.heap.size W) n
  have HR2 := Lib.hid (HR1.out.later hbn)
  have Z2 := Lib.hid (keep_blk hbn Z1.out)
  have HB2 := Lib.hid (HB1.out.trans (hbn.mono HB1.out.size))
  have hs2 := Nat.lt_of_lt_of_le hs1 hbn.size
  clear hbn HR1 Z1 HB1 hs1
  generalize World.drewN W n = W2 at *
  go_wp2_with fail
  refine (bqstands_any ⟨#[91]⟩ false w0 A W2 R s hs fl i g d HR2.out hi (pre_one s i 91 false h1)).mono ?_
  rintro e w1 ⟨rfl, n, rfl⟩
  have hbn := drewN_below (Below.refl W2.heap.size W2) n
  have HR3 := Lib.hid (HR2.out.later hbn)
  have Z3 := Lib.hid (keep_blk hbn Z2.out)
  have HB3 := Lib.hid (HB2.out.trans (hbn.mono HB2.out.size))
  have hs3 := Nat.lt_of_lt_of_le hs2 hbn.size
  clear hbn HR2 Z2 HB2 hs2
  generalize World.drewN W2 n = W3 at *
  go_wp2_with fail
  refine (bqstands_any ⟨#[92, 40]⟩ false w0 A W3 R s hs fl i g d HR3.out hi (pre_two s i 92 40 false h2)).mono ?_
  rintro e w1 ⟨rfl, n, rfl⟩
  have hbn := drewN_below (Below.refl W3.heap.size W3) n
  have HR4 := Lib.hid (HR3.out.later hbn)
  have Z4 := Lib.hid (keep_blk hbn Z3.out)
  have HB4 := Lib.hid (HB3.out.trans (hbn.mono HB3.out.size))
  have hs4 := Nat.lt_of_lt_of_le hs3 hbn.size
  clear hbn HR3 Z3 HB3 hs3
  generalize World.drewN W3 n = W4 at *
  go_wp2_with fail
  refine (bqstands_any ⟨#[92, 125]⟩ false w0 A W4 R s hs fl i g d HR4.out hi (pre_two s i 92 125 false h3)).mono ?_
  rintro e w1 ⟨rfl, n, rfl⟩
  have hbn := drewN_below (Below.refl W4.heap.size W4) n
  have HR5 := Lib.hid (HR4.out.later hbn)
  have Z5 := Lib.hid (keep_blk hbn Z4.out)
  have HB5 := Lib.hid (HB4.out.trans (hbn.mono HB4.out.size))
  have hs5 := Nat.lt_of_lt_of_le hs4 hbn.size
  clear hbn HR4 Z4 HB4 hs4
  generalize World.drewN W4 n = W5 at *
  go_wp2_with fail
  refine (bqstands_any ⟨#[92]⟩ true w0 A W5 R s hs fl i g d HR5.out hi (pre_one s i 92 true h4)).mono ?_
  rintro e w1 ⟨rfl, n, rfl⟩
  have hbn := drewN_below (Below.refl W5.heap.size W5) n
  have HR6 := Lib.hid (HR5.out.later hbn)
  have Z6 := Lib.hid (keep_blk hbn Z5.out)
  have HB6 := Lib.hid (HB5.out.trans (hbn.mono HB5.out.size))
  have hs6 := Nat.lt_of_lt_of_le hs5 hbn.size
  clear hbn HR5 Z5 HB5 hs5
  generalize World.drewN W5 n = W6 at *
  go_wp2_with fail
  refine (HC.out _ HR6.out).mono ?_
  intro e w9 he4
  clear HC
  cases O with
  | err c q =>
    obtain ⟨v4, rfl, hv4, ht4⟩ := he4.err rfl
    have HG := Lib.hid (BqEnd.gave (R := R) (w := w) (fl := fl) (s := s) (d := d) hv4 (Nat.le_of_lt hs6) ((Touch.of_below [R] HB6.out).trans ht4))
    clear hv4 ht4 he4
    go_wp2
    exact ⟨rfl, HG.out⟩
  | ok t j g' =>
    obtain ⟨v4, F4, rfl, ho4, hF4, hr4, ht4⟩ := he4.ok rfl
    obtain ⟨p4, c4, rfl, hl4⟩ := ho4.slice
    have Z9 := Lib.hid ((ht4.block w.heap.size hs6 (by simp; omega)).trans Z6.out)
    have HO9 := Lib.hid ho4
    have HF9 : Hid (∀ b, b ∈ F4 → w.heap.size < b) := Lib.hid fun b hb => Nat.lt_of_lt_of_le hs6 (hF4 b hb)
    have HRC := Lib.hid hr4
    have HT9 := Lib.hid ((Touch.of_below [R] HB6.out).trans ht4)
    clear ho4 hF4 hr4 ht4 he4 HR6 Z6 HB6 hs6
    unfold Tr.cells at *
    go_wp2_with (first
      | (refine wpList_store_row rfl 28 (.tmp 2) (.tmp 31) rfl w.heap.size #[.int .i64 (t).kind, .int .u64 (Oc.U (t).w0), .int .u64 (Oc.U (t).w1), .int .u64 (Oc.U (t).w2), .int .u64 (Oc.U (t).w3), .slice p4 t.subs.length c4, .int .i64 (t).num, .int .i64 (t).least, .int .i64 (t).most, .bool (t).bare] rfl rfl 28 _ Z9.out (by kernel_rfl) rfl (by simp [Value.oneCell']) ?_)
      | fail)
    exact bodyPost_ret (results_cell_row rfl _ _ w.heap.size 28 #[.int .i64 (t).kind, .int .u64 (Oc.U (t).w0), .int .u64 (Oc.U (t).w1), .int .u64 (Oc.U (t).w2), .int .u64 (Oc.U (t).w3), .slice p4 t.subs.length c4, .int .i64 (t).num, .int .i64 (t).least, .int .i64 (t).most, .bool (t).bare] (0, 0) _ rfl (heap_setRow Z9.out) Tryz.underlying28 rfl (by kernel_rfl)) rfl ⟨⟨.slice p4 t.subs.length c4, F4, rfl, HO9.out.keep fun b hb => heap_setRow_other _ _ _ (by have := HF9.out b hb; omega), fun b hb => Nat.le_of_lt (HF9.out b hb), (heap_setRow_other _ _ _ hRw).trans HRC.out⟩, HT9.out.setRow_new (Nat.le_refl _) _⟩
set_option maxRecDepth 100000 in
set_option maxHeartbeats 4000000 in
theorem bqatom_plain (w0 : World) (A : Nat → Addr) (w : World) (R : Nat) (s : ByteArray) (hs : s.size ≤ 4294967280) (fl : Int) (i g d : Nat) (hR : BqAt w0 A w R s fl i g d) (hi : i ≤ s.size) (h0 : (bt s i == (46 : UInt8).toNat) = false) (h1 : (bt s i == (91 : UInt8).toNat) = false) (h2 : Bp.two (bt s) (92 : UInt8).toNat (40 : UInt8).toNat i = false) (h3 : Bp.two (bt s) (92 : UInt8).toNat (125 : UInt8).toNat i = false) (h4 : (bt s i == (92 : UInt8).toNat) = false) (O : Ep.Out) (HC : ∀ w, BqAt w0 A w R s fl i g d → Calls Tryz.prog 81 #[.pointer (some ⟨R, 0, none⟩)] w (BqEnd A R s fl d O w)) :
    Calls Tryz.prog 102 #[.pointer (some ⟨R, 0, none⟩)] w (BqEnd A R s fl d (O) w) := by
  have HC := Lib.hid HC
  have hlt := hR.lt
  have hb0 : Below w.heap.size w (w.alloc (.cells noNode 28)) := (Below.refl _ _).alloc (Nat.le_refl _) _
  have HR1 := Lib.hid (hR.later hb0)
  have Z1 := Lib.hid (heap_alloc_new w (.cells noNode 28))
  have HB1 := Lib.hid hb0
  have hs1 : w.heap.size < (w.alloc (.cells noNode 28)).heap.size := by simp
  have hRw : R ≠ w.heap.size := by omega
  clear hR hb0
  go_enter Tryz.func102, Tryz.ntmps102
  go_wp2_with fail
  generalize World.alloc _ _ = W at *
  refine (bqtakes_no ⟨#[46]⟩ w0 A W R s hs fl i g d HR1.out hi (pre_one s i 46 false h0)).mono ?_
  rintro e w1 ⟨rfl, n, rfl⟩
  have hbn := drewN_below (Below.refl W.heap.size W) n
  have HR2 := Lib.hid (HR1.out.later hbn)
  have Z2 := Lib.hid (keep_blk hbn Z1.out)
  have HB2 := Lib.hid (HB1.out.trans (hbn.mono HB1.out.size))
  have hs2 := Nat.lt_of_lt_of_le hs1 hbn.size
  clear hbn HR1 Z1 HB1 hs1
  generalize World.drewN W n = W2 at *
  go_wp2_with fail
  refine (bqstands_any ⟨#[91]⟩ false w0 A W2 R s hs fl i g d HR2.out hi (pre_one s i 91 false h1)).mono ?_
  rintro e w1 ⟨rfl, n, rfl⟩
  have hbn := drewN_below (Below.refl W2.heap.size W2) n
  have HR3 := Lib.hid (HR2.out.later hbn)
  have Z3 := Lib.hid (keep_blk hbn Z2.out)
  have HB3 := Lib.hid (HB2.out.trans (hbn.mono HB2.out.size))
  have hs3 := Nat.lt_of_lt_of_le hs2 hbn.size
  clear hbn HR2 Z2 HB2 hs2
  generalize World.drewN W2 n = W3 at *
  go_wp2_with fail
  refine (bqstands_any ⟨#[92, 40]⟩ false w0 A W3 R s hs fl i g d HR3.out hi (pre_two s i 92 40 false h2)).mono ?_
  rintro e w1 ⟨rfl, n, rfl⟩
  have hbn := drewN_below (Below.refl W3.heap.size W3) n
  have HR4 := Lib.hid (HR3.out.later hbn)
  have Z4 := Lib.hid (keep_blk hbn Z3.out)
  have HB4 := Lib.hid (HB3.out.trans (hbn.mono HB3.out.size))
  have hs4 := Nat.lt_of_lt_of_le hs3 hbn.size
  clear hbn HR3 Z3 HB3 hs3
  generalize World.drewN W3 n = W4 at *
  go_wp2_with fail
  refine (bqstands_any ⟨#[92, 125]⟩ false w0 A W4 R s hs fl i g d HR4.out hi (pre_two s i 92 125 false h3)).mono ?_
  rintro e w1 ⟨rfl, n, rfl⟩
  have hbn := drewN_below (Below.refl W4.heap.size W4) n
  have HR5 := Lib.hid (HR4.out.later hbn)
  have Z5 := Lib.hid (keep_blk hbn Z4.out)
  have HB5 := Lib.hid (HB4.out.trans (hbn.mono HB4.out.size))
  have hs5 := Nat.lt_of_lt_of_le hs4 hbn.size
  clear hbn HR4 Z4 HB4 hs4
  generalize World.drewN W4 n = W5 at *
  go_wp2_with fail
  refine (bqstands_any ⟨#[92]⟩ false w0 A W5 R s hs fl i g d HR5.out hi (pre_one s i 92 false h4)).mono ?_
  rintro e w1 ⟨rfl, n, rfl⟩
  have hbn := drewN_below (Below.refl W5.heap.size W5) n
  have HR6 := Lib.hid (HR5.out.later hbn)
  have Z6 := Lib.hid (keep_blk hbn Z5.out)
  have HB6 := Lib.hid (HB5.out.trans (hbn.mono HB5.out.size))
  have hs6 := Nat.lt_of_lt_of_le hs5 hbn.size
  clear hbn HR5 Z5 HB5 hs5
  generalize World.drewN W5 n = W6 at *
  go_wp2_with fail
  refine (HC.out _ HR6.out).mono ?_
  intro e w9 he4
  clear HC
  cases O with
  | err c q =>
    obtain ⟨v4, rfl, hv4, ht4⟩ := he4.err rfl
    have HG := Lib.hid (BqEnd.gave (R := R) (w := w) (fl := fl) (s := s) (d := d) hv4 (Nat.le_of_lt hs6) ((Touch.of_below [R] HB6.out).trans ht4))
    clear hv4 ht4 he4
    go_wp2
    exact ⟨rfl, HG.out⟩
  | ok t j g' =>
    obtain ⟨v4, F4, rfl, ho4, hF4, hr4, ht4⟩ := he4.ok rfl
    obtain ⟨p4, c4, rfl, hl4⟩ := ho4.slice
    have Z9 := Lib.hid ((ht4.block w.heap.size hs6 (by simp; omega)).trans Z6.out)
    have HO9 := Lib.hid ho4
    have HF9 : Hid (∀ b, b ∈ F4 → w.heap.size < b) := Lib.hid fun b hb => Nat.lt_of_lt_of_le hs6 (hF4 b hb)
    have HRC := Lib.hid hr4
    have HT9 := Lib.hid ((Touch.of_below [R] HB6.out).trans ht4)
    clear ho4 hF4 hr4 ht4 he4 HR6 Z6 HB6 hs6
    unfold Tr.cells at *
    go_wp2_with (first
      | (refine wpList_store_row rfl 28 (.tmp 2) (.tmp 33) rfl w.heap.size #[.int .i64 (t).kind, .int .u64 (Oc.U (t).w0), .int .u64 (Oc.U (t).w1), .int .u64 (Oc.U (t).w2), .int .u64 (Oc.U (t).w3), .slice p4 t.subs.length c4, .int .i64 (t).num, .int .i64 (t).least, .int .i64 (t).most, .bool (t).bare] rfl rfl 28 _ Z9.out (by kernel_rfl) rfl (by simp [Value.oneCell']) ?_)
      | fail)
    exact bodyPost_ret (results_cell_row rfl _ _ w.heap.size 28 #[.int .i64 (t).kind, .int .u64 (Oc.U (t).w0), .int .u64 (Oc.U (t).w1), .int .u64 (Oc.U (t).w2), .int .u64 (Oc.U (t).w3), .slice p4 t.subs.length c4, .int .i64 (t).num, .int .i64 (t).least, .int .i64 (t).most, .bool (t).bare] (0, 0) _ rfl (heap_setRow Z9.out) Tryz.underlying28 rfl (by kernel_rfl)) rfl ⟨⟨.slice p4 t.subs.length c4, F4, rfl, HO9.out.keep fun b hb => heap_setRow_other _ _ _ (by have := HF9.out b hb; omega), fun b hb => Nat.le_of_lt (HF9.out b hb), (heap_setRow_other _ _ _ hRw).trans HRC.out⟩, HT9.out.setRow_new (Nat.le_refl _) _⟩
/-- What an atom is read to. -/
theorem bqatom_any (w0 : World) (A : Nat → Addr) (w : World) (R : Nat) (s : ByteArray) (hs : s.size ≤ 4294967280) (fl : Int) (i g d : Nat) (hR : BqAt w0 A w R s fl i g d) (hi : i < s.size) (H : Nat → Nat → Ep.Out)
    (HG : ∀ w, BqAt w0 A w R s fl i g d → i + 1 < s.size → Calls Tryz.prog 123 #[.pointer (some ⟨R, 0, none⟩)] w (BqEnd A R s fl d (H i g) w)) :
    Calls Tryz.prog 102 #[.pointer (some ⟨R, 0, none⟩)] w (BqEnd A R s fl d (Bp.atom (bt s) s.size (icB fl) (nlB fl) H i g) w) := by
  have hi' : i ≤ s.size := by omega
  have no : ∀ n : UInt8, ¬ bt s i = n.toNat → (bt s i == n.toNat) = false := fun n h => by simpa using h
  have yes : ∀ n : UInt8, bt s i = n.toNat → (bt s i == n.toNat) = true := fun n h => by simpa using h
  unfold Bp.atom
  by_cases c0 : bt s i = 46
  · rw [if_pos c0]; exact bqatom_dot w0 A w R s hs fl i g d hR hi' (yes 46 c0) (by omega)
  rw [if_neg c0]
  by_cases c1 : bt s i = 91
  · rw [if_pos c1]
    refine bqatom_set w0 A w R s hs fl i g d hR hi' (no 46 c0) (yes 91 c1) _ fun w hR => ?_
    cases hw : Br.whole (bt s) s.size i (icB fl) (nlB fl) with
    | ok P j => exact bqbracketed_ok w0 A w R s hs fl i g d hR c1 P j hw
    | err c q => exact bqbracketed_err w0 A w R s hs fl i g d hR c1 c q hw
  rw [if_neg c1]
  by_cases c2 : Bp.two (bt s) 92 40 i = true
  · rw [if_pos c2]
    exact bqatom_group w0 A w R s hs fl i g d hR hi' (no 46 c0) (no 91 c1) c2 _ fun w hR => HG w hR (Bp.two_lt (bt_txt s) c2 (by omega) (by omega))
  rw [if_neg c2]
  have c2' : Bp.two (bt s) 92 40 i = false := by simpa using c2
  by_cases c3 : Bp.two (bt s) 92 125 i = true
  · rw [if_pos c3]; exact bqatom_brace w0 A w R s hs fl i g d hR hi' (no 46 c0) (no 91 c1) c2' c3
  rw [if_neg c3]
  have c3' : Bp.two (bt s) 92 125 i = false := by simpa using c3
  by_cases c4 : bt s i = 92
  · rw [if_pos c4]
    refine bqatom_esc w0 A w R s hs fl i g d hR hi' (no 46 c0) (no 91 c1) c2' c3' (yes 92 c4) _ fun w hR => ?_
    by_cases hl : i + 1 = s.size
    · rw [if_neg (by rw [bt_out (by omega)]; decide)]
      exact bqescaped_end w0 A w R s hs fl i g d hR hl
    · by_cases hp : Cl.cls 8 (bt s (i + 1)) = true
      · rw [if_pos hp]; exact bqescaped_ok w0 A w R s hs fl i g d hR (by omega) hp
      · rw [if_neg hp]; exact bqescaped_no w0 A w R s hs fl i g d hR (by omega) (by simpa using hp)
  · rw [if_neg c4]
    exact bqatom_plain w0 A w R s hs fl i g d hR hi' (no 46 c0) (no 91 c1) c2' c3' (no 92 c4) _ fun w hR => (bqplain_any w0 A w R s hs fl i g d hR hi).mono fun e w' h => h.nd rfl
set_option maxRecDepth 100000 in
set_option maxHeartbeats 4000000 in
theorem bqpiece_end (w0 : World) (A : Nat → Addr) (w : World) (R : Nat) (s : ByteArray) (hs : s.size ≤ 4294967280) (fl : Int) (i g d : Nat) (hR : BqAt w0 A w R s fl i g d) (hi : i ≤ s.size) (hin : i + 1 ≤ s.size) (he : Bp.isEnd (bt s) s.size i = true) :
    Calls Tryz.prog 82 #[.pointer (some ⟨R, 0, none⟩)] w (BqEnd A R s fl d (.ok (.leaf 4) (i + 1) g) w) := by
  have hlt := hR.lt
  have hb0 : Below w.heap.size w (w.alloc (.cells noNode 28)) := (Below.refl _ _).alloc (Nat.le_refl _) _
  have HR1 := Lib.hid (hR.later hb0)
  have Z1 := Lib.hid (heap_alloc_new w (.cells noNode 28))
  have HB1 := Lib.hid hb0
  have hs1 : w.heap.size < (w.alloc (.cells noNode 28)).heap.size := by simp
  have hRw : R ≠ w.heap.size := by omega
  clear hR hb0
  go_enter Tryz.func82, Tryz.ntmps82
  go_wp2_with fail
  generalize World.alloc _ _ = W at *
  refine (isend_any w0 A W R s hs fl i g d HR1.out hi true he).mono ?_
  rintro e w1 ⟨rfl, n, rfl⟩
  have hbn := drewN_below (Below.refl W.heap.size W) n
  have HR2 := Lib.hid (HR1.out.later hbn)
  have Z2 := Lib.hid (keep_blk hbn Z1.out)
  have HB2 := Lib.hid (HB1.out.trans (hbn.mono HB1.out.size))
  have hs2 := Nat.lt_of_lt_of_le hs1 hbn.size
  clear hbn HR1 Z1 HB1 hs1
  generalize World.drewN W n = W2 at *
  have hw : IntKind.i64.wrap ((i : Int) + 1) = (i : Int) + 1 := IntWalk.i64_in _ (by omega)
  obtain ⟨-, -, c2, -, -⟩ := bq5 HR2.out.cell
  obtain ⟨f2, -, -⟩ := bqf HR2.out.cell
  have HP := Lib.hid (bq_place HR2.out.cell (i + 1) (v := (i : Int) + 1) (by omega))
  have HT := Lib.hid ((Touch.of_below [R] HB2.out).setCell List.mem_cons_self 2 (.int .i64 ((i : Int) + 1)))
  have Z5 := Lib.hid ((Below.heap_setCell W2 ⟨R, 2, none⟩ (.int .i64 ((i : Int) + 1)) w.heap.size (Ne.symm hRw)).trans Z2.out)
  clear HR2 HB2 Z2 he hin
  go_wp2_with (first
    | (refine wpList_store_row rfl 28 (.tmp 2) (.tmp 13) rfl w.heap.size #[.int .i64 4, .int .u64 0, .int .u64 0, .int .u64 0, .int .u64 0, .slice none 0 0, .int .i64 0, .int .i64 0, .int .i64 0, .bool false] rfl rfl 28 _ Z5.out (by kernel_rfl) rfl (by simp [Value.oneCell']) ?_)
    | fail)
  exact bodyPost_ret (results_cell_row rfl _ _ w.heap.size 28 #[.int .i64 4, .int .u64 0, .int .u64 0, .int .u64 0, .int .u64 0, .slice none 0 0, .int .i64 0, .int .i64 0, .int .i64 0, .bool false] (0, 0) _ rfl (heap_setRow Z5.out) Tryz.underlying28 rfl (by kernel_rfl)) rfl ⟨⟨.slice none 0 0, [], rfl, .nil _ _, fun b hb => (by cases hb), (heap_setRow_other _ _ _ hRw).trans HP.out⟩, HT.out.setRow_new (Nat.le_refl _) _⟩
set_option maxRecDepth 100000 in
set_option maxHeartbeats 4000000 in
theorem bqpiece_star (w0 : World) (A : Nat → Addr) (w : World) (R : Nat) (s : ByteArray) (hs : s.size ≤ 4294967280) (fl : Int) (i g d : Nat) (hR : BqAt w0 A w R s fl i g d) (hi : i ≤ s.size) (he : Bp.isEnd (bt s) s.size i = false) (h0 : (bt s i == (42 : UInt8).toNat) = true) :
    Calls Tryz.prog 82 #[.pointer (some ⟨R, 0, none⟩)] w (BqEnd A R s fl d (.err 9 i) w) := by
  have hlt := hR.lt
  have hb0 : Below w.heap.size w (w.alloc (.cells noNode 28)) := (Below.refl _ _).alloc (Nat.le_refl _) _
  have HR1 := Lib.hid (hR.later hb0)
  have Z1 := Lib.hid (heap_alloc_new w (.cells noNode 28))
  have HB1 := Lib.hid hb0
  have hs1 : w.heap.size < (w.alloc (.cells noNode 28)).heap.size := by simp
  have hRw : R ≠ w.heap.size := by omega
  clear hR hb0
  go_enter Tryz.func82, Tryz.ntmps82
  go_wp2_with fail
  generalize World.alloc _ _ = W at *
  refine (isend_any w0 A W R s hs fl i g d HR1.out hi false he).mono ?_
  rintro e w1 ⟨rfl, n, rfl⟩
  have hbn := drewN_below (Below.refl W.heap.size W) n
  have HR2 := Lib.hid (HR1.out.later hbn)
  have Z2 := Lib.hid (keep_blk hbn Z1.out)
  have HB2 := Lib.hid (HB1.out.trans (hbn.mono HB1.out.size))
  have hs2 := Nat.lt_of_lt_of_le hs1 hbn.size
  clear hbn HR1 Z1 HB1 hs1
  generalize World.drewN W n = W2 at *
  go_wp2_with fail
  refine (bqstands_any ⟨#[42]⟩ true w0 A W2 R s hs fl i g d HR2.out hi (pre_one s i 42 true h0)).mono ?_
  rintro e w1 ⟨rfl, n, rfl⟩
  have hbn := drewN_below (Below.refl W2.heap.size W2) n
  have HR3 := Lib.hid (HR2.out.later hbn)
  have Z3 := Lib.hid (keep_blk hbn Z2.out)
  have HB3 := Lib.hid (HB2.out.trans (hbn.mono HB2.out.size))
  have hs3 := Nat.lt_of_lt_of_le hs2 hbn.size
  clear hbn HR2 Z2 HB2 hs2
  generalize World.drewN W2 n = W3 at *
  have ce : W3.cell? ⟨9, 0, none⟩ = some (.iface 184 (.pointer (some (A 8)))) := (HR3.out.now.errs 8 (by omega)).1
  go_wp2_with fail
  refine (bqfails_any w0 A 8 (by omega) W3 R s fl i g d HR3.out).mono ?_
  intro e w9 he4
  clear ce
  obtain ⟨v4, rfl, hv4, ht4⟩ := he4.err rfl
  have HG := Lib.hid (BqEnd.gave (R := R) (w := w) (fl := fl) (s := s) (d := d) hv4 (Nat.le_of_lt hs3) ((Touch.of_below [R] HB3.out).trans ht4))
  clear hv4 ht4 he4
  go_wp2
  exact ⟨rfl, HG.out⟩
set_option maxRecDepth 100000 in
set_option maxHeartbeats 4000000 in
theorem bqpiece_brace (w0 : World) (A : Nat → Addr) (w : World) (R : Nat) (s : ByteArray) (hs : s.size ≤ 4294967280) (fl : Int) (i g d : Nat) (hR : BqAt w0 A w R s fl i g d) (hi : i ≤ s.size) (he : Bp.isEnd (bt s) s.size i = false) (h0 : (bt s i == (42 : UInt8).toNat) = false) (h1 : Bp.two (bt s) (92 : UInt8).toNat (123 : UInt8).toNat i = true) :
    Calls Tryz.prog 82 #[.pointer (some ⟨R, 0, none⟩)] w (BqEnd A R s fl d (.err 9 i) w) := by
  have hlt := hR.lt
  have hb0 : Below w.heap.size w (w.alloc (.cells noNode 28)) := (Below.refl _ _).alloc (Nat.le_refl _) _
  have HR1 := Lib.hid (hR.later hb0)
  have Z1 := Lib.hid (heap_alloc_new w (.cells noNode 28))
  have HB1 := Lib.hid hb0
  have hs1 : w.heap.size < (w.alloc (.cells noNode 28)).heap.size := by simp
  have hRw : R ≠ w.heap.size := by omega
  clear hR hb0
  go_enter Tryz.func82, Tryz.ntmps82
  go_wp2_with fail
  generalize World.alloc _ _ = W at *
  refine (isend_any w0 A W R s hs fl i g d HR1.out hi false he).mono ?_
  rintro e w1 ⟨rfl, n, rfl⟩
  have hbn := drewN_below (Below.refl W.heap.size W) n
  have HR2 := Lib.hid (HR1.out.later hbn)
  have Z2 := Lib.hid (keep_blk hbn Z1.out)
  have HB2 := Lib.hid (HB1.out.trans (hbn.mono HB1.out.size))
  have hs2 := Nat.lt_of_lt_of_le hs1 hbn.size
  clear hbn HR1 Z1 HB1 hs1
  generalize World.drewN W n = W2 at *
  go_wp2_with fail
  refine (bqstands_any ⟨#[42]⟩ false w0 A W2 R s hs fl i g d HR2.out hi (pre_one s i 42 false h0)).mono ?_
  rintro e w1 ⟨rfl, n, rfl⟩
  have hbn := drewN_below (Below.refl W2.heap.size W2) n
  have HR3 := Lib.hid (HR2.out.later hbn)
  have Z3 := Lib.hid (keep_blk hbn Z2.out)
  have HB3 := Lib.hid (HB2.out.trans (hbn.mono HB2.out.size))
  have hs3 := Nat.lt_of_lt_of_le hs2 hbn.size
  clear hbn HR2 Z2 HB2 hs2
  generalize World.drewN W2 n = W3 at *
  go_wp2_with fail
  refine (bqstands_any ⟨#[92, 123]⟩ true w0 A W3 R s hs fl i g d HR3.out hi (pre_two s i 92 123 true h1)).mono ?_
  rintro e w1 ⟨rfl, n, rfl⟩
  have hbn := drewN_below (Below.refl W3.heap.size W3) n
  have HR4 := Lib.hid (HR3.out.later hbn)
  have Z4 := Lib.hid (keep_blk hbn Z3.out)
  have HB4 := Lib.hid (HB3.out.trans (hbn.mono HB3.out.size))
  have hs4 := Nat.lt_of_lt_of_le hs3 hbn.size
  clear hbn HR3 Z3 HB3 hs3
  generalize World.drewN W3 n = W4 at *
  have ce : W4.cell? ⟨9, 0, none⟩ = some (.iface 184 (.pointer (some (A 8)))) := (HR4.out.now.errs 8 (by omega)).1
  go_wp2_with fail
  refine (bqfails_any w0 A 8 (by omega) W4 R s fl i g d HR4.out).mono ?_
  intro e w9 he4
  clear ce
  obtain ⟨v4, rfl, hv4, ht4⟩ := he4.err rfl
  have HG := Lib.hid (BqEnd.gave (R := R) (w := w) (fl := fl) (s := s) (d := d) hv4 (Nat.le_of_lt hs4) ((Touch.of_below [R] HB4.out).trans ht4))
  clear hv4 ht4 he4
  go_wp2
  exact ⟨rfl, HG.out⟩
set_option maxRecDepth 100000 in
set_option maxHeartbeats 4000000 in
theorem bqpiece_atom (w0 : World) (A : Nat → Addr) (w : World) (R : Nat) (s : ByteArray) (hs : s.size ≤ 4294967280) (fl : Int) (i g d : Nat) (hR : BqAt w0 A w R s fl i g d) (hi : i ≤ s.size) (he : Bp.isEnd (bt s) s.size i = false) (h0 : (bt s i == (42 : UInt8).toNat) = false) (h1 : Bp.two (bt s) (92 : UInt8).toNat (123 : UInt8).toNat i = false) (O : Ep.Out) (hO : ∀ t j g', O = .ok t j g' → j ≤ s.size ∧ t.InForm) (HC : ∀ w, BqAt w0 A w R s fl i g d → Calls Tryz.prog 102 #[.pointer (some ⟨R, 0, none⟩)] w (BqEnd A R s fl d O w)) :
    Calls Tryz.prog 82 #[.pointer (some ⟨R, 0, none⟩)] w (BqEnd A R s fl d (Bp.more (bt s) s.size O) w) := by
  have HC := Lib.hid HC
  have hlt := hR.lt
  have hb0 : Below w.heap.size w (w.alloc (.cells noNode 28)) := (Below.refl _ _).alloc (Nat.le_refl _) _
  have HR1 := Lib.hid (hR.later hb0)
  have Z1 := Lib.hid (heap_alloc_new w (.cells noNode 28))
  have HB1 := Lib.hid hb0
  have hs1 : w.heap.size < (w.alloc (.cells noNode 28)).heap.size := by simp
  have hRw : R ≠ w.heap.size := by omega
  clear hR hb0
  go_enter Tryz.func82, Tryz.ntmps82
  go_wp2_with fail
  generalize World.alloc _ _ = W at *
  refine (isend_any w0 A W R s hs fl i g d HR1.out hi false he).mono ?_
  rintro e w1 ⟨rfl, n, rfl⟩
  have hbn := drewN_below (Below.refl W.heap.size W) n
  have HR2 := Lib.hid (HR1.out.later hbn)
  have Z2 := Lib.hid (keep_blk hbn Z1.out)
  have HB2 := Lib.hid (HB1.out.trans (hbn.mono HB1.out.size))
  have hs2 := Nat.lt_of_lt_of_le hs1 hbn.size
  clear hbn HR1 Z1 HB1 hs1
  generalize World.drewN W n = W2 at *
  go_wp2_with fail
  refine (bqstands_any ⟨#[42]⟩ false w0 A W2 R s hs fl i g d HR2.out hi (pre_one s i 42 false h0)).mono ?_
  rintro e w1 ⟨rfl, n, rfl⟩
  have hbn := drewN_below (Below.refl W2.heap.size W2) n
  have HR3 := Lib.hid (HR2.out.later hbn)
  have Z3 := Lib.hid (keep_blk hbn Z2.out)
  have HB3 := Lib.hid (HB2.out.trans (hbn.mono HB2.out.size))
  have hs3 := Nat.lt_of_lt_of_le hs2 hbn.size
  clear hbn HR2 Z2 HB2 hs2
  generalize World.drewN W2 n = W3 at *
  go_wp2_with fail
  refine (bqstands_any ⟨#[92, 123]⟩ false w0 A W3 R s hs fl i g d HR3.out hi (pre_two s i 92 123 false h1)).mono ?_
  rintro e w1 ⟨rfl, n, rfl⟩
  have hbn := drewN_below (Below.refl W3.heap.size W3) n
  have HR4 := Lib.hid (HR3.out.later hbn)
  have Z4 := Lib.hid (keep_blk hbn Z3.out)
  have HB4 := Lib.hid (HB3.out.trans (hbn.mono HB3.out.size))
  have hs4 := Nat.lt_of_lt_of_le hs3 hbn.size
  clear hbn HR3 Z3 HB3 hs3
  generalize World.drewN W3 n = W4 at *
  go_wp2_with fail
  refine (HC.out _ HR4.out).mono ?_
  intro e w9 he4
  clear HC
  cases O with
  | err c q =>
    obtain ⟨v4, rfl, hv4, ht4⟩ := he4.err rfl
    have HG := Lib.hid (BqEnd.gave (R := R) (w := w) (fl := fl) (s := s) (d := d) hv4 (Nat.le_of_lt hs4) ((Touch.of_below [R] HB4.out).trans ht4))
    clear hv4 ht4 he4
    go_wp2
    exact ⟨rfl, HG.out⟩
  | ok t j g' =>
    obtain ⟨hj, hfm⟩ := hO t j g' rfl
    obtain ⟨v4, F4, rfl, ho4, hF4, hr4, ht4⟩ := he4.ok rfl
    have HR9 := Lib.hid (HR4.out.next ht4 hr4)
    have HREP := Lib.hid (bqrepeated_any w0 A w9 R s hs fl j g' d HR9.out hj t v4 F4 W4.heap.size ho4 hF4 HR4.out.lt ht4.size hfm)
    have Z9 := Lib.hid ((ht4.block w.heap.size hs4 (by simp; omega)).trans Z4.out)
    have HT9 := Lib.hid ((Touch.of_below [R] HB4.out).trans ht4)
    have hs9 : w.heap.size < w9.heap.size := Nat.lt_of_lt_of_le hs4 ht4.size
    obtain ⟨p8, c8, rfl, hl8⟩ := ho4.slice
    clear ho4 hF4 hr4 ht4 he4 HR4 Z4 HB4
    unfold Tr.cells at HREP
    unfold Tr.cells
    go_wp2_with fail
    refine HREP.out.mono ?_
    intro e w10 he5
    clear HREP
    cases hQ : Bp.rep (bt s) s.size t j g' with
    | err c q =>
      rw [hQ] at he5
      obtain ⟨v5, rfl, hv5, ht5⟩ := he5.err rfl
      have HG := Lib.hid (BqEnd.gave (R := R) (w := w) (fl := fl) (s := s) (d := d) (W := W4) hv5 (Nat.le_of_lt hs4) (HT9.out.trans ht5))
      clear hv5 ht5 he5
      go_wp2
      refine ⟨rfl, ?_⟩
      rw [show Bp.more (bt s) s.size (.ok t j g') = .err c q from hQ]
      exact HG.out
    | ok u k g5 =>
      rw [hQ] at he5
      obtain ⟨v5, F5, rfl, ho5, hF5, hr5, ht5⟩ := he5.ok rfl
      obtain ⟨p5, c5, rfl, hl5⟩ := ho5.slice
      have Z10 := Lib.hid ((ht5.block w.heap.size hs9 (by simp; omega)).trans Z9.out)
      have HO5 := Lib.hid ho5
      have HF5 : Hid (∀ b, b ∈ F5 → w.heap.size < b) := Lib.hid fun b hb => Nat.lt_of_lt_of_le hs4 (hF5 b hb)
      have HRC := Lib.hid hr5
      have HT5 := Lib.hid (HT9.out.trans ht5)
      clear ho5 hF5 hr5 ht5 he5 HR9 Z9 HT9 hs9 hs4

      unfold Tr.cells at *
      go_wp2_with (first
        | (refine wpList_store_row rfl 28 (.tmp 2) (.tmp 25) rfl w.heap.size #[.int .i64 (u).kind, .int .u64 (Oc.U (u).w0), .int .u64 (Oc.U (u).w1), .int .u64 (Oc.U (u).w2), .int .u64 (Oc.U (u).w3), .slice p5 u.subs.length c5, .int .i64 (u).num, .int .i64 (u).least, .int .i64 (u).most, .bool (u).bare] rfl rfl 28 _ Z10.out (by kernel_rfl) rfl (by simp [Value.oneCell']) ?_)
        | fail)
      exact bodyPost_ret (results_cell_row rfl _ _ w.heap.size 28 #[.int .i64 (u).kind, .int .u64 (Oc.U (u).w0), .int .u64 (Oc.U (u).w1), .int .u64 (Oc.U (u).w2), .int .u64 (Oc.U (u).w3), .slice p5 u.subs.length c5, .int .i64 (u).num, .int .i64 (u).least, .int .i64 (u).most, .bool (u).bare] (0, 0) _ rfl (heap_setRow Z10.out) Tryz.underlying28 rfl (by kernel_rfl)) rfl (by rw [show Bp.more (bt s) s.size (.ok t j g') = .ok u k g5 from hQ]; exact ⟨⟨.slice p5 u.subs.length c5, F5, rfl, HO5.out.keep fun b hb => heap_setRow_other _ _ _ (by have := HF5.out b hb; omega), fun b hb => Nat.le_of_lt (HF5.out b hb), (heap_setRow_other _ _ _ hRw).trans HRC.out⟩, HT5.out.setRow_new (Nat.le_refl _) _⟩)
/-- What a piece is read to. -/
theorem bqpiece_any (w0 : World) (A : Nat → Addr) (w : World) (R : Nat) (s : ByteArray) (hs : s.size ≤ 4294967280) (fl : Int) (i g d : Nat) (hR : BqAt w0 A w R s fl i g d) (hi : i < s.size) (H : Nat → Nat → Ep.Out) (hA : Bp.Ahead s.size H) (hH : Bp.Right s.size H) (hg : 2 * g ≤ i)
    (HG : ∀ w, BqAt w0 A w R s fl i g d → i + 1 < s.size → Calls Tryz.prog 123 #[.pointer (some ⟨R, 0, none⟩)] w (BqEnd A R s fl d (H i g) w)) :
    Calls Tryz.prog 82 #[.pointer (some ⟨R, 0, none⟩)] w (BqEnd A R s fl d (Bp.piece (bt s) s.size (icB fl) (nlB fl) H i g) w) := by
  have hi' : i ≤ s.size := by omega
  unfold Bp.piece
  by_cases h0 : Bp.isEnd (bt s) s.size i = true
  · rw [if_pos h0]; exact bqpiece_end w0 A w R s hs fl i g d hR hi' (by omega) h0
  rw [if_neg h0]
  have h0' : Bp.isEnd (bt s) s.size i = false := by simpa using h0
  by_cases h1 : bt s i = 42
  · rw [if_pos h1]; exact bqpiece_star w0 A w R s hs fl i g d hR hi' h0' (by rw [h1]; rfl)
  rw [if_neg h1]
  have h1' : (bt s i == (42 : UInt8).toNat) = false := by simpa using h1
  by_cases h2 : Bp.two (bt s) 92 123 i = true
  · rw [if_pos h2]; exact bqpiece_brace w0 A w R s hs fl i g d hR hi' h0' h1' h2
  rw [if_neg h2]
  refine (bqpiece_atom w0 A w R s hs fl i g d hR hi' h0' h1' (by simpa using h2) (Bp.atom (bt s) s.size (icB fl) (nlB fl) H i g) (fun t j g' hO => ⟨(Bp.atom_next (bt_txt s) hA hi hO).2, (Bp.atom_form (bt_txt s) hA hH hi hg hO).1⟩) fun w hR => bqatom_any w0 A w R s hs fl i g d hR hi H HG).mono fun e w' h => ?_
  exact h
end Go.Proofs.YtlbhbjmobcikfaaGreatDoor
/- What the reader of basic patterns answers of pieces. -/
namespace Go.Proofs.YtlbhbjmobcikfaaGreatDoor
open Go.RowKit
theorem bqplace_of {w : World} {R : Nat} {s : ByteArray} {fl : Int} {i g d : Nat} (h : w.heap[R]? = some (.cells (rdC s fl i g d) 76)) : placeOf R w = i := by
  unfold placeOf; rw [(bq5 h).2.2.1]; simp
/-- How far pieces is: its list, its result's block, the reader. -/
structure PqAt (w0 : World) (A : Nat → Addr) (w W : World) (R : Nat) (s : ByteArray) (fl : Int) (i g d : Nat) (v : Value) (ps : List (Tr × Value)) : Prop where
  rd : BqAt w0 A W R s fl i g d
  tch : Touch [R] w W
  res : W.heap[w.heap.size]? = some (.cells noNode 28)
  lt : w.heap.size < W.heap.size
  rlt : R < w.heap.size
  row : RowAt W (w.heap.size + 1) v ps
theorem PqAt.later {w0 : World} {A : Nat → Addr} {w W W' : World} {R : Nat} {s : ByteArray} {fl : Int} {i g d : Nat} {v : Value} {ps : List (Tr × Value)} (h : PqAt w0 A w W R s fl i g d v ps) (hb : Below W.heap.size W W') : PqAt w0 A w W' R s fl i g d v ps :=
  ⟨h.rd.later hb, h.tch.later hb, keep_blk hb h.res, Nat.lt_of_lt_of_le h.lt hb.size, h.rlt, h.row.later hb⟩
theorem PqAt.touch {w0 : World} {A : Nat → Addr} {w W W' : World} {R : Nat} {s : ByteArray} {fl : Int} {i g d j g' : Nat} {v : Value} {ps : List (Tr × Value)} (h : PqAt w0 A w W R s fl i g d v ps) (ht : Touch [R] W W') (hc : W'.heap[R]? = some (.cells (rdC s fl j g' d) 76)) : PqAt w0 A w W' R s fl j g' d v ps :=
  ⟨h.rd.next ht hc, h.tch.trans ht, (ht.block _ h.lt (by have := h.rlt; simp; omega)).trans h.res, Nat.lt_of_lt_of_le h.lt ht.size, h.rlt, h.row.touch ht (by have := h.rlt; omega)⟩
theorem PqAt.pre {w0 : World} {A : Nat → Addr} {w W : World} {R : Nat} {s : ByteArray} {fl : Int} {i g d : Nat} {v : Value} {ps : List (Tr × Value)} (h : PqAt w0 A w W R s fl i g d v ps) (x : Tr) (sv : Value) :
    (W.alloc (.cells (x.cells sv) 28)).ownsRow (w.heap.size + 1) 28 10 v ps.length (rowOf ps) ∧ (∀ (j : Nat) (u : Value), (x.cells sv).toList[j]? = some u → (W.alloc (.cells (x.cells sv) 28)).cell? ((⟨W.heap.size, 0, none⟩ : Addr).add j) = some u) ∧ w.heap.size + 1 ≤ (W.alloc (.cells (x.cells sv) 28)).heap.size := by
  refine ⟨(h.row.later ((Below.refl _ _).alloc (Nat.le_refl _) _)).own, fun j u hu => ?_, by have := h.lt; simp; omega⟩
  have ea : (⟨W.heap.size, 0, none⟩ : Addr).add j = ⟨W.heap.size, j, none⟩ := by unfold Addr.add; split <;> simp_all
  rw [ea, cell_new]; simpa using hu
theorem PqAt.snoc {w0 : World} {A : Nat → Addr} {w W w4 : World} {R : Nat} {s : ByteArray} {fl : Int} {i g d : Nat} {v v' : Value} {ps : List (Tr × Value)} {x : Tr} {sv : Value} (h : PqAt w0 A w W R s fl i g d v ps) (hx : TreesAt W (fun b => w.heap.size + 1 ≤ b ∧ v.ownBlock ≠ some b) sv x.subs)
    (ho : w4.ownsRow (w.heap.size + 1) 28 10 v' (ps.length + 1) (rowOf ps ++ (x.cells sv).toList)) (hg : (W.alloc (.cells (x.cells sv) 28)).grownBy w4 v.ownBlock) (hw : v'.ownBlock = v.ownBlock ∨ v'.ownBlock = some (W.alloc (.cells (x.cells sv) 28)).heap.size) :
    PqAt w0 A w w4 R s fl i g d v' (ps ++ [(x, sv)]) := by
  have hb : Below W.heap.size W (W.alloc (.cells (x.cells sv) 28)) := (Below.refl _ _).alloc (Nat.le_refl _) _
  have h2 := h.later hb
  have hrow : ∀ k, Value.ownBlock v = some k → w.heap.size + 1 ≤ k := fun k e => (h2.row.own.lt k e).1
  have hlt := h.rlt
  have hcell := (hg.block R h2.rd.lt (fun e => by have := hrow R e.symm; omega)).trans h2.rd.cell
  refine ⟨⟨h2.rd.env, h2.rd.old, h2.rd.bel.grown hg h2.rd.bel.size (fun k e => by have := hrow k e; have := h2.rd.old; omega), hcell⟩, h2.tch.grown hg fun k e => by have := hrow k e; omega, (hg.block _ h2.lt (fun e => by have := hrow _ e.symm; omega)).trans h2.res, Nat.lt_of_lt_of_le h2.lt hg.size, hlt, h2.row.snoc (hx.later hb) ho hg hw⟩
/-- A tree that a callee has made lies elsewhere than the list. -/
theorem PqAt.apart {w0 : World} {A : Nat → Addr} {w W W' : World} {R : Nat} {s : ByteArray} {fl : Int} {i g d : Nat} {v : Value} {ps : List (Tr × Value)} (h : PqAt w0 A w W R s fl i g d v ps) {sv : Value} {ts : List Tr} {F : List Nat} (ho : Owned W' sv ts F) (hF : ∀ b, b ∈ F → W.heap.size ≤ b) : TreesAt W' (fun b => w.heap.size + 1 ≤ b ∧ v.ownBlock ≠ some b) sv ts :=
  ho.trees.mono fun b _ hb => ⟨by have := hF b hb; have := h.lt; omega, fun e => by have := (h.row.own.lt b e).2; have := hF b hb; omega⟩
theorem bqtakes_any (p : ByteArray) (k : Nat) (hk : p.size = k) (b : Bool) (w0 : World) (A : Nat → Addr) (w : World) (R : Nat) (s : ByteArray) (hs : s.size ≤ 4294967280) (fl : Int) (i g d : Nat) (hR : BqAt w0 A w R s fl i g d) (hi : i ≤ s.size) (hb : b = true → i + k ≤ s.size) (hp : Pre p s i b) :
    Calls Tryz.prog 78 #[.pointer (some ⟨R, 0, none⟩), .string p] w fun e w' => e = .returned (.bool b) ∧ w'.heap[R]? = some (.cells (rdC s fl (bif b then i + k else i) g d) 76) ∧ Touch [R] w w' := by
  cases b with
  | true => exact bqtakes_yes p k hk w0 A w R s hs fl i g d hR (hb rfl) hp
  | false =>
    refine (bqtakes_no p w0 A w R s hs fl i g d hR hi hp).mono ?_
    rintro e w' ⟨rfl, n, rfl⟩
    exact ⟨rfl, (hR.later (drewN_below (Below.refl _ _) n)).cell, (Touch.refl _ _).drewN n⟩
set_option maxRecDepth 100000 in
set_option maxHeartbeats 8000000 in
theorem bqpieces_any (w0 : World) (A : Nat → Addr) (w : World) (R : Nat) (s : ByteArray) (hs : s.size ≤ 4294967280) (fl : Int) (i0 g0 d : Nat) (hR : BqAt w0 A w R s fl i0 g0 d) (hi : i0 ≤ s.size) (H : Nat → Nat → Ep.Out) (hA : Bp.Ahead s.size H) (hH : Bp.Right s.size H) (hg : 2 * g0 ≤ i0)
    (HG : ∀ i g w, i + 1 < s.size → 2 * g ≤ i → BqAt w0 A w R s fl i g d → Calls Tryz.prog 123 #[.pointer (some ⟨R, 0, none⟩)] w (BqEnd A R s fl d (H i g) w))
    (O : Ep.Out) (hO : Bp.seq (bt s) s.size (icB fl) (nlB fl) H i0 g0 = O) :
    Calls Tryz.prog 63 #[.pointer (some ⟨R, 0, none⟩)] w (BqEnd A R s fl d O w) := by
  have hlt := hR.lt
  have hb0 : Below w.heap.size w (w.alloc (.cells noNode 28)) := (Below.refl _ _).alloc (Nat.le_refl _) _
  have PQ0 : Hid (PqAt w0 A w (w.alloc (.cells noNode 28)) R s fl i0 g0 d (.slice none 0 0) []) := Lib.hid ⟨hR.later hb0, Touch.of_below _ hb0, heap_alloc_new _ _, by simp, hlt, RowAt.nil _ _⟩
  have HAA := Lib.hid hA; have HHH := Lib.hid hH; have HGG := Lib.hid HG
  unfold Bp.seq at hO
  have HO := Lib.hid hO
  clear hR hb0 hO hA hH HG
  obtain ⟨ie, hi0, hz0, hz1, hz2⟩ := info_parts Tryz.infoNode
  have HI := Lib.hid hi0; have HZ0 := Lib.hid hz0; have HZ1 := Lib.hid hz1; have HZ2 := Lib.hid hz2
  clear hi0 hz0 hz1 hz2
  obtain ⟨b0, hb0⟩ : ∃ b, (bt s i0 == (94 : UInt8).toNat) = b := ⟨_, rfl⟩
  have hbi : b0 = true → i0 + 1 ≤ s.size := fun e => by
    rw [e] at hb0
    exact (bt_txt s).lt (beq_iff_eq.1 hb0) (by decide)
  have HBE := Lib.hid hb0; have HBI := Lib.hid hbi
  clear hb0 hbi
  go_enter Tryz.func63, Tryz.ntmps63
  go_wp2_with fail
  generalize World.alloc _ _ = W at *
  refine (bqtakes_any ⟨#[94]⟩ 1 rfl b0 w0 A W R s hs fl i0 g0 d PQ0.out.rd hi HBI.out (pre_one s i0 94 b0 HBE.out)).mono ?_
  rintro e w1 ⟨rfl, hr1, ht1⟩
  have PQ := Lib.hid (PQ0.out.touch ht1 hr1)
  clear hr1 ht1 PQ0
  go_upto_if 5 with (fail)
  go_cut [3] (fun sv wx => ∃ (ps : List (Tr × Value)) (i : Nat), i ≤ s.size ∧ 2 * g0 ≤ i ∧ ps.length ≤ i ∧ Hid (Bp.star (bt s) s.size (icB fl) (nlB fl) H (ps.map (·.1)) i g0 = O) ∧ Hid (PqAt w0 A w wx R s fl i g0 d sv ps))
  case first =>
    cases b0 with
    | false =>
      have hO2 := HO.out
      rw [if_neg (by have := HBE.out; simpa using this)] at hO2
      have HO2 := Lib.hid hO2
      clear hO2 HO HBE HBI
      go_wp2_with fail
      go_meet
      exact ⟨[], i0, hi, hg, Nat.zero_le _, HO2, PQ⟩
    | true =>
      have hO2 := HO.out
      rw [if_pos (by have := HBE.out; simpa using this)] at hO2
      have HO2 := Lib.hid hO2
      have hi1 := HBI.out rfl
      clear hO2 HO HBE HBI
      have hpre := PQ.out.pre (Tr.leaf 3) (.slice none 0 0)
      have HOWN := Lib.hid hpre.1; have HNW := Lib.hid hpre.2.1; have HBA := Lib.hid hpre.2.2
      have hml : ([] : List (Tr × Value)).length + 1 ≤ maxLen := by unfold maxLen; simp
      have hbyt : (([] : List (Tr × Value)).length + 1) * 96 ≤ 140737488355328 := by simp
      clear hpre
      try unfold Tr.cells
      go_wp2_with (first
        | (refine wpList_node1 rfl (.tmp 7) (Tr.leaf 3) none 0 0 rfl rfl ?_)
        | (refine wpList_append_fresh _ rfl (.tmp 6) (.tmp 8) 26 rfl (w.heap.size + 1) 28 ie _ 10 96 Tryz.underlying26 HI.out HZ0.out HZ1.out HZ2.out rfl (by decide) _ _ _ rfl HOWN.out ⟨w1.heap.size, 0, none⟩ 1 1 ((Tr.leaf 3).cells (.slice none 0 0)).toList rfl rfl HNW.out (nodeC_one _ _ _ _) (by decide) hml hbyt HBA.out ?_; intro v' w4 hown4 hgrow4 hwhere)
        | fail)
      have PQ2 := Lib.hid (PQ.out.snoc (x := Tr.leaf 3) (sv := .slice none 0 0) .nil hown4 hgrow4 hwhere)
      clear hown4 hgrow4 hwhere PQ HOWN HNW HBA hml hbyt
      go_meet
      exact ⟨[] ++ [(Tr.leaf 3, Value.slice none 0 0)], i0 + 1, hi1, by omega, by simp, Lib.hid (by simpa using HO2.out), PQ2⟩
  case rest =>
    clear PQ HO HBE HBI
    obtain ⟨ps1, i1, hi1, hg1, hpl1, HO1, PQ1⟩ := hcut
    clear hi hg
    unfold Bp.star at HO1
    obtain ⟨b1, hb1⟩ : ∃ b, (bt s i1 == (42 : UInt8).toNat) = b := ⟨_, rfl⟩
    have HBE := Lib.hid hb1
    clear hb1
    go_wp2_with fail
    refine (bqstands_any ⟨#[42]⟩ b1 w0 A _ R s hs fl i1 g0 d PQ1.out.rd hi1 (pre_one s i1 42 b1 HBE.out)).mono ?_
    rintro e w2 ⟨rfl, n, rfl⟩
    have PQ := Lib.hid (PQ1.out.later (drewN_below (Below.refl _ _) n))
    clear PQ1
    generalize World.drewN _ n = W2 at *
    go_upto_if 11 with (fail)
    go_cut [3] (fun sv wx => ∃ (ps : List (Tr × Value)) (i g : Nat), i ≤ s.size ∧ 2 * g ≤ i ∧ ps.length ≤ i ∧ Hid (Bp.loop (bt s) s.size (icB fl) (nlB fl) H (s.size + 1) (ps.map (·.1)) i g = O) ∧ Hid (PqAt w0 A w wx R s fl i g d sv ps))
    case first =>
      cases b1 with
      | false =>
        have hO2 := HO1.out
        rw [if_neg (by have := HBE.out; simpa using this)] at hO2
        have HO2 := Lib.hid hO2
        clear hO2 HO1 HBE
        go_wp2_with fail
        go_meet
        exact ⟨ps1, i1, g0, hi1, hg1, hpl1, HO2, PQ⟩
      | true =>
        have h42 : bt s i1 = 42 := by have := HBE.out; simpa using this
        have hlt1 := (bt_txt s).lt h42 (by omega)
        have hO2 := HO1.out
        rw [if_pos h42] at hO2
        have HO2 := Lib.hid hO2
        have HPL : Hid (Calls Tryz.prog 81 #[.pointer (some ⟨R, 0, none⟩)] W2 (BqPl R s fl g0 d (Ep.one (icB fl) 42) (i1 + 1) W2)) := Lib.hid (by
          have := bqplain_any w0 A W2 R s hs fl i1 g0 d PQ.out.rd hlt1
          rw [h42] at this; exact this)
        clear hO2 HO1 HBE h42
        go_wp2_with fail
        refine HPL.out.mono ?_
        rintro e w3 ⟨rfl, hr3, ht3⟩
        have PQ3 := Lib.hid (PQ.out.touch ht3 hr3)
        have HREP := Lib.hid (bqrepeated_any w0 A w3 R s hs fl (i1 + 1) g0 d PQ3.out.rd (by omega) (Ep.one (icB fl) 42) (.slice none 0 0) [] W2.heap.size (.nil _ _) (fun b hb => by cases hb) (Nat.lt_trans PQ.out.rlt PQ.out.lt) ht3.size (Ep.form_bytes _))
        have hbse : W2.heap.size ≤ w3.heap.size := ht3.size
        have hW2 := PQ.out.lt
        have HT3 := Lib.hid ht3
        clear hr3 ht3 HPL
        generalize Ep.one (icB fl) 42 = T at *
        unfold Tr.cells at HREP ⊢
        go_wp2_with fail
        refine HREP.out.mono ?_
        intro e w5 he5
        clear HREP
        cases hQ : Bp.rep (bt s) s.size T (i1 + 1) g0 with
        | err c q =>
          rw [hQ] at he5
          have hO2 := HO2.out
          rw [hQ] at hO2
          simp only at hO2
          subst hO2
          obtain ⟨v5, rfl, hv5, ht5⟩ := he5.err rfl
          have HG := Lib.hid (BqEnd.gave (R := R) (w := w) (fl := fl) (s := s) (d := d) (W := W2) hv5 (Nat.le_of_lt hW2) (PQ3.out.tch.trans ht5))
          clear hv5 ht5 he5 HO2
          go_wp2
          exact ⟨rfl, HG.out⟩
        | ok u k g5 =>
          rw [hQ] at he5
          have hO2 := HO2.out
          rw [hQ] at hO2
          simp only at hO2
          have HO5 := Lib.hid hO2
          obtain ⟨hk1, hk2, hk3, -⟩ := Bp.rep_ok hQ (bt_txt s) (by omega)
          obtain ⟨v5, F5, rfl, ho5, hF5, hr5, ht5⟩ := he5.ok rfl
          obtain ⟨p5, c5, rfl, hl5⟩ := ho5.slice
          have HX := Lib.hid (PQ.out.apart ho5 hF5)
          have PQ := Lib.hid (PQ3.out.touch ht5 hr5)
          clear ho5 hF5 hr5 ht5 he5 hO2 HO2 hQ PQ3 HT3
          have hpre := PQ.out.pre (u) (.slice p5 u.subs.length c5)
          have HOWN := Lib.hid hpre.1; have HNW := Lib.hid hpre.2.1; have HBA := Lib.hid hpre.2.2
          have hml : ps1.length + 1 ≤ maxLen := by unfold maxLen; omega
          have hbyt : (ps1.length + 1) * 96 ≤ 140737488355328 := by omega
          clear hpre
          try unfold Tr.cells
          go_wp2_with (first
            | (refine wpList_node1 rfl (.tmp 16) (u) p5 u.subs.length c5 rfl rfl ?_)
            | (refine wpList_append_fresh _ rfl (.tmp 12) (.tmp 17) 26 rfl (w.heap.size + 1) 28 ie _ 10 96 Tryz.underlying26 HI.out HZ0.out HZ1.out HZ2.out rfl (by decide) _ _ _ rfl HOWN.out ⟨w5.heap.size, 0, none⟩ 1 1 ((u).cells (.slice p5 u.subs.length c5)).toList rfl rfl HNW.out (nodeC_one _ _ _ _) (by decide) hml hbyt HBA.out ?_; intro v' w4 hown4 hgrow4 hwhere)
            | fail)
          have PQ2 := Lib.hid (PQ.out.snoc HX.out hown4 hgrow4 hwhere)
          clear hown4 hgrow4 hwhere PQ HOWN HNW HBA hml hbyt
          go_meet
          exact ⟨_, k, g5, hk2, by omega, by simp; omega, by rw [List.map_append]; exact HO5, PQ2⟩
    case rest =>
      clear PQ HO1 HBE
      obtain ⟨ps2, i2, g2, hi2, hg2, hpl2, HO2, PQ2⟩ := hcut
      clear hi1 hg1 hpl1
      go_wp2
      go_loopw [3] (fun sv wr => ∃ (k : Nat) (ps : List (Tr × Value)) (i g : Nat), s.size - i < k ∧ i ≤ s.size ∧ 2 * g ≤ i ∧ ps.length ≤ i ∧ Hid (Bp.loop (bt s) s.size (icB fl) (nlB fl) H k (ps.map (·.1)) i g = O) ∧ Hid (PqAt w0 A w wr R s fl i g d sv ps)) (fun _ wr => s.size - placeOf R wr)
      case atStart => exact ⟨s.size + 1, ps2, i2, g2, by omega, hi2, hg2, hpl2, HO2, PQ2⟩
      case round =>
        clear hi2 hg2 hpl2 HO2 PQ2
        obtain ⟨k, ps, i, g, hk, hil, hgl, hpl, HBR, PQ⟩ := hrel
        obtain ⟨k, rfl⟩ : ∃ m, k = m + 1 := ⟨k - 1, by omega⟩
        have hbr := HBR.out
        unfold Bp.loop at hbr
        obtain ⟨c0, c1, c2, -, -⟩ := bq5 PQ.out.rd.cell
        have HPL := Lib.hid (bqplace_of PQ.out.rd.cell)
        by_cases hge : s.size ≤ i
        · rw [if_pos (.inl hge)] at hbr
          subst hbr
          obtain ⟨q4, c4, hu4⟩ := PQ.out.row.len
          subst hu4
          have hd : decide ((i : Int) < s.size) = false := by simp; omega
          have hd' : decide (i < s.size) = false := by simp; omega
          go_wp2
          go_quiet (fail)
          have HROW2 := Lib.hid ((PQ.out.row.later (drewN_below (Below.refl _ _) nq)).trees (by omega))
          have PQ2 := Lib.hid (PQ.out.later (drewN_below (Below.refl _ _) nq))
          clear c0 c1 c2 PQ HPL HBR
          generalize World.drewN _ _ = W at *
          go_wp2_with fail
          have hlm : (ps.map (·.1)).length = ps.length := List.length_map _
          rw [← hlm] at HROW2
          have hseq := seq_any (ps.map (·.1)) W _ _ HROW2.out
          obtain ⟨T, hTE⟩ : ∃ T, Tr.several 5 (ps.map (·.1)) = T := ⟨_, rfl⟩
          rw [hTE, hlm] at hseq
          have HTE := Lib.hid hTE
          clear hTE hlm
          refine hseq.mono ?_
          rintro e w3 ⟨s3, F3, rfl, ho3, hF3, hb3⟩
          obtain ⟨p3, c3, rfl, hl3⟩ := ho3.slice
          have HO3 := Lib.hid ho3
          have PQ3 := Lib.hid (PQ2.out.later hb3)
          have Z3 := Lib.hid PQ3.out.res
          have hRne : R ≠ w.heap.size := by have := PQ2.out.rlt; omega
          have hlt3 := PQ2.out.lt
          have HK1 := Lib.hid (show ∀ b, b ∈ F3 → b ≠ w.heap.size from fun b hb => by have := hF3 b hb; omega)
          have HK2 := Lib.hid (show ∀ b, b ∈ F3 → w.heap.size ≤ b from fun b hb => by have := hF3 b hb; omega)
          clear hseq ho3 hF3 hb3 HROW2 PQ2
          unfold Tr.cells
          go_wp2_with (first
              | (refine wpList_store_row rfl 28 (.tmp 2) (.tmp 40) rfl w.heap.size #[.int .i64 (T).kind, .int .u64 (Oc.U (T).w0), .int .u64 (Oc.U (T).w1), .int .u64 (Oc.U (T).w2), .int .u64 (Oc.U (T).w3), .slice p3 T.subs.length c3, .int .i64 (T).num, .int .i64 (T).least, .int .i64 (T).most, .bool (T).bare] rfl rfl 28 _ Z3.out (by kernel_rfl) rfl (by simp [Value.oneCell']) ?_)
              | fail)
          refine bodyPost_ret (results_cell_row rfl _ _ w.heap.size 28 #[.int .i64 (T).kind, .int .u64 (Oc.U (T).w0), .int .u64 (Oc.U (T).w1), .int .u64 (Oc.U (T).w2), .int .u64 (Oc.U (T).w3), .slice p3 T.subs.length c3, .int .i64 (T).num, .int .i64 (T).least, .int .i64 (T).most, .bool (T).bare] (0, 0) _ rfl (heap_setRow Z3.out) Tryz.underlying28 rfl (by kernel_rfl)) rfl ⟨⟨.slice p3 T.subs.length c3, F3, ?_, ?_, HK2.out, (heap_setRow_other _ _ _ hRne).trans PQ3.out.rd.cell⟩, PQ3.out.tch.setRow_new (Nat.le_refl _) _⟩
          · rw [HTE.out]; rfl
          · rw [HTE.out]; exact HO3.out.keep fun b hb => heap_setRow_other _ _ _ (HK1.out b hb)
        · obtain ⟨b2, hb2⟩ : ∃ b, Bp.two (bt s) (92 : UInt8).toNat (41 : UInt8).toNat i = b := ⟨_, rfl⟩
          have hd : decide ((i : Int) < s.size) = true := by simp; omega
          have hd' : decide (i < s.size) = true := by simp; omega
          have hlt2 : i < s.size := by omega
          have HST := Lib.hid (fun n => bqstands_any ⟨#[92, 41]⟩ b2 w0 A (wr.drewN n) R s hs fl i g d (PQ.out.rd.later (drewN_below (Below.refl _ _) n)) hil (pre_two s i 92 41 b2 hb2))
          cases b2 with
          | true =>
            rw [if_pos (.inr hb2)] at hbr
            subst hbr
            obtain ⟨q4, c4, hu4⟩ := PQ.out.row.len
            subst hu4
            clear hb2
            go_wp2
            go_quiet ((go_at_call 79; exact Calls.quiet_of (HST.out _)))
            clear HST
            have HROW2 := Lib.hid ((PQ.out.row.later (drewN_below (Below.refl _ _) nq)).trees (by omega))
            have PQ2 := Lib.hid (PQ.out.later (drewN_below (Below.refl _ _) nq))
            clear c0 c1 c2 PQ HPL HBR
            generalize World.drewN _ _ = W at *
            go_wp2_with fail
            have hlm : (ps.map (·.1)).length = ps.length := List.length_map _
            rw [← hlm] at HROW2
            have hseq := seq_any (ps.map (·.1)) W _ _ HROW2.out
            obtain ⟨T, hTE⟩ : ∃ T, Tr.several 5 (ps.map (·.1)) = T := ⟨_, rfl⟩
            rw [hTE, hlm] at hseq
            have HTE := Lib.hid hTE
            clear hTE hlm
            refine hseq.mono ?_
            rintro e w3 ⟨s3, F3, rfl, ho3, hF3, hb3⟩
            obtain ⟨p3, c3, rfl, hl3⟩ := ho3.slice
            have HO3 := Lib.hid ho3
            have PQ3 := Lib.hid (PQ2.out.later hb3)
            have Z3 := Lib.hid PQ3.out.res
            have hRne : R ≠ w.heap.size := by have := PQ2.out.rlt; omega
            have hlt3 := PQ2.out.lt
            have HK1 := Lib.hid (show ∀ b, b ∈ F3 → b ≠ w.heap.size from fun b hb => by have := hF3 b hb; omega)
            have HK2 := Lib.hid (show ∀ b, b ∈ F3 → w.heap.size ≤ b from fun b hb => by have := hF3 b hb; omega)
            clear hseq ho3 hF3 hb3 HROW2 PQ2
            unfold Tr.cells
            go_wp2_with (first
                | (refine wpList_store_row rfl 28 (.tmp 2) (.tmp 40) rfl w.heap.size #[.int .i64 (T).kind, .int .u64 (Oc.U (T).w0), .int .u64 (Oc.U (T).w1), .int .u64 (Oc.U (T).w2), .int .u64 (Oc.U (T).w3), .slice p3 T.subs.length c3, .int .i64 (T).num, .int .i64 (T).least, .int .i64 (T).most, .bool (T).bare] rfl rfl 28 _ Z3.out (by kernel_rfl) rfl (by simp [Value.oneCell']) ?_)
                | fail)
            refine bodyPost_ret (results_cell_row rfl _ _ w.heap.size 28 #[.int .i64 (T).kind, .int .u64 (Oc.U (T).w0), .int .u64 (Oc.U (T).w1), .int .u64 (Oc.U (T).w2), .int .u64 (Oc.U (T).w3), .slice p3 T.subs.length c3, .int .i64 (T).num, .int .i64 (T).least, .int .i64 (T).most, .bool (T).bare] (0, 0) _ rfl (heap_setRow Z3.out) Tryz.underlying28 rfl (by kernel_rfl)) rfl ⟨⟨.slice p3 T.subs.length c3, F3, ?_, ?_, HK2.out, (heap_setRow_other _ _ _ hRne).trans PQ3.out.rd.cell⟩, PQ3.out.tch.setRow_new (Nat.le_refl _) _⟩
            · rw [HTE.out]; rfl
            · rw [HTE.out]; exact HO3.out.keep fun b hb => heap_setRow_other _ _ _ (HK1.out b hb)
          | false =>
            rw [if_neg (by rintro (h | h); (exact hge h); (have h2 : Bp.two (bt s) 92 41 i = false := hb2; rw [h2] at h; cases h))] at hbr
            have HPC := Lib.hid (fun w9 hR9 => bqpiece_any w0 A w9 R s hs fl i g d hR9 hlt2 H HAA.out HHH.out hgl (fun w8 hR8 h1 => HGG.out i g w8 h1 hgl hR8))
            have HBR2 := Lib.hid hbr
            clear hb2 hbr hge
            go_wp2
            go_quiet ((go_at_call 79; exact Calls.quiet_of (HST.out _)))
            have PQ3 := Lib.hid (PQ.out.later (drewN_below (Below.refl _ _) nq))
            clear c0 c1 c2 PQ HBR HST hd hd'
            generalize World.drewN _ nq = W3 at *
            go_wp2_with fail
            refine (HPC.out W3 PQ3.out.rd).mono ?_
            intro e w5 he5
            clear HPC
            cases hp : Bp.piece (bt s) s.size (icB fl) (nlB fl) H i g with
            | err c q =>
              rw [hp] at HBR2
              have hO2 := HBR2.out
              simp only at hO2
              subst hO2
              obtain ⟨v5, rfl, hv5, ht5⟩ := he5.err hp
              have HG := Lib.hid (BqEnd.gave (R := R) (w := w) (fl := fl) (s := s) (d := d) hv5 (Nat.le_of_lt PQ3.out.lt) (PQ3.out.tch.trans ht5))
              clear hv5 ht5 he5 HBR2 hp
              go_wp2
              exact ⟨rfl, HG.out⟩
            | ok x j g5 =>
              rw [hp] at HBR2
              have hO2 := HBR2.out
              simp only at hO2
              have HO5 := Lib.hid hO2
              obtain ⟨v5, F5, rfl, ho5, hF5, hr5, ht5⟩ := he5.ok hp
              obtain ⟨p5, c5, rfl, hl5⟩ := ho5.slice
              have hnx := Bp.piece_next (bt_txt s) HAA.out hlt2 hp
              have hfm := Bp.piece_form (bt_txt s) HAA.out HHH.out hlt2 hgl hp
              have HX := Lib.hid (PQ3.out.apart ho5 hF5)
              have PQ := Lib.hid (PQ3.out.touch ht5 hr5)
              have HNX := Lib.hid hnx; have HFM := Lib.hid hfm
              clear ho5 hF5 hr5 ht5 he5 hO2 HBR2 hp PQ3 hnx hfm
              have hpre := PQ.out.pre (x) (.slice p5 x.subs.length c5)
              have HOWN := Lib.hid hpre.1; have HNW := Lib.hid hpre.2.1; have HBA := Lib.hid hpre.2.2
              have hml : ps.length + 1 ≤ maxLen := by unfold maxLen; omega
              have hbyt : (ps.length + 1) * 96 ≤ 140737488355328 := by omega
              clear hpre
              try unfold Tr.cells
              go_wp2_with (first
                | (refine wpList_node1 rfl (.tmp 36) (x) p5 x.subs.length c5 rfl rfl ?_)
                | (refine wpList_append_fresh _ rfl (.tmp 34) (.tmp 37) 26 rfl (w.heap.size + 1) 28 ie _ 10 96 Tryz.underlying26 HI.out HZ0.out HZ1.out HZ2.out rfl (by decide) _ _ _ rfl HOWN.out ⟨w5.heap.size, 0, none⟩ 1 1 ((x).cells (.slice p5 x.subs.length c5)).toList rfl rfl HNW.out (nodeC_one _ _ _ _) (by decide) hml hbyt HBA.out ?_; intro v' w4 hown4 hgrow4 hwhere)
                | fail)
              have PQ2 := Lib.hid (PQ.out.snoc HX.out hown4 hgrow4 hwhere)
              clear hown4 hgrow4 hwhere PQ HOWN HNW HBA hml hbyt
              have hnx := HNX.out
              have hfm := HFM.out
              refine ⟨⟨k, ps ++ [(x, .slice p5 x.subs.length c5)], j, g5, by omega, hnx.2, hfm.2, by simp; omega, Lib.hid ?_, PQ2⟩, ?_⟩
              · rw [List.map_append]; exact HO5.out
              · rw [bqplace_of PQ2.out.rd.cell, HPL.out]; omega
end Go.Proofs.YtlbhbjmobcikfaaGreatDoor
/- What the reader of basic patterns answers of a group, and of the whole. -/
namespace Go.Proofs.YtlbhbjmobcikfaaGreatDoor
open Go.RowKit
set_option maxRecDepth 100000 in
set_option maxHeartbeats 4000000 in
theorem bqgroup_deep (w0 : World) (A : Nat → Addr) (w : World) (R : Nat) (s : ByteArray) (_hs : s.size ≤ 1024) (fl : Int) (i g d : Nat) (hR : BqAt w0 A w R s fl i g d) (_hi : i + 1 < s.size) (hd : d = 32) :
    Calls Tryz.prog 123 #[.pointer (some ⟨R, 0, none⟩)] w (BqEnd A R s fl d (.err 11 i) w) := by
  have hlt := hR.lt
  have hb0 : Below w.heap.size w (w.alloc (.cells noNode 28)) := (Below.refl _ _).alloc (Nat.le_refl _) _
  have HR := Lib.hid (hR.later hb0)
  have Z1 := Lib.hid (heap_alloc_new w (.cells noNode 28))
  have HB0 := Lib.hid hb0
  have hsW : w.heap.size < (w.alloc (.cells noNode 28)).heap.size := by simp
  clear hR hb0
  go_enter Tryz.func123, Tryz.ntmps123
  go_upto_region 1 with (fail)
  generalize World.alloc _ _ = W at *
  have hRne : R ≠ w.heap.size := by omega
  obtain ⟨-, -, -, -, c4⟩ := bq5 HR.out.cell
  have ce : W.cell? ⟨11, 0, none⟩ = some (.iface 184 (.pointer (some (A 10)))) := (HR.out.now.errs 10 (by omega)).1
  have e4 : ((d : Int) == 32) = true := by simp; omega
  clear hd
  go_wp2_with fail
  refine (bqfails_any w0 A 10 (by omega) W R s fl i g d HR.out).mono ?_
  intro e w2 he
  obtain ⟨v, rfl, hv, ht2⟩ := he.err rfl
  have HG := Lib.hid (BqEnd.gave (R := R) (w := w) (fl := fl) (s := s) (d := d) hv (Nat.le_of_lt hsW) ((Touch.of_below [R] HB0.out).trans ht2))
  clear hv ht2 he ce
  go_wp2
  exact ⟨rfl, HG.out⟩
set_option maxRecDepth 100000 in
set_option maxHeartbeats 4000000 in
theorem bqgroup_err (w0 : World) (A : Nat → Addr) (w : World) (R : Nat) (s : ByteArray) (hs : s.size ≤ 1024) (fl : Int) (i g d : Nat) (hR : BqAt w0 A w R s fl i g d) (hi : i + 1 < s.size) (hd : d < 32) (hg : g ≤ 4294967280) (c : Nat) (q : Int) (HC : ∀ w, BqAt w0 A w R s fl (i + 2) (g + 1) (d + 1) → Calls Tryz.prog 63 #[.pointer (some ⟨R, 0, none⟩)] w (BqEnd A R s fl (d + 1) (.err c q) w)) :
    Calls Tryz.prog 123 #[.pointer (some ⟨R, 0, none⟩)] w (BqEnd A R s fl d (.err c q) w) := by
  have HC := Lib.hid HC
  have hlt := hR.lt
  have hb0 : Below w.heap.size w (w.alloc (.cells noNode 28)) := (Below.refl _ _).alloc (Nat.le_refl _) _
  have HR := Lib.hid (hR.later hb0)
  have Z1 := Lib.hid (heap_alloc_new w (.cells noNode 28))
  have HB0 := Lib.hid hb0
  have hsW : w.heap.size < (w.alloc (.cells noNode 28)).heap.size := by simp
  clear hR hb0
  go_enter Tryz.func123, Tryz.ntmps123
  go_upto_region 1 with (fail)
  generalize World.alloc _ _ = W at *
  have hRne : R ≠ w.heap.size := by omega
  obtain ⟨-, -, c2, c3, c4⟩ := bq5 HR.out.cell
  obtain ⟨f2, f3, f4⟩ := bqf HR.out.cell
  have e4 : ((d : Int) == 32) = false := by rw [beq_eq_false_iff_ne]; omega
  have wg : IntKind.i64.wrap ((g : Int) + 1) = (g : Int) + 1 := IntWalk.i64_in _ (by omega)
  have wd : IntKind.i64.wrap ((d : Int) + 1) = (d : Int) + 1 := IntWalk.i64_in _ (by omega)
  have wi : IntKind.i64.wrap ((i : Int) + 2) = (i : Int) + 2 := IntWalk.i64_in _ (by omega)
  go_upto_region 5 with (fail)
  have hP1 := bq_groups HR.out.cell (g + 1) (v := (g : Int) + 1) (by omega)
  have HR1 := Lib.hid (HR.out.next ((Touch.refl [R] W).setCell List.mem_cons_self 3 (.int .i64 ((g : Int) + 1))) hP1)
  have HT1 := Lib.hid ((Touch.of_below [R] HB0.out).setCell List.mem_cons_self 3 (.int .i64 ((g : Int) + 1)))
  have Z2 := Lib.hid ((Below.heap_setCell W ⟨R, 3, none⟩ (.int .i64 ((g : Int) + 1)) w.heap.size (Ne.symm hRne)).trans Z1.out)
  have hs1 : w.heap.size < (W.setCell ⟨R, 3, none⟩ (.int .i64 ((g : Int) + 1))).heap.size := by simpa using hsW
  clear hP1 c2 c3 c4 f2 f3 f4 HB0 Z1 HR
  generalize World.setCell W _ _ = W1 at *
  obtain ⟨-, -, c2, c3, c4⟩ := bq5 HR1.out.cell
  obtain ⟨f2, f3, f4⟩ := bqf HR1.out.cell
  go_upto_region 6 with (fail)
  have hP2 := bq_open HR1.out.cell (d + 1) (v := (d : Int) + 1) (by omega)
  have HR2 := Lib.hid (HR1.out.next ((Touch.refl [R] W1).setCell List.mem_cons_self 4 (.int .i64 ((d : Int) + 1))) hP2)
  have HT2 := Lib.hid (HT1.out.setCell List.mem_cons_self 4 (.int .i64 ((d : Int) + 1)))
  have Z3 := Lib.hid ((Below.heap_setCell W1 ⟨R, 4, none⟩ (.int .i64 ((d : Int) + 1)) w.heap.size (Ne.symm hRne)).trans Z2.out)
  have hs2 : w.heap.size < (W1.setCell ⟨R, 4, none⟩ (.int .i64 ((d : Int) + 1))).heap.size := by simpa using hs1
  clear hP2 c2 c3 c4 f2 f3 f4 HT1 Z2 HR1
  generalize World.setCell W1 _ _ = W2 at *
  obtain ⟨-, -, c2, c3, c4⟩ := bq5 HR2.out.cell
  obtain ⟨f2, f3, f4⟩ := bqf HR2.out.cell
  have c3' : W2.cell? ⟨R, 3, none⟩ = some (.int .i64 ((g : Int) + 1)) := c3
  clear c3
  go_upto_region 8 with (fail)
  have hP3 := bq_place HR2.out.cell (i + 2) (v := (i : Int) + 2) (by omega)
  have HR3 := Lib.hid (HR2.out.next ((Touch.refl [R] W2).setCell List.mem_cons_self 2 (.int .i64 ((i : Int) + 2))) hP3)
  have HT3 := Lib.hid (HT2.out.setCell List.mem_cons_self 2 (.int .i64 ((i : Int) + 2)))
  have Z4 := Lib.hid ((Below.heap_setCell W2 ⟨R, 2, none⟩ (.int .i64 ((i : Int) + 2)) w.heap.size (Ne.symm hRne)).trans Z3.out)
  have hs3 : w.heap.size < (W2.setCell ⟨R, 2, none⟩ (.int .i64 ((i : Int) + 2))).heap.size := by simpa using hs2
  clear hP3 c2 c3' c4 f2 f3 f4 HT2 Z3 HR2
  generalize World.setCell W2 _ _ = W3 at *
  go_wp2_with fail
  refine (HC.out W3 HR3.out).mono ?_
  intro e w4 he
  obtain ⟨v, rfl, hv, ht4⟩ := he.err rfl
  have HG := Lib.hid (BqEnd.gave (R := R) (w := w) (fl := fl) (s := s) (d := d) hv (Nat.le_of_lt hs3) (HT3.out.trans ht4))
  clear hv ht4 he
  go_wp2
  exact ⟨rfl, HG.out⟩
theorem blk_lt2 {w : World} {b : Nat} {x : Obj} (h : w.heap[b]? = some x) : b < w.heap.size := (Array.getElem?_eq_some_iff.1 h).1
set_option maxRecDepth 100000 in
set_option maxHeartbeats 4000000 in
theorem bqgroup_open (w0 : World) (A : Nat → Addr) (w : World) (R : Nat) (s : ByteArray) (hs : s.size ≤ 1024) (fl : Int) (i g d : Nat) (hR : BqAt w0 A w R s fl i g d) (hi : i + 1 < s.size) (hd : d < 32) (hg : g ≤ 4294967280) (x : Tr) (j g' : Nat) (hj : j ≤ s.size) (hb : Bp.two (bt s) (92 : UInt8).toNat (41 : UInt8).toNat j = false) (HC : ∀ w, BqAt w0 A w R s fl (i + 2) (g + 1) (d + 1) → Calls Tryz.prog 63 #[.pointer (some ⟨R, 0, none⟩)] w (BqEnd A R s fl (d + 1) (.ok x j g') w)) :
    Calls Tryz.prog 123 #[.pointer (some ⟨R, 0, none⟩)] w (BqEnd A R s fl d (.err 2 i) w) := by
  have HC := Lib.hid HC
  have hlt := hR.lt
  have hb0 : Below w.heap.size w (w.alloc (.cells noNode 28)) := (Below.refl _ _).alloc (Nat.le_refl _) _
  have HR := Lib.hid (hR.later hb0)
  have Z1 := Lib.hid (heap_alloc_new w (.cells noNode 28))
  have HB0 := Lib.hid hb0
  have hsW : w.heap.size < (w.alloc (.cells noNode 28)).heap.size := by simp
  clear hR hb0
  go_enter Tryz.func123, Tryz.ntmps123
  go_upto_region 1 with (fail)
  generalize World.alloc _ _ = W at *
  have hRne : R ≠ w.heap.size := by omega
  obtain ⟨-, -, c2, c3, c4⟩ := bq5 HR.out.cell
  obtain ⟨f2, f3, f4⟩ := bqf HR.out.cell
  have e4 : ((d : Int) == 32) = false := by rw [beq_eq_false_iff_ne]; omega
  have wg : IntKind.i64.wrap ((g : Int) + 1) = (g : Int) + 1 := IntWalk.i64_in _ (by omega)
  have wd : IntKind.i64.wrap ((d : Int) + 1) = (d : Int) + 1 := IntWalk.i64_in _ (by omega)
  have wi : IntKind.i64.wrap ((i : Int) + 2) = (i : Int) + 2 := IntWalk.i64_in _ (by omega)
  go_upto_region 5 with (fail)
  have hP1 := bq_groups HR.out.cell (g + 1) (v := (g : Int) + 1) (by omega)
  have HR1 := Lib.hid (HR.out.next ((Touch.refl [R] W).setCell List.mem_cons_self 3 (.int .i64 ((g : Int) + 1))) hP1)
  have HT1 := Lib.hid ((Touch.of_below [R] HB0.out).setCell List.mem_cons_self 3 (.int .i64 ((g : Int) + 1)))
  have Z2 := Lib.hid ((Below.heap_setCell W ⟨R, 3, none⟩ (.int .i64 ((g : Int) + 1)) w.heap.size (Ne.symm hRne)).trans Z1.out)
  have hs1 : w.heap.size < (W.setCell ⟨R, 3, none⟩ (.int .i64 ((g : Int) + 1))).heap.size := by simpa using hsW
  clear hP1 c2 c3 c4 f2 f3 f4 HB0 Z1 HR
  generalize World.setCell W _ _ = W1 at *
  obtain ⟨-, -, c2, c3, c4⟩ := bq5 HR1.out.cell
  obtain ⟨f2, f3, f4⟩ := bqf HR1.out.cell
  go_upto_region 6 with (fail)
  have hP2 := bq_open HR1.out.cell (d + 1) (v := (d : Int) + 1) (by omega)
  have HR2 := Lib.hid (HR1.out.next ((Touch.refl [R] W1).setCell List.mem_cons_self 4 (.int .i64 ((d : Int) + 1))) hP2)
  have HT2 := Lib.hid (HT1.out.setCell List.mem_cons_self 4 (.int .i64 ((d : Int) + 1)))
  have Z3 := Lib.hid ((Below.heap_setCell W1 ⟨R, 4, none⟩ (.int .i64 ((d : Int) + 1)) w.heap.size (Ne.symm hRne)).trans Z2.out)
  have hs2 : w.heap.size < (W1.setCell ⟨R, 4, none⟩ (.int .i64 ((d : Int) + 1))).heap.size := by simpa using hs1
  clear hP2 c2 c3 c4 f2 f3 f4 HT1 Z2 HR1
  generalize World.setCell W1 _ _ = W2 at *
  obtain ⟨-, -, c2, c3, c4⟩ := bq5 HR2.out.cell
  obtain ⟨f2, f3, f4⟩ := bqf HR2.out.cell
  have c3' : W2.cell? ⟨R, 3, none⟩ = some (.int .i64 ((g : Int) + 1)) := c3
  clear c3
  go_upto_region 8 with (fail)
  have hP3 := bq_place HR2.out.cell (i + 2) (v := (i : Int) + 2) (by omega)
  have HR3 := Lib.hid (HR2.out.next ((Touch.refl [R] W2).setCell List.mem_cons_self 2 (.int .i64 ((i : Int) + 2))) hP3)
  have HT3 := Lib.hid (HT2.out.setCell List.mem_cons_self 2 (.int .i64 ((i : Int) + 2)))
  have Z4 := Lib.hid ((Below.heap_setCell W2 ⟨R, 2, none⟩ (.int .i64 ((i : Int) + 2)) w.heap.size (Ne.symm hRne)).trans Z3.out)
  have hs3 : w.heap.size < (W2.setCell ⟨R, 2, none⟩ (.int .i64 ((i : Int) + 2))).heap.size := by simpa using hs2
  clear hP3 c2 c3' c4 f2 f3 f4 HT2 Z3 HR2
  generalize World.setCell W2 _ _ = W3 at *
  go_wp2_with fail
  refine (HC.out W3 HR3.out).mono ?_
  intro e w4 he
  obtain ⟨v, F, rfl, ho, hF, hr4, ht4⟩ := he.ok rfl
  obtain ⟨p, c, rfl, hl⟩ := ho.slice
  have hw4 : w.heap.size < w4.heap.size := Nat.lt_of_lt_of_le hs3 ht4.size
  have hbA : Below w4.heap.size w4 (w4.alloc (.cells (x.cells (.slice p x.subs.length c)) 28)) := (Below.refl _ _).alloc (Nat.le_refl _) _
  have HO5 := Lib.hid (ho.later hbA)
  have HF5 := Lib.hid hF
  have Z5 := Lib.hid (keep_blk hbA ((ht4.block w.heap.size hs3 (by simp; omega)).trans Z4.out))
  have HT5 := Lib.hid ((HT3.out.trans ht4).later hbA)
  have HR5 := Lib.hid ((HR3.out.next ht4 hr4).later hbA)
  have Y5 := Lib.hid (heap_alloc_new w4 (.cells (x.cells (.slice p x.subs.length c)) 28))
  have hs5 : w.heap.size < (w4.alloc (.cells (x.cells (.slice p x.subs.length c)) 28)).heap.size := Nat.lt_of_lt_of_le hs3 (Nat.le_trans ht4.size hbA.size)
  clear ho hF hr4 ht4 he hbA Z4 HT3 HR3
  unfold Tr.cells at *
  go_wp2_with fail
  generalize hW5 : World.alloc w4 _ = W5 at *
  clear hW5
  refine (bqtakes_any ⟨#[92, 41]⟩ 2 rfl false w0 A W5 R s (by omega) fl j g' (d + 1) HR5.out hj (fun h => by cases h) (pre_two s j 92 41 false hb)).mono ?_
  rintro e w6 ⟨rfl, hr6, ht6⟩
  have HR6 := Lib.hid (HR5.out.next ht6 hr6)
  have HT6 := Lib.hid (HT5.out.trans ht6)
  have Z6 := Lib.hid ((ht6.block w.heap.size hs5 (by simp; omega)).trans Z5.out)
  have Y6 := Lib.hid ((ht6.block w4.heap.size (blk_lt2 Y5.out) (by simp; omega)).trans Y5.out)
  have HO6 := Lib.hid (HO5.out.touch HF5.out (by omega) ht6)
  have hs6 : w.heap.size < w6.heap.size := Nat.lt_of_lt_of_le hs5 ht6.size
  clear hr6 ht6 HR5 HT5 Z5 Y5 HO5 hs5
  have ce : w6.cell? ⟨2, 0, none⟩ = some (.iface 184 (.pointer (some (A 1)))) := (HR6.out.now.errs 1 (by omega)).1
  go_wp2_with fail
  refine (at_err A 1 (by omega) i _).mono ?_
  rintro e w7 ⟨v7, rfl, hv7, hb7⟩
  obtain ⟨q7, rfl⟩ := hv7.iface
  have HG := Lib.hid (BqEnd.gave (R := R) (w := w) (fl := fl) (s := s) (d := d) hv7 (Nat.le_of_lt hs6) (HT6.out.later hb7))
  clear hv7 hb7 ce
  go_wp2_with fail
  refine (giveup_any q7 _).mono ?_
  rintro e w8 ⟨rfl, rfl⟩
  go_wp2
  exact ⟨rfl, HG.out⟩
set_option maxRecDepth 100000 in
set_option maxHeartbeats 4000000 in
theorem bqgroup_ok (w0 : World) (A : Nat → Addr) (w : World) (R : Nat) (s : ByteArray) (hs : s.size ≤ 1024) (fl : Int) (i g d : Nat) (hR : BqAt w0 A w R s fl i g d) (hi : i + 1 < s.size) (hd : d < 32) (hg : g ≤ 4294967280) (x : Tr) (j g' : Nat) (hj : j ≤ s.size) (hb : Bp.two (bt s) (92 : UInt8).toNat (41 : UInt8).toNat j = true) (HC : ∀ w, BqAt w0 A w R s fl (i + 2) (g + 1) (d + 1) → Calls Tryz.prog 63 #[.pointer (some ⟨R, 0, none⟩)] w (BqEnd A R s fl (d + 1) (.ok x j g') w)) :
    Calls Tryz.prog 123 #[.pointer (some ⟨R, 0, none⟩)] w (BqEnd A R s fl d (.ok (.grp (g + 1 : Nat) x) (j + 2) g') w) := by
  have hjl : j + 2 ≤ s.size := Bp.two_lt (bt_txt s) hb (by decide) (by decide)
  have HC := Lib.hid HC
  have hlt := hR.lt
  have hb0 : Below w.heap.size w (w.alloc (.cells noNode 28)) := (Below.refl _ _).alloc (Nat.le_refl _) _
  have HR := Lib.hid (hR.later hb0)
  have Z1 := Lib.hid (heap_alloc_new w (.cells noNode 28))
  have HB0 := Lib.hid hb0
  have hsW : w.heap.size < (w.alloc (.cells noNode 28)).heap.size := by simp
  clear hR hb0
  go_enter Tryz.func123, Tryz.ntmps123
  go_upto_region 1 with (fail)
  generalize World.alloc _ _ = W at *
  have hRne : R ≠ w.heap.size := by omega
  obtain ⟨-, -, c2, c3, c4⟩ := bq5 HR.out.cell
  obtain ⟨f2, f3, f4⟩ := bqf HR.out.cell
  have e4 : ((d : Int) == 32) = false := by rw [beq_eq_false_iff_ne]; omega
  have wg : IntKind.i64.wrap ((g : Int) + 1) = (g : Int) + 1 := IntWalk.i64_in _ (by omega)
  have wd : IntKind.i64.wrap ((d : Int) + 1) = (d : Int) + 1 := IntWalk.i64_in _ (by omega)
  have wi : IntKind.i64.wrap ((i : Int) + 2) = (i : Int) + 2 := IntWalk.i64_in _ (by omega)
  go_upto_region 5 with (fail)
  have hP1 := bq_groups HR.out.cell (g + 1) (v := (g : Int) + 1) (by omega)
  have HR1 := Lib.hid (HR.out.next ((Touch.refl [R] W).setCell List.mem_cons_self 3 (.int .i64 ((g : Int) + 1))) hP1)
  have HT1 := Lib.hid ((Touch.of_below [R] HB0.out).setCell List.mem_cons_self 3 (.int .i64 ((g : Int) + 1)))
  have Z2 := Lib.hid ((Below.heap_setCell W ⟨R, 3, none⟩ (.int .i64 ((g : Int) + 1)) w.heap.size (Ne.symm hRne)).trans Z1.out)
  have hs1 : w.heap.size < (W.setCell ⟨R, 3, none⟩ (.int .i64 ((g : Int) + 1))).heap.size := by simpa using hsW
  clear hP1 c2 c3 c4 f2 f3 f4 HB0 Z1 HR
  generalize World.setCell W _ _ = W1 at *
  obtain ⟨-, -, c2, c3, c4⟩ := bq5 HR1.out.cell
  obtain ⟨f2, f3, f4⟩ := bqf HR1.out.cell
  go_upto_region 6 with (fail)
  have hP2 := bq_open HR1.out.cell (d + 1) (v := (d : Int) + 1) (by omega)
  have HR2 := Lib.hid (HR1.out.next ((Touch.refl [R] W1).setCell List.mem_cons_self 4 (.int .i64 ((d : Int) + 1))) hP2)
  have HT2 := Lib.hid (HT1.out.setCell List.mem_cons_self 4 (.int .i64 ((d : Int) + 1)))
  have Z3 := Lib.hid ((Below.heap_setCell W1 ⟨R, 4, none⟩ (.int .i64 ((d : Int) + 1)) w.heap.size (Ne.symm hRne)).trans Z2.out)
  have hs2 : w.heap.size < (W1.setCell ⟨R, 4, none⟩ (.int .i64 ((d : Int) + 1))).heap.size := by simpa using hs1
  clear hP2 c2 c3 c4 f2 f3 f4 HT1 Z2 HR1
  generalize World.setCell W1 _ _ = W2 at *
  obtain ⟨-, -, c2, c3, c4⟩ := bq5 HR2.out.cell
  obtain ⟨f2, f3, f4⟩ := bqf HR2.out.cell
  have c3' : W2.cell? ⟨R, 3, none⟩ = some (.int .i64 ((g : Int) + 1)) := c3
  clear c3
  go_upto_region 8 with (fail)
  have hP3 := bq_place HR2.out.cell (i + 2) (v := (i : Int) + 2) (by omega)
  have HR3 := Lib.hid (HR2.out.next ((Touch.refl [R] W2).setCell List.mem_cons_self 2 (.int .i64 ((i : Int) + 2))) hP3)
  have HT3 := Lib.hid (HT2.out.setCell List.mem_cons_self 2 (.int .i64 ((i : Int) + 2)))
  have Z4 := Lib.hid ((Below.heap_setCell W2 ⟨R, 2, none⟩ (.int .i64 ((i : Int) + 2)) w.heap.size (Ne.symm hRne)).trans Z3.out)
  have hs3 : w.heap.size < (W2.setCell ⟨R, 2, none⟩ (.int .i64 ((i : Int) + 2))).heap.size := by simpa using hs2
  clear hP3 c2 c3' c4 f2 f3 f4 HT2 Z3 HR2
  generalize World.setCell W2 _ _ = W3 at *
  go_wp2_with fail
  refine (HC.out W3 HR3.out).mono ?_
  intro e w4 he
  obtain ⟨v, F, rfl, ho, hF, hr4, ht4⟩ := he.ok rfl
  obtain ⟨p, c, rfl, hl⟩ := ho.slice
  have hw4 : w.heap.size < w4.heap.size := Nat.lt_of_lt_of_le hs3 ht4.size
  have hbA : Below w4.heap.size w4 (w4.alloc (.cells (x.cells (.slice p x.subs.length c)) 28)) := (Below.refl _ _).alloc (Nat.le_refl _) _
  have HO5 := Lib.hid (ho.later hbA)
  have HF5 := Lib.hid hF
  have Z5 := Lib.hid (keep_blk hbA ((ht4.block w.heap.size hs3 (by simp; omega)).trans Z4.out))
  have HT5 := Lib.hid ((HT3.out.trans ht4).later hbA)
  have HR5 := Lib.hid ((HR3.out.next ht4 hr4).later hbA)
  have Y5 := Lib.hid (heap_alloc_new w4 (.cells (x.cells (.slice p x.subs.length c)) 28))
  have hs5 : w.heap.size < (w4.alloc (.cells (x.cells (.slice p x.subs.length c)) 28)).heap.size := Nat.lt_of_lt_of_le hs3 (Nat.le_trans ht4.size hbA.size)
  clear ho hF hr4 ht4 he hbA Z4 HT3 HR3
  unfold Tr.cells at *
  go_wp2_with fail
  generalize hW5 : World.alloc w4 _ = W5 at *
  clear hW5
  refine (bqtakes_any ⟨#[92, 41]⟩ 2 rfl true w0 A W5 R s (by omega) fl j g' (d + 1) HR5.out hj (fun _ => hjl) (pre_two s j 92 41 true hb)).mono ?_
  rintro e w6 ⟨rfl, hr6, ht6⟩
  have HR6 := Lib.hid (HR5.out.next ht6 hr6)
  have HT6 := Lib.hid (HT5.out.trans ht6)
  have Z6 := Lib.hid ((ht6.block w.heap.size hs5 (by simp; omega)).trans Z5.out)
  have Y6 := Lib.hid ((ht6.block w4.heap.size (blk_lt2 Y5.out) (by simp; omega)).trans Y5.out)
  have HO6 := Lib.hid (HO5.out.touch HF5.out (by omega) ht6)
  have hs6 : w.heap.size < w6.heap.size := Nat.lt_of_lt_of_le hs5 ht6.size
  clear hr6 ht6 HR5 HT5 Z5 Y5 HO5 hs5
  have HR6 : Hid (BqAt w0 A w6 R s fl (j + 2) g' (d + 1)) := Lib.hid HR6.out
  obtain ⟨-, -, c2, c3, c4⟩ := bq5 HR6.out.cell
  obtain ⟨f2, f3, f4⟩ := bqf HR6.out.cell
  have c4' : w6.cell? ⟨R, 4, none⟩ = some (.int .i64 ((d : Int) + 1)) := c4
  have wd2 : IntKind.i64.wrap ((d : Int) + 1 - 1) = (d : Int) := by rw [show (d : Int) + 1 - 1 = d by omega]; exact IntWalk.i64_in _ (by omega)
  clear c4 c3 hb
  go_upto_region 12 with (fail)
  have hP7 := bq_open HR6.out.cell d (v := (d : Int)) rfl
  have HT7 := Lib.hid (HT6.out.setCell List.mem_cons_self 4 (.int .i64 (d : Int)))
  have HR7 := Lib.hid (HR6.out.next ((Touch.refl [R] w6).setCell List.mem_cons_self 4 (.int .i64 (d : Int))) hP7)
  have Z7 := Lib.hid ((Below.heap_setCell w6 ⟨R, 4, none⟩ (.int .i64 (d : Int)) w.heap.size (Ne.symm hRne)).trans Z6.out)
  have hs7 : w.heap.size < (w6.setCell ⟨R, 4, none⟩ (.int .i64 (d : Int))).heap.size := by simpa using hs6
  have HO7 := Lib.hid (HO6.out.touch HF5.out (by omega) ((Touch.refl [R] w6).setCell List.mem_cons_self 4 (.int .i64 (d : Int))))
  have h4w : w4.heap.size ≠ R := by omega
  have Y7 := Lib.hid ((Below.heap_setCell w6 ⟨R, 4, none⟩ (.int .i64 (d : Int)) w4.heap.size h4w).trans Y6.out)
  clear hP7 c2 c4' f2 f3 f4 HT6 HR6 Z6 Y6 HO6 hs6
  generalize World.setCell w6 _ _ = W7 at *
  obtain ⟨T, hT⟩ : ∃ T, Tr.grp ((g + 1 : Nat) : Int) x = T := ⟨_, rfl⟩
  have hT2 : Tr.grp ((g : Int) + 1) x = T := by rw [← hT, Int.natCast_add]; rfl
  have hgr := fun w B v hv => group_any x ((g : Int) + 1) w B v hv
  rw [hT2] at hgr
  have HGR := Lib.hid hgr; have HT9 := Lib.hid hT
  clear hgr hT hT2
  go_wp2_with (first
    | (refine wpList_load_row rfl 28 (.tmp 5) rfl w4.heap.size rfl 28 _ (0, 0) _ Y7.out Tryz.underlying28 rfl (by kernel_rfl) ?_)
    | fail)
  refine (HGR.out _ (fun b => b ∈ F) _ ⟨_, rfl, HO7.out.trees⟩).mono ?_
  rintro e w9 ⟨s8, F8, rfl, ho8, hF8, hb8⟩
  obtain ⟨p8, c8, rfl, hl8⟩ := ho8.slice
  have HO9 := Lib.hid ho8
  have Z9 := Lib.hid (keep_blk hb8 Z7.out)
  have HP9 := Lib.hid (HR7.out.later hb8).cell
  have HTT := Lib.hid (HT7.out.later hb8)
  have hk1 : ∀ b, b ∈ F8 → b ≠ w.heap.size := fun b hb => by have := hF8 b hb; omega
  have hk2 : ∀ b, b ∈ F8 → w.heap.size ≤ b := fun b hb => by have := hF8 b hb; omega
  have HK1 := Lib.hid hk1; have HK2 := Lib.hid hk2
  clear hk1 hk2 ho8 hF8 hb8 Z7 HR7 HT7 HO7 Y7
  unfold Tr.cells at *
  go_wp2_with (first
    | (refine wpList_store_row rfl 28 (.tmp 2) (.tmp 61) rfl w.heap.size #[.int .i64 (T).kind, .int .u64 (Oc.U (T).w0), .int .u64 (Oc.U (T).w1), .int .u64 (Oc.U (T).w2), .int .u64 (Oc.U (T).w3), .slice p8 T.subs.length c8, .int .i64 (T).num, .int .i64 (T).least, .int .i64 (T).most, .bool (T).bare] rfl rfl 28 _ Z9.out (by kernel_rfl) rfl (by simp [Value.oneCell']) ?_)
    | fail)
  refine bodyPost_ret (results_cell_row rfl _ _ w.heap.size 28 #[.int .i64 (T).kind, .int .u64 (Oc.U (T).w0), .int .u64 (Oc.U (T).w1), .int .u64 (Oc.U (T).w2), .int .u64 (Oc.U (T).w3), .slice p8 T.subs.length c8, .int .i64 (T).num, .int .i64 (T).least, .int .i64 (T).most, .bool (T).bare] (0, 0) _ rfl (heap_setRow Z9.out) Tryz.underlying28 rfl (by kernel_rfl)) rfl ⟨⟨.slice p8 T.subs.length c8, F8, ?_, ?_, HK2.out, (heap_setRow_other _ _ _ hRne).trans HP9.out⟩, HTT.out.setRow_new (Nat.le_refl _) _⟩
  · rw [HT9.out]; rfl
  · rw [HT9.out]; exact HO9.out.keep fun b hb => heap_setRow_other _ _ _ (HK1.out b hb)
/-- What group answers. -/
theorem bqgroup_any (w0 : World) (A : Nat → Addr) (R : Nat) (s : ByteArray) (hs : s.size ≤ 1024) (fl : Int) : ∀ (r d : Nat), r + d = 32 → ∀ (i g : Nat) (w : World), i + 1 < s.size → 2 * g ≤ i → BqAt w0 A w R s fl i g d →
    Calls Tryz.prog 123 #[.pointer (some ⟨R, 0, none⟩)] w (BqEnd A R s fl d (Bp.group (bt s) s.size (icB fl) (nlB fl) r i g) w) := by
  intro r
  induction r with
  | zero =>
    intro d hd i g w hi _ hR
    exact bqgroup_deep w0 A w R s hs fl i g d hR hi (by omega)
  | succ r ih =>
    intro d hd i g w hi hg hR
    have hpat : ∀ O, Bp.seq (bt s) s.size (icB fl) (nlB fl) (Bp.group (bt s) s.size (icB fl) (nlB fl) r) (i + 2) (g + 1) = O → ∀ w, BqAt w0 A w R s fl (i + 2) (g + 1) (d + 1) → Calls Tryz.prog 63 #[.pointer (some ⟨R, 0, none⟩)] w (BqEnd A R s fl (d + 1) O w) := fun O hO w hR =>
      bqpieces_any w0 A w R s (by omega) fl (i + 2) (g + 1) (d + 1) hR (by omega) _ (Bp.group_next (bt_txt s) r) (Bp.group_right (bt_txt s) hs r) (by omega) (fun i' g' w' hi' hg' hR' => ih (d + 1) (by omega) i' g' w' hi' hg' hR') O hO
    unfold Bp.group
    cases hO : Bp.seq (bt s) s.size (icB fl) (nlB fl) (Bp.group (bt s) s.size (icB fl) (nlB fl) r) (i + 2) (g + 1) with
    | err c q => exact bqgroup_err w0 A w R s hs fl i g d hR hi (by omega) (by omega) c q (hpat _ hO)
    | ok x j g' =>
      have hn := Bp.seq_next (bt_txt s) (Bp.group_next (bt_txt s) r) (by omega) hO
      by_cases hb : Bp.two (bt s) 92 41 j = true
      · simp only [hb, if_true]
        exact bqgroup_ok w0 A w R s hs fl i g d hR hi (by omega) (by omega) x j g' hn.2 hb (hpat _ hO)
      · have hb' : Bp.two (bt s) 92 41 j = false := by simpa using hb
        simp only [hb', Bool.false_eq_true, if_false]
        exact bqgroup_open w0 A w R s hs fl i g d hR hi (by omega) (by omega) x j g' hn.2 hb' (hpat _ hO)
/-- What pieces answers at the front. -/
theorem bqpat_any (w0 : World) (A : Nat → Addr) (w : World) (R : Nat) (s : ByteArray) (hs : s.size ≤ 1024) (fl : Int) (hR : BqAt w0 A w R s fl 0 0 0) (O : Ep.Out) (hO : Bp.pat (bt s) s.size (icB fl) (nlB fl) 32 0 0 = O) :
    Calls Tryz.prog 63 #[.pointer (some ⟨R, 0, none⟩)] w (BqEnd A R s fl 0 O w) :=
  bqpieces_any w0 A w R s (by omega) fl 0 0 0 hR (by omega) _ (Bp.group_next (bt_txt s) 32) (Bp.group_right (bt_txt s) hs 32) (by omega) (fun i g w hi hg hR => bqgroup_any w0 A R s hs fl 32 0 (by omega) i g w hi hg hR) O hO
set_option maxRecDepth 100000 in
set_option maxHeartbeats 4000000 in
theorem bqwhole_long (w0 : World) (A : Nat → Addr) (w : World) (R : Nat) (s : ByteArray) (fl : Int) (hR : BqAt w0 A w R s fl 0 0 0) (hl : 1024 < s.size) :
    Calls Tryz.prog 42 #[.pointer (some ⟨R, 0, none⟩)] w (BqEnd A R s fl 0 (.err 12 1024) w) := by
  have hlt := hR.lt
  have hb0 : Below w.heap.size w (w.alloc (.cells noNode 28)) := (Below.refl _ _).alloc (Nat.le_refl _) _
  have HR := Lib.hid (hR.later hb0)
  have Z1 := Lib.hid (heap_alloc_new w (.cells noNode 28))
  have HB0 := Lib.hid hb0
  have hsW : w.heap.size < (w.alloc (.cells noNode 28)).heap.size := by simp
  have hRne : R ≠ w.heap.size := by omega
  have hd : decide ((1024 : Int) < s.size) = true := by simp; omega
  have hd' : decide (1024 < s.size) = true := by simp; omega
  obtain ⟨c0, -, -, -, -⟩ := bq5 HR.out.cell
  have ce : (w.alloc (.cells noNode 28)).cell? ⟨0, 0, none⟩ = some (.iface 184 (.pointer (some (A 11)))) := (HR.out.now.errs 11 (by omega)).1
  clear hR hb0
  go_enter Tryz.func42, Tryz.ntmps42
  go_wp2_with fail
  generalize World.alloc _ _ = W at *
  refine (at_err A 11 (by omega) 1024 _).mono ?_
  rintro e w2 ⟨v, rfl, hv, hb⟩
  obtain ⟨q, rfl⟩ := hv.iface
  have HG := Lib.hid (BqEnd.gave (R := R) (w := w) (fl := fl) (s := s) (d := 0) hv (Nat.le_of_lt hsW) ((Touch.of_below [R] HB0.out).later hb))
  clear hv hb ce c0
  go_wp2_with fail
  refine (giveup_any q _).mono ?_
  rintro e w8 ⟨rfl, rfl⟩
  go_wp2
  exact ⟨rfl, HG.out⟩
set_option maxRecDepth 100000 in
set_option maxHeartbeats 4000000 in
theorem bqwhole_err (w0 : World) (A : Nat → Addr) (w : World) (R : Nat) (s : ByteArray) (fl : Int) (hR : BqAt w0 A w R s fl 0 0 0) (c : Nat) (q : Int) (hl : s.size ≤ 1024) (HC : ∀ w, BqAt w0 A w R s fl 0 0 0 → Calls Tryz.prog 63 #[.pointer (some ⟨R, 0, none⟩)] w (BqEnd A R s fl 0 (.err c q) w)) :
    Calls Tryz.prog 42 #[.pointer (some ⟨R, 0, none⟩)] w (BqEnd A R s fl 0 (.err c q) w) := by
  have HC := Lib.hid HC
  have hlt := hR.lt
  have hb0 : Below w.heap.size w (w.alloc (.cells noNode 28)) := (Below.refl _ _).alloc (Nat.le_refl _) _
  have HR := Lib.hid (hR.later hb0)
  have Z1 := Lib.hid (heap_alloc_new w (.cells noNode 28))
  have HB0 := Lib.hid hb0
  have hsW : w.heap.size < (w.alloc (.cells noNode 28)).heap.size := by simp
  have hRne : R ≠ w.heap.size := by omega
  have hd : decide ((1024 : Int) < s.size) = false := by simp; omega
  have hd' : decide (1024 < s.size) = false := by simp; omega
  obtain ⟨c0, -, -, -, -⟩ := bq5 HR.out.cell
  clear hR hb0
  go_enter Tryz.func42, Tryz.ntmps42
  go_wp2_with fail
  clear c0 hd hd'
  generalize World.alloc _ _ = W at *
  refine (HC.out W HR.out).mono ?_
  intro e w2 he
  obtain ⟨v, rfl, hv, ht2⟩ := he.err rfl
  have HG := Lib.hid (BqEnd.gave (R := R) (w := w) (fl := fl) (s := s) (d := 0) hv (Nat.le_of_lt hsW) ((Touch.of_below [R] HB0.out).trans ht2))
  clear hv ht2 he
  go_wp2
  exact ⟨rfl, HG.out⟩
set_option maxRecDepth 100000 in
set_option maxHeartbeats 4000000 in
theorem bqwhole_paren (w0 : World) (A : Nat → Addr) (w : World) (R : Nat) (s : ByteArray) (fl : Int) (hR : BqAt w0 A w R s fl 0 0 0) (x : Tr) (j g : Nat) (hj : j < s.size) (hl : s.size ≤ 1024) (HC : ∀ w, BqAt w0 A w R s fl 0 0 0 → Calls Tryz.prog 63 #[.pointer (some ⟨R, 0, none⟩)] w (BqEnd A R s fl 0 (.ok x j g) w)) :
    Calls Tryz.prog 42 #[.pointer (some ⟨R, 0, none⟩)] w (BqEnd A R s fl 0 (.err 2 j) w) := by
  have HC := Lib.hid HC
  have HJ := Lib.hid hj
  clear hj
  have hlt := hR.lt
  have hb0 : Below w.heap.size w (w.alloc (.cells noNode 28)) := (Below.refl _ _).alloc (Nat.le_refl _) _
  have HR := Lib.hid (hR.later hb0)
  have Z1 := Lib.hid (heap_alloc_new w (.cells noNode 28))
  have HB0 := Lib.hid hb0
  have hsW : w.heap.size < (w.alloc (.cells noNode 28)).heap.size := by simp
  have hRne : R ≠ w.heap.size := by omega
  have hd : decide ((1024 : Int) < s.size) = false := by simp; omega
  have hd' : decide (1024 < s.size) = false := by simp; omega
  obtain ⟨c0, -, -, -, -⟩ := bq5 HR.out.cell
  clear hR hb0
  go_enter Tryz.func42, Tryz.ntmps42
  go_wp2_with fail
  clear c0 hd hd'
  generalize World.alloc _ _ = W at *
  refine (HC.out W HR.out).mono ?_
  intro e w2 he
  obtain ⟨v, F, rfl, ho, hF, hr2, ht2⟩ := he.ok rfl
  obtain ⟨p, c, rfl, hl2⟩ := ho.slice
  have hbA : Below w2.heap.size w2 (w2.alloc (.cells (x.cells (.slice p x.subs.length c)) 28)) := (Below.refl _ _).alloc (Nat.le_refl _) _
  have HO3 := Lib.hid (ho.later hbA)
  have HF3 := Lib.hid hF
  have Z3 := Lib.hid (keep_blk hbA ((ht2.block w.heap.size hsW (by simp; omega)).trans Z1.out))
  have HT3 := Lib.hid (((Touch.of_below [R] HB0.out).trans ht2).later hbA)
  have HR3 := Lib.hid ((HR.out.next ht2 hr2).later hbA)
  have Y3 := Lib.hid (heap_alloc_new w2 (.cells (x.cells (.slice p x.subs.length c)) 28))
  have hs3 : w.heap.size < (w2.alloc (.cells (x.cells (.slice p x.subs.length c)) 28)).heap.size := Nat.lt_of_lt_of_le hsW (Nat.le_trans ht2.size hbA.size)
  clear ho hF hr2 ht2 he hbA HR Z1 HB0
  unfold Tr.cells at *
  go_upto_region 4 with (fail)
  generalize World.alloc w2 _ = W3 at *
  obtain ⟨c0, c1, c2, -, -⟩ := bq5 HR3.out.cell
  have hj := HJ.out
  have dj : decide ((j : Int) < s.size) = true := by simp; omega
  have dj' : decide (j < s.size) = true := by simp; omega
  clear hj
  go_quiet (fail)
  have hbn : Below W3.heap.size W3 (W3.drewN nq) := drewN_below (Below.refl _ _) nq
  have HO4 := Lib.hid (HO3.out.later hbn)
  have Z4 : Hid ((W3.drewN nq).heap[w.heap.size]? = some (.cells noNode 28)) := Lib.hid Z3.out
  have Y4 : Hid ((W3.drewN nq).heap[w2.heap.size]? = some (.cells #[.int .i64 (x).kind, .int .u64 (Oc.U (x).w0), .int .u64 (Oc.U (x).w1), .int .u64 (Oc.U (x).w2), .int .u64 (Oc.U (x).w3), .slice p x.subs.length c, .int .i64 (x).num, .int .i64 (x).least, .int .i64 (x).most, .bool (x).bare] 28)) := Lib.hid Y3.out
  have HT4 := Lib.hid (HT3.out.drewN nq)
  have HR4 := Lib.hid (HR3.out.later hbn)
  have hs4 : w.heap.size < (W3.drewN nq).heap.size := hs3
  clear hbn HO3 Z3 Y3 HT3 HR3 hs3 c0 c1 c2
  generalize World.drewN W3 nq = W4 at *
  have ce : W4.cell? ⟨2, 0, none⟩ = some (.iface 184 (.pointer (some (A 1)))) := (HR4.out.now.errs 1 (by omega)).1
  go_wp2_with fail
  refine (bqfails_any w0 A 1 (by omega) W4 R s fl j g 0 HR4.out).mono ?_
  intro e w7 he
  obtain ⟨v, rfl, hv, ht7⟩ := he.err rfl
  have HG := Lib.hid (BqEnd.gave (R := R) (w := w) (fl := fl) (s := s) (d := 0) hv (Nat.le_of_lt hs4) (HT4.out.trans ht7))
  clear hv ht7 he ce
  go_wp2
  exact ⟨rfl, HG.out⟩
set_option maxRecDepth 100000 in
set_option maxHeartbeats 4000000 in
theorem bqwhole_big (w0 : World) (A : Nat → Addr) (w : World) (R : Nat) (s : ByteArray) (fl : Int) (hR : BqAt w0 A w R s fl 0 0 0) (x : Tr) (j g : Nat) (hj : j = s.size) (hf : x.InForm) (hbig : 2000 < x.szT) (hl : s.size ≤ 1024) (HC : ∀ w, BqAt w0 A w R s fl 0 0 0 → Calls Tryz.prog 63 #[.pointer (some ⟨R, 0, none⟩)] w (BqEnd A R s fl 0 (.ok x j g) w)) :
    Calls Tryz.prog 42 #[.pointer (some ⟨R, 0, none⟩)] w (BqEnd A R s fl 0 (.err 10 j) w) := by
  have HC := Lib.hid HC
  have HJ := Lib.hid hj
  clear hj
  have hlt := hR.lt
  have hb0 : Below w.heap.size w (w.alloc (.cells noNode 28)) := (Below.refl _ _).alloc (Nat.le_refl _) _
  have HR := Lib.hid (hR.later hb0)
  have Z1 := Lib.hid (heap_alloc_new w (.cells noNode 28))
  have HB0 := Lib.hid hb0
  have hsW : w.heap.size < (w.alloc (.cells noNode 28)).heap.size := by simp
  have hRne : R ≠ w.heap.size := by omega
  have hd : decide ((1024 : Int) < s.size) = false := by simp; omega
  have hd' : decide (1024 < s.size) = false := by simp; omega
  obtain ⟨c0, -, -, -, -⟩ := bq5 HR.out.cell
  clear hR hb0
  go_enter Tryz.func42, Tryz.ntmps42
  go_wp2_with fail
  clear c0 hd hd'
  generalize World.alloc _ _ = W at *
  refine (HC.out W HR.out).mono ?_
  intro e w2 he
  obtain ⟨v, F, rfl, ho, hF, hr2, ht2⟩ := he.ok rfl
  obtain ⟨p, c, rfl, hl2⟩ := ho.slice
  have hbA : Below w2.heap.size w2 (w2.alloc (.cells (x.cells (.slice p x.subs.length c)) 28)) := (Below.refl _ _).alloc (Nat.le_refl _) _
  have HO3 := Lib.hid (ho.later hbA)
  have HF3 := Lib.hid hF
  have Z3 := Lib.hid (keep_blk hbA ((ht2.block w.heap.size hsW (by simp; omega)).trans Z1.out))
  have HT3 := Lib.hid (((Touch.of_below [R] HB0.out).trans ht2).later hbA)
  have HR3 := Lib.hid ((HR.out.next ht2 hr2).later hbA)
  have Y3 := Lib.hid (heap_alloc_new w2 (.cells (x.cells (.slice p x.subs.length c)) 28))
  have hs3 : w.heap.size < (w2.alloc (.cells (x.cells (.slice p x.subs.length c)) 28)).heap.size := Nat.lt_of_lt_of_le hsW (Nat.le_trans ht2.size hbA.size)
  clear ho hF hr2 ht2 he hbA HR Z1 HB0
  unfold Tr.cells at *
  go_upto_region 4 with (fail)
  generalize World.alloc w2 _ = W3 at *
  obtain ⟨c0, c1, c2, -, -⟩ := bq5 HR3.out.cell
  have hj := HJ.out
  have dj : decide ((j : Int) < s.size) = false := by simp; omega
  have dj' : decide (j < s.size) = false := by simp; omega
  clear hj
  go_quiet (fail)
  have hbn : Below W3.heap.size W3 (W3.drewN nq) := drewN_below (Below.refl _ _) nq
  have HO4 := Lib.hid (HO3.out.later hbn)
  have Z4 : Hid ((W3.drewN nq).heap[w.heap.size]? = some (.cells noNode 28)) := Lib.hid Z3.out
  have Y4 : Hid ((W3.drewN nq).heap[w2.heap.size]? = some (.cells #[.int .i64 (x).kind, .int .u64 (Oc.U (x).w0), .int .u64 (Oc.U (x).w1), .int .u64 (Oc.U (x).w2), .int .u64 (Oc.U (x).w3), .slice p x.subs.length c, .int .i64 (x).num, .int .i64 (x).least, .int .i64 (x).most, .bool (x).bare] 28)) := Lib.hid Y3.out
  have HT4 := Lib.hid (HT3.out.drewN nq)
  have HR4 := Lib.hid (HR3.out.later hbn)
  have hs4 : w.heap.size < (W3.drewN nq).heap.size := hs3
  clear hbn HO3 Z3 Y3 HT3 HR3 hs3 c0 c1 c2
  generalize World.drewN W3 nq = W4 at *
  have HSZ := Lib.hid (treeSize_any x hf W4 (fun b => b ∈ F) _ ⟨_, rfl, HO4.out.trees⟩)
  have hle := Tr.szT_le x
  have hd : decide ((2000 : Int) < x.szT) = true := by simp; omega
  have hd' : decide (2000 < x.szT) = true := by simp; omega
  generalize x.szT = N at *
  clear hf hbig hle
  unfold Tr.cells at *
  go_wp2_with (first
    | (refine wpList_load_row rfl 28 (.tmp 3) rfl w2.heap.size rfl 28 _ (0, 0) _ Y4.out Tryz.underlying28 rfl (by kernel_rfl) ?_)
    | fail)
  refine HSZ.out.mono ?_
  rintro e w5 ⟨rfl, hb5⟩
  have HO5 := Lib.hid (HO4.out.later hb5)
  have Z5 := Lib.hid (keep_blk hb5 Z4.out)
  have Y5 := Lib.hid (keep_blk hb5 Y4.out)
  have HT5 := Lib.hid (HT4.out.later hb5)
  have HRx := Lib.hid (HR4.out.later hb5)
  have hs5 : w.heap.size < w5.heap.size := Nat.lt_of_lt_of_le hs4 hb5.size
  clear hb5 HO4 Z4 Y4 HT4 HR4 HSZ
  have ce : w5.cell? ⟨10, 0, none⟩ = some (.iface 184 (.pointer (some (A 9)))) := (HRx.out.now.errs 9 (by omega)).1
  go_wp2_with fail
  refine (bqfails_any w0 A 9 (by omega) w5 R s fl j g 0 HRx.out).mono ?_
  intro e w7 he
  obtain ⟨v, rfl, hv, ht7⟩ := he.err rfl
  have HG := Lib.hid (BqEnd.gave (R := R) (w := w) (fl := fl) (s := s) (d := 0) hv (Nat.le_of_lt hs5) (HT5.out.trans ht7))
  clear hv ht7 he ce
  go_wp2
  exact ⟨rfl, HG.out⟩
set_option maxRecDepth 100000 in
set_option maxHeartbeats 4000000 in
theorem bqwhole_ok (w0 : World) (A : Nat → Addr) (w : World) (R : Nat) (s : ByteArray) (fl : Int) (hR : BqAt w0 A w R s fl 0 0 0) (x : Tr) (j g : Nat) (hj : j = s.size) (hf : x.InForm) (hbig : x.szT ≤ 2000) (hl : s.size ≤ 1024) (HC : ∀ w, BqAt w0 A w R s fl 0 0 0 → Calls Tryz.prog 63 #[.pointer (some ⟨R, 0, none⟩)] w (BqEnd A R s fl 0 (.ok x j g) w)) :
    Calls Tryz.prog 42 #[.pointer (some ⟨R, 0, none⟩)] w (BqEnd A R s fl 0 (.ok x j g) w) := by
  have HC := Lib.hid HC
  have HJ := Lib.hid hj
  clear hj
  have hlt := hR.lt
  have hb0 : Below w.heap.size w (w.alloc (.cells noNode 28)) := (Below.refl _ _).alloc (Nat.le_refl _) _
  have HR := Lib.hid (hR.later hb0)
  have Z1 := Lib.hid (heap_alloc_new w (.cells noNode 28))
  have HB0 := Lib.hid hb0
  have hsW : w.heap.size < (w.alloc (.cells noNode 28)).heap.size := by simp
  have hRne : R ≠ w.heap.size := by omega
  have hd : decide ((1024 : Int) < s.size) = false := by simp; omega
  have hd' : decide (1024 < s.size) = false := by simp; omega
  obtain ⟨c0, -, -, -, -⟩ := bq5 HR.out.cell
  clear hR hb0
  go_enter Tryz.func42, Tryz.ntmps42
  go_wp2_with fail
  clear c0 hd hd'
  generalize World.alloc _ _ = W at *
  refine (HC.out W HR.out).mono ?_
  intro e w2 he
  obtain ⟨v, F, rfl, ho, hF, hr2, ht2⟩ := he.ok rfl
  obtain ⟨p, c, rfl, hl2⟩ := ho.slice
  have hbA : Below w2.heap.size w2 (w2.alloc (.cells (x.cells (.slice p x.subs.length c)) 28)) := (Below.refl _ _).alloc (Nat.le_refl _) _
  have HO3 := Lib.hid (ho.later hbA)
  have HF3 := Lib.hid hF
  have Z3 := Lib.hid (keep_blk hbA ((ht2.block w.heap.size hsW (by simp; omega)).trans Z1.out))
  have HT3 := Lib.hid (((Touch.of_below [R] HB0.out).trans ht2).later hbA)
  have HR3 := Lib.hid ((HR.out.next ht2 hr2).later hbA)
  have Y3 := Lib.hid (heap_alloc_new w2 (.cells (x.cells (.slice p x.subs.length c)) 28))
  have hs3 : w.heap.size < (w2.alloc (.cells (x.cells (.slice p x.subs.length c)) 28)).heap.size := Nat.lt_of_lt_of_le hsW (Nat.le_trans ht2.size hbA.size)
  clear ho hF hr2 ht2 he hbA HR Z1 HB0
  unfold Tr.cells at *
  go_upto_region 4 with (fail)
  generalize World.alloc w2 _ = W3 at *
  obtain ⟨c0, c1, c2, -, -⟩ := bq5 HR3.out.cell
  have hj := HJ.out
  have dj : decide ((j : Int) < s.size) = false := by simp; omega
  have dj' : decide (j < s.size) = false := by simp; omega
  clear hj
  go_quiet (fail)
  have hbn : Below W3.heap.size W3 (W3.drewN nq) := drewN_below (Below.refl _ _) nq
  have HO4 := Lib.hid (HO3.out.later hbn)
  have Z4 : Hid ((W3.drewN nq).heap[w.heap.size]? = some (.cells noNode 28)) := Lib.hid Z3.out
  have Y4 : Hid ((W3.drewN nq).heap[w2.heap.size]? = some (.cells #[.int .i64 (x).kind, .int .u64 (Oc.U (x).w0), .int .u64 (Oc.U (x).w1), .int .u64 (Oc.U (x).w2), .int .u64 (Oc.U (x).w3), .slice p x.subs.length c, .int .i64 (x).num, .int .i64 (x).least, .int .i64 (x).most, .bool (x).bare] 28)) := Lib.hid Y3.out
  have HT4 := Lib.hid (HT3.out.drewN nq)
  have HR4 := Lib.hid (HR3.out.later hbn)
  have hs4 : w.heap.size < (W3.drewN nq).heap.size := hs3
  clear hbn HO3 Z3 Y3 HT3 HR3 hs3 c0 c1 c2
  generalize World.drewN W3 nq = W4 at *
  have HSZ := Lib.hid (treeSize_any x hf W4 (fun b => b ∈ F) _ ⟨_, rfl, HO4.out.trees⟩)
  have hle := Tr.szT_le x
  have hd : decide ((2000 : Int) < x.szT) = false := by simp; omega
  have hd' : decide (2000 < x.szT) = false := by simp; omega
  generalize x.szT = N at *
  clear hf hbig hle
  unfold Tr.cells at *
  go_wp2_with (first
    | (refine wpList_load_row rfl 28 (.tmp 3) rfl w2.heap.size rfl 28 _ (0, 0) _ Y4.out Tryz.underlying28 rfl (by kernel_rfl) ?_)
    | fail)
  refine HSZ.out.mono ?_
  rintro e w5 ⟨rfl, hb5⟩
  have HO5 := Lib.hid (HO4.out.later hb5)
  have Z5 := Lib.hid (keep_blk hb5 Z4.out)
  have Y5 := Lib.hid (keep_blk hb5 Y4.out)
  have HT5 := Lib.hid (HT4.out.later hb5)
  have HRx := Lib.hid (HR4.out.later hb5)
  have hs5 : w.heap.size < w5.heap.size := Nat.lt_of_lt_of_le hs4 hb5.size
  clear hb5 HO4 Z4 Y4 HT4 HR4 HSZ
  have hk1 : ∀ b, b ∈ F → b ≠ w.heap.size := fun b hb => by have := HF3.out b hb; omega
  have hk2 : ∀ b, b ∈ F → w.heap.size ≤ b := fun b hb => by have := HF3.out b hb; omega
  have HK1 := Lib.hid hk1; have HK2 := Lib.hid hk2
  clear hk1 hk2
  go_wp2_with (first
    | (refine wpList_load_row rfl 28 (.tmp 3) rfl w2.heap.size rfl 28 _ (0, 0) _ Y5.out Tryz.underlying28 rfl (by kernel_rfl) ?_)
    | (refine wpList_store_row rfl 28 (.tmp 2) (.tmp 34) rfl w.heap.size #[.int .i64 (x).kind, .int .u64 (Oc.U (x).w0), .int .u64 (Oc.U (x).w1), .int .u64 (Oc.U (x).w2), .int .u64 (Oc.U (x).w3), .slice p x.subs.length c, .int .i64 (x).num, .int .i64 (x).least, .int .i64 (x).most, .bool (x).bare] rfl rfl 28 _ Z5.out (by kernel_rfl) rfl (by simp [Value.oneCell']) ?_)
    | fail)
  exact bodyPost_ret (results_cell_row rfl _ _ w.heap.size 28 #[.int .i64 (x).kind, .int .u64 (Oc.U (x).w0), .int .u64 (Oc.U (x).w1), .int .u64 (Oc.U (x).w2), .int .u64 (Oc.U (x).w3), .slice p x.subs.length c, .int .i64 (x).num, .int .i64 (x).least, .int .i64 (x).most, .bool (x).bare] (0, 0) _ rfl (heap_setRow Z5.out) Tryz.underlying28 rfl (by kernel_rfl)) rfl ⟨⟨.slice p x.subs.length c, F, rfl, HO5.out.keep fun b hb => heap_setRow_other _ _ _ (HK1.out b hb), HK2.out, (heap_setRow_other _ _ _ hRne).trans HRx.out.cell⟩, HT5.out.setRow_new (Nat.le_refl _) _⟩
/-- What whole answers. -/
theorem bqwhole_any (w0 : World) (A : Nat → Addr) (w : World) (R : Nat) (s : ByteArray) (fl : Int) (hR : BqAt w0 A w R s fl 0 0 0) :
    Calls Tryz.prog 42 #[.pointer (some ⟨R, 0, none⟩)] w (BqEnd A R s fl 0 (Bp.parse (bt s) s.size (icB fl) (nlB fl)) w) := by
  unfold Bp.parse
  by_cases hl : 1024 < s.size
  · rw [if_pos hl]; exact bqwhole_long w0 A w R s fl hR hl
  rw [if_neg hl]
  have hs : s.size ≤ 1024 := by omega
  have hp : ∀ O, Bp.pat (bt s) s.size (icB fl) (nlB fl) 32 0 0 = O → ∀ w, BqAt w0 A w R s fl 0 0 0 → Calls Tryz.prog 63 #[.pointer (some ⟨R, 0, none⟩)] w (BqEnd A R s fl 0 O w) := fun O hO w hR => bqpat_any w0 A w R s hs fl hR O hO
  unfold Bp.whole
  cases hO : Bp.pat (bt s) s.size (icB fl) (nlB fl) 32 0 0 with
  | err c q => exact bqwhole_err w0 A w R s fl hR c q hs (hp _ hO)
  | ok x j g =>
    have hn := Bp.seq_next (bt_txt s) (Bp.group_next (bt_txt s) 32) (by omega) hO
    have hf := Bp.seq_form (bt_txt s) (Bp.group_next (bt_txt s) 32) (Bp.group_right (bt_txt s) hs 32) (by omega) (by omega) hO
    by_cases hj : j < s.size
    · simp only [hj, if_true]; exact bqwhole_paren w0 A w R s fl hR x j g hj hs (hp _ hO)
    · simp only [hj, if_false]
      have hjs : j = s.size := by omega
      by_cases hb : 2000 < x.szT
      · simp only [hb, if_true]; rw [← hjs]; exact bqwhole_big w0 A w R s fl hR x j g hjs hf.1 hb hs (hp _ hO)
      · simp only [hb, if_false]; exact bqwhole_ok w0 A w R s fl hR x j g hjs hf.1 (by omega) hs (hp _ hO)
end Go.Proofs.YtlbhbjmobcikfaaGreatDoor
/- What Parse of bre answers: what chapter 7 promises. -/
namespace Go.Proofs.YtlbhbjmobcikfaaGreatDoor
open Go.RowKit
theorem Touch.setRow {F : List Nat} {a w : World} {b : Nat} (h : Touch F a w) (hb : b ∈ F) (cs : Array Value) : Touch F a (w.setRow b cs) :=
  h.trans ⟨rfl, rfl, rfl, by simp, fun k _ hn => heap_setRow_other _ _ _ (fun e => hn (e ▸ hb))⟩
theorem one_blk {w : World} {b : Nat} {x : Value} {t : TypeId} (h : w.heap[b]? = some (.cells #[x] t)) : w.cell? ⟨b, 0, none⟩ = some x ∧ w.frozen? ⟨b, 0, none⟩ = false := by
  constructor
  · unfold World.cell?; rw [h]; rfl
  · unfold World.frozen?; rw [h]; simp
theorem bq_one_set {w : World} {b : Nat} {x : Value} {t : TypeId} (h : w.heap[b]? = some (.cells #[x] t)) (v : Value) : (w.setCell ⟨b, 0, none⟩ v).heap[b]? = some (.cells #[v] t) := by
  simp [World.setCell, Array.getElem?_modify, h]
set_option maxRecDepth 100000 in
theorem faultof_any (q : Value) (w : World) :
    Calls Tryz.prog 41 #[.iface 99 (.agg #[.iface 65 q])] w fun e w' => e = .returned (.iface 65 q) ∧ Below w.heap.size w w' := by
  have hta : ∀ w, (Instr.typeAssert (.iface 99 (.agg #[.iface 65 q])) 20 99 true).run Tryz.prog w = .ok (.tuple #[.agg #[.iface 65 q], .bool true]) w := fun _ => rfl
  go_enter Tryz.func41, Tryz.ntmps41
  go_wp2
  go_ret
  exact ⟨rfl, (Below.refl _ _).alloc (Nat.le_refl _) _⟩
set_option maxRecDepth 100000 in
theorem bqcaught_idle (p q r : Addr) (w : World) :
    CallsD Tryz.prog 40 #[.pointer (some p), .pointer (some q), .pointer (some r)] .returning w fun e u' w' => e = .returned (.tuple #[]) ∧ u' = .returning ∧ w' = w := by
  refine callsD_of_wpS Tryz.func40 rfl fun c₀ cs hu => ?_
  apply wpS_seq
  apply wpS_region
  simp [wpOpsS, go_sem, recoverD, hu, Tryz.ntmps40, Exit.thenS]
  refine wpS_of_wp ?_
  go_wp2
  refine ⟨rfl, .returning, ?_, .tuple #[], by simp [results, Tryz.results40], rfl, rfl, rfl⟩
  cases c₀
  simp_all
set_option maxRecDepth 100000 in
set_option maxHeartbeats 2000000 in
theorem bqcaught_gave (b0 b1 b2 : Nat) (h01 : b0 ≠ b1) (h02 : b0 ≠ b2) (h12 : b1 ≠ b2) (q : Value) (w : World) (z0 : w.heap[b0]? = some (.cells noNode 28)) (z1 : w.heap[b1]? = some (.cells #[.int .i64 0] 3)) (z2 : w.heap[b2]? = some (.cells #[.nilIface] 30)) :
    CallsD Tryz.prog 40 #[.pointer (some ⟨b0, 0, none⟩), .pointer (some ⟨b1, 0, none⟩), .pointer (some ⟨b2, 0, none⟩)] (.panicking [{ v := .iface 99 (.agg #[.iface 65 q]), recovered := false }]) w fun e u' w' =>
      e = .returned (.tuple #[]) ∧ u' = .panicking [{ v := .iface 99 (.agg #[.iface 65 q]), recovered := true }] ∧ w'.heap[b0]? = some (.cells noNode 28) ∧ w'.heap[b1]? = some (.cells #[.int .i64 0] 3) ∧ w'.heap[b2]? = some (.cells #[.iface 65 q] 30) ∧ Touch [b0, b1, b2] w w' := by
  have Z0 := Lib.hid z0; have Z1 := Lib.hid z1; have Z2 := Lib.hid z2
  clear z0 z1 z2
  refine callsD_of_wpS Tryz.func40 rfl fun c₀ cs hu => ?_
  apply wpS_seq
  apply wpS_region
  simp [wpOpsS, go_sem, recoverD, hu, Tryz.ntmps40, Exit.thenS]
  refine wpS_of_wp ?_
  have hfr : (#[Value.pointer (some ⟨b0, 0, none⟩), .pointer (some ⟨b1, 0, none⟩), .pointer (some ⟨b2, 0, none⟩)] ++ ((Array.replicate 7 undef).setIfInBounds 1 (.iface 99 (.agg #[.iface 65 q]))).setIfInBounds 0 (.iface 99 (.agg #[.iface 65 q]))) =
    #[Value.pointer (some ⟨b0, 0, none⟩), .pointer (some ⟨b1, 0, none⟩), .pointer (some ⟨b2, 0, none⟩), .iface 99 (.agg #[.iface 65 q]), .iface 99 (.agg #[.iface 65 q]), undef, undef, undef, undef, undef] := rfl
  rw [hfr]
  clear hfr
  go_wp2_with fail
  refine (faultof_any q w).mono ?_
  rintro e w1 ⟨rfl, hb⟩
  have Y0 := Lib.hid (keep_blk hb Z0.out); have Y1 := Lib.hid (keep_blk hb Z1.out); have Y2 := Lib.hid (keep_blk hb Z2.out)
  have HT := Lib.hid (Touch.of_below [b0, b1, b2] hb)
  clear hb Z0 Z1 Z2
  have X0 := Lib.hid (heap_setRow (cs := noNode) Y0.out)
  have X1 := Lib.hid ((heap_setRow_other w1 b0 noNode (Ne.symm h01)).trans Y1.out)
  have X2 := Lib.hid ((heap_setRow_other w1 b0 noNode (Ne.symm h02)).trans Y2.out)
  have V0 := Lib.hid ((Below.heap_setCell (w1.setRow b0 noNode) ⟨b1, 0, none⟩ (.int .i64 0) b0 h01).trans X0.out)
  have V1 := Lib.hid (bq_one_set X1.out (.int .i64 0))
  have V2 := Lib.hid ((Below.heap_setCell (w1.setRow b0 noNode) ⟨b1, 0, none⟩ (.int .i64 0) b2 (Ne.symm h12)).trans X2.out)
  have HT2 := Lib.hid (Touch.setRow (HT.out) (b := b0) (by simp) noNode)
  have HT3 := Lib.hid ((HT2.out.setCell (b := b1) (by simp) 0 (.int .i64 0)).setCell (b := b2) (by simp) 0 (.iface 65 q))
  obtain ⟨c1, f1⟩ := one_blk X1.out
  obtain ⟨c2, f2⟩ := one_blk V2.out
  go_wp2_with (first
    | (refine wpList_store_row rfl 28 (.tmp 0) (.tmp 7) rfl b0 noNode rfl rfl 28 _ Y0.out (by kernel_rfl) rfl (by simp [Value.oneCell']) ?_)
    | fail)
  refine ⟨rfl, _, rfl, .tuple #[], by simp [results, Tryz.results40], rfl, rfl, ?_, ?_, ?_, HT3.out⟩
  · exact (Below.heap_setCell _ ⟨b2, 0, none⟩ _ b0 h02).trans V0.out
  · exact (Below.heap_setCell _ ⟨b2, 0, none⟩ _ b1 h12).trans V1.out
  · exact bq_one_set V2.out _
theorem ErrOne.touch {A : Nat → Addr} {B : Nat} {w w' : World} {v : Value} {c : Nat} {n : Int} (h : ErrOne A B w v c n) {F : List Nat} (ht : Touch F w w') (hF : ∀ k, k ∈ F → k < B) : ErrOne A B w' v c n := by
  obtain ⟨k, p, hk, hc, hv, hp, c0, c1⟩ := h
  have hb := ht.block p (block_lt_of_cell c0) (fun hm => by have := hF p hm; omega)
  refine ⟨k, p, hk, hc, hv, hp, ?_, ?_⟩
  · unfold World.cell? at c0 ⊢; rw [hb]; exact c0
  · unfold World.cell? at c1 ⊢; rw [hb]; exact c1
theorem four_new (w : World) (x y z u : Obj) : ((((w.alloc x).alloc y).alloc z).alloc u).heap[w.heap.size]? = some x ∧ ((((w.alloc x).alloc y).alloc z).alloc u).heap[w.heap.size + 1]? = some y ∧ ((((w.alloc x).alloc y).alloc z).alloc u).heap[w.heap.size + 2]? = some z ∧ ((((w.alloc x).alloc y).alloc z).alloc u).heap[w.heap.size + 3]? = some u := by
  obtain ⟨h0, h1, h2⟩ := bq_three w x y z
  exact ⟨heap_alloc_lt h0, heap_alloc_lt h1, heap_alloc_lt h2, by have := heap_alloc_new (((w.alloc x).alloc y).alloc z) u; simpa using this⟩
/-- Three results, each a variable: a struct, a number, an error. -/
theorem results_cells3 {P : Program} {fn : Func} {p q r : Tmp} {ty t2 t3 : TypeId} (h : fn.results = #[.cell p ty, .cell q t2, .cell r t3]) (tmps : Array Value) (w : World) (g0 g1 g2 : Nat) (t : TypeId) (cs : Array Value) (d : TypeDesc) (y z : Value)
    (hp : tmps.getD p undef = .pointer (some ⟨g0, 0, none⟩)) (hq : tmps.getD q undef = .pointer (some ⟨g1, 0, none⟩)) (hr : tmps.getD r undef = .pointer (some ⟨g2, 0, none⟩))
    (hg : w.heap[g0]? = some (.cells cs t (0, 0))) (c1 : w.cell? ⟨g1, 0, none⟩ = some y) (c2 : w.cell? ⟨g2, 0, none⟩ = some z)
    (hu : P.underlying ty = some d) (hd : (match d with | .struct _ | .array _ _ => true | _ => false) = true) (hi : (P.info? ty).map (·.size) = some cs.size)
    (h2 : ∀ w : World, w.cell? ⟨g1, 0, none⟩ = some y → (loadVar t2 ⟨g1, 0, none⟩).run P w = .ok y w) (h3 : ∀ w : World, w.cell? ⟨g2, 0, none⟩ = some z → (loadVar t3 ⟨g2, 0, none⟩).run P w = .ok z w) :
    (results fn tmps).run P w = .ok (.tuple #[.agg cs, y, z]) w := by
  have hp' : tmps[p]?.getD undef = .pointer (some ⟨g0, 0, none⟩) := by simpa using hp
  have hq' : tmps[q]?.getD undef = .pointer (some ⟨g1, 0, none⟩) := by simpa using hq
  have hr' : tmps[r]?.getD undef = .pointer (some ⟨g2, 0, none⟩) := by simpa using hr
  simp [results, h, hp', hq', hr', asAddr, run_loadVar_row w g0 t ty cs (0, 0) d hg hu hd hi, h2 w c1, h3 w c2]
theorem load_int1 (g : Nat) (v : Value) (w : World) (h : w.cell? ⟨g, 0, none⟩ = some v) : (loadVar 3 ⟨g, 0, none⟩).run Tryz.prog w = .ok v w := by simp [go_sem, h]
theorem load_err1 (g : Nat) (v : Value) (w : World) (h : w.cell? ⟨g, 0, none⟩ = some v) : (loadVar 30 ⟨g, 0, none⟩).run Tryz.prog w = .ok v w := by simp [go_sem, h]
abbrev bqW (w : World) (s : ByteArray) (fl : Int) : World := (((w.alloc (.cells noNode 28)).alloc (.cells #[.int .i64 0] 3)).alloc (.cells #[.nilIface] 30)).alloc (.cells (rdC s fl 0 0 0) 76)
set_option maxRecDepth 100000 in
set_option maxHeartbeats 4000000 in
theorem bqparse_err (A : Nat → Addr) (w : World) (s : ByteArray) (fl : Int) (hE : BrEnv w A) (c : Nat) (n : Int) (hW : Bp.parse (bt s) s.size (icB fl) (nlB fl) = .err c n) :
    Calls Tryz.prog 24 #[.string s, .int .i64 fl] w (PaEnd A (.err c n) w) := by
  have hb0 : Below w.heap.size w (bqW w s fl) := by go_grown
  obtain ⟨z0, z1, z2, z3⟩ := four_new w (.cells noNode 28) (.cells #[.int .i64 0] 3) (.cells #[.nilIface] 30) (.cells (rdC s fl 0 0 0) 76)
  have hs1 : (bqW w s fl).heap.size = w.heap.size + 4 := by simp
  have HWH := bqwhole_any w A (bqW w s fl) (w.heap.size + 3) s fl ⟨hE, by omega, hb0, z3⟩
  rw [hW] at HWH
  have HWH := Lib.hid HWH
  have Z0 := Lib.hid z0; have Z1 := Lib.hid z1; have Z2 := Lib.hid z2; have HB0 := Lib.hid hb0
  have hmf : ∀ (fn : Fn) (first cap : Array Value) (w : World), (Instr.makeFunc fn first cap).run Tryz.prog w = .ok (.func fn first cap) w := fun _ _ _ _ => rfl
  clear z0 z1 z2 z3 hb0 hW hE
  unfold bqW at *
  go_enter_defers Tryz.func24, Tryz.ntmps24
  go_wp2_with fail
  refine HWH.out.mono ?_
  generalize World.alloc (World.alloc (World.alloc (World.alloc _ _) _) _) _ = W at *
  intro e w2 he
  obtain ⟨v, rfl, hv, ht⟩ := he.err rfl
  obtain ⟨q, rfl⟩ := hv.iface
  have Y0 := Lib.hid ((ht.block w.heap.size (by omega) (by simp)).trans Z0.out)
  have Y1 := Lib.hid ((ht.block (w.heap.size + 1) (by omega) (by simp)).trans Z1.out)
  have Y2 := Lib.hid ((ht.block (w.heap.size + 2) (by omega) (by simp)).trans Z2.out)
  have HV := Lib.hid hv; have HT := Lib.hid ht
  clear hv ht he HWH Z0 Z1 Z2
  go_wp2
  refine leaves_cons (f := 40) (args := #[.pointer (some ⟨w.heap.size, 0, none⟩), .pointer (some ⟨w.heap.size + 1, 0, none⟩), .pointer (some ⟨w.heap.size + 2, 0, none⟩)]) (by simp) (by simp [go_sem]) ?_
  refine (bqcaught_gave w.heap.size (w.heap.size + 1) (w.heap.size + 2) (by omega) (by omega) (by omega) q w2 Y0.out Y1.out Y2.out).mono ?_
  rintro e u' w3 ⟨rfl, rfl, x0, x1, x2, ht3⟩
  refine ⟨.tuple #[.agg noNode, .int .i64 0, .iface 65 q], ?_, ⟨_, rfl, ?_⟩, ?_⟩
  · exact results_cells3 rfl _ _ w.heap.size (w.heap.size + 1) (w.heap.size + 2) _ noNode _ _ _ rfl rfl rfl x0 (one_blk x1).1 (one_blk x2).1 Tryz.underlying28 rfl (by kernel_rfl) (load_int1 _ _) (load_err1 _ _)
  · exact (HV.out.touch ht3 (fun k hk => by simp at hk; omega)).down (by omega)
  · refine (HB0.out.trans (HT.out.below (fun k hk => by rw [List.mem_singleton.1 hk]; omega) HB0.out.size)).trans (ht3.below (fun k hk => by simp at hk; omega) (by have := HT.out.size; omega))
set_option maxRecDepth 100000 in
set_option maxHeartbeats 8000000 in
theorem bqparse_ok (A : Nat → Addr) (w : World) (s : ByteArray) (fl : Int) (hE : BrEnv w A) (T : Tr) (j g : Nat) (hW : Bp.parse (bt s) s.size (icB fl) (nlB fl) = .ok T j g) :
    Calls Tryz.prog 24 #[.string s, .int .i64 fl] w (PaEnd A (.ok T j g) w) := by
  have hb0 : Below w.heap.size w (bqW w s fl) := by go_grown
  obtain ⟨z0, z1, z2, z3⟩ := four_new w (.cells noNode 28) (.cells #[.int .i64 0] 3) (.cells #[.nilIface] 30) (.cells (rdC s fl 0 0 0) 76)
  have hs1 : (bqW w s fl).heap.size = w.heap.size + 4 := by simp
  have HWH := bqwhole_any w A (bqW w s fl) (w.heap.size + 3) s fl ⟨hE, by omega, hb0, z3⟩
  rw [hW] at HWH
  have HWH := Lib.hid HWH
  have Z0 := Lib.hid z0; have Z1 := Lib.hid z1; have Z2 := Lib.hid z2; have HB0 := Lib.hid hb0
  have hmf : ∀ (fn : Fn) (first cap : Array Value) (w : World), (Instr.makeFunc fn first cap).run Tryz.prog w = .ok (.func fn first cap) w := fun _ _ _ _ => rfl
  clear z0 z1 z2 z3 hb0 hW hE
  unfold bqW at *
  go_enter_defers Tryz.func24, Tryz.ntmps24
  go_wp2_with fail
  refine HWH.out.mono ?_
  generalize World.alloc (World.alloc (World.alloc (World.alloc _ _) _) _) _ = W at *
  intro e w2 he
  obtain ⟨v, F, rfl, ho, hF, hr2, ht⟩ := he.ok rfl
  obtain ⟨p, c, rfl, hl⟩ := ho.slice
  have hs2 : w.heap.size + 4 ≤ w2.heap.size := by have := ht.size; omega
  have Y0 := Lib.hid ((ht.block w.heap.size (by omega) (by simp)).trans Z0.out)
  have Y1 := Lib.hid ((ht.block (w.heap.size + 1) (by omega) (by simp)).trans Z1.out)
  have Y2 := Lib.hid ((ht.block (w.heap.size + 2) (by omega) (by simp)).trans Z2.out)
  have HT := Lib.hid (HB0.out.trans (ht.below (fun k hk => by rw [List.mem_singleton.1 hk]; omega) HB0.out.size))
  have HO := Lib.hid ho
  have HF : Hid (∀ b, b ∈ F → w.heap.size + 4 ≤ b) := Lib.hid fun b hb => by have := hF b hb; omega
  have HR2 := Lib.hid hr2
  clear ho hF hr2 ht he HWH Z0 Z1 Z2 HB0
  unfold Tr.cells
  go_upto_region 4 with (first
    | (refine wpList_store_row rfl 28 (.tmp 4) (.tmp 12) rfl w.heap.size #[.int .i64 T.kind, .int .u64 (Oc.U T.w0), .int .u64 (Oc.U T.w1), .int .u64 (Oc.U T.w2), .int .u64 (Oc.U T.w3), .slice p T.subs.length c, .int .i64 T.num, .int .i64 T.least, .int .i64 T.most, .bool T.bare] rfl rfl 28 _ Y0.out (by kernel_rfl) rfl (by simp [Value.oneCell']) ?_)
    | fail)
  have X0 := Lib.hid (heap_setRow (cs := #[.int .i64 T.kind, .int .u64 (Oc.U T.w0), .int .u64 (Oc.U T.w1), .int .u64 (Oc.U T.w2), .int .u64 (Oc.U T.w3), .slice p T.subs.length c, .int .i64 T.num, .int .i64 T.least, .int .i64 T.most, .bool T.bare]) Y0.out)
  have X1 := Lib.hid ((heap_setRow_other w2 w.heap.size #[.int .i64 T.kind, .int .u64 (Oc.U T.w0), .int .u64 (Oc.U T.w1), .int .u64 (Oc.U T.w2), .int .u64 (Oc.U T.w3), .slice p T.subs.length c, .int .i64 T.num, .int .i64 T.least, .int .i64 T.most, .bool T.bare] (k := w.heap.size + 1) (by omega)).trans Y1.out)
  have X2 := Lib.hid ((heap_setRow_other w2 w.heap.size #[.int .i64 T.kind, .int .u64 (Oc.U T.w0), .int .u64 (Oc.U T.w1), .int .u64 (Oc.U T.w2), .int .u64 (Oc.U T.w3), .slice p T.subs.length c, .int .i64 T.num, .int .i64 T.least, .int .i64 T.most, .bool T.bare] (k := w.heap.size + 2) (by omega)).trans Y2.out)
  have XR := Lib.hid ((heap_setRow_other w2 w.heap.size #[.int .i64 T.kind, .int .u64 (Oc.U T.w0), .int .u64 (Oc.U T.w1), .int .u64 (Oc.U T.w2), .int .u64 (Oc.U T.w3), .slice p T.subs.length c, .int .i64 T.num, .int .i64 T.least, .int .i64 T.most, .bool T.bare] (k := w.heap.size + 3) (by omega)).trans HR2.out)
  have HT3 := Lib.hid (below_setRow HT.out (Nat.le_refl _) #[.int .i64 T.kind, .int .u64 (Oc.U T.w0), .int .u64 (Oc.U T.w1), .int .u64 (Oc.U T.w2), .int .u64 (Oc.U T.w3), .slice p T.subs.length c, .int .i64 T.num, .int .i64 T.least, .int .i64 T.most, .bool T.bare])
  have HO3 := Lib.hid (HO.out.keep (w' := w2.setRow w.heap.size #[.int .i64 T.kind, .int .u64 (Oc.U T.w0), .int .u64 (Oc.U T.w1), .int .u64 (Oc.U T.w2), .int .u64 (Oc.U T.w3), .slice p T.subs.length c, .int .i64 T.num, .int .i64 T.least, .int .i64 T.most, .bool T.bare]) fun b hb => heap_setRow_other _ _ _ (by have := HF.out b hb; omega))
  have hs3 : w.heap.size + 4 ≤ (w2.setRow w.heap.size #[.int .i64 T.kind, .int .u64 (Oc.U T.w0), .int .u64 (Oc.U T.w1), .int .u64 (Oc.U T.w2), .int .u64 (Oc.U T.w3), .slice p T.subs.length c, .int .i64 T.num, .int .i64 T.least, .int .i64 T.most, .bool T.bare]).heap.size := by simpa using hs2
  clear Y0 Y1 Y2 HT HO HR2 hs2
  generalize World.setRow w2 _ _ = W3 at *
  refine Ri.wp_region_frame (by kernel_rfl) (by kernel_rfl) (by kernel_rfl) (by kernel_rfl)
    (fun L v w' => Touch [w.heap.size, w.heap.size + 1, w.heap.size + 2] W3 w' ∧ w'.heap[w.heap.size]? = some (.cells #[.int .i64 T.kind, .int .u64 (Oc.U T.w0), .int .u64 (Oc.U T.w1), .int .u64 (Oc.U T.w2), .int .u64 (Oc.U T.w3), .slice p T.subs.length c, .int .i64 T.num, .int .i64 T.least, .int .i64 T.most, .bool T.bare] 28) ∧ (L 4 = true → w'.heap[w.heap.size + 1]? = some (.cells #[.int .i64 g] 3)) ∧ (L 4 = false → w'.heap[w.heap.size + 1]? = some (.cells #[.int .i64 0] 3)) ∧ w'.heap[w.heap.size + 2]? = some (.cells #[.nilIface] 30) ∧ (L 0 = true → v 0 = .agg #[.int .i64 T.kind, .int .u64 (Oc.U T.w0), .int .u64 (Oc.U T.w1), .int .u64 (Oc.U T.w2), .int .u64 (Oc.U T.w3), .slice p T.subs.length c, .int .i64 T.num, .int .i64 T.least, .int .i64 T.most, .bool T.bare]) ∧ (L 1 = true → v 1 = .pointer (some ⟨w.heap.size + 3, 3, none⟩)) ∧ (L 2 = true → v 2 = .int .i64 g))
    ?_ ?_ ?_
  · exact ⟨⟨rfl, rfl, rfl, Nat.le_refl _, fun _ _ _ => rfl⟩, X0.out, by simp, fun _ => X1.out, X2.out, by simp, by simp, by simp⟩
  · intro i hi9 L v w9 xa hI hL hd hv ho
    have hi' : i = 0 ∨ i = 1 ∨ i = 2 ∨ i = 3 ∨ i = 4 ∨ i = 5 := by simp at hi9; omega
    obtain ⟨ht, h0, h4t, h4f, h2, q0, q1, q2⟩ := hI
    rcases hi' with rfl | rfl | rfl | rfl | rfl | rfl
    · have e4 : xa.tmps.getD 4 undef = .pointer (some ⟨w.heap.size, 0, none⟩) := ho 4 (by kernel_rfl)
      refine Ri.step_plain rfl rfl (fun K' hK => ?_)
      refine wp_load_row _ _ rfl _ e4 _ _ _ _ h0 Tryz.underlying28 rfl (by kernel_rfl) ?_
      exact hK _ _ ⟨_, _, rfl, rfl, ht, h0, h4t, h4f, h2, fun _ => rfl, q1, q2⟩
    · have e7 : xa.tmps.getD 7 undef = .pointer (some ⟨w.heap.size + 3, 0, none⟩) := ho 7 (by kernel_rfl)
      refine Ri.step_plain rfl rfl (fun K' hK => ?_)
      go_simp
      exact hK _ _ ⟨_, _, rfl, rfl, ht, h0, h4t, h4f, h2, q0, fun _ => rfl, q2⟩
    · have l0 : L 1 = true := by have := hd _ rfl; simp [Region.binds] at this; simp [this]
      have f1 := (hv 1 14 rfl l0).trans (q1 l0)
      refine Ri.step_plain rfl rfl (fun K' hK => ?_)
      obtain ⟨-, -, -, c3, -⟩ := bq5 ((ht.block (w.heap.size + 3) (by omega) (by simp)).trans XR.out)
      go_simp
      exact hK _ _ ⟨_, _, rfl, rfl, ht, h0, h4t, h4f, h2, q0, q1, fun _ => rfl⟩
    · have l0 : L 0 = true := by have := hd _ rfl; simp [Region.binds] at this; simp [this]
      have f0 := (hv 0 13 rfl l0).trans (q0 l0)
      have e4 : xa.tmps.getD 4 undef = .pointer (some ⟨w.heap.size, 0, none⟩) := ho 4 (by kernel_rfl)
      refine Ri.step_plain rfl rfl (fun K' hK => ?_)
      refine wp_store_row _ _ _ rfl w.heap.size #[.int .i64 T.kind, .int .u64 (Oc.U T.w0), .int .u64 (Oc.U T.w1), .int .u64 (Oc.U T.w2), .int .u64 (Oc.U T.w3), .slice p T.subs.length c, .int .i64 T.num, .int .i64 T.least, .int .i64 T.most, .bool T.bare] e4 f0 28 _ h0 (by kernel_rfl) (by kernel_rfl) (by simp [Value.oneCell']) ?_
      exact hK _ _ ⟨_, undef, rfl, rfl, ht.setRow (by simp) _, heap_setRow h0, fun l => (heap_setRow_other _ _ _ (by omega)).trans (h4t l), fun l => (heap_setRow_other _ _ _ (by omega)).trans (h4f l), (heap_setRow_other _ _ _ (by omega)).trans h2, q0, q1, q2⟩
    · have l0 : L 2 = true := by have := hd _ rfl; simp [Region.binds] at this; simp [this]
      have f2 := (hv 2 15 rfl l0).trans (q2 l0)
      have e5 : xa.tmps.getD 5 undef = .pointer (some ⟨w.heap.size + 1, 0, none⟩) := ho 5 (by kernel_rfl)
      have hz := h4f hL
      obtain ⟨c1, g1⟩ := one_blk hz
      refine Ri.step_plain rfl rfl (fun K' hK => ?_)
      go_simp
      exact hK _ _ ⟨_, undef, rfl, rfl, ht.setCell (by simp) 0 _, (Below.heap_setCell _ ⟨w.heap.size + 1, 0, none⟩ _ w.heap.size (by simp)).trans h0, fun _ => bq_one_set hz _, fun l => (by cases l), (Below.heap_setCell _ ⟨w.heap.size + 1, 0, none⟩ _ (w.heap.size + 2) (by simp)).trans h2, q0, q1, q2⟩
    · have e6 : xa.tmps.getD 6 undef = .pointer (some ⟨w.heap.size + 2, 0, none⟩) := ho 6 (by kernel_rfl)
      obtain ⟨c2, g2⟩ := one_blk h2
      refine Ri.step_plain rfl rfl (fun K' hK => ?_)
      go_simp
      exact hK _ _ ⟨_, undef, rfl, rfl, ht.setCell (by simp) 0 _, (Below.heap_setCell _ ⟨w.heap.size + 2, 0, none⟩ _ w.heap.size (by simp)).trans h0, fun l => (Below.heap_setCell _ ⟨w.heap.size + 2, 0, none⟩ _ (w.heap.size + 1) (by simp)).trans (h4t l), fun l => (Below.heap_setCell _ ⟨w.heap.size + 2, 0, none⟩ _ (w.heap.size + 1) (by simp)).trans (h4f l), bq_one_set h2 _, q0, q1, q2⟩
  · rintro v w9 ⟨ht, h0, h4t, -, h2, -, -, -⟩
    have V0 := Lib.hid h0; have V1 := Lib.hid (h4t rfl); have V2 := Lib.hid h2; have VT := Lib.hid ht
    clear ht h0 h4t h2
    simp only [Ri.frame, List.zipIdx, List.foldl_cons, List.foldl_nil, if_true, Nat.reduceAdd]
    generalize v 0 = y0; generalize v 1 = y1; generalize v 2 = y2
    go_wp2
    refine leaves_cons (f := 40) (args := #[.pointer (some ⟨w.heap.size, 0, none⟩), .pointer (some ⟨w.heap.size + 1, 0, none⟩), .pointer (some ⟨w.heap.size + 2, 0, none⟩)]) (by simp) (by simp [go_sem]) ?_
    refine (bqcaught_idle ⟨w.heap.size, 0, none⟩ ⟨w.heap.size + 1, 0, none⟩ ⟨w.heap.size + 2, 0, none⟩ w9).mono ?_
    rintro e u' w10 ⟨rfl, rfl, rfl⟩
    refine ⟨.tuple #[.agg #[.int .i64 T.kind, .int .u64 (Oc.U T.w0), .int .u64 (Oc.U T.w1), .int .u64 (Oc.U T.w2), .int .u64 (Oc.U T.w3), .slice p T.subs.length c, .int .i64 T.num, .int .i64 T.least, .int .i64 T.most, .bool T.bare], .int .i64 g, .nilIface], ?_, ⟨_, F, rfl, ?_, ?_⟩, ?_⟩
    · exact results_cells3 rfl _ _ w.heap.size (w.heap.size + 1) (w.heap.size + 2) _ #[.int .i64 T.kind, .int .u64 (Oc.U T.w0), .int .u64 (Oc.U T.w1), .int .u64 (Oc.U T.w2), .int .u64 (Oc.U T.w3), .slice p T.subs.length c, .int .i64 T.num, .int .i64 T.least, .int .i64 T.most, .bool T.bare] _ _ _ rfl rfl rfl V0.out (one_blk V1.out).1 (one_blk V2.out).1 Tryz.underlying28 rfl (by kernel_rfl) (load_int1 _ _) (load_err1 _ _)
    · exact HO3.out.keep fun b hb => VT.out.block b (HO3.out.lt b hb) (by have := HF.out b hb; simp; omega)
    · intro b hb; have := HF.out b hb; omega
    · exact HT3.out.trans (VT.out.below (fun k hk => by simp at hk; omega) (by omega))
/-- What Parse of bre answers of every text, with every flags. -/
theorem bqparse_does (A : Nat → Addr) (w : World) (s : ByteArray) (fl : Int) (hE : BrEnv w A) :
    Calls Tryz.prog 24 #[.string s, .int .i64 fl] w (PaEnd A (Bp.parse (bt s) s.size (icB fl) (nlB fl)) w) := by
  cases h : Bp.parse (bt s) s.size (icB fl) (nlB fl) with
  | ok t j g => exact bqparse_ok A w s fl hE t j g h
  | err c p => exact bqparse_err A w s fl hE c p h
end Go.Proofs.YtlbhbjmobcikfaaGreatDoor
/- The fixed facts that every statement of bre begins with. -/
namespace Go.Proofs.YtlbhbjmobcikfaaGreatDoor
open Go.RowKit
def bqT1 : ByteArray := ⟨#[92, 40, 42, 97, 92, 41, 92, 123, 50, 44, 51, 92, 125]⟩
def bqT2 : ByteArray := ⟨#[97, 42, 42]⟩
def bqR1 : Tr := .rep 2 3 (.grp (1 : Nat) (.many 5 [Ep.one false 42, Ep.one false 97]))
theorem bq1 : Bp.parse (bt bqT1) bqT1.size (icB 0) (nlB 0) = .ok bqR1 13 1 := by
  rw [ic0, nl0]
  rfl
theorem bq2 : Bp.parse (bt bqT2) bqT2.size (icB 0) (nlB 0) = .err 9 2 := by
  rw [ic0, nl0]
  rfl
set_option maxRecDepth 100000 in
set_option maxHeartbeats 2000000 in
theorem bqlives_any (A : Nat → Addr) (w : World) (hE : BrEnv w A) (hT : ErrType w) : Calls Tryz.prog 23 #[] w fun e w' => e = .returned (.bool true) ∧ Below w.heap.size w w' := by
  have HE := Lib.hid hE; have HT := Lib.hid hT
  have HD := Lib.hid bqparse_does
  clear hE hT
  go_enter Tryz.func23, Tryz.ntmps23
  go_wp2_with fail
  refine (HD.out A _ bqT1 0 HE.out).mono ?_
  intro e w1 he
  obtain ⟨v1, F1, rfl, ho1, -, hb1⟩ := he.ok bq1
  obtain ⟨p1, c1, rfl, hl1⟩ := ho1.slice
  have hbA := hb1.alloc hb1.size (.cells (bqR1.cells (.slice p1 bqR1.subs.length c1)) 28)
  have Z1 := Lib.hid (heap_alloc_new w1 (.cells (bqR1.cells (.slice p1 bqR1.subs.length c1)) 28))
  have HB1 := Lib.hid hbA
  clear he ho1 hb1 hbA hl1
  unfold Tr.cells at *
  have k1 : bqR1.kind = 8 := rfl
  have k2 : bqR1.least = 2 := rfl
  have k3 : bqR1.most = 3 := rfl
  rw [k1, k2, k3] at *
  clear k1 k2 k3
  generalize bqR1.w0 = x0 at *
  generalize bqR1.w1 = x1 at *
  generalize bqR1.w2 = x2 at *
  generalize bqR1.w3 = x3 at *
  generalize bqR1.subs.length = xl at *
  generalize bqR1.num = xn at *
  generalize bqR1.bare = xb at *
  go_wp2_with fail
  refine (HD.out A _ bqT2 0 (HE.out.below HB1.out)).mono ?_
  intro e w2 he
  obtain ⟨v, rfl, hv, hb2⟩ := he.err bq2
  obtain ⟨q2, rfl⟩ := hv.iface
  have hbB : Below _ _ (w2.alloc (.cells noNode 28)) := hb2.alloc hb2.size _
  have Z2 := Lib.hid (keep_blk hbB Z1.out)
  have HB2 := Lib.hid (HB1.out.trans (hbB.mono HB1.out.size))
  have HV := Lib.hid (hv.at.later ((Below.refl w2.heap.size w2).alloc (Nat.le_refl _) (.cells noNode 28)))
  have HE2 := Lib.hid (HE.out.below HB2.out); have HT2 := Lib.hid (HT.out.later HB2.out)
  obtain ⟨d0, d7, d8⟩ := ten3 Z2.out
  clear he hb2 hbB hv
  go_wp2_with fail
  refine (HV.out.num HE2.out).mono ?_; rintro e w6 ⟨rfl, hb6⟩
  have HB6 := Lib.hid (HB2.out.trans (hb6.mono HB2.out.size)); have HT6 := Lib.hid (HT2.out.later hb6); have HV6 := Lib.hid (HV.out.later hb6)
  clear hb6 d0 d7 d8
  go_wp2_with fail
  refine (HV6.out.place HT6.out).mono ?_; rintro e w7 ⟨rfl, hb7⟩
  have HB7 := Lib.hid (HB6.out.trans (hb7.mono HB6.out.size))
  clear hb7
  go_wp2
  go_ret
  exact ⟨rfl, HB7.out⟩
end Go.Proofs.YtlbhbjmobcikfaaGreatDoor
/- Two texts one behind the other, byte by byte. Nothing of the program. -/
namespace Go.Proofs.YtlbhbjmobcikfaaGreatDoor
open Go.RowKit
theorem bt_append (x y : ByteArray) (i : Nat) : bt (x ++ y) i = if i < x.size then bt x i else bt y (i - x.size) := by
  have hs : (x ++ y).size = x.size + y.size := ByteArray.size_append
  unfold bt byteAt
  rw [hs]
  have hd : (x ++ y).data = x.data ++ y.data := ByteArray.data_append
  have hx : x.data.size = x.size := rfl
  by_cases h : i < x.size
  · rw [if_pos h, if_pos h, if_pos (by omega)]
    congr 1
    rw [hd]
    simp [Array.getD_eq_getD_getElem?, Array.getElem?_append, hx, h]
  · rw [if_neg h]
    by_cases h2 : i < x.size + y.size
    · rw [if_pos h2, if_pos (by omega)]
      congr 1
      rw [hd]
      simp [Array.getD_eq_getD_getElem?, Array.getElem?_append, hx, h]
    · rw [if_neg h2, if_neg (by omega)]
end Go.Proofs.YtlbhbjmobcikfaaGreatDoor
/- A region that draws its order and writes a slot that it has read: the rule of RegInv, with what lies in a slot until its operation has run. It imports nothing of the program. -/
namespace Go.Proofs.YtlbhbjmobcikfaaGreatDoor
open Go.RowKit
namespace Ri
variable {P : Program} {ops : Array Oper} {Q : Exit → Act → World → Prop}
theorem wp_region_late {id : Nat} {a : Act} {w : World} (hm : P.follows .mixedOrders = true) (hb : backward ops = true) (hap : apart ops = true) (hsz0 : (ops.toList.all fun o => o.dst.all fun d => decide (d < a.tmps.size)) = true)
    (I : (Nat → Bool) → (Nat → Value) → World → Prop)
    (hi : I (fun _ => false) (fun _ => undef) w.drew)
    (step : ∀ i, i < ops.size → ∀ L v w (a' : Act), I L v w → L i = false → (∀ o, ops[i]? = some o → ∀ e ∈ o.after, Region.binds .any e = true → L e.on = true) →
      (∀ j d : Nat, (ops[j]?).bind (·.dst) = some d → L j = true → a'.tmps.getD d undef = v j) → (∀ d, ops.toList.all (fun o => o.dst != some d) = true → a'.tmps.getD d undef = a.tmps.getD d undef) →
      (∀ j d : Nat, (ops[j]?).bind (·.dst) = some d → L j = false → a'.tmps.getD d undef = a.tmps.getD d undef) →
      wpOp P ops Q i (fun b w' => ∃ (o : Oper) (u : Value), ops[i]? = some o ∧ b = a'.put o.dst u ∧ I (up L i true) (up v i u) w') a' w)
    (fin : ∀ v w, I (fun i => decide (i < ops.size)) v w → Q .normal (frame ops a (fun _ => true) v) w) :
    (Code.region id ops true).wp P Q a w := by
  have hsz : ∀ (i : Nat) (o : Oper) (d : Nat), ops[i]? = some o → o.dst = some d → d < a.tmps.size := fun i o d h1 h2 => by
    have := List.all_eq_true.1 hsz0 o (Array.mem_toList_iff.2 (Array.mem_of_getElem? h1))
    rw [h2] at this
    simpa using this
  refine wp_region_inv hm hb (fun L v w => I L v w ∧ ∀ i, ops.size ≤ i → L i = false) (frame ops a) ?_ ⟨hi, fun _ _ => rfl⟩ ?_ ?_
  · have := fold_none (fun _ => undef) ops.toList.zipIdx a.tmps
    unfold frame; rw [show (List.foldl _ a.tmps _) = a.tmps from this]
  · intro i hin L v w ⟨hI, hL⟩ hLi hd
    refine wpOp_mono ?_ (step i hin L v w (frame ops a L v) hI hLi hd ?_ ?_ ?_)
    · rintro b w' ⟨o, u, ho, rfl, hI'⟩
      exact ⟨u, frame_put hap a L v ho u, hI', fun j hj => by rw [up_other _ _ _ _ (by omega)]; exact hL j hj⟩
    · intro j d hjd hlj
      obtain ⟨o, ho, hod⟩ := Option.bind_eq_some_iff.1 hjd
      have hs := hsz j o d ho hod
      have := frame_own hap a L v ho hod hs
      rw [hlj, if_pos rfl] at this
      rw [Array.getD_eq_getD_getElem?, this]; rfl
    · intro d hall
      have hno : ∀ (j : Nat) (o : Oper), ops[j]? = some o → o.dst ≠ some d := fun j o ho => by
        have := List.all_eq_true.1 hall o (Array.mem_toList_iff.2 (Array.mem_of_getElem? ho))
        simpa using this
      rw [Array.getD_eq_getD_getElem?, Array.getD_eq_getD_getElem?, frame_other a L v hno]
    · intro j d hjd hlj
      obtain ⟨o, ho, hod⟩ := Option.bind_eq_some_iff.1 hjd
      have hs := hsz j o d ho hod
      have := frame_own hap a L v ho hod hs
      rw [hlj] at this
      rw [Array.getD_eq_getD_getElem?, Array.getD_eq_getD_getElem?, this]; rfl
  · intro L v w hall ⟨hI, hL⟩
    have e : L = fun i => decide (i < ops.size) := by
      funext i
      by_cases h : i < ops.size
      · rw [hall i h]; simp [h]
      · rw [hL i (by omega)]; simp [h]
    have e2 : frame ops a L v = frame ops a (fun _ => true) v := by
      have : ∀ s : Nat, (frame ops a L v).tmps[s]? = (frame ops a (fun _ => true) v).tmps[s]? := by
        intro s
        by_cases hex : ∃ (j : Nat) (o' : Oper), ops[j]? = some o' ∧ o'.dst = some s
        · obtain ⟨j, o', hj, hd⟩ := hex
          have hs := hsz j o' s hj hd
          rw [frame_own hap a _ _ hj hd hs, frame_own hap a _ _ hj hd hs, hall j (Array.getElem?_eq_some_iff.1 hj).1]
        · have hno : ∀ (j : Nat) (o' : Oper), ops[j]? = some o' → o'.dst ≠ some s := fun j o' h1 h2 => hex ⟨j, o', h1, h2⟩
          rw [frame_other a _ _ hno, frame_other a _ _ hno]
      have ht := Array.ext_getElem? this
      have hd : (frame ops a L v).defers = (frame ops a (fun _ => true) v).defers := rfl
      generalize frame ops a L v = x at *
      generalize frame ops a (fun _ => true) v = y at *
      cases x; cases y; simp_all
    rw [e2]
    exact fin v w (e ▸ hI)
end Ri
end Go.Proofs.YtlbhbjmobcikfaaGreatDoor
/- BreRight: whatever the pattern and the flags, the law returns true. -/
namespace Go.Proofs.YtlbhbjmobcikfaaGreatDoor
open Go.RowKit
theorem Tr.teT_eq (t : Tr) (g : Nat) (r : Bool) : t.teT g r = if t.kind = 6 ∨ t.bare = true ∨ (r = true ∧ t.kind = 8) then none else if t.kind = 7 then (if t.num = (g + 1 : Nat) then Tr.teS t.subs (g + 1) (decide (t.kind = 8)) else none) else Tr.teS t.subs g (decide (t.kind = 8)) := by
  cases t; rw [Tr.teT]; rfl
theorem Tr.teS_step {l : List Tr} {m g g' : Nat} {r : Bool} {x : Tr} (hx : l[m]? = some x) (h : Tr.teS (l.drop m) g r = some g') : ∃ g2, x.teT g r = some g2 ∧ Tr.teS (l.drop (m + 1)) g2 r = some g' := by
  rw [List.drop_eq_getElem_cons (lt_of_some hx), Tr.teS] at h
  have he : l[m]'(lt_of_some hx) = x := by rw [List.getElem?_eq_getElem (lt_of_some hx)] at hx; exact Option.some.inj hx
  rw [he] at h
  cases ht : x.teT g r with
  | none => rw [ht] at h; cases h
  | some g2 => rw [ht] at h; exact ⟨g2, rfl, h⟩
set_option maxRecDepth 100000 in
set_option maxHeartbeats 8000000 in
theorem btidy_loop (t : Tr) (ts : List Tr) (p : Option Addr) (cap : Nat) (hts : t.subs = ts) (ih : ∀ u, u ∈ t.subs → u.InForm → ∀ (g : Nat) (r : Bool) (g' : Nat), u.teT g r = some g' → ∀ (w : World) (B : Nat → Prop) (v : Value), NodeV w B v u → Calls Tryz.prog 26 #[v, .int .i64 g, .bool r] w (SizeEnd g' w)) (hf : t.InForm)
    (g : Nat) (r : Bool) (g' g0 : Nat) (h6 : t.kind ≠ 6) (hbr : t.bare = false) (hr : ¬ (r = true ∧ t.kind = 8)) (hk : (t.kind = 7 ∧ t.num = (g + 1 : Nat) ∧ g0 = g + 1) ∨ (t.kind ≠ 7 ∧ g0 = g)) (h : Tr.teS ts g0 (decide (t.kind = 8)) = some g')
    (w : World) (B : Nat → Prop) (hs : TreesAt w B (.slice p ts.length cap) ts) :
    Calls Tryz.prog 26 #[.agg #[.int .i64 t.kind, .int .u64 (Oc.U t.w0), .int .u64 (Oc.U t.w1), .int .u64 (Oc.U t.w2), .int .u64 (Oc.U t.w3), .slice p ts.length cap, .int .i64 t.num, .int .i64 t.least, .int .i64 t.most, .bool t.bare], .int .i64 g, .bool r] w (SizeEnd g' w) := by
  have HTS := Lib.hid hts; have IH := Lib.hid ih; have HS := Lib.hid hs; have HF := Lib.hid hf; have HH := Lib.hid h
  have hnum : t.kind = 7 → t.num ≤ 999 := fun h7 => by
    have hfl := hf.fields
    unfold Tr.fieldsOk at hfl
    rcases hfl with h | h | h | h | h <;> omega
  obtain ⟨-, -, -, hlen⟩ := hs.slice
  have Z0 := Lib.hid (heap_alloc_new w (.cells #[.int .i64 t.kind, .int .u64 (Oc.U t.w0), .int .u64 (Oc.U t.w1), .int .u64 (Oc.U t.w2), .int .u64 (Oc.U t.w3), .slice p ts.length cap, .int .i64 t.num, .int .i64 t.least, .int .i64 t.most, .bool t.bare] 28))
  have HW := Lib.hid (show Below w.heap.size w (w.alloc (.cells #[.int .i64 t.kind, .int .u64 (Oc.U t.w0), .int .u64 (Oc.U t.w1), .int .u64 (Oc.U t.w2), .int .u64 (Oc.U t.w3), .slice p ts.length cap, .int .i64 t.num, .int .i64 t.least, .int .i64 t.most, .bool t.bare] 28)) from (Below.refl _ _).alloc (Nat.le_refl _) _)
  have hz : w.heap.size < (w.alloc (.cells #[.int .i64 t.kind, .int .u64 (Oc.U t.w0), .int .u64 (Oc.U t.w1), .int .u64 (Oc.U t.w2), .int .u64 (Oc.U t.w3), .slice p ts.length cap, .int .i64 t.num, .int .i64 t.least, .int .i64 t.most, .bool t.bare] 28)).heap.size := by simp
  clear hts ih hs hf h
  rw [hbr] at Z0 HW hz ⊢
  have hj : ∀ (X : World → Ending → Prop), True := fun _ => trivial
  clear hj
  have e6 : (t.kind == 6) = false := by simpa using h6
  rcases hk with ⟨h7, hn, rfl⟩ | ⟨h7, rfl⟩
  · have hg := hnum h7
    have wg : IntKind.i64.wrap ((g : Int) + 1) = ((g + 1 : Nat) : Int) := by rw [IntWalk.i64_in _ (by omega)]; omega
    rw [h7] at HH Z0 HW hz ⊢
    rw [hn] at Z0 HW hz ⊢
    have e7 : decide ((7 : Int) = 8) = false := by decide
    rw [e7] at HH
    clear hnum hr h7 hn hg hbr e7 h6 e6
    generalize g + 1 = g0 at *
    cases r
    all_goals
      go_enter Tryz.func26, Tryz.ntmps26
      go_wp2
      generalize w.alloc (.cells #[.int .i64 7, .int .u64 (Oc.U t.w0), .int .u64 (Oc.U t.w1), .int .u64 (Oc.U t.w2), .int .u64 (Oc.U t.w3), .slice p ts.length cap, .int .i64 (g0 : Nat), .int .i64 t.least, .int .i64 t.most, .bool false] 28) = W0 at *
      go_loopw [1, 7] (fun gv iv wr => ∃ m gm : Nat, iv = .int .i64 m ∧ m ≤ ts.length ∧ gv = .int .i64 gm ∧ Tr.teS (ts.drop m) gm false = some g' ∧ Hid (Below W0.heap.size W0 wr)) (fun _ iv _ => ts.length - (intOf iv).toNat)
      case atStart => exact ⟨0, g0, rfl, Nat.zero_le _, rfl, HH.out, Lib.hid (Below.refl _ _)⟩
      case round =>
        obtain ⟨m, gm, rfl, hm, rfl, htd, HB⟩ := hrel
        have wm : IntKind.i64.wrap ((m : Int) + 1) = (m : Int) + 1 := IntWalk.i64_in _ (by omega)
        have HBW := Lib.hid (HW.out.trans (HB.out.mono (Nat.le_of_lt hz)))
        have Z1 := Lib.hid (keep_blk HB.out Z0.out)
        obtain ⟨d0, d5, d6, d9⟩ := cells10 Z1.out
        by_cases hlt : m < ts.length
        · obtain ⟨x, hx⟩ : ∃ x, ts[m]? = some x := ⟨_, List.getElem?_eq_getElem hlt⟩
          obtain ⟨b1, o1, s1, rfl, -, t1, sub1⟩ := HS.out.get hx
          have T1 := Lib.hid (t1.keep (HBW.out.block _ t1.lt))
          have hmem := List.mem_of_getElem? hx
          obtain ⟨p1, c1, rfl, hl1⟩ := sub1.slice
          obtain ⟨g2, hg2, htd2⟩ := Tr.teS_step hx htd
          have HC := Lib.hid (fun w9 hb => IH.out x (by rw [HTS.out]; exact hmem) (HF.out.sub (by rw [HTS.out]; exact hmem)) gm false g2 hg2 w9 B (.agg (x.cells (.slice p1 x.subs.length c1))) ⟨_, rfl, sub1.later hb⟩)
          clear t1 sub1 hmem hx htd hg2
          go_upto_region 10 with (fail)
          refine Ri.wp_region_late (by kernel_rfl) (by kernel_rfl) (by kernel_rfl) (by kernel_rfl)
            (fun L v w' => Below wr.heap.size wr w' ∧ (L 10 = true → L 9 = true) ∧ (L 9 = true → L 5 = true) ∧ (L 0 = true → v 0 = .pointer (some ⟨w.heap.size, 5, none⟩)) ∧ (L 1 = true → v 1 = .slice (some ⟨b1, o1, none⟩) ts.length cap) ∧ (L 2 = true → v 2 = .int .i64 (m : Int)) ∧ (L 3 = true → v 3 = .pointer (some ⟨b1, o1 + m * 10, none⟩)) ∧ (L 4 = true → v 4 = .agg (x.cells (.slice p1 x.subs.length c1))) ∧ (L 5 = true → v 5 = .int .i64 (gm : Int)) ∧ (L 6 = true → v 6 = .pointer (some ⟨w.heap.size, 0, none⟩)) ∧ (L 7 = true → v 7 = .int .i64 7) ∧ (L 8 = true → v 8 = .bool false) ∧ (L 9 = true → v 9 = .int .i64 (g2 : Int)) ∧ (L 10 = true → v 10 = .int .i64 (g2 : Int)))
            ?_ ?_ ?_
          · exact ⟨(Below.refl _ _).drew, by simp, by simp, by simp, by simp, by simp, by simp, by simp, by simp, by simp, by simp, by simp, by simp, by simp⟩
          · intro i hi9 L v w9 xa hI hL hd hv ho hno
            have hi' : i = 0 ∨ i = 1 ∨ i = 2 ∨ i = 3 ∨ i = 4 ∨ i = 5 ∨ i = 6 ∨ i = 7 ∨ i = 8 ∨ i = 9 ∨ i = 10 := by simp at hi9; omega
            obtain ⟨hb, c0, c1, q0, q1, q2, q3, q4, q5, q6, q7, q8, q9, q10⟩ := hI
            rcases hi' with rfl | rfl | rfl | rfl | rfl | rfl | rfl | rfl | rfl | rfl | rfl
            · have e3 : xa.tmps.getD 3 undef = .pointer (some ⟨w.heap.size, 0, none⟩) := ho 3 (by kernel_rfl)
              refine Ri.step_plain rfl rfl (fun K' hK => ?_)
              go_simp
              exact hK _ _ ⟨_, _, rfl, rfl, hb, c0, c1, fun _ => rfl, q1, q2, q3, q4, q5, q6, q7, q8, q9, q10⟩
            · have l0 : L 0 = true := by have := hd _ rfl; simp [Region.binds] at this; simp [this]
              have f0 := (hv 0 44 rfl l0).trans (q0 l0)
              refine Ri.step_plain rfl rfl (fun K' hK => ?_)
              obtain ⟨z0, z5, z6, z9⟩ := cells10 (keep_blk hb Z1.out)
              go_simp
              exact hK _ _ ⟨_, _, rfl, rfl, hb, c0, c1, q0, fun _ => rfl, q2, q3, q4, q5, q6, q7, q8, q9, q10⟩
            · have e7 : xa.tmps.getD 7 undef = .int .i64 (m : Int) := ho 7 (by kernel_rfl)
              refine Ri.step_plain rfl rfl (fun K' hK => ?_)
              go_simp
              exact hK _ _ ⟨_, _, rfl, rfl, hb, c0, c1, q0, q1, fun _ => rfl, q3, q4, q5, q6, q7, q8, q9, q10⟩
            · have l0 : L 1 = true ∧ L 2 = true := by have := hd _ rfl; simp [Region.binds] at this; simp [this]
              have f1 := (hv 1 45 rfl l0.1).trans (q1 l0.1)
              have f2 := (hv 2 46 rfl l0.2).trans (q2 l0.2)
              refine Ri.step_plain rfl rfl (fun K' hK => ?_)
              go_simp
              exact hK _ _ ⟨_, _, rfl, rfl, hb, c0, c1, q0, q1, q2, fun _ => rfl, q4, q5, q6, q7, q8, q9, q10⟩
            · have l0 : L 3 = true := by have := hd _ rfl; simp [Region.binds] at this; simp [this]
              have f3 := (hv 3 47 rfl l0).trans (q3 l0)
              refine Ri.step_plain rfl rfl (fun K' hK => ?_)
              obtain ⟨y0, y1, y2, y3, y4, y5, y6, y7, y8, y9⟩ := T1.out.keep (hb.block _ T1.out.lt)
              go_simp
              exact hK _ _ ⟨_, _, rfl, rfl, hb, c0, c1, q0, q1, q2, q3, fun _ => rfl, q5, q6, q7, q8, q9, q10⟩
            · have hl9 : L 10 = false := by cases h : L 10 with | false => rfl | true => exact absurd (c1 (c0 h)) (by rw [hL]; decide)
              have e1 : xa.tmps.getD 1 undef = .int .i64 (gm : Int) := hno 10 1 rfl hl9
              refine Ri.step_plain rfl rfl (fun K' hK => ?_)
              go_simp
              exact hK _ _ ⟨_, _, rfl, rfl, hb, c0, (fun _ => rfl), q0, q1, q2, q3, q4, fun _ => rfl, q6, q7, q8, q9, q10⟩
            · have e3 : xa.tmps.getD 3 undef = .pointer (some ⟨w.heap.size, 0, none⟩) := ho 3 (by kernel_rfl)
              refine Ri.step_plain rfl rfl (fun K' hK => ?_)
              go_simp
              exact hK _ _ ⟨_, _, rfl, rfl, hb, c0, c1, q0, q1, q2, q3, q4, q5, fun _ => rfl, q7, q8, q9, q10⟩
            · have l0 : L 6 = true := by have := hd _ rfl; simp [Region.binds] at this; simp [this]
              have f6 := (hv 6 50 rfl l0).trans (q6 l0)
              refine Ri.step_plain rfl rfl (fun K' hK => ?_)
              obtain ⟨z0, z5, z6, z9⟩ := cells10 (keep_blk hb Z1.out)
              go_simp
              exact hK _ _ ⟨_, _, rfl, rfl, hb, c0, c1, q0, q1, q2, q3, q4, q5, q6, fun _ => rfl, q8, q9, q10⟩
            · have l0 : L 7 = true := by have := hd _ rfl; simp [Region.binds] at this; simp [this]
              have f7 := (hv 7 51 rfl l0).trans (q7 l0)
              refine Ri.step_plain rfl rfl (fun K' hK => ?_)
              go_simp
              exact hK _ _ ⟨_, _, rfl, rfl, hb, c0, c1, q0, q1, q2, q3, q4, q5, q6, q7, fun _ => rfl, q9, q10⟩
            · have la1 : L 5 = true := by have := hd _ rfl; simp [Region.binds] at this; simp [this]
              have l0 : L 4 = true ∧ L 5 = true ∧ L 8 = true := by have := hd _ rfl; simp [Region.binds] at this; simp [this]
              have f4 := (hv 4 48 rfl l0.1).trans (q4 l0.1)
              have f5 := (hv 5 49 rfl l0.2.1).trans (q5 l0.2.1)
              have f8 := (hv 8 52 rfl l0.2.2).trans (q8 l0.2.2)
              refine Ri.step_plain rfl rfl (fun K' hK => ?_)
              go_simp
              refine (HC.out w9 (HBW.out.trans (hb.mono HBW.out.size))).mono ?_
              rintro e w8 ⟨rfl, hb8⟩
              exact hK _ _ ⟨_, _, rfl, rfl, hb.trans (hb8.mono hb.size), (fun _ => rfl), (fun _ => la1), q0, q1, q2, q3, q4, q5, q6, q7, q8, fun _ => rfl, q10⟩
            · have la0 : L 9 = true := by have := hd _ rfl; simp [Region.binds] at this; simp [this]
              have l0 : L 9 = true := by have := hd _ rfl; simp [Region.binds] at this; simp [this]
              have f9 := (hv 9 53 rfl l0).trans (q9 l0)
              refine Ri.step_plain rfl rfl (fun K' hK => ?_)
              go_simp
              exact hK _ _ ⟨_, _, rfl, rfl, hb, (fun _ => la0), c1, q0, q1, q2, q3, q4, q5, q6, q7, q8, q9, fun _ => rfl⟩
          · rintro v w9 ⟨hb, -, -, -, -, -, -, -, -, -, -, -, -, q10⟩
            have q10' : v 10 = .int .i64 (g2 : Int) := q10 rfl
            simp only [Ri.frame, List.zipIdx, List.foldl_cons, List.foldl_nil, if_true, List.setIfInBounds_toArray, List.set_cons_zero, List.set_cons_succ, Nat.reduceAdd, q10']
            clear q10 q10'
            generalize v 0 = y0; generalize v 1 = y1; generalize v 2 = y2; generalize v 3 = y3; generalize v 4 = y4; generalize v 5 = y5; generalize v 6 = y6; generalize v 7 = y7; generalize v 8 = y8; generalize v 9 = y9
            have HB2 := Lib.hid (HB.out.trans (hb.mono HB.out.size))
            clear hb d0 d5 d6 d9
            go_wp2
            exact ⟨⟨m + 1, g2, by go_num, by omega, rfl, htd2, HB2⟩, by simp [intOf]; omega⟩
        · obtain rfl : m = ts.length := by omega
          have hg : gm = g' := by rw [List.drop_length, Tr.teS] at htd; exact Option.some.inj htd
          subst hg
          go_wp2
          go_ret
          exact ⟨rfl, HBW.out⟩
  · have e7 : (t.kind == 7) = false := by simpa using h7
    by_cases h8 : t.kind = 8
    · have hr0 : r = false := by cases r with | false => rfl | true => exact absurd ⟨rfl, h8⟩ hr
      subst hr0
      rw [h8] at HH Z0 HW hz ⊢
      have e8 : decide ((8 : Int) = 8) = true := by decide
      rw [e8] at HH
      clear hnum hr h7 hbr e8 h8 e7 h6 e6
      go_enter Tryz.func26, Tryz.ntmps26
      go_wp2
      generalize w.alloc (.cells #[.int .i64 8, .int .u64 (Oc.U t.w0), .int .u64 (Oc.U t.w1), .int .u64 (Oc.U t.w2), .int .u64 (Oc.U t.w3), .slice p ts.length cap, .int .i64 t.num, .int .i64 t.least, .int .i64 t.most, .bool false] 28) = W0 at *
      go_loopw [1, 7] (fun gv iv wr => ∃ m gm : Nat, iv = .int .i64 m ∧ m ≤ ts.length ∧ gv = .int .i64 gm ∧ Tr.teS (ts.drop m) gm true = some g' ∧ Hid (Below W0.heap.size W0 wr)) (fun _ iv _ => ts.length - (intOf iv).toNat)
      case atStart => exact ⟨0, g0, rfl, Nat.zero_le _, rfl, HH.out, Lib.hid (Below.refl _ _)⟩
      case round =>
        obtain ⟨m, gm, rfl, hm, rfl, htd, HB⟩ := hrel
        have wm : IntKind.i64.wrap ((m : Int) + 1) = (m : Int) + 1 := IntWalk.i64_in _ (by omega)
        have HBW := Lib.hid (HW.out.trans (HB.out.mono (Nat.le_of_lt hz)))
        have Z1 := Lib.hid (keep_blk HB.out Z0.out)
        obtain ⟨d0, d5, d6, d9⟩ := cells10 Z1.out
        by_cases hlt : m < ts.length
        · obtain ⟨x, hx⟩ : ∃ x, ts[m]? = some x := ⟨_, List.getElem?_eq_getElem hlt⟩
          obtain ⟨b1, o1, s1, rfl, -, t1, sub1⟩ := HS.out.get hx
          have T1 := Lib.hid (t1.keep (HBW.out.block _ t1.lt))
          have hmem := List.mem_of_getElem? hx
          obtain ⟨p1, c1, rfl, hl1⟩ := sub1.slice
          obtain ⟨g2, hg2, htd2⟩ := Tr.teS_step hx htd
          have HC := Lib.hid (fun w9 hb => IH.out x (by rw [HTS.out]; exact hmem) (HF.out.sub (by rw [HTS.out]; exact hmem)) gm true g2 hg2 w9 B (.agg (x.cells (.slice p1 x.subs.length c1))) ⟨_, rfl, sub1.later hb⟩)
          clear t1 sub1 hmem hx htd hg2
          go_upto_region 10 with (fail)
          refine Ri.wp_region_late (by kernel_rfl) (by kernel_rfl) (by kernel_rfl) (by kernel_rfl)
            (fun L v w' => Below wr.heap.size wr w' ∧ (L 10 = true → L 9 = true) ∧ (L 9 = true → L 5 = true) ∧ (L 0 = true → v 0 = .pointer (some ⟨w.heap.size, 5, none⟩)) ∧ (L 1 = true → v 1 = .slice (some ⟨b1, o1, none⟩) ts.length cap) ∧ (L 2 = true → v 2 = .int .i64 (m : Int)) ∧ (L 3 = true → v 3 = .pointer (some ⟨b1, o1 + m * 10, none⟩)) ∧ (L 4 = true → v 4 = .agg (x.cells (.slice p1 x.subs.length c1))) ∧ (L 5 = true → v 5 = .int .i64 (gm : Int)) ∧ (L 6 = true → v 6 = .pointer (some ⟨w.heap.size, 0, none⟩)) ∧ (L 7 = true → v 7 = .int .i64 8) ∧ (L 8 = true → v 8 = .bool true) ∧ (L 9 = true → v 9 = .int .i64 (g2 : Int)) ∧ (L 10 = true → v 10 = .int .i64 (g2 : Int)))
            ?_ ?_ ?_
          · exact ⟨(Below.refl _ _).drew, by simp, by simp, by simp, by simp, by simp, by simp, by simp, by simp, by simp, by simp, by simp, by simp, by simp⟩
          · intro i hi9 L v w9 xa hI hL hd hv ho hno
            have hi' : i = 0 ∨ i = 1 ∨ i = 2 ∨ i = 3 ∨ i = 4 ∨ i = 5 ∨ i = 6 ∨ i = 7 ∨ i = 8 ∨ i = 9 ∨ i = 10 := by simp at hi9; omega
            obtain ⟨hb, c0, c1, q0, q1, q2, q3, q4, q5, q6, q7, q8, q9, q10⟩ := hI
            rcases hi' with rfl | rfl | rfl | rfl | rfl | rfl | rfl | rfl | rfl | rfl | rfl
            · have e3 : xa.tmps.getD 3 undef = .pointer (some ⟨w.heap.size, 0, none⟩) := ho 3 (by kernel_rfl)
              refine Ri.step_plain rfl rfl (fun K' hK => ?_)
              go_simp
              exact hK _ _ ⟨_, _, rfl, rfl, hb, c0, c1, fun _ => rfl, q1, q2, q3, q4, q5, q6, q7, q8, q9, q10⟩
            · have l0 : L 0 = true := by have := hd _ rfl; simp [Region.binds] at this; simp [this]
              have f0 := (hv 0 44 rfl l0).trans (q0 l0)
              refine Ri.step_plain rfl rfl (fun K' hK => ?_)
              obtain ⟨z0, z5, z6, z9⟩ := cells10 (keep_blk hb Z1.out)
              go_simp
              exact hK _ _ ⟨_, _, rfl, rfl, hb, c0, c1, q0, fun _ => rfl, q2, q3, q4, q5, q6, q7, q8, q9, q10⟩
            · have e7 : xa.tmps.getD 7 undef = .int .i64 (m : Int) := ho 7 (by kernel_rfl)
              refine Ri.step_plain rfl rfl (fun K' hK => ?_)
              go_simp
              exact hK _ _ ⟨_, _, rfl, rfl, hb, c0, c1, q0, q1, fun _ => rfl, q3, q4, q5, q6, q7, q8, q9, q10⟩
            · have l0 : L 1 = true ∧ L 2 = true := by have := hd _ rfl; simp [Region.binds] at this; simp [this]
              have f1 := (hv 1 45 rfl l0.1).trans (q1 l0.1)
              have f2 := (hv 2 46 rfl l0.2).trans (q2 l0.2)
              refine Ri.step_plain rfl rfl (fun K' hK => ?_)
              go_simp
              exact hK _ _ ⟨_, _, rfl, rfl, hb, c0, c1, q0, q1, q2, fun _ => rfl, q4, q5, q6, q7, q8, q9, q10⟩
            · have l0 : L 3 = true := by have := hd _ rfl; simp [Region.binds] at this; simp [this]
              have f3 := (hv 3 47 rfl l0).trans (q3 l0)
              refine Ri.step_plain rfl rfl (fun K' hK => ?_)
              obtain ⟨y0, y1, y2, y3, y4, y5, y6, y7, y8, y9⟩ := T1.out.keep (hb.block _ T1.out.lt)
              go_simp
              exact hK _ _ ⟨_, _, rfl, rfl, hb, c0, c1, q0, q1, q2, q3, fun _ => rfl, q5, q6, q7, q8, q9, q10⟩
            · have hl9 : L 10 = false := by cases h : L 10 with | false => rfl | true => exact absurd (c1 (c0 h)) (by rw [hL]; decide)
              have e1 : xa.tmps.getD 1 undef = .int .i64 (gm : Int) := hno 10 1 rfl hl9
              refine Ri.step_plain rfl rfl (fun K' hK => ?_)
              go_simp
              exact hK _ _ ⟨_, _, rfl, rfl, hb, c0, (fun _ => rfl), q0, q1, q2, q3, q4, fun _ => rfl, q6, q7, q8, q9, q10⟩
            · have e3 : xa.tmps.getD 3 undef = .pointer (some ⟨w.heap.size, 0, none⟩) := ho 3 (by kernel_rfl)
              refine Ri.step_plain rfl rfl (fun K' hK => ?_)
              go_simp
              exact hK _ _ ⟨_, _, rfl, rfl, hb, c0, c1, q0, q1, q2, q3, q4, q5, fun _ => rfl, q7, q8, q9, q10⟩
            · have l0 : L 6 = true := by have := hd _ rfl; simp [Region.binds] at this; simp [this]
              have f6 := (hv 6 50 rfl l0).trans (q6 l0)
              refine Ri.step_plain rfl rfl (fun K' hK => ?_)
              obtain ⟨z0, z5, z6, z9⟩ := cells10 (keep_blk hb Z1.out)
              go_simp
              exact hK _ _ ⟨_, _, rfl, rfl, hb, c0, c1, q0, q1, q2, q3, q4, q5, q6, fun _ => rfl, q8, q9, q10⟩
            · have l0 : L 7 = true := by have := hd _ rfl; simp [Region.binds] at this; simp [this]
              have f7 := (hv 7 51 rfl l0).trans (q7 l0)
              refine Ri.step_plain rfl rfl (fun K' hK => ?_)
              go_simp
              exact hK _ _ ⟨_, _, rfl, rfl, hb, c0, c1, q0, q1, q2, q3, q4, q5, q6, q7, fun _ => rfl, q9, q10⟩
            · have la1 : L 5 = true := by have := hd _ rfl; simp [Region.binds] at this; simp [this]
              have l0 : L 4 = true ∧ L 5 = true ∧ L 8 = true := by have := hd _ rfl; simp [Region.binds] at this; simp [this]
              have f4 := (hv 4 48 rfl l0.1).trans (q4 l0.1)
              have f5 := (hv 5 49 rfl l0.2.1).trans (q5 l0.2.1)
              have f8 := (hv 8 52 rfl l0.2.2).trans (q8 l0.2.2)
              refine Ri.step_plain rfl rfl (fun K' hK => ?_)
              go_simp
              refine (HC.out w9 (HBW.out.trans (hb.mono HBW.out.size))).mono ?_
              rintro e w8 ⟨rfl, hb8⟩
              exact hK _ _ ⟨_, _, rfl, rfl, hb.trans (hb8.mono hb.size), (fun _ => rfl), (fun _ => la1), q0, q1, q2, q3, q4, q5, q6, q7, q8, fun _ => rfl, q10⟩
            · have la0 : L 9 = true := by have := hd _ rfl; simp [Region.binds] at this; simp [this]
              have l0 : L 9 = true := by have := hd _ rfl; simp [Region.binds] at this; simp [this]
              have f9 := (hv 9 53 rfl l0).trans (q9 l0)
              refine Ri.step_plain rfl rfl (fun K' hK => ?_)
              go_simp
              exact hK _ _ ⟨_, _, rfl, rfl, hb, (fun _ => la0), c1, q0, q1, q2, q3, q4, q5, q6, q7, q8, q9, fun _ => rfl⟩
          · rintro v w9 ⟨hb, -, -, -, -, -, -, -, -, -, -, -, -, q10⟩
            have q10' : v 10 = .int .i64 (g2 : Int) := q10 rfl
            simp only [Ri.frame, List.zipIdx, List.foldl_cons, List.foldl_nil, if_true, List.setIfInBounds_toArray, List.set_cons_zero, List.set_cons_succ, Nat.reduceAdd, q10']
            clear q10 q10'
            generalize v 0 = y0; generalize v 1 = y1; generalize v 2 = y2; generalize v 3 = y3; generalize v 4 = y4; generalize v 5 = y5; generalize v 6 = y6; generalize v 7 = y7; generalize v 8 = y8; generalize v 9 = y9
            have HB2 := Lib.hid (HB.out.trans (hb.mono HB.out.size))
            clear hb d0 d5 d6 d9
            go_wp2
            exact ⟨⟨m + 1, g2, by go_num, by omega, rfl, htd2, HB2⟩, by simp [intOf]; omega⟩
        · obtain rfl : m = ts.length := by omega
          have hg : gm = g' := by rw [List.drop_length, Tr.teS] at htd; exact Option.some.inj htd
          subst hg
          go_wp2
          go_ret
          exact ⟨rfl, HBW.out⟩
    · have e8 : (t.kind == 8) = false := by simpa using h8
      have e8' : decide (t.kind = 8) = false := by simpa using h8
      rw [e8'] at HH
      clear hnum hr h7 hbr h8 e8' h6
      cases r
      all_goals
        go_enter Tryz.func26, Tryz.ntmps26
        go_wp2
        generalize w.alloc (.cells #[.int .i64 t.kind, .int .u64 (Oc.U t.w0), .int .u64 (Oc.U t.w1), .int .u64 (Oc.U t.w2), .int .u64 (Oc.U t.w3), .slice p ts.length cap, .int .i64 t.num, .int .i64 t.least, .int .i64 t.most, .bool false] 28) = W0 at *
        go_loopw [1, 7] (fun gv iv wr => ∃ m gm : Nat, iv = .int .i64 m ∧ m ≤ ts.length ∧ gv = .int .i64 gm ∧ Tr.teS (ts.drop m) gm false = some g' ∧ Hid (Below W0.heap.size W0 wr)) (fun _ iv _ => ts.length - (intOf iv).toNat)
        case atStart => exact ⟨0, g0, rfl, Nat.zero_le _, rfl, HH.out, Lib.hid (Below.refl _ _)⟩
        case round =>
          obtain ⟨m, gm, rfl, hm, rfl, htd, HB⟩ := hrel
          have wm : IntKind.i64.wrap ((m : Int) + 1) = (m : Int) + 1 := IntWalk.i64_in _ (by omega)
          have HBW := Lib.hid (HW.out.trans (HB.out.mono (Nat.le_of_lt hz)))
          have Z1 := Lib.hid (keep_blk HB.out Z0.out)
          obtain ⟨d0, d5, d6, d9⟩ := cells10 Z1.out
          by_cases hlt : m < ts.length
          · obtain ⟨x, hx⟩ : ∃ x, ts[m]? = some x := ⟨_, List.getElem?_eq_getElem hlt⟩
            obtain ⟨b1, o1, s1, rfl, -, t1, sub1⟩ := HS.out.get hx
            have T1 := Lib.hid (t1.keep (HBW.out.block _ t1.lt))
            have hmem := List.mem_of_getElem? hx
            obtain ⟨p1, c1, rfl, hl1⟩ := sub1.slice
            obtain ⟨g2, hg2, htd2⟩ := Tr.teS_step hx htd
            have HC := Lib.hid (fun w9 hb => IH.out x (by rw [HTS.out]; exact hmem) (HF.out.sub (by rw [HTS.out]; exact hmem)) gm false g2 hg2 w9 B (.agg (x.cells (.slice p1 x.subs.length c1))) ⟨_, rfl, sub1.later hb⟩)
            clear t1 sub1 hmem hx htd hg2
            go_upto_region 10 with (fail)
            refine Ri.wp_region_late (by kernel_rfl) (by kernel_rfl) (by kernel_rfl) (by kernel_rfl)
              (fun L v w' => Below wr.heap.size wr w' ∧ (L 10 = true → L 9 = true) ∧ (L 9 = true → L 5 = true) ∧ (L 0 = true → v 0 = .pointer (some ⟨w.heap.size, 5, none⟩)) ∧ (L 1 = true → v 1 = .slice (some ⟨b1, o1, none⟩) ts.length cap) ∧ (L 2 = true → v 2 = .int .i64 (m : Int)) ∧ (L 3 = true → v 3 = .pointer (some ⟨b1, o1 + m * 10, none⟩)) ∧ (L 4 = true → v 4 = .agg (x.cells (.slice p1 x.subs.length c1))) ∧ (L 5 = true → v 5 = .int .i64 (gm : Int)) ∧ (L 6 = true → v 6 = .pointer (some ⟨w.heap.size, 0, none⟩)) ∧ (L 7 = true → v 7 = .int .i64 t.kind) ∧ (L 8 = true → v 8 = .bool false) ∧ (L 9 = true → v 9 = .int .i64 (g2 : Int)) ∧ (L 10 = true → v 10 = .int .i64 (g2 : Int)))
              ?_ ?_ ?_
            · exact ⟨(Below.refl _ _).drew, by simp, by simp, by simp, by simp, by simp, by simp, by simp, by simp, by simp, by simp, by simp, by simp, by simp⟩
            · intro i hi9 L v w9 xa hI hL hd hv ho hno
              have hi' : i = 0 ∨ i = 1 ∨ i = 2 ∨ i = 3 ∨ i = 4 ∨ i = 5 ∨ i = 6 ∨ i = 7 ∨ i = 8 ∨ i = 9 ∨ i = 10 := by simp at hi9; omega
              obtain ⟨hb, c0, c1, q0, q1, q2, q3, q4, q5, q6, q7, q8, q9, q10⟩ := hI
              rcases hi' with rfl | rfl | rfl | rfl | rfl | rfl | rfl | rfl | rfl | rfl | rfl
              · have e3 : xa.tmps.getD 3 undef = .pointer (some ⟨w.heap.size, 0, none⟩) := ho 3 (by kernel_rfl)
                refine Ri.step_plain rfl rfl (fun K' hK => ?_)
                go_simp
                exact hK _ _ ⟨_, _, rfl, rfl, hb, c0, c1, fun _ => rfl, q1, q2, q3, q4, q5, q6, q7, q8, q9, q10⟩
              · have l0 : L 0 = true := by have := hd _ rfl; simp [Region.binds] at this; simp [this]
                have f0 := (hv 0 44 rfl l0).trans (q0 l0)
                refine Ri.step_plain rfl rfl (fun K' hK => ?_)
                obtain ⟨z0, z5, z6, z9⟩ := cells10 (keep_blk hb Z1.out)
                go_simp
                exact hK _ _ ⟨_, _, rfl, rfl, hb, c0, c1, q0, fun _ => rfl, q2, q3, q4, q5, q6, q7, q8, q9, q10⟩
              · have e7 : xa.tmps.getD 7 undef = .int .i64 (m : Int) := ho 7 (by kernel_rfl)
                refine Ri.step_plain rfl rfl (fun K' hK => ?_)
                go_simp
                exact hK _ _ ⟨_, _, rfl, rfl, hb, c0, c1, q0, q1, fun _ => rfl, q3, q4, q5, q6, q7, q8, q9, q10⟩
              · have l0 : L 1 = true ∧ L 2 = true := by have := hd _ rfl; simp [Region.binds] at this; simp [this]
                have f1 := (hv 1 45 rfl l0.1).trans (q1 l0.1)
                have f2 := (hv 2 46 rfl l0.2).trans (q2 l0.2)
                refine Ri.step_plain rfl rfl (fun K' hK => ?_)
                go_simp
                exact hK _ _ ⟨_, _, rfl, rfl, hb, c0, c1, q0, q1, q2, fun _ => rfl, q4, q5, q6, q7, q8, q9, q10⟩
              · have l0 : L 3 = true := by have := hd _ rfl; simp [Region.binds] at this; simp [this]
                have f3 := (hv 3 47 rfl l0).trans (q3 l0)
                refine Ri.step_plain rfl rfl (fun K' hK => ?_)
                obtain ⟨y0, y1, y2, y3, y4, y5, y6, y7, y8, y9⟩ := T1.out.keep (hb.block _ T1.out.lt)
                go_simp
                exact hK _ _ ⟨_, _, rfl, rfl, hb, c0, c1, q0, q1, q2, q3, fun _ => rfl, q5, q6, q7, q8, q9, q10⟩
              · have hl9 : L 10 = false := by cases h : L 10 with | false => rfl | true => exact absurd (c1 (c0 h)) (by rw [hL]; decide)
                have e1 : xa.tmps.getD 1 undef = .int .i64 (gm : Int) := hno 10 1 rfl hl9
                refine Ri.step_plain rfl rfl (fun K' hK => ?_)
                go_simp
                exact hK _ _ ⟨_, _, rfl, rfl, hb, c0, (fun _ => rfl), q0, q1, q2, q3, q4, fun _ => rfl, q6, q7, q8, q9, q10⟩
              · have e3 : xa.tmps.getD 3 undef = .pointer (some ⟨w.heap.size, 0, none⟩) := ho 3 (by kernel_rfl)
                refine Ri.step_plain rfl rfl (fun K' hK => ?_)
                go_simp
                exact hK _ _ ⟨_, _, rfl, rfl, hb, c0, c1, q0, q1, q2, q3, q4, q5, fun _ => rfl, q7, q8, q9, q10⟩
              · have l0 : L 6 = true := by have := hd _ rfl; simp [Region.binds] at this; simp [this]
                have f6 := (hv 6 50 rfl l0).trans (q6 l0)
                refine Ri.step_plain rfl rfl (fun K' hK => ?_)
                obtain ⟨z0, z5, z6, z9⟩ := cells10 (keep_blk hb Z1.out)
                go_simp
                exact hK _ _ ⟨_, _, rfl, rfl, hb, c0, c1, q0, q1, q2, q3, q4, q5, q6, fun _ => rfl, q8, q9, q10⟩
              · have l0 : L 7 = true := by have := hd _ rfl; simp [Region.binds] at this; simp [this]
                have f7 := (hv 7 51 rfl l0).trans (q7 l0)
                refine Ri.step_plain rfl rfl (fun K' hK => ?_)
                go_simp
                exact hK _ _ ⟨_, _, rfl, rfl, hb, c0, c1, q0, q1, q2, q3, q4, q5, q6, q7, fun _ => rfl, q9, q10⟩
              · have la1 : L 5 = true := by have := hd _ rfl; simp [Region.binds] at this; simp [this]
                have l0 : L 4 = true ∧ L 5 = true ∧ L 8 = true := by have := hd _ rfl; simp [Region.binds] at this; simp [this]
                have f4 := (hv 4 48 rfl l0.1).trans (q4 l0.1)
                have f5 := (hv 5 49 rfl l0.2.1).trans (q5 l0.2.1)
                have f8 := (hv 8 52 rfl l0.2.2).trans (q8 l0.2.2)
                refine Ri.step_plain rfl rfl (fun K' hK => ?_)
                go_simp
                refine (HC.out w9 (HBW.out.trans (hb.mono HBW.out.size))).mono ?_
                rintro e w8 ⟨rfl, hb8⟩
                exact hK _ _ ⟨_, _, rfl, rfl, hb.trans (hb8.mono hb.size), (fun _ => rfl), (fun _ => la1), q0, q1, q2, q3, q4, q5, q6, q7, q8, fun _ => rfl, q10⟩
              · have la0 : L 9 = true := by have := hd _ rfl; simp [Region.binds] at this; simp [this]
                have l0 : L 9 = true := by have := hd _ rfl; simp [Region.binds] at this; simp [this]
                have f9 := (hv 9 53 rfl l0).trans (q9 l0)
                refine Ri.step_plain rfl rfl (fun K' hK => ?_)
                go_simp
                exact hK _ _ ⟨_, _, rfl, rfl, hb, (fun _ => la0), c1, q0, q1, q2, q3, q4, q5, q6, q7, q8, q9, fun _ => rfl⟩
            · rintro v w9 ⟨hb, -, -, -, -, -, -, -, -, -, -, -, -, q10⟩
              have q10' : v 10 = .int .i64 (g2 : Int) := q10 rfl
              simp only [Ri.frame, List.zipIdx, List.foldl_cons, List.foldl_nil, if_true, List.setIfInBounds_toArray, List.set_cons_zero, List.set_cons_succ, Nat.reduceAdd, q10']
              clear q10 q10'
              generalize v 0 = y0; generalize v 1 = y1; generalize v 2 = y2; generalize v 3 = y3; generalize v 4 = y4; generalize v 5 = y5; generalize v 6 = y6; generalize v 7 = y7; generalize v 8 = y8; generalize v 9 = y9
              have HB2 := Lib.hid (HB.out.trans (hb.mono HB.out.size))
              clear hb d0 d5 d6 d9
              go_wp2
              exact ⟨⟨m + 1, g2, by go_num, by omega, rfl, htd2, HB2⟩, by simp [intOf]; omega⟩
          · obtain rfl : m = ts.length := by omega
            have hg : gm = g' := by rw [List.drop_length, Tr.teS] at htd; exact Option.some.inj htd
            subst hg
            go_wp2
            go_ret
            exact ⟨rfl, HBW.out⟩
theorem btidy_any : ∀ t : Tr, t.InForm → ∀ (g : Nat) (r : Bool) (g' : Nat), t.teT g r = some g' → ∀ (w : World) (B : Nat → Prop) (v : Value), NodeV w B v t → Calls Tryz.prog 26 #[v, .int .i64 g, .bool r] w (SizeEnd g' w) := by
  intro t
  induction t using Tr.rec_subs with
  | h t ih =>
    intro hf g r g' h w B v hv
    obtain ⟨s, rfl, hs⟩ := hv
    obtain ⟨p, cap, rfl, hlen⟩ := hs.slice
    rw [Tr.teT_eq] at h
    split at h
    · cases h
    · rename_i hc
      have h6 : t.kind ≠ 6 := fun h => hc (.inl h)
      have hbr : t.bare = false := by cases hb : t.bare with | false => rfl | true => exact absurd (.inr (.inl hb)) hc
      have hr : ¬ (r = true ∧ t.kind = 8) := fun hr => hc (.inr (.inr hr))
      split at h
      · rename_i h7
        split at h
        · rename_i hn
          exact btidy_loop t t.subs p cap rfl ih hf g r g' (g + 1) h6 hbr hr (.inl ⟨h7, hn, rfl⟩) h w B hs
        · cases h
      · rename_i h7
        exact btidy_loop t t.subs p cap rfl ih hf g r g' g h6 hbr hr (.inr ⟨h7, rfl⟩) h w B hs
set_option maxRecDepth 100000 in
set_option maxHeartbeats 8000000 in
theorem breright_any (A : Nat → Addr) (x : ByteArray) (fl : Int) (w : World) (hE : BrEnv w A) (hT : ErrType w) :
    Calls Tryz.prog 8 #[.string x, .int .i64 fl] w fun e w' => e = .returned (.bool true) ∧ Below w.heap.size w w' := by
  have HL := Lib.hid (bqlives_any A w hE hT)
  have HE := Lib.hid hE; have HT := Lib.hid hT
  have HD := Lib.hid bqparse_does
  clear hE hT
  cases hO : Bp.parse (bt x) x.size (icB fl) (nlB fl) with
  | err c q =>
    have hq := Bp.parse_plc (ic := icB fl) (nl := nlB fl) (bt_txt x) c q hO
    have h1 : decide (0 ≤ q) = true := by simpa using hq.1
    have h2 : decide (q ≤ x.size) = true := by simpa using hq.2
    have HO := Lib.hid hO
    clear hq hO
    go_enter Tryz.func8, Tryz.ntmps8
    go_wp2_with fail
    refine HL.out.mono ?_; rintro e w1 ⟨rfl, hb1⟩
    have HB1 := Lib.hid hb1
    clear hb1
    go_wp2_with fail
    refine (HD.out A _ x fl (HE.out.below HB1.out)).mono ?_
    intro e w2 he
    obtain ⟨v, rfl, hv, hb2⟩ := he.err HO.out
    obtain ⟨q2, rfl⟩ := hv.iface
    have hbB := (Below.refl w2.heap.size w2).alloc (Nat.le_refl _) (.cells noNode 28)
    have hb3 : Below w.heap.size w w2 := HB1.out.trans (hb2.mono HB1.out.size)
    have HB3 := Lib.hid (hb3.alloc hb3.size (.cells noNode 28))
    have HV := Lib.hid (hv.at.later hbB)
    have Z3 := Lib.hid (heap_alloc_new w2 (.cells noNode 28))
    have HE3 := Lib.hid (HE.out.below HB3.out); have HT3 := Lib.hid (HT.out.later HB3.out)
    clear he hv hb2 hbB hb3
    go_wp2_with fail
    refine (HV.out.place HT3.out).mono ?_; rintro e w7 ⟨rfl, hb7⟩
    have HB7 := Lib.hid (HB3.out.trans (hb7.mono HB3.out.size))
    have hc0 : w7.cell? ⟨w2.heap.size, 0, none⟩ = some (.int .i64 0) := (cells10 (keep_blk hb7 Z3.out)).1
    clear hb7
    go_wp2
    go_ret
    exact ⟨rfl, HB7.out⟩
  | ok t j g =>
    obtain ⟨hn, hf, hsz, hdp, htd, hg⟩ := Bp.parse_right (bt_txt x) hO
    have HO := Lib.hid hO
    have hn1 : decide ((x.size : Int) ≤ 1024) = true := by simp; omega
    have hn2 : decide (x.size ≤ 1024) = true := by simpa using hn
    have HCK := Lib.hid (check_any t hf hdp hsz); have HTD := Lib.hid (btidy_any t hf 0 false g htd)
    clear hO hf hsz hdp htd hn
    go_enter Tryz.func8, Tryz.ntmps8
    go_wp2_with fail
    refine HL.out.mono ?_; rintro e w1 ⟨rfl, hb1⟩
    have HB1 := Lib.hid hb1
    clear hb1
    go_wp2_with fail
    refine (HD.out A _ x fl (HE.out.below HB1.out)).mono ?_
    intro e w2 he
    obtain ⟨v2, F2, rfl, ho, -, hb2⟩ := he.ok HO.out
    obtain ⟨p2, c2, rfl, -⟩ := ho.slice
    have hb3 : Below w.heap.size w w2 := HB1.out.trans (hb2.mono HB1.out.size)
    have HB3 := Lib.hid (hb3.alloc hb3.size (.cells (t.cells (.slice p2 t.subs.length c2)) 28))
    have Z3 := Lib.hid (heap_alloc_new w2 (.cells (t.cells (.slice p2 t.subs.length c2)) 28))
    have HN := Lib.hid (fun w' hb => (⟨_, rfl, TreesAt.later (w' := w') ho.trees hb⟩ : NodeV w' _ (.agg (t.cells (.slice p2 t.subs.length c2))) t))
    have HB23 := Lib.hid ((Below.refl w2.heap.size w2).alloc (Nat.le_refl _) (.cells (t.cells (.slice p2 t.subs.length c2)) 28))
    clear he hb2 hb3 ho
    unfold Tr.cells at *
    obtain ⟨d0, d1, d2, d3, d4, d5, d6, d7, d8, d9⟩ := allTen Z3.out
    go_wp2_with fail
    refine (HCK.out _ _ _ (HN.out _ HB23.out)).mono ?_
    rintro e w4 ⟨rfl, hb4⟩
    have HB4 := Lib.hid (HB3.out.trans (hb4.mono HB3.out.size))
    have Z4 := Lib.hid (keep_blk hb4 Z3.out)
    have HB24 := Lib.hid (HB23.out.trans (hb4.mono HB23.out.size))
    clear hb4
    clear d0 d1 d2 d3 d4 d5 d6 d7 d8 d9
    obtain ⟨d0, d1, d2, d3, d4, d5, d6, d7, d8, d9⟩ := allTen Z4.out
    go_wp2_with fail
    refine (HTD.out _ _ _ (HN.out _ HB24.out)).mono ?_
    rintro e w5 ⟨rfl, hb5⟩
    have HB5 := Lib.hid (HB4.out.trans (hb5.mono HB4.out.size))
    clear hb5
    go_wp2
    go_ret
    exact ⟨rfl, HB5.out⟩
end Go.Proofs.YtlbhbjmobcikfaaGreatDoor
/- A set of bytes, and a list of sets, as they come in among the arguments. -/
namespace Go.Proofs.YtlbhbjmobcikfaaGreatDoor
open Go.ChangeShapes Go.WideShapes Go.ChangeAt Go.RowKit
theorem Tryz.own : ownKnob Tryz.prog.godebug = none := by kernel_rfl
theorem Tryz.laidOut : laidOutB Tryz.prog = true := by kernel_rfl
end Go.Proofs.YtlbhbjmobcikfaaGreatDoor
/- What the laws of layer 3 take of the program's variables: the type error, and, where the code has them, the table of the words and the library's powers of ten. -/
namespace Go.Proofs.YtlbhbjmobcikfaaGreatDoor
open Go.RowKit
structure FaEnv (w : World) : Prop where
  ty : ErrType w
theorem FaEnv.later {w w' : World} (h : FaEnv w) (hb : Below w.heap.size w w') : FaEnv w' where
  ty := h.ty.later hb
end Go.Proofs.YtlbhbjmobcikfaaGreatDoor
/- What a listed handle beside listed data gives: package errors' variable of the type error. -/
namespace Go.Proofs.YtlbhbjmobcikfaaGreatDoor
open Go.ChangeShapes Go.WideShapes Go.ChangeAt Go.RowKit
theorem laid_split {P : Program} {l : List (String × DataW Unit)} {W : World} (h : laidMetH P l W) : laidMet P (l.filter fun x => x.2.handleName?.isNone) W ∧ handlesMet P (l.filter fun x => x.2.handleName?.isSome) W := by
  unfold laidMetH at h
  generalize hfl : (l.filter fun x => x.2.handleName?.isSome) = fl at h
  cases fl with
  | nil =>
    have e : (l.filter fun x => x.2.handleName?.isNone) = l := by
      rw [List.filter_eq_self]
      intro x hx
      have := List.filter_eq_nil_iff.1 hfl x hx
      cases hh : x.2.handleName? with
      | none => rfl
      | some y => rw [hh] at this; simp at this
    rw [e]
    exact ⟨h, fun x hx => by cases hx⟩
  | cons x r => exact h
theorem Tryz.errorTypeG : Tryz.prog.globalNamed "errors.errorType" = some 21 := by kernel_rfl
theorem Tryz.rtypeT : (Tryz.prog.cutTypes.find? (·.1 == "internal/reflectlite.rtype")).map (·.2) = some 108 := by kernel_rfl
theorem Tryz.errorRow : ((List.range Tryz.prog.types.size).filter fun t => Tryz.prog.rowNamed t [101, 114, 114, 111, 114]) = [30] := by kernel_rfl
theorem Tryz.errorHandle : typeHandle Tryz.prog 30 = .pointer (some ⟨Tryz.prog.globals.size, 30, none⟩) := by kernel_rfl
theorem errtype_of {l : List (String × DataW Unit)} {W : World} (h : handlesMet Tryz.prog l W) (hl : ("errors.errorType", Rows.laid_errors_errorType) ∈ l) : ErrType W := by
  obtain ⟨name, u, ty, e1, e2, e3, e4, e5⟩ := h _ hl
  have en : name = [101, 114, 114, 111, 114] := (Option.some.inj e1).symm
  subst en
  obtain rfl := Option.some.inj (Tryz.rtypeT.symm.trans e2)
  have hm : ty ∈ (List.range Tryz.prog.types.size).filter fun t => Tryz.prog.rowNamed t [101, 114, 114, 111, 114] := List.mem_filter.2 ⟨List.mem_range.2 e3, e4⟩
  rw [Tryz.errorRow] at hm
  obtain rfl := List.mem_singleton.1 hm
  rw [Tryz.errorHandle] at e5
  unfold ErrType
  simpa using World.var?_cell Tryz.errorTypeG e5 0
theorem errList_plain : ∀ x, x ∈ errList → x.2.handleName?.isNone = true := by
  have h : (errList.all fun x => x.2.handleName?.isNone) = true := by kernel_rfl
  intro x hx
  exact List.all_eq_true.1 h x hx
/-- The sentinels and the handle out of one list. -/
theorem errs_handle_of {l : List (String × DataW Unit)} {W : World} (h : laidMetH Tryz.prog l W) (hl : ∀ x, x ∈ errList → x ∈ l) (hh : ("errors.errorType", Rows.laid_errors_errorType) ∈ l) : (∃ A, Errs W A) ∧ ErrType W := by
  obtain ⟨h1, h2⟩ := laid_split h
  exact ⟨errs_of h1 fun x hx => List.mem_filter.2 ⟨hl x hx, errList_plain x hx⟩, errtype_of h2 (List.mem_filter.2 ⟨hh, rfl⟩)⟩
end Go.Proofs.YtlbhbjmobcikfaaGreatDoor
/- What the listed variables give: the sentinels, the type error, the table of the words, the powers of ten. -/
namespace Go.Proofs.YtlbhbjmobcikfaaGreatDoor
open Go.ChangeShapes Go.WideShapes Go.ChangeAt Go.RowKit
/-- All that the laws take, out of one list. -/
theorem fault_env_of {l : List (String × DataW Unit)} {W : World} (h : laidMetH Tryz.prog l W) (hl : ∀ x, x ∈ errList → x ∈ l) (hh : ("errors.errorType", Rows.laid_errors_errorType) ∈ l)
    : (∃ A, Errs W A) ∧ FaEnv W := by
  obtain ⟨h1, h2⟩ := errs_handle_of h hl hh
  have h3 := (laid_split h).1
  exact ⟨h1, {
    ty := h2
    }⟩
end Go.Proofs.YtlbhbjmobcikfaaGreatDoor
/- A pattern inside a longer one: what is read of it stays, shifted, its groups' numbers raised. Plain facts: nothing of the program. -/
namespace Go.Proofs.YtlbhbjmobcikfaaGreatDoor
namespace Tr
mutual
/-- A tree with all its groups' numbers k more. -/
def rzT (k : Nat) : Tr → Tr
  | .node kd a b c d s n lo hi br => .node kd a b c d (rzS k s) (if kd = 7 then n + k else n) lo hi br
def rzS (k : Nat) : List Tr → List Tr
  | [] => []
  | t :: l => rzT k t :: rzS k l
end
theorem rzS_map (k : Nat) : ∀ l : List Tr, rzS k l = l.map (rzT k)
  | [] => rfl
  | t :: l => by rw [rzS, rzS_map k l, List.map_cons]
theorem rzT_eq (k : Nat) (t : Tr) : t.rzT k = .node t.kind t.w0 t.w1 t.w2 t.w3 (t.subs.map (rzT k)) (if t.kind = 7 then t.num + k else t.num) t.least t.most t.bare := by
  cases t; rw [rzT, rzS_map]; rfl
theorem sz_rz (k : Nat) : ∀ t : Tr, (t.rzT k).szT = t.szT := by
  intro t
  induction t using Tr.rec_subs with
  | h t ih =>
    have hs : ∀ l : List Tr, (∀ u, u ∈ l → (u.rzT k).szT = u.szT) → szS (l.map (rzT k)) = szS l := by
      intro l
      induction l with
      | nil => intro _; rfl
      | cons a l ih2 =>
        intro h
        rw [List.map_cons, szS, szS, h a List.mem_cons_self, ih2 fun u hu => h u (List.mem_cons_of_mem _ hu)]
    cases t with
    | node kd a b c d s n lo hi br =>
      rw [rzT, rzS_map, szT, szT]
      split
      · cases s with
        | nil => rfl
        | cons x l => rw [List.map_cons, szH, szH, ih x (by simp [subs])]
      · rw [hs s fun u hu => ih u (by simpa [subs] using hu)]
theorem rz_bytes (k : Nat) (P : Nat → Bool) : (Tr.bytes P).rzT k = Tr.bytes P := by
  unfold Tr.bytes; rw [rzT, rzS, if_neg (by decide)]
theorem rz_leaf (k : Nat) (q : Int) (h : q ≠ 7) : (Tr.leaf q).rzT k = Tr.leaf q := by
  unfold Tr.leaf; rw [rzT, rzS, if_neg h]
theorem rz_rep (k : Nat) (a b : Int) (t : Tr) : (Tr.rep a b t).rzT k = Tr.rep a b (t.rzT k) := by
  unfold Tr.rep; rw [rzT, rzS, rzS, if_neg (by decide)]
theorem rz_grp (k g : Nat) (t : Tr) : (Tr.grp (g : Nat) t).rzT k = Tr.grp ((g + k : Nat) : Int) (t.rzT k) := by
  unfold Tr.grp; rw [rzT, rzS, rzS, if_pos rfl]; simp
theorem rz_several (k : Nat) (q : Int) (h : q ≠ 7) (l : List Tr) : (Tr.several q l).rzT k = Tr.several q (l.map (rzT k)) := by
  match l with
  | [] => exact rz_leaf k 1 (by decide)
  | [t] => rfl
  | a :: b :: r =>
    show (Tr.many q (a :: b :: r)).rzT k = Tr.many q _
    unfold Tr.many; rw [rzT, rzS_map, if_neg h]; rfl
end Tr
namespace Br
/-- A bracket expression that is read well inside a longer text. -/
theorem whole_in {f F : Nat → Nat} {n N s a j : Nat} {ic nl : Bool} {P : Nat → Bool} (hf : Txt f n) (hw : Within f F n N s) (ha : a < n) (h : whole f n a ic nl = .ok P j) : whole F N (a + s) ic nl = .ok P (j + s) := by
  have hfit := hw.fit
  have h1 : a + 1 < n := by
    by_cases h1 : a + 1 < n
    · exact h1
    · exfalso
      have he : a + 1 = n := by omega
      unfold whole at h
      simp only at h
      rw [hf.2 (a + 1) (by omega)] at h
      simp only [show ((256 : Nat) == 94) = false from rfl, Bool.false_eq_true, if_false] at h
      unfold items at h
      rw [if_neg (by simp), if_pos (by omega)] at h
      cases h
  have hs := hw.same (a + 1) h1
  unfold whole at h ⊢
  simp only at h ⊢
  rw [show a + s + 1 = a + 1 + s by omega, hs]
  generalize hi : (if f (a + 1) == 94 then a + 2 else a + 1) = i at h
  have hi2 : i ≤ n := by rw [← hi]; split <;> omega
  rw [show (if f (a + 1) == 94 then a + s + 2 else a + 1 + s) = i + s by rw [← hi]; split <;> omega]
  cases hr : items f n a (n + 1) i (fun _ => false) false with
  | err c p => rw [hr] at h; cases h
  | ok Q j' =>
    rw [hr] at h
    unfold ends at h
    injection h with h2 h3
    rcases items_in (a' := a + s) (k := n + 1) (k' := N + 1) hf hw hi2 (by omega) (fun p => by rw [hr]; intro h; cases h) with ⟨i', -, h5, -⟩ | ⟨-, h5⟩
    · rw [hr] at h5; cases h5
    · rw [h5, hr, ← h2, ← h3]
      show ends ic nl _ (.ok Q (j' + s)) = _
      unfold ends
      rw [show j' + 1 + s = j' + s + 1 by omega]
end Br
namespace Ep
/-- Text f of n bytes stands in F of N bytes, s places on; behind it a ')', a '|' or the end. -/
structure Lies (f F : Nat → Nat) (n N s : Nat) : Prop where
  txt : Br.Txt f n
  txtF : Br.Txt F N
  hw : Br.Within f F n N s
  tail : F (n + s) = 41 ∨ F (n + s) = 124 ∨ F (n + s) = 256
variable {f F : Nat → Nat} {n N s k : Nat}
theorem find_in (hw : Br.Within f F n N s) (c : Nat) : ∀ q i, i + q ≤ n → find F c q (i + s) = (find f c q i).map (· + s)
  | 0, i, _ => rfl
  | q + 1, i, h => by
    unfold find
    rw [hw.same i (by omega)]
    split
    · rfl
    · rw [show i + s + 1 = i + 1 + s by omega]; exact find_in hw c q (i + 1) (by omega)
theorem find_more {g : Nat → Nat} {c : Nat} : ∀ {q i e q' : Nat}, q ≤ q' → find g c q i = some e → find g c q' i = some e
  | 0, _, _, _, _, h => by cases h
  | q + 1, i, e, 0, hq, h => by omega
  | q + 1, i, e, q' + 1, hq, h => by
    unfold find at h ⊢
    split
    · rename_i hc; rw [if_pos hc] at h; exact h
    · rename_i hc; rw [if_neg hc] at h; exact find_more (by omega) h
theorem digs_in (hw : Br.Within f F n N s) : ∀ q i a, i + q ≤ n → digs F q (i + s) a = digs f q i a
  | 0, _, _, _ => rfl
  | q + 1, i, a, h => by
    unfold digs
    rw [hw.same i (by omega)]
    split
    · rw [show i + s + 1 = i + 1 + s by omega]; exact digs_in hw q (i + 1) _ (by omega)
    · rfl
theorem num_in (hw : Br.Within f F n N s) {i e : Nat} (he : e ≤ n) : num F (i + s) (e + s) = num f i e := by
  unfold num
  by_cases hc : e ≤ i ∨ i + 3 < e
  · rw [if_pos hc, if_pos (by omega)]
  · rw [if_neg hc, if_neg (by omega), show e + s - (i + s) = e - i by omega, digs_in hw _ _ _ (by omega)]
theorem counts_in (hw : Br.Within f F n N s) {i e : Nat} (he : e ≤ n) : counts F (i + s) (e + s) = counts f i e := by
  unfold counts
  rw [show e + s - (i + s) = e - i by omega]
  by_cases hi : i ≤ e
  · rw [find_in hw 44 (e - i) i (by omega)]
    cases hm : find f 44 (e - i) i with
    | none => rw [Option.map_none]; simp only [num_in hw he]
    | some m =>
      obtain ⟨h1, h2, -, -⟩ := find_some hm
      rw [Option.map_some]
      simp only [num_in hw (show m ≤ n by omega), show m + s + 1 = m + 1 + s by omega, num_in hw he, show (m + 1 + s = e + s) = (m + 1 = e) from propext (by omega)]
  · rw [show e - i = 0 by omega]
    simp only [find, num_in hw he]
theorem counted_in {t u : Tr} {a b : Int} {p q p' q' g j g' : Nat} (h : counted t a b p q g = .ok u j g') (hq : q' = q + s) : counted (t.rzT k) a b p' q' (g + k) = .ok (u.rzT k) (j + s) (g' + k) := by
  unfold counted at h ⊢
  rw [← Tr.rz_rep, Tr.sz_rz]
  split at h
  · cases h
  · rename_i hc
    injection h with h1 h2 h3
    subst h1 h2 h3 hq
    rw [if_neg hc]
theorem Lies.tail_no (h : Lies f F n N s) {i : Nat} (hi : i ≤ n) (hn : ¬ i < n) {c : Nat} (h1 : c ≠ 41) (h2 : c ≠ 124) (h3 : c ≠ 256) : F (i + s) ≠ c := by
  obtain rfl : i = n := by omega
  rcases h.tail with e | e | e <;> rw [e] <;> omega
theorem rep_in (hl : Lies f F n N s) {t u : Tr} {i g j g' : Nat} (hi : i ≤ n) (h : rep f n t i g = .ok u j g') : rep F N (t.rzT k) (i + s) (g + k) = .ok (u.rzT k) (j + s) (g' + k) := by
  have hfit := hl.hw.fit
  by_cases hn : i < n
  · have hs := hl.hw.same i hn
    unfold rep at h ⊢
    rw [hs]
    split
    · rename_i hc; rw [if_pos hc] at h; exact counted_in h (by omega)
    rename_i c1; rw [if_neg c1] at h
    split
    · rename_i hc; rw [if_pos hc] at h; exact counted_in h (by omega)
    rename_i c2; rw [if_neg c2] at h
    split
    · rename_i hc; rw [if_pos hc] at h; exact counted_in h (by omega)
    rename_i c3; rw [if_neg c3] at h
    split
    · rename_i hc
      rw [if_pos hc] at h
      cases he : find f 125 (n - (i + 1)) (i + 1) with
      | none => rw [he] at h; cases h
      | some e =>
        rw [he] at h
        obtain ⟨h1, h2, -, -⟩ := find_some he
        have hF : find F 125 (N - (i + s + 1)) (i + s + 1) = some (e + s) := by
          rw [show i + s + 1 = i + 1 + s by omega]
          refine find_more (q := n - (i + 1)) (by omega) ?_
          rw [find_in hl.hw 125 _ _ (by omega), he]; rfl
        rw [hF]
        simp only at h ⊢
        rw [show i + s + 1 = i + 1 + s by omega, counts_in hl.hw (by omega)]
        cases hab : counts f (i + 1) e with
        | none => rw [hab] at h; cases h
        | some ab => rw [hab] at h; exact counted_in h (by omega)
    · rename_i hc
      rw [if_neg hc] at h
      injection h with h1 h2 h3
      subst h1 h2 h3; rfl
  · have hT := fun c h1 h2 h3 => hl.tail_no hi hn (c := c) h1 h2 h3
    obtain rfl : i = n := by omega
    unfold rep at h ⊢
    have h256 := hl.txt.2 i (Nat.le_refl _)
    rw [h256] at h
    simp only [show ¬ (256 = 42) from by decide, show ¬ (256 = 43) from by decide, show ¬ (256 = 63) from by decide, show ¬ (256 = 123) from by decide, if_false] at h
    rw [if_neg (hT 42 (by decide) (by decide) (by decide)), if_neg (hT 43 (by decide) (by decide) (by decide)), if_neg (hT 63 (by decide) (by decide) (by decide)), if_neg (hT 123 (by decide) (by decide) (by decide))]
    injection h with h1 h2 h3
    subst h1 h2 h3; rfl
/-- What is read well is read so again, s places and k groups on; or, if E allows, groups lie too deep. -/
def Rel (E : Prop) (s k : Nat) (O O' : Out) : Prop := ∀ t j g', O = .ok t j g' → O' = .ok (t.rzT k) (j + s) (g' + k) ∨ (E ∧ ∃ p, O' = .err 11 p)
def RelH (E : Prop) (n s k : Nat) (H H' : Nat → Nat → Out) : Prop := ∀ i g, i < n → Rel E s k (H i g) (H' (i + s) (g + k))
variable {E : Prop} {ic nl : Bool} {H H' : Nat → Nat → Out}
theorem atom_in (hl : Lies f F n N s) (hH : RelH E n s k H H') {i g : Nat} (hi : i < n) : Rel E s k (atom f n ic nl H i g) (atom F N ic nl H' (i + s) (g + k)) := by
  intro t j g' h
  have hs := hl.hw.same i hi
  unfold atom at h ⊢
  rw [hs]
  split
  · rename_i hc; rw [if_pos hc] at h; exact hH i g hi t j g' h
  rename_i c1; rw [if_neg c1] at h
  split
  · rename_i hc
    rw [if_pos hc] at h
    cases hw : Br.whole f n i ic nl with
    | err c p => rw [hw] at h; cases h
    | ok P q =>
      rw [hw] at h
      rw [Br.whole_in hl.txt hl.hw hi hw]
      injection h with h1 h2 h3
      subst h1 h2 h3
      exact .inl (by rw [Tr.rz_bytes])
  rename_i c2; rw [if_neg c2] at h
  split
  · rename_i hc
    rw [if_pos hc] at h
    by_cases hcl : Cl.cls 8 (f (i + 1)) = true
    · rw [if_pos hcl] at h
      have hn : i + 1 < n := by
        by_cases hn : i + 1 < n
        · exact hn
        · rw [hl.txt.2 (i + 1) (by omega)] at hcl; exact absurd hcl (by decide)
      rw [show i + s + 1 = i + 1 + s by omega, hl.hw.same (i + 1) hn, if_pos hcl]
      injection h with h1 h2 h3
      subst h1 h2 h3
      exact .inl (by unfold one; rw [Tr.rz_bytes, show i + 2 + s = i + s + 2 by omega])
    · rw [if_neg hcl] at h; cases h
  rename_i c3; rw [if_neg c3] at h
  split
  · rename_i hc
    rw [if_pos hc] at h
    injection h with h1 h2 h3
    subst h1 h2 h3
    exact .inl (by unfold dot; rw [Tr.rz_bytes, show i + 1 + s = i + s + 1 by omega])
  · rename_i hc
    rw [if_neg hc] at h
    injection h with h1 h2 h3
    subst h1 h2 h3
    exact .inl (by unfold one; rw [Tr.rz_bytes, show i + 1 + s = i + s + 1 by omega])
theorem piece_in (hl : Lies f F n N s) (hA : Ahead n H) (hH : RelH E n s k H H') {i g : Nat} (hi : i < n) : Rel E s k (piece f n ic nl H i g) (piece F N ic nl H' (i + s) (g + k)) := by
  intro t j g' h
  have hs := hl.hw.same i hi
  unfold piece at h ⊢
  rw [hs]
  split
  · rename_i hc
    rw [if_pos hc] at h
    injection h with h1 h2 h3
    subst h1 h2 h3
    exact .inl (by rw [Tr.rz_leaf _ _ (by decide), show i + 1 + s = i + s + 1 by omega])
  rename_i c1; rw [if_neg c1] at h
  split
  · rename_i hc
    rw [if_pos hc] at h
    injection h with h1 h2 h3
    subst h1 h2 h3
    exact .inl (by rw [Tr.rz_leaf _ _ (by decide), show i + 1 + s = i + s + 1 by omega])
  rename_i c2; rw [if_neg c2] at h
  split
  · rename_i hc; rw [if_pos hc] at h; cases h
  rename_i c3; rw [if_neg c3] at h
  cases ha : atom f n ic nl H i g with
  | err c p => rw [ha] at h; cases h
  | ok u q g2 =>
    rw [ha] at h
    rcases atom_in (ic := ic) (nl := nl) (g := g) hl hH hi u q g2 ha with e | ⟨hE, p, e⟩
    · rw [e]; exact .inl (rep_in hl (atom_next hl.txt hA hi ha).2 h)
    · rw [e]; exact .inr ⟨hE, p, rfl⟩
theorem branch_in (hl : Lies f F n N s) (hA : Ahead n H) (hH : RelH E n s k H H') : ∀ (q q' : Nat) (l : List Tr) (i g : Nat), q ≤ q' → i ≤ n → Rel E s k (branch f n ic nl H q l i g) (branch F N ic nl H' q' (l.map (Tr.rzT k)) (i + s) (g + k))
  | 0, _, _, _, _, _, _ => fun t j g' h => by cases h
  | q + 1, 0, _, _, _, hq, _ => by omega
  | q + 1, q' + 1, l, i, g, hq, hi => fun t j g' h => by
    have hfit := hl.hw.fit
    unfold branch at h ⊢
    by_cases hc : n ≤ i ∨ f i = 124 ∨ f i = 41
    · rw [if_pos hc] at h
      have hc' : N ≤ i + s ∨ F (i + s) = 124 ∨ F (i + s) = 41 := by
        by_cases hn : i < n
        · rw [hl.hw.same i hn]; omega
        · obtain rfl : i = n := by omega
          rcases hl.tail with e | e | e
          · exact .inr (.inr e)
          · exact .inr (.inl e)
          · left
            by_cases hN : i + s < N
            · have := hl.txtF.1 _ hN; omega
            · omega
      rw [if_pos hc']
      injection h with h1 h2 h3
      subst h1 h2 h3
      exact .inl (by rw [Tr.rz_several _ _ (by decide)])
    · rw [if_neg hc] at h
      have hs := hl.hw.same i (by omega)
      rw [if_neg (by rw [hs]; omega)]
      cases hp : piece f n ic nl H i g with
      | err c p => rw [hp] at h; cases h
      | ok u m g2 =>
        rw [hp] at h
        rcases piece_in (ic := ic) (nl := nl) (g := g) hl hA hH (show i < n by omega) u m g2 hp with e | ⟨hE, p, e⟩
        · rw [e]
          have := branch_in hl hA hH q q' (l ++ [u]) m g2 (by omega) (piece_next hl.txt hA (by omega) hp).2 t j g' h
          rw [List.map_append] at this
          exact this
        · rw [e]; exact .inr ⟨hE, p, rfl⟩
theorem alts_in (hl : Lies f F n N s) (hA : Ahead n H) (hH : RelH E n s k H H') : ∀ (q q' : Nat) (l : List Tr) (i g : Nat), q ≤ q' → i ≤ n → ∀ t j g', (j < n ∨ F (n + s) ≠ 124) → alts f n ic nl H q l i g = .ok t j g' →
    alts F N ic nl H' q' (l.map (Tr.rzT k)) (i + s) (g + k) = .ok (t.rzT k) (j + s) (g' + k) ∨ (E ∧ ∃ p, alts F N ic nl H' q' (l.map (Tr.rzT k)) (i + s) (g + k) = .err 11 p)
  | 0, _, _, _, _, _, _ => fun t j g' _ h => by cases h
  | q + 1, 0, _, _, _, hq, _ => by omega
  | q + 1, q' + 1, l, i, g, hq, hi => fun t j g' hj h => by
    have hfit := hl.hw.fit
    unfold alts at h ⊢
    cases hp : branch f n ic nl H (n + 1) [] i g with
    | err c p => rw [hp] at h; cases h
    | ok u m g2 =>
      rw [hp] at h
      have hm := branch_next hl.txt hA hi hp
      rcases branch_in (ic := ic) (nl := nl) hl hA hH (n + 1) (N + 1) [] i g (by omega) hi u m g2 hp with e | ⟨hE, p, e⟩
      · rw [List.map_nil] at e
        rw [e]
        simp only at h ⊢
        by_cases hc : f m = 124
        · rw [if_pos hc] at h
          have hlt := hl.txt.lt hc (by decide)
          rw [hl.hw.same m hlt, if_pos hc]
          have := alts_in hl hA hH q q' (l ++ [u]) (m + 1) g2 (by omega) (by omega) t j g' hj h
          rw [List.map_append, show m + 1 + s = m + s + 1 by omega] at this
          exact this
        · rw [if_neg hc] at h
          injection h with h1 h2 h3
          subst h1 h2 h3
          have hc' : F (m + s) ≠ 124 := by
            by_cases hlt : m < n
            · rw [hl.hw.same m hlt]; exact hc
            · obtain rfl : m = n := by omega
              rcases hj with hj | hj
              · omega
              · exact hj
          rw [if_neg hc']
          exact .inl (by rw [Tr.rz_several _ _ (by decide), List.map_append]; rfl)
      · rw [List.map_nil] at e
        rw [e]; exact .inr ⟨hE, p, rfl⟩
theorem group_in (hl : Lies f F n N s) : ∀ r r', (r = r' ∨ E) → RelH E n s k (group f n ic nl r) (group F N ic nl r')
  | 0, _, _ => fun i g _ t j g' h => by cases h
  | r + 1, 0, hr => fun i g _ t j g' h => by
    rcases hr with hr | hr
    · omega
    · exact .inr ⟨hr, _, rfl⟩
  | r + 1, r' + 1, hr => fun i g hi t j g' h => by
    have hfit := hl.hw.fit
    unfold group at h ⊢
    cases hp : alts f n ic nl (group f n ic nl r) (n + 1) [] (i + 1) (g + 1) with
    | err c p => rw [hp] at h; cases h
    | ok u m g2 =>
      rw [hp] at h
      simp only at h
      split at h
      · rename_i hc
        injection h with h1 h2 h3
        subst h1 h2 h3
        have hlt := hl.txt.lt hc (by decide)
        have := alts_in (ic := ic) (nl := nl) hl (group_next hl.txt r) (group_in hl r r' (hr.imp (fun h => by omega) id)) (n + 1) (N + 1) [] (i + 1) (g + 1) (by omega) (by omega) u m g2 (.inl hlt) hp
        rw [List.map_nil, show i + 1 + s = i + s + 1 by omega, show g + 1 + k = g + k + 1 by omega] at this
        rcases this with e | ⟨hE, p, e⟩
        · rw [e]
          simp only [hl.hw.same m hlt, hc, if_true]
          exact .inl (by rw [Tr.rz_grp, show m + 1 + s = m + s + 1 by omega, show g + 1 + k = g + k + 1 by omega])
        · rw [e]; exact .inr ⟨hE, p, rfl⟩
      · cases h
end Ep
end Go.Proofs.YtlbhbjmobcikfaaGreatDoor
/- A basic pattern in a group: what is read of it stays, shifted, its groups' numbers raised. Plain facts: nothing of the program. -/
namespace Go.Proofs.YtlbhbjmobcikfaaGreatDoor
namespace Bp
open Ep (Out Rel counted_in counts_in)
/-- Text f of n bytes stands in F of N bytes, s places on; behind it a '\' and a ')'. -/
structure Lies (f F : Nat → Nat) (n N s : Nat) : Prop where
  txt : Br.Txt f n
  txtF : Br.Txt F N
  hw : Br.Within f F n N s
  t1 : F (n + s) = 92
  t2 : F (n + s + 1) = 41
variable {f F : Nat → Nat} {n N s k : Nat}
theorem Lies.lt (h : Lies f F n N s) : n + s + 1 < N := h.txtF.lt h.t2 (by decide)
theorem Lies.two (h : Lies f F n N s) {a b i : Nat} (hi : i < n) (hb : b < 256) (hb2 : b ≠ 92) : two F a b (i + s) = two f a b i := by
  unfold Bp.two
  rw [h.hw.same i hi]
  congr 1
  by_cases h1 : i + 1 < n
  · rw [show i + s + 1 = i + 1 + s by omega, h.hw.same (i + 1) h1]
  · rw [show i + s + 1 = n + s by omega, h.t1, h.txt.2 (i + 1) (by omega)]
    have e1 : ((92 : Nat) == b) = false := by rw [beq_eq_false_iff_ne]; omega
    have e2 : ((256 : Nat) == b) = false := by rw [beq_eq_false_iff_ne]; omega
    rw [e1, e2]
theorem Lies.end_no (h : Lies f F n N s) {b : Nat} (hb : b ≠ 41) : Bp.two F 92 b (n + s) = false := by
  unfold Bp.two; rw [h.t2]; simp; omega
theorem close_in (h : Lies f F n N s) : ∀ {q q' i e : Nat}, q ≤ q' → i + q ≤ n → close f q i = some e → close F q' (i + s) = some (e + s)
  | 0, _, _, _, _, _, h1 => by cases h1
  | q + 1, 0, _, _, hq, _, _ => by omega
  | q + 1, q' + 1, i, e, hq, hi, h1 => by
    unfold close at h1 ⊢
    rw [h.two (by omega) (by decide) (by decide)]
    split
    · rename_i hc; rw [if_pos hc] at h1
      rw [Option.some.inj h1]
    · rename_i hc; rw [if_neg hc] at h1
      rw [show i + s + 1 = i + 1 + s by omega]
      exact close_in h (by omega) (by omega) h1
theorem rep_in (hl : Lies f F n N s) {t u : Tr} {i g j g' : Nat} (hi : i ≤ n) (h : rep f n t i g = .ok u j g') : rep F N (t.rzT k) (i + s) (g + k) = .ok (u.rzT k) (j + s) (g' + k) := by
  have hN := hl.lt
  by_cases hn : i < n
  · have hs := hl.hw.same i hn
    unfold rep at h ⊢
    rw [hs, hl.two hn (by decide) (by decide)]
    split
    · rename_i hc; rw [if_pos hc] at h; exact counted_in h (by omega)
    rename_i c1; rw [if_neg c1] at h
    split
    · rename_i hc
      rw [if_pos hc] at h
      have hi2 := two_lt hl.txt hc (by omega) (by omega)
      cases he : close f (n - (i + 2)) (i + 2) with
      | none => rw [he] at h; cases h
      | some e =>
        rw [he] at h
        obtain ⟨h1, h2, h3, -⟩ := close_some he
        have he2 := two_lt hl.txt h3 (by omega) (by omega)
        have hF : close F (N - (i + s + 2)) (i + s + 2) = some (e + s) := by
          rw [show i + s + 2 = i + 2 + s by omega]
          exact close_in hl (q := n - (i + 2)) (by omega) (by omega) he
        rw [hF]
        simp only at h ⊢
        rw [show i + s + 2 = i + 2 + s by omega, counts_in hl.hw (by omega)]
        cases hab : Ep.counts f (i + 2) e with
        | none => rw [hab] at h; cases h
        | some ab => rw [hab] at h; exact counted_in h (by omega)
    · rename_i hc
      rw [if_neg hc] at h
      injection h with h1 h2 h3
      subst h1 h2 h3; rfl
  · obtain rfl : i = n := by omega
    unfold rep at h ⊢
    have h256 := hl.txt.2 i (Nat.le_refl _)
    rw [h256, show Bp.two f 92 123 i = false by unfold Bp.two; rw [h256]; rfl] at h
    simp only [show ¬ (256 = 42) from by decide, Bool.false_eq_true, if_false] at h
    rw [hl.t1, if_neg (by decide), hl.end_no (by decide), if_neg (by decide)]
    injection h with h1 h2 h3
    subst h1 h2 h3; rfl
def RelH (E : Prop) (n s k : Nat) (H H' : Nat → Nat → Out) : Prop := ∀ i g, i + 1 < n → Rel E s k (H i g) (H' (i + s) (g + k))
variable {E : Prop} {ic nl : Bool} {H H' : Nat → Nat → Out}
theorem atom_in (hl : Lies f F n N s) (hH : RelH E n s k H H') {i g : Nat} (hi : i < n) : Rel E s k (atom f n ic nl H i g) (atom F N ic nl H' (i + s) (g + k)) := by
  intro t j g' h
  have hs := hl.hw.same i hi
  unfold atom at h ⊢
  rw [hs, hl.two hi (by decide) (by decide), hl.two hi (by decide) (by decide)]
  split
  · rename_i hc; rw [if_pos hc] at h
    injection h with h1 h2 h3
    subst h1 h2 h3
    exact .inl (by unfold Ep.dot; rw [Tr.rz_bytes, show i + 1 + s = i + s + 1 by omega])
  rename_i c1; rw [if_neg c1] at h
  split
  · rename_i hc
    rw [if_pos hc] at h
    cases hw : Br.whole f n i ic nl with
    | err c p => rw [hw] at h; cases h
    | ok P q =>
      rw [hw] at h
      rw [Br.whole_in hl.txt hl.hw hi hw]
      injection h with h1 h2 h3
      subst h1 h2 h3
      exact .inl (by rw [Tr.rz_bytes])
  rename_i c2; rw [if_neg c2] at h
  split
  · rename_i hc; rw [if_pos hc] at h
    exact hH i g (two_lt hl.txt hc (by omega) (by omega)) t j g' h
  rename_i c3; rw [if_neg c3] at h
  split
  · rename_i hc; rw [if_pos hc] at h; cases h
  rename_i c4; rw [if_neg c4] at h
  split
  · rename_i hc
    rw [if_pos hc] at h
    by_cases hcl : Cl.cls 8 (f (i + 1)) = true
    · rw [if_pos hcl] at h
      have hn : i + 1 < n := by
        by_cases hn : i + 1 < n
        · exact hn
        · rw [hl.txt.2 (i + 1) (by omega)] at hcl; exact absurd hcl (by decide)
      rw [show i + s + 1 = i + 1 + s by omega, hl.hw.same (i + 1) hn, if_pos hcl]
      injection h with h1 h2 h3
      subst h1 h2 h3
      exact .inl (by unfold Ep.one; rw [Tr.rz_bytes, show i + 2 + s = i + s + 2 by omega])
    · rw [if_neg hcl] at h; cases h
  rename_i c5; rw [if_neg c5] at h
  injection h with h1 h2 h3
  subst h1 h2 h3
  exact .inl (by unfold Ep.one; rw [Tr.rz_bytes, show i + 1 + s = i + s + 1 by omega])
theorem isEnd_in (hl : Lies f F n N s) {i : Nat} (hi : i < n) : isEnd F N (i + s) = isEnd f n i := by
  have hN := hl.lt
  unfold isEnd
  rw [hl.hw.same i hi]
  congr 1
  by_cases h1 : i + 1 < n
  · rw [show decide (N ≤ i + s + 1) = false by simp; omega, show decide (n ≤ i + 1) = false by simp; omega, show i + s + 1 = i + 1 + s by omega, hl.two h1 (by decide) (by decide)]
  · rw [show decide (n ≤ i + 1) = true by simp; omega, Bool.true_or, show i + s + 1 = n + s by omega, show Bp.two F 92 41 (n + s) = true from two_iff.2 ⟨hl.t1, hl.t2⟩, Bool.or_true]
theorem piece_in (hl : Lies f F n N s) (hA : Ahead n H) (hH : RelH E n s k H H') {i g : Nat} (hi : i < n) : Rel E s k (piece f n ic nl H i g) (piece F N ic nl H' (i + s) (g + k)) := by
  intro t j g' h
  have hs := hl.hw.same i hi
  unfold piece at h ⊢
  rw [hs, isEnd_in hl hi, hl.two hi (by decide) (by decide)]
  split
  · rename_i hc
    rw [if_pos hc] at h
    injection h with h1 h2 h3
    subst h1 h2 h3
    exact .inl (by rw [Tr.rz_leaf _ _ (by decide), show i + 1 + s = i + s + 1 by omega])
  rename_i c1; rw [if_neg c1] at h
  split
  · rename_i hc; rw [if_pos hc] at h; cases h
  rename_i c2; rw [if_neg c2] at h
  split
  · rename_i hc; rw [if_pos hc] at h; cases h
  rename_i c3; rw [if_neg c3] at h
  cases ha : atom f n ic nl H i g with
  | err c p => rw [ha] at h; cases h
  | ok u q g2 =>
    rw [ha] at h
    rcases atom_in (ic := ic) (nl := nl) (g := g) hl hH hi u q g2 ha with e | ⟨hE, p, e⟩
    · rw [e]; exact .inl (rep_in hl (atom_next hl.txt hA hi ha).2 h)
    · rw [e]; exact .inr ⟨hE, p, rfl⟩
theorem loop_in (hl : Lies f F n N s) (hA : Ahead n H) (hH : RelH E n s k H H') : ∀ (q q' : Nat) (l : List Tr) (i g : Nat), q ≤ q' → i ≤ n → Rel E s k (loop f n ic nl H q l i g) (loop F N ic nl H' q' (l.map (Tr.rzT k)) (i + s) (g + k))
  | 0, _, _, _, _, _, _ => fun t j g' h => by cases h
  | q + 1, 0, _, _, _, hq, _ => by omega
  | q + 1, q' + 1, l, i, g, hq, hi => fun t j g' h => by
    have hN := hl.lt
    unfold loop at h ⊢
    by_cases hc : n ≤ i ∨ Bp.two f 92 41 i = true
    · rw [if_pos hc] at h
      have hc' : N ≤ i + s ∨ Bp.two F 92 41 (i + s) = true := by
        right
        by_cases hn : i < n
        · rw [hl.two hn (by decide) (by decide)]
          rcases hc with h1 | h1
          · omega
          · exact h1
        · obtain rfl : i = n := by omega
          exact two_iff.2 ⟨hl.t1, hl.t2⟩
      rw [if_pos hc']
      injection h with h1 h2 h3
      subst h1 h2 h3
      exact .inl (by rw [Tr.rz_several _ _ (by decide)])
    · rw [if_neg hc] at h
      have hn : i < n := by omega
      rw [if_neg (by
        rintro (h1 | h1)
        · omega
        · rw [hl.two hn (by decide) (by decide)] at h1; exact hc (.inr h1))]
      cases hp : piece f n ic nl H i g with
      | err c p => rw [hp] at h; cases h
      | ok u m g2 =>
        rw [hp] at h
        rcases piece_in (ic := ic) (nl := nl) (g := g) hl hA hH hn u m g2 hp with e | ⟨hE, p, e⟩
        · rw [e]
          have := loop_in hl hA hH q q' (l ++ [u]) m g2 (by omega) (piece_next hl.txt hA (by omega) hp).2 t j g' h
          rw [List.map_append] at this
          exact this
        · rw [e]; exact .inr ⟨hE, p, rfl⟩
theorem one_rz (k : Nat) (ic : Bool) (b : Nat) : (Ep.one ic b).rzT k = Ep.one ic b := by unfold Ep.one; rw [Tr.rz_bytes]
theorem star_in (hl : Lies f F n N s) (hA : Ahead n H) (hH : RelH E n s k H H') (l : List Tr) {i g : Nat} (hi : i ≤ n) : Rel E s k (star f n ic nl H l i g) (star F N ic nl H' (l.map (Tr.rzT k)) (i + s) (g + k)) := by
  intro t j g' h
  have hN := hl.lt
  unfold star at h ⊢
  have hs : (F (i + s) = 42) = (f i = 42) := by
    by_cases hn : i < n
    · rw [hl.hw.same i hn]
    · rw [hl.txt.2 i (by omega), show i + s = n + s by omega, hl.t1]; simp
  simp only [hs]
  split
  · rename_i hc
    rw [if_pos hc] at h
    have hlt := hl.txt.lt hc (by omega)
    cases hp : rep f n (Ep.one ic 42) (i + 1) g with
    | err c p => rw [hp] at h; cases h
    | ok u m g2 =>
      rw [hp] at h
      have h1 := rep_in (k := k) hl (by omega) hp
      rw [one_rz, show i + 1 + s = i + s + 1 by omega] at h1
      rw [h1]
      have := loop_in (ic := ic) (nl := nl) hl hA hH (n + 1) (N + 1) (l ++ [u]) m g2 (by omega) (rep_ok hp hl.txt (by omega)).2.1 t j g' h
      rw [List.map_append] at this
      exact this
  · rename_i hc
    rw [if_neg hc] at h
    exact loop_in hl hA hH (n + 1) (N + 1) l i g (by omega) hi t j g' h
theorem seq_in (hl : Lies f F n N s) (hA : Ahead n H) (hH : RelH E n s k H H') {i g : Nat} (hi : i ≤ n) : Rel E s k (seq f n ic nl H i g) (seq F N ic nl H' (i + s) (g + k)) := by
  intro t j g' h
  unfold seq at h ⊢
  have hs : (F (i + s) = 94) = (f i = 94) := by
    by_cases hn : i < n
    · rw [hl.hw.same i hn]
    · rw [hl.txt.2 i (by omega), show i + s = n + s by omega, hl.t1]; simp
  simp only [hs]
  split
  · rename_i hc
    rw [if_pos hc] at h
    have hlt := hl.txt.lt hc (by omega)
    have := star_in (ic := ic) (nl := nl) hl hA hH [.leaf 3] (i := i + 1) (g := g) (by omega) t j g' h
    rw [List.map_cons, List.map_nil, Tr.rz_leaf _ _ (by decide), show i + 1 + s = i + s + 1 by omega] at this
    exact this
  · rename_i hc
    rw [if_neg hc] at h
    exact star_in hl hA hH [] hi t j g' h
theorem group_in (hl : Lies f F n N s) : ∀ (r r' : Nat), (r = r' ∨ E) → RelH E n s k (group f n ic nl r) (group F N ic nl r')
  | 0, _, _ => fun i g hi t j g' h => by cases h
  | r + 1, 0, hr => fun i g hi t j g' h => by
    rcases hr with hr | hr
    · omega
    · exact .inr ⟨hr, _, rfl⟩
  | r + 1, r' + 1, hr => fun i g hi t j g' h => by
    unfold group at h ⊢
    have ih := group_in hl r r' (hr.imp (by omega) id)
    cases hp : seq f n ic nl (group f n ic nl r) (i + 2) (g + 1) with
    | err c p => rw [hp] at h; cases h
    | ok u m g2 =>
      rw [hp] at h
      rcases seq_in (ic := ic) (nl := nl) (g := g + 1) hl (group_next hl.txt r) ih (show i + 2 ≤ n by omega) u m g2 hp with e | ⟨hE, p, e⟩
      · rw [show i + 2 + s = i + s + 2 by omega, show g + 1 + k = g + k + 1 by omega] at e
        rw [e]
        simp only at h ⊢
        split at h
        · rename_i hc
          have hm := two_lt hl.txt hc (by omega) (by omega)
          rw [hl.two (by omega) (by decide) (by decide), if_pos hc]
          injection h with h1 h2 h3
          subst h1 h2 h3
          exact .inl (by rw [Tr.rz_grp, show m + 2 + s = m + s + 2 by omega, show g + 1 + k = g + k + 1 by omega])
        · cases h
      · rw [show i + 2 + s = i + s + 2 by omega, show g + 1 + k = g + k + 1 by omega] at e
        rw [e]; exact .inr ⟨hE, p, rfl⟩
theorem whole_ok {f : Nat → Nat} {n : Nat} {ic nl : Bool} (hf : Br.Txt f n) {t : Tr} {j g : Nat} (h : parse f n ic nl = .ok t j g) : n ≤ 1024 ∧ j = n ∧ pat f n ic nl 32 0 0 = .ok t n g := by
  unfold parse at h
  split at h
  · cases h
  rename_i hn
  unfold whole at h
  cases hp : pat f n ic nl 32 0 0 with
  | err c p => rw [hp] at h; cases h
  | ok u m g2 =>
    rw [hp] at h
    simp only at h
    split at h
    · cases h
    rename_i hj
    split at h
    · cases h
    injection h with h1 h2 h3
    subst h1 h2 h3
    have h4 := seq_next hf (group_next hf 32) (by omega) hp
    obtain rfl : m = n := by omega
    exact ⟨by omega, rfl, rfl⟩
/-- A pattern in brackets. -/
theorem parse_paren {f F : Nat → Nat} {n : Nat} {ic nl : Bool} (hf : Br.Txt f n) (hF : Br.Txt F (n + 4)) (h0 : F 0 = 92) (h1 : F 1 = 40) (hs : ∀ j, j < n → F (j + 2) = f j) (h8 : F (n + 2) = 92) (h9 : F (n + 3) = 41) (hn : n ≤ 1020) {t : Tr} {j g : Nat} (h : parse f n ic nl = .ok t j g) :
    (∃ p, parse F (n + 4) ic nl = .err 10 p) ∨ (∃ p, parse F (n + 4) ic nl = .err 11 p) ∨ parse F (n + 4) ic nl = .ok (.grp (1 : Nat) (t.rzT 1)) (n + 4) (g + 1) := by
  obtain ⟨-, -, hp⟩ := whole_ok hf h
  have hL : Lies f F n (n + 4) 2 := ⟨hf, hF, ⟨by omega, hs⟩, h8, h9⟩
  have h256 : F (n + 4) = 256 := hF.2 _ (Nat.le_refl _)
  have ha := seq_in (E := True) (ic := ic) (nl := nl) (k := 1) (g := 0) hL (group_next hf 32) (group_in hL 32 31 (.inr trivial)) (Nat.zero_le n) t n g hp
  have h2 : Bp.two F 92 40 0 = true := two_iff.2 ⟨h0, h1⟩
  have hgr : (∃ p, group F (n + 4) ic nl 32 0 0 = .err 11 p) ∨ group F (n + 4) ic nl 32 0 0 = .ok (.grp (1 : Nat) (t.rzT 1)) (n + 4) (g + 1) := by
    rw [group]
    rcases ha with e | ⟨-, p, e⟩
    · rw [e]; right
      simp only [show Bp.two F 92 41 (n + 2) = true from two_iff.2 ⟨h8, h9⟩, if_true]
    · rw [e]; exact .inl ⟨p, rfl⟩
  have hpc : (∃ p, piece F (n + 4) ic nl (group F (n + 4) ic nl 32) 0 0 = .err 11 p) ∨ piece F (n + 4) ic nl (group F (n + 4) ic nl 32) 0 0 = .ok (.grp (1 : Nat) (t.rzT 1)) (n + 4) (g + 1) := by
    have ea : atom F (n + 4) ic nl (group F (n + 4) ic nl 32) 0 0 = group F (n + 4) ic nl 32 0 0 := by
      unfold atom; rw [if_neg (by omega), if_neg (by omega), if_pos h2]
    have he : isEnd F (n + 4) 0 = false := by unfold isEnd; rw [h0]; rfl
    have h3 : Bp.two F 92 123 0 = false := by unfold Bp.two; rw [h1]; simp
    unfold piece
    rw [he, if_neg (by decide), if_neg (by omega), h3, if_neg (by decide), ea]
    rcases hgr with ⟨p, e⟩ | e
    · rw [e]; exact .inl ⟨p, rfl⟩
    · rw [e]
      right
      simp only [rep, h256, show Bp.two F 92 123 (n + 4) = false by unfold Bp.two; rw [h256]; rfl, show ¬ (256 = 42) from by decide, Bool.false_eq_true, if_false]
  have hal : (∃ p, pat F (n + 4) ic nl 32 0 0 = .err 11 p) ∨ pat F (n + 4) ic nl 32 0 0 = .ok (.grp (1 : Nat) (t.rzT 1)) (n + 4) (g + 1) := by
    rw [pat, seq, if_neg (by omega), star, if_neg (by omega), loop, if_neg (by
      rintro (h | h)
      · omega
      · have := (two_iff.1 h).2; simp only [Nat.zero_add] at this; omega)]
    rcases hpc with ⟨p, e⟩ | e
    · rw [e]; exact .inl ⟨p, rfl⟩
    · rw [e]
      right
      simp only
      rw [loop, if_pos (.inl (Nat.le_refl _))]
      rfl
  unfold parse
  rw [if_neg (by omega)]
  unfold whole
  rcases hal with ⟨p, e⟩ | e
  · rw [e]; exact .inr (.inl ⟨p, rfl⟩)
  · rw [e]
    simp only [Nat.lt_irrefl, if_false]
    split
    · exact .inl ⟨_, rfl⟩
    · exact .inr (.inr rfl)
end Bp
end Go.Proofs.YtlbhbjmobcikfaaGreatDoor
/- trawlnum.CopyNode: the copy's lists lie each in a block of its own. -/
namespace Go.Proofs.YtlbhbjmobcikfaaGreatDoor
open Go.RowKit
/-- Members of a list under way: their lists lie in blocks of their own, apart from the list's block. -/
def MemsAt (w : World) (base : Nat) (v : Value) (ps : List (Tr × Value)) : Prop :=
  ∃ L : Nat → List Nat, (∀ (i : Nat) (t : Tr) (s : Value), ps[i]? = some (t, s) → Owned w s t.subs (L i)) ∧ (∀ i b, i < ps.length → b ∈ L i → base ≤ b ∧ v.ownBlock ≠ some b) ∧ (∀ i j b, i < ps.length → j < ps.length → i ≠ j → b ∈ L i → b ∉ L j)
theorem MemsAt.nil (w : World) (base : Nat) (v : Value) : MemsAt w base v [] := ⟨fun _ => [], fun i t s h => by simp at h, fun i b h => by simp at h, fun i j b h => by simp at h⟩
theorem MemsAt.step {wr w3 w4 : World} {base : Nat} {v v' : Value} {ps : List (Tr × Value)} {x : Tr} {s : Value} {F : List Nat} (h : MemsAt wr base v ps) (hb : Below wr.heap.size wr w3) (ho : Owned w3 s x.subs F) (hF : ∀ b, b ∈ F → wr.heap.size ≤ b) (hbase : base ≤ wr.heap.size)
    (hv : ∀ g, v.ownBlock = some g → g < wr.heap.size) (hg : w3.grownBy w4 v.ownBlock) (hw : v'.ownBlock = v.ownBlock ∨ v'.ownBlock = some w3.heap.size) : MemsAt w4 base v' (ps ++ [(x, s)]) := by
  obtain ⟨L, h1, h2, h3⟩ := h
  have hlt : ∀ i b, i < ps.length → b ∈ L i → b < wr.heap.size := fun i b hi hb' => (h1 i ps[i].1 ps[i].2 (List.getElem?_eq_getElem hi)).lt b hb'
  have hnew : ∀ b, b < w3.heap.size → v.ownBlock ≠ some b → v'.ownBlock ≠ some b := fun b hb' hne => by
    rcases hw with e | e
    · rw [e]; exact hne
    · rw [e]; intro h; have := Option.some.inj h; omega
  have hFv : ∀ b, b ∈ F → v.ownBlock ≠ some b := fun b hb' e => by have := hv b e; have := hF b hb'; omega
  refine ⟨pick L ps.length F, fun i t s' hi => ?_, fun i b hi hbL => ?_, fun i j b hi hj hij h5 h6 => ?_⟩
  · by_cases hip : i < ps.length
    · rw [List.getElem?_append_left hip] at hi
      rw [pick_ne _ _ _ (by omega)]
      exact ((h1 i t s' hi).later hb).keep fun b hb' => hg.block b (Nat.lt_of_lt_of_le (hlt i b hip hb') hb.size) (fun e => (h2 i b hip hb').2 e.symm)
    · rw [List.getElem?_append_right (by omega)] at hi
      have hi0 : i - ps.length = 0 := by
        by_cases h0 : i - ps.length = 0
        · exact h0
        · rw [List.getElem?_eq_none (by simp; omega)] at hi; cases hi
      rw [hi0] at hi
      simp only [List.getElem?_cons_zero, Option.some.injEq, Prod.mk.injEq] at hi
      obtain ⟨rfl, rfl⟩ := hi
      obtain rfl : i = ps.length := by omega
      rw [pick_eq]
      exact ho.keep fun b hb' => hg.block b (ho.lt b hb') (fun e => hFv b hb' e.symm)
  · rw [List.length_append] at hi
    by_cases e : i = ps.length
    · subst e; rw [pick_eq] at hbL
      exact ⟨by have := hF b hbL; omega, hnew b (ho.lt b hbL) (hFv b hbL)⟩
    · rw [pick_ne _ _ _ e] at hbL
      have hip : i < ps.length := by simp at hi; omega
      exact ⟨(h2 i b hip hbL).1, hnew b (Nat.lt_of_lt_of_le (hlt i b hip hbL) hb.size) (h2 i b hip hbL).2⟩
  · rw [List.length_append] at hi hj
    simp only [List.length_cons, List.length_nil] at hi hj
    by_cases e : i = ps.length
    · subst e
      rw [pick_eq] at h5; rw [pick_ne _ _ _ (Ne.symm hij)] at h6
      have := hF b h5; have := hlt j b (by omega) h6; omega
    · rw [pick_ne _ _ _ e] at h5
      by_cases e2 : j = ps.length
      · subst e2; rw [pick_eq] at h6
        have := hF b h6; have := hlt i b (by omega) h5; omega
      · rw [pick_ne _ _ _ e2] at h6; exact h3 i j b (by omega) (by omega) hij h5 h6
/-- A row that a call owns, its members' lists apart. -/
theorem owned_of_row {w : World} {base : Nat} {v : Value} {n : Nat} {ps : List (Tr × Value)} (h : w.ownsRow base 28 10 v n (rowOf ps)) (hn : ps.length * 96 ≤ 140737488351232) (hm : MemsAt w base v ps) :
    ∃ F, Owned w v (ps.map (·.1)) F ∧ ∀ b, b ∈ F → base ≤ b := by
  obtain ⟨L, h1, h2, h3⟩ := hm
  have hlen : ps.length = n := by have := h.1; rw [rowOf_length] at this; omega
  have hcells := fun g hv => World.ownsRow.cells h (g := g) hv
  rcases h.2 with ⟨rfl, hn0⟩ | ⟨g, cap, cur, rfl, hbg, hheap, -⟩
  · have : ps = [] := List.length_eq_zero_iff.1 (by omega)
    subst this
    exact ⟨[], Owned.nil _ _, fun b hb => by cases hb⟩
  · have hc := hcells g rfl
    have key : ∀ (i : Nat) (t : Tr) (s : Value), ps[i]? = some (t, s) → TenAt w g (0 + i * 10) t s := by
      intro i t s hi
      have get : ∀ j u, j < 10 → (t.cells s)[j]? = some u → w.cell? ⟨g, 0 + i * 10 + j, none⟩ = some u := by
        intro j u hj hu
        have := hc (i * 10 + j) u (by rw [rowOf_get ps i t s hi j hj]; exact hu)
        have ea : (⟨g, 0, none⟩ : Addr).add (i * 10 + j) = ⟨g, 0 + i * 10 + j, none⟩ := by unfold Addr.add; split <;> simp_all <;> omega
        rw [ea] at this; exact this
      exact ⟨get 0 _ (by omega) rfl, get 1 _ (by omega) rfl, get 2 _ (by omega) rfl, get 3 _ (by omega) rfl, get 4 _ (by omega) rfl, get 5 _ (by omega) rfl, get 6 _ (by omega) rfl, get 7 _ (by omega) rfl, get 8 _ (by omega) rfl, get 9 _ (by omega) rfl⟩
    have hl2 : n = (ps.map (·.1)).length := by rw [List.length_map]; omega
    rw [hl2]
    have split : ∀ (i : Nat) (t : Tr), (ps.map (·.1))[i]? = some t → ∃ s, ps[i]? = some (t, s) := by
      intro i t hi
      rw [List.getElem?_map] at hi
      cases hx : ps[i]? with
      | none => rw [hx] at hi; cases hi
      | some x => rw [hx] at hi; cases x with | mk a b => simp only [Option.map_some, Option.some.injEq] at hi; subst hi; exact ⟨b, rfl⟩
    refine ⟨_, .row g 0 cap (ps.map (·.1)) (fun i => ((ps[i]?).map (·.2)).getD undef) L (by rw [List.length_map]; exact hn) ⟨_, _, hheap⟩ (fun i t hi => ?_) (fun i t hi => ?_) (fun i hi hgL => ?_) (fun i j b hi hj => ?_), fun b hb => ?_⟩
    · obtain ⟨s, hs'⟩ := split i t hi
      simp only [hs', Option.map_some, Option.getD_some]; exact key i t s hs'
    · obtain ⟨s, hs'⟩ := split i t hi
      simp only [hs', Option.map_some, Option.getD_some]
      exact h1 i t s hs'
    · rw [List.length_map] at hi; exact (h2 i g hi hgL).2 rfl
    · rw [List.length_map] at hi hj; exact h3 i j b hi hj
    · rcases List.mem_cons.1 hb with rfl | hb
      · exact hbg
      · obtain ⟨i, hi, hb⟩ := mem_range_flatMap.1 hb
        rw [List.length_map] at hi; exact (h2 i b hi hb).1
set_option maxRecDepth 100000 in
set_option maxHeartbeats 4000000 in
theorem copynode_own : ∀ t : Tr, ∀ (w : World) (B : Nat → Prop) (v : Value), NodeV w B v t → Calls Tryz.prog 27 #[v] w (OwnEnd t w) := by
  intro t
  induction t using Tr.rec_subs with
  | h t ih =>
    intro w B v hv
    obtain ⟨s, rfl, hs⟩ := hv
    obtain ⟨p, cap, rfl, hlen⟩ := hs.slice
    cases t with | node k a b c d ts n lo hi br =>
    simp only [Tr.cells, Tr.kind, Tr.w0, Tr.w1, Tr.w2, Tr.w3, Tr.num, Tr.least, Tr.most, Tr.bare, Tr.subs] at *
    have IH := Lib.hid ih
    have HS := Lib.hid hs
    clear ih hs
    go_enter Tryz.func27, Tryz.ntmps27
    obtain ⟨ie, hi0, hz0, hz1, hz2⟩ := info_parts Tryz.infoNode
    have HI := Lib.hid hi0; have HZ0 := Lib.hid hz0; have HZ1 := Lib.hid hz1; have HZ2 := Lib.hid hz2
    clear hi0 hz0 hz1 hz2
    go_wp2
    go_loopw [9, 3] (fun iv sv wr => ∃ ps : List (Tr × Value), iv = .int .i64 ps.length ∧ ps.length ≤ ts.length ∧ Hid (ps.map (·.1) = ts.take ps.length) ∧ Hid (wr.ownsRow (w.heap.size + 2) 28 10 sv ps.length (rowOf ps)) ∧
      Hid (MemsAt wr (w.heap.size + 2) sv ps) ∧ Hid (Below w.heap.size w wr) ∧ w.heap.size + 1 < wr.heap.size ∧
      Hid (wr.heap[w.heap.size]? = some (.cells #[.int .i64 k, .int .u64 (Oc.U a), .int .u64 (Oc.U b), .int .u64 (Oc.U c), .int .u64 (Oc.U d), .slice p ts.length cap, .int .i64 n, .int .i64 lo, .int .i64 hi, .bool br] 28)) ∧ Hid (wr.heap[w.heap.size + 1]? = some (.cells #[.int .i64 0, .int .u64 0, .int .u64 0, .int .u64 0, .int .u64 0, .slice none 0 0, .int .i64 0, .int .i64 0, .int .i64 0, .bool false] 28))) (fun iv _ _ => ts.length - (intOf iv).toNat)
    case atStart =>
      exact ⟨[], rfl, Nat.zero_le _, Lib.hid (by simp), Lib.hid (World.ownsRow_nil _ _ _ _), Lib.hid (MemsAt.nil _ _ _), Lib.hid (by go_grown), by simp, Lib.hid (two_new _ _ _).1, Lib.hid (two_new _ _ _).2⟩
    case round =>
      obtain ⟨ps, rfl, hm, hmap, hown, hsubs, HB, hsz, Z0, Z1⟩ := hrel
      have wm : IntKind.i64.wrap ((ps.length : Int) + 1) = (ps.length : Int) + 1 := IntWalk.i64_in _ (by omega)
      by_cases hlt : ps.length < ts.length
      · obtain ⟨x, hx⟩ : ∃ x, ts[ps.length]? = some x := ⟨_, List.getElem?_eq_getElem hlt⟩
        obtain ⟨b1, o1, s1, rfl, -, t1, sub1⟩ := HS.out.get hx
        obtain ⟨d0, d1, d2, d3, d4, d5, d6, d7, d8, d9⟩ := t1.keep (HB.out.block _ t1.lt)
        obtain ⟨p1, c1, rfl, hl1⟩ := sub1.slice
        have HC := Lib.hid (fun w9 hb => IH.out x (List.mem_of_getElem? hx) w9 B (.agg (x.cells (.slice p1 x.subs.length c1))) ⟨_, rfl, sub1.later hb⟩)
        have HX := Lib.hid hx
        clear t1 sub1 hx
        go_wp2_with fail
        generalize hw1 : World.alloc wr _ = w1
        have hb1 : Below wr.heap.size wr w1 := by rw [← hw1]; exact (Below.refl _ _).alloc (Nat.le_refl _) _
        have hs1 : w1.heap.size = wr.heap.size + 1 := by rw [← hw1]; simp
        clear hw1
        refine (HC.out w1 (HB.out.trans (hb1.mono HB.out.size))).mono ?_
        intro e w2 he2
        obtain ⟨s2, F2, rfl, hsub2, hF2, hb2⟩ := he2
        obtain ⟨p2, c2, rfl, hl2⟩ := hsub2.slice
        have hb12 : Below wr.heap.size wr w2 := hb1.trans (hb2.mono hb1.size)
        have HB2 := Lib.hid (HB.out.trans (hb12.mono HB.out.size))
        have HB12 := Lib.hid hb12
        have hs2 : w1.heap.size ≤ w2.heap.size := hb2.size
        have hown2 := (hown.out.kept (w' := w2) (row := none) ⟨hb12.os, hb12.tape, hb12.output, hb12.size, fun k hk _ => hb12.block k hk⟩ (by
          cases h : Value.ownBlock u3 with
          | none => exact .inl rfl
          | some g => exact .inr (by simp)))
        have hlt3 := hown.out.lt
        have HOWN2 := Lib.hid (hown2.alloc (.cells (x.cells (.slice p2 x.subs.length c2)) 28))
        have HSUB2 := Lib.hid hsub2; have HF2 := Lib.hid (fun b hb => Nat.le_trans (show wr.heap.size ≤ w1.heap.size by omega) (hF2 b hb)); have HLT3 := Lib.hid hlt3
        have ND := Lib.hid (heap_alloc_new w2 (.cells (x.cells (.slice p2 x.subs.length c2)) 28))
        clear hown2 hsub2 hF2 hb1 hb2 hb12 hlt3
        have HNW : Hid (∀ (j : Nat) (u : Value), (x.cells (.slice p2 x.subs.length c2)).toList[j]? = some u → (w2.alloc (.cells (x.cells (.slice p2 x.subs.length c2)) 28)).cell? ((⟨w2.heap.size, 0, none⟩ : Addr).add j) = some u) := Lib.hid (fun j u hu => by
          have ea : (⟨w2.heap.size, 0, none⟩ : Addr).add j = ⟨w2.heap.size, j, none⟩ := by unfold Addr.add; split <;> simp_all
          rw [ea, cell_new]; simpa using hu)
        have HBA : Hid (w.heap.size + 2 ≤ (w2.alloc (.cells (x.cells (.slice p2 x.subs.length c2)) 28)).heap.size) := Lib.hid (by simp; omega)
        have hml : ps.length + 1 ≤ maxLen := by unfold maxLen; omega
        have hbyt : (ps.length + 1) * 96 ≤ 140737488355328 := by omega
        go_wp2_with (first
          | (refine wpList_node1 rfl (.tmp 15) x p2 x.subs.length c2 rfl rfl ?_)
          | (refine wpList_append_fresh _ rfl (.tmp 13) (.tmp 16) 26 rfl (w.heap.size + 2) 28 ie _ 10 96 Tryz.underlying26 HI.out HZ0.out HZ1.out HZ2.out rfl (by decide) _ _ _ rfl HOWN2.out ⟨w2.heap.size, 0, none⟩ 1 1 (x.cells (.slice p2 x.subs.length c2)).toList rfl rfl HNW.out (nodeC_one _ _ _ _) (by decide) hml hbyt HBA.out ?_; intro v' w4 hown4 hgrow4 hwhere)
          | fail)
        have HG4 := Lib.hid hgrow4; have HW4 := Lib.hid hwhere
        have hb3 : Below wr.heap.size wr (w2.alloc (.cells (x.cells (.slice p2 x.subs.length c2)) 28)) := HB12.out.alloc HB12.out.size _
        have key : ∀ k, k < wr.heap.size → k < w.heap.size + 2 → w4.heap[k]? = wr.heap[k]? := fun k hk hk2 =>
          (HG4.out.block k (Nat.lt_of_lt_of_le hk hb3.size) (fun e => by have := (HLT3.out k e.symm).1; omega)).trans (hb3.block k hk)
        refine ⟨⟨ps ++ [(x, .slice p2 x.subs.length c2)], by simp, by simp; omega, Lib.hid ?_, Lib.hid ?_, Lib.hid ?_, Lib.hid ?_, ?_, Lib.hid ((key _ (by omega) (by omega)).trans Z0.out), Lib.hid ((key _ hsz (by omega)).trans Z1.out)⟩, by simp [intOf]; omega⟩
        · rw [List.map_append, hmap.out, List.length_append]
          show List.take ps.length ts ++ [x] = List.take (ps.length + 1) ts
          rw [List.take_add_one, HX.out]; rfl
        · rw [rowOf_snoc, List.length_append]; exact hown4
        · exact hsubs.out.step hb3 (HSUB2.out.later ((Below.refl _ _).alloc (Nat.le_refl _) _)) HF2.out (by omega) (fun g hg => (HLT3.out g hg).2) HG4.out HW4.out
        · exact (HB2.out.alloc HB2.out.size _).grown HG4.out (by have := HB2.out.size; simp; omega) (fun k e => by have := (HLT3.out k e).1; omega)
        · have := HG4.out.size; have h3 := hb3.size; omega
      · have hlen2 : ps.length = ts.length := by omega
        have hmap2 : ps.map (·.1) = ts := by rw [hmap.out, hlen2, List.take_length]
        have hlt3 := hown.out.lt
        obtain ⟨F, htr, hF⟩ := owned_of_row hown.out (by omega) hsubs.out
        rw [hmap2] at htr
        have HTR := Lib.hid htr; have HFB := Lib.hid hF
        obtain ⟨f5, g5⟩ := at5 Z0.out
        have Z0s := Lib.hid (set5 (y := u3) Z0.out)
        have Z1s : Hid ((wr.setCell ⟨w.heap.size, 5, none⟩ u3).heap[w.heap.size + 1]? = some (.cells #[.int .i64 0, .int .u64 0, .int .u64 0, .int .u64 0, .int .u64 0, .slice none 0 0, .int .i64 0, .int .i64 0, .int .i64 0, .bool false] 28)) := Lib.hid (by rw [Below.heap_setCell _ _ _ _ (by simp)]; exact Z1.out)
        clear htr hlt3 hmap2 hF
        obtain ⟨q3, l3, c3, rfl⟩ : ∃ q l c, u3 = .slice q l c := by
          obtain ⟨q, c, e, -⟩ := HTR.out.slice; exact ⟨_, _, _, e⟩
        go_wp2_with (first
          | (refine wpList_load_row rfl 28 (.tmp 1) rfl w.heap.size rfl 28 _ (0, 0) _ Z0s.out Tryz.underlying28 rfl (by kernel_rfl) ?_)
          | (refine wpList_store_row rfl 28 (.tmp 2) (.tmp 21) rfl (w.heap.size + 1) #[.int .i64 k, .int .u64 (Oc.U a), .int .u64 (Oc.U b), .int .u64 (Oc.U c), .int .u64 (Oc.U d), .slice q3 l3 c3, .int .i64 n, .int .i64 lo, .int .i64 hi, .bool br] rfl rfl 28 _ Z1s.out (by kernel_rfl) rfl (by simp [Value.oneCell']) ?_)
          | fail)
        refine bodyPost_ret (results_cell_row rfl _ _ (w.heap.size + 1) 28 #[.int .i64 k, .int .u64 (Oc.U a), .int .u64 (Oc.U b), .int .u64 (Oc.U c), .int .u64 (Oc.U d), .slice q3 l3 c3, .int .i64 n, .int .i64 lo, .int .i64 hi, .bool br] (0, 0) _ rfl (heap_setRow Z1s.out) Tryz.underlying28 rfl (by kernel_rfl)) rfl ⟨_, F, rfl, ?_, (fun b hb => by have := HFB.out b hb; omega), ?_⟩
        · exact HTR.out.keep fun b hb => by
            have := HFB.out b hb
            rw [heap_setRow_other _ _ _ (by omega), Below.heap_setCell _ _ _ _ (by simp; omega)]
        · exact below_setRow (HB.out.setCell (Nat.le_refl _) _) (Nat.le_succ _) _
end Go.Proofs.YtlbhbjmobcikfaaGreatDoor
/- The law's raise and raised: the numbers of all groups of a tree, k more. -/
namespace Go.Proofs.YtlbhbjmobcikfaaGreatDoor
open Go.RowKit
/-- What raise ends with: the node at the place, and its lists, hold the raised tree; nothing else of the node's block has turned. -/
structure RaiseEnd (k : Nat) (t : Tr) (b o : Nat) (s : Value) (F : List Nat) (w : World) (e : Ending) (w' : World) : Prop where
  ret : e = .returned (.tuple #[])
  touch : Touch (b :: F) w w'
  ten : TenAt w' b o (t.rzT k) s
  own : Owned w' s (t.rzT k).subs F
  rest : ∀ j, (j < o ∨ o + 10 ≤ j) → w'.cell? ⟨b, j, none⟩ = w.cell? ⟨b, j, none⟩
  blk : ∃ cs ty, w'.heap[b]? = some (.cells cs ty (0, 0))
theorem rzT_subs (k : Nat) (t : Tr) : (t.rzT k).subs = t.subs.map (Tr.rzT k) := by rw [Tr.rzT_eq]; rfl
theorem TenAt.plain {w : World} {b o : Nat} {t : Tr} {s : Value} (h : TenAt w b o t s) (k : Nat) (h7 : t.kind ≠ 7) : TenAt w b o (t.rzT k) s := by
  rw [Tr.rzT_eq, if_neg h7]
  exact ⟨h.c0, h.c1, h.c2, h.c3, h.c4, h.c5, h.c6, h.c7, h.c8, h.c9⟩
theorem cell_set_out {w : World} {b j : Nat} {v : Value} {i : Nat} (h : i ≠ j) : (w.setCell ⟨b, j, none⟩ v).cell? ⟨b, i, none⟩ = w.cell? ⟨b, i, none⟩ :=
  World.cell?_setCells_out b [v] j w ⟨b, i, none⟩ (fun _ _ => by simp; omega)
theorem TenAt.raised {w : World} {b o : Nat} {t : Tr} {s : Value} (h : TenAt w b o t s) (hf : ∃ cs ty, w.heap[b]? = some (.cells cs ty (0, 0))) (k : Nat) (h7 : t.kind = 7) : TenAt (w.setCell ⟨b, o + 6, none⟩ (.int .i64 (t.num + k))) b o (t.rzT k) s := by
  rw [Tr.rzT_eq, if_pos h7]
  have hth : w.there b (o + 6) 1 := fun j hj => by
    obtain rfl : j = 0 := by omega
    exact ⟨by simpa using congrArg Option.isSome h.c6, frozen_of hf⟩
  have hs : (w.setCell ⟨b, o + 6, none⟩ (.int .i64 (t.num + k))).cell? ⟨b, o + 6, none⟩ = some (.int .i64 (t.num + k)) := World.rangeAt_setCells_same w b (o + 6) [.int .i64 (t.num + k)] (by simpa using hth) 0 _ rfl
  exact ⟨(cell_set_out (by omega)).trans h.c0, (cell_set_out (by omega)).trans h.c1, (cell_set_out (by omega)).trans h.c2, (cell_set_out (by omega)).trans h.c3, (cell_set_out (by omega)).trans h.c4, (cell_set_out (by omega)).trans h.c5, hs, (cell_set_out (by omega)).trans h.c7, (cell_set_out (by omega)).trans h.c8, (cell_set_out (by omega)).trans h.c9⟩
/-- A store of one cell turns its block alone. -/
theorem set_touch (w : World) (b j : Nat) (v : Value) (F : List Nat) : Touch (b :: F) w (w.setCell ⟨b, j, none⟩ v) := (Touch.of_below (b :: F) (Below.refl w.heap.size w)).setCells List.mem_cons_self j [v]
theorem set_blk {w : World} {b : Nat} (h : ∃ cs ty, w.heap[b]? = some (.cells cs ty (0, 0))) (j : Nat) (v : Value) : ∃ cs ty, (w.setCell ⟨b, j, none⟩ v).heap[b]? = some (.cells cs ty (0, 0)) := cells_setCells [v] j w h
theorem set_other {w : World} {b j g : Nat} {v : Value} (h : g ≠ b) : (w.setCell ⟨b, j, none⟩ v).heap[g]? = w.heap[g]? := heap_setCells_other h [v] j w
/-- The members of a list while the first m of them have been raised. -/
def Halfway (k m : Nat) (ts : List Tr) (g o : Nat) (S : Nat → Value) (L : Nat → List Nat) (w : World) : Prop :=
  ∀ j u, ts[j]? = some u → TenAt w g (o + j * 10) (if j < m then u.rzT k else u) (S j) ∧ Owned w (S j) (if j < m then u.rzT k else u).subs (L j)
theorem Halfway.start {k : Nat} {ts : List Tr} {g o : Nat} {S : Nat → Value} {L : Nat → List Nat} {w w' : World} (hc : ∀ j u, ts[j]? = some u → TenAt w g (o + j * 10) u (S j)) (hs : ∀ j u, ts[j]? = some u → Owned w (S j) u.subs (L j)) (hb : ∀ q, q = g ∨ (∃ i, i < ts.length ∧ q ∈ L i) → w'.heap[q]? = w.heap[q]?) : Halfway k 0 ts g o S L w' :=
  fun j u hj => by
    simp only [Nat.not_lt_zero, if_false]
    exact ⟨(hc j u hj).keep (hb g (.inl rfl)), (hs j u hj).keep fun q hq => hb q (.inr ⟨j, lt_of_some hj, hq⟩)⟩
theorem Halfway.step {k m : Nat} {ts : List Tr} {g o : Nat} {S : Nat → Value} {L : Nat → List Nat} {w w2 : World} {x : Tr} {e : Ending} (h : Halfway k m ts g o S L w) (hx : ts[m]? = some x) (hr : RaiseEnd k x g (o + m * 10) (S m) (L m) w e w2)
    (hg : ∀ i, i < ts.length → g ∉ L i) (hd : ∀ i j b, i < ts.length → j < ts.length → i ≠ j → b ∈ L i → b ∉ L j) : Halfway k (m + 1) ts g o S L w2 := fun j u hj => by
  have hjl := lt_of_some hj
  by_cases e : j = m
  · subst e
    rw [hx] at hj
    obtain rfl := Option.some.inj hj
    rw [if_pos (by omega)]
    exact ⟨hr.ten, hr.own⟩
  · obtain ⟨q1, q2⟩ := h j u hj
    have hif : (if j < m + 1 then u.rzT k else u) = (if j < m then u.rzT k else u) := by
      by_cases h : j < m
      · rw [if_pos h, if_pos (by omega)]
      · rw [if_neg h, if_neg (by omega)]
    rw [hif]
    have c : ∀ i, i < 10 → w2.cell? ⟨g, o + j * 10 + i, none⟩ = w.cell? ⟨g, o + j * 10 + i, none⟩ := fun i hi => hr.rest _ (by omega)
    refine ⟨⟨(c 0 (by omega)).trans q1.c0, (c 1 (by omega)).trans q1.c1, (c 2 (by omega)).trans q1.c2, (c 3 (by omega)).trans q1.c3, (c 4 (by omega)).trans q1.c4, (c 5 (by omega)).trans q1.c5, (c 6 (by omega)).trans q1.c6, (c 7 (by omega)).trans q1.c7, (c 8 (by omega)).trans q1.c8, (c 9 (by omega)).trans q1.c9⟩, ?_⟩
    exact q2.keep fun b hb => hr.touch.block b (q2.lt b hb) (fun hm => by
      rcases List.mem_cons.1 hm with rfl | hm
      · exact hg j hjl hb
      · exact hd j m b hjl (lt_of_some hx) e hb hm)
theorem Halfway.done {k : Nat} {ts : List Tr} {g o cap : Nat} {S : Nat → Value} {L : Nat → List Nat} {w : World} (h : Halfway k ts.length ts g o S L w) (hlen : ts.length * 96 ≤ 140737488351232) (hf : ∃ cs ty, w.heap[g]? = some (.cells cs ty (0, 0)))
    (hg : ∀ i, i < ts.length → g ∉ L i) (hd : ∀ i j b, i < ts.length → j < ts.length → i ≠ j → b ∈ L i → b ∉ L j) : Owned w (.slice (some ⟨g, o, none⟩) ts.length cap) (ts.map (Tr.rzT k)) (g :: (List.range ts.length).flatMap L) := by
  have get : ∀ (i : Nat) (t : Tr), (ts.map (Tr.rzT k))[i]? = some t → ∃ u : Tr, ts[i]? = some u ∧ t = u.rzT k := fun i t hi => by
    rw [List.getElem?_map] at hi
    cases hx : ts[i]? with
    | none => rw [hx] at hi; cases hi
    | some u => rw [hx] at hi; exact ⟨u, rfl, (Option.some.inj hi).symm⟩
  have : Owned w (.slice (some ⟨g, o, none⟩) (ts.map (Tr.rzT k)).length cap) (ts.map (Tr.rzT k)) (g :: (List.range (ts.map (Tr.rzT k)).length).flatMap L) :=
    .row g o cap (ts.map (Tr.rzT k)) S L (by rw [List.length_map]; exact hlen) hf (fun i t hi => by
      obtain ⟨u, hu, rfl⟩ := get i t hi
      have := (h i u hu).1
      rw [if_pos (lt_of_some hu)] at this; exact this) (fun i t hi => by
      obtain ⟨u, hu, rfl⟩ := get i t hi
      have := (h i u hu).2
      rw [if_pos (lt_of_some hu)] at this; exact this) (fun i hi => hg i (by rwa [List.length_map] at hi)) (fun i j b hi hj => hd i j b (by rwa [List.length_map] at hi) (by rwa [List.length_map] at hj))
  rw [List.length_map] at this
  exact this
end Go.Proofs.YtlbhbjmobcikfaaGreatDoor
/- The law's raise: the numbers of all groups of a tree, one more. -/
namespace Go.Proofs.YtlbhbjmobcikfaaGreatDoor
open Go.RowKit
set_option maxRecDepth 100000 in
set_option maxHeartbeats 8000000 in
theorem raise7_any : ∀ t : Tr, t.InForm → ∀ (w : World) (b o : Nat) (s : Value) (F : List Nat), TenAt w b o t s → Owned w s t.subs F → b ∉ F → (∃ cs ty, w.heap[b]? = some (.cells cs ty (0, 0))) →
    Calls Tryz.prog 28 #[.pointer (some ⟨b, o, none⟩)] w (RaiseEnd 1 t b o s F w) := by
  intro t
  induction t using Tr.rec_subs with
  | h t ih =>
    intro hform w b o s F hten hO hbF hblk
    have hnum : t.kind = 7 → 1 ≤ t.num ∧ t.num ≤ 999 := fun h7 => by
      have hfl := hform.fields
      unfold Tr.fieldsOk at hfl
      rcases hfl with h | h | h | h | h <;> omega
    have hlt := hO.lt
    generalize hts : t.subs = ts at hO
    cases hO with
    | nil p cap =>
      clear hlt
      by_cases h7 : t.kind = 7
      ·
        have hT1 : TenAt (w.setCell ⟨b, o + 6, none⟩ (.int .i64 (t.num + 1))) b o (t.rzT 1) _ := hten.raised hblk 1 h7
        have ht0 := set_touch w b (o + 6) (.int .i64 (t.num + 1)) []
        have hr0 : ∀ j, (j < o ∨ o + 10 ≤ j) → (w.setCell ⟨b, o + 6, none⟩ (.int .i64 (t.num + 1))).cell? ⟨b, j, none⟩ = w.cell? ⟨b, j, none⟩ := fun j hj => cell_set_out (by omega)
        have hk0 := set_blk hblk (o + 6) (.int .i64 (t.num + 1))
        have hb0 : ∀ q, q ≠ b → (w.setCell ⟨b, o + 6, none⟩ (.int .i64 (t.num + 1))).heap[q]? = w.heap[q]? := fun q hq => set_other hq
        have gz := frozen_of (o := o + 6) hblk
        have wn : IntKind.i64.wrap (t.num + 1) = t.num + 1 := IntWalk.i64_in _ (by have := hnum h7; omega)
        obtain ⟨d0, d1, d2, d3, d4, d5, d6, d7, d8, d9⟩ := hten
        rw [h7] at d0
        have e5 := hT1.c5
        have HT1 := Lib.hid hT1; have HT0 := Lib.hid ht0; have HR0 := Lib.hid hr0; have HK0 := Lib.hid hk0
        clear hT1 ht0 hr0 hk0 hb0 hblk hnum ih hbF hform
        go_enter Tryz.func28, Tryz.ntmps28
        go_wp2
        generalize hW1 : (w.setCell ⟨b, o + 6, none⟩ (.int .i64 (t.num + 1))) = W1 at *
        clear hW1
        go_loopw [20] (fun iv wr => iv = .int .i64 0 ∧ wr = W1) (fun _ _ => 0)
        case atStart => exact ⟨rfl, rfl⟩
        case round =>
          obtain ⟨rfl, rfl⟩ := hrel
          go_wp2
          go_end0
          exact ⟨rfl, HT0.out, HT1.out, by rw [rzT_subs, hts]; exact .nil p cap, HR0.out, HK0.out⟩
      ·
        have hT1 := hten.plain 1 h7
        have ht0 := Touch.of_below [b] (Below.refl w.heap.size w)
        have hr0 : ∀ j, (j < o ∨ o + 10 ≤ j) → w.cell? ⟨b, j, none⟩ = w.cell? ⟨b, j, none⟩ := fun _ _ => rfl
        have hk0 := hblk
        have hb0 : ∀ q, q ≠ b → w.heap[q]? = w.heap[q]? := fun _ _ => rfl
        have e7 : (t.kind == 7) = false := by simpa using h7
        obtain ⟨d0, d1, d2, d3, d4, d5, d6, d7, d8, d9⟩ := hten
        have HT1 := Lib.hid hT1; have HT0 := Lib.hid ht0; have HR0 := Lib.hid hr0; have HK0 := Lib.hid hk0
        clear hT1 ht0 hr0 hk0 hb0 hblk hnum ih hbF hform
        go_enter Tryz.func28, Tryz.ntmps28
        go_wp2
        have e5 := d5
        go_loopw [20] (fun iv wr => iv = .int .i64 0 ∧ wr = w) (fun _ _ => 0)
        case atStart => exact ⟨rfl, rfl⟩
        case round =>
          obtain ⟨rfl, rfl⟩ := hrel
          go_wp2
          go_end0
          exact ⟨rfl, HT0.out, HT1.out, by rw [rzT_subs, hts]; exact .nil p cap, (fun _ _ => rfl), HK0.out⟩
    | row g o2 cap _ S L hlen hf hc hs hgL hd =>
      by_cases h7 : t.kind = 7
      ·
        have hT1 : TenAt (w.setCell ⟨b, o + 6, none⟩ (.int .i64 (t.num + 1))) b o (t.rzT 1) _ := hten.raised hblk 1 h7
        have ht0 := set_touch w b (o + 6) (.int .i64 (t.num + 1)) (g :: (List.range ts.length).flatMap L)
        have hr0 : ∀ j, (j < o ∨ o + 10 ≤ j) → (w.setCell ⟨b, o + 6, none⟩ (.int .i64 (t.num + 1))).cell? ⟨b, j, none⟩ = w.cell? ⟨b, j, none⟩ := fun j hj => cell_set_out (by omega)
        have hk0 := set_blk hblk (o + 6) (.int .i64 (t.num + 1))
        have hb0 : ∀ q, q ≠ b → (w.setCell ⟨b, o + 6, none⟩ (.int .i64 (t.num + 1))).heap[q]? = w.heap[q]? := fun q hq => set_other hq
        have gz := frozen_of (o := o + 6) hblk
        have wn : IntKind.i64.wrap (t.num + 1) = t.num + 1 := IntWalk.i64_in _ (by have := hnum h7; omega)
        obtain ⟨d0, d1, d2, d3, d4, d5, d6, d7, d8, d9⟩ := hten
        rw [h7] at d0
        have e5 := hT1.c5
        have hH := Halfway.start (k := 1) (w' := (w.setCell ⟨b, o + 6, none⟩ (.int .i64 (t.num + 1)))) hc hs (fun q hq => hb0 q (fun e => hbF (by subst e; rcases hq with rfl | ⟨i, hi, hq⟩; exact List.mem_cons_self; exact List.mem_cons_of_mem _ (mem_range_flatMap.2 ⟨i, hi, hq⟩))))
        have hgb : g ≠ b := fun e => hbF (by subst e; exact List.mem_cons_self)
        have hf0 : ∃ cs ty, (w.setCell ⟨b, o + 6, none⟩ (.int .i64 (t.num + 1))).heap[g]? = some (.cells cs ty (0, 0)) := by rw [hb0 g hgb]; exact hf
        have HT1 := Lib.hid hT1; have HT0 := Lib.hid ht0; have HR0 := Lib.hid hr0; have HK0 := Lib.hid hk0
        have HH := Lib.hid hH; have HF0 := Lib.hid hf0; have HGL := Lib.hid hgL; have HD := Lib.hid hd; have HBF := Lib.hid hbF; have HLEN := Lib.hid hlen; have HFM := Lib.hid hform; have HTS := Lib.hid hts; have IH := Lib.hid ih; have HOB := Lib.hid hlt
        clear hT1 ht0 hr0 hk0 hb0 hblk hnum ih hbF hform hH hf0 hc hs hf hgL hd hlt hts
        go_enter Tryz.func28, Tryz.ntmps28
        go_wp2
        generalize hW1 : (w.setCell ⟨b, o + 6, none⟩ (.int .i64 (t.num + 1))) = W1 at *
        clear hW1
        go_loopw [20] (fun iv wr => ∃ m : Nat, iv = .int .i64 m ∧ m ≤ ts.length ∧ Hid (Touch (b :: g :: (List.range ts.length).flatMap L) w wr) ∧ Hid (TenAt wr b o (t.rzT 1) (.slice (some ⟨g, o2, none⟩) ts.length cap)) ∧ Hid (∀ j, (j < o ∨ o + 10 ≤ j) → wr.cell? ⟨b, j, none⟩ = w.cell? ⟨b, j, none⟩) ∧ Hid (∃ cs ty, wr.heap[b]? = some (.cells cs ty (0, 0))) ∧ Hid (∃ cs ty, wr.heap[g]? = some (.cells cs ty (0, 0))) ∧ Hid (Halfway 1 m ts g o2 S L wr)) (fun iv _ => ts.length - (intOf iv).toNat)
        case atStart => exact ⟨0, rfl, Nat.zero_le _, HT0, HT1, HR0, HK0, HF0, HH⟩
        case round =>
          obtain ⟨m, rfl, hm, HT, HTEN, HR, HK, HF, HM⟩ := hrel
          have wm : IntKind.i64.wrap ((m : Int) + 1) = (m : Int) + 1 := IntWalk.i64_in _ (by have := HLEN.out; omega)
          by_cases hlt : m < ts.length
          · obtain ⟨x, hx⟩ : ∃ x, ts[m]? = some x := ⟨_, List.getElem?_eq_getElem hlt⟩
            have hmem : x ∈ t.subs := by rw [HTS.out]; exact List.mem_of_getElem? hx
            obtain ⟨q1, q2⟩ := HM.out m x hx
            rw [if_neg (Nat.lt_irrefl m)] at q1 q2
            have HC := Lib.hid (IH.out x hmem (HFM.out.sub hmem) wr g (o2 + m * 10) (S m) (L m) q1 q2 (HGL.out m hlt) HF.out)
            have f5 := HTEN.out.c5
            have HX := Lib.hid hx
            have hbytes := HLEN.out
            clear hmem q1 q2 hx
            go_wp2_with fail
            refine HC.out.mono ?_
            intro e w2 he
            obtain rfl := he.ret
            have hbm : b ∉ g :: L m := fun h => HBF.out (by
              rcases List.mem_cons.1 h with rfl | h
              · exact List.mem_cons_self
              · exact List.mem_cons_of_mem _ (mem_range_flatMap.2 ⟨m, hlt, h⟩))
            have hkb : w2.heap[b]? = wr.heap[b]? := he.touch.block b HTEN.out.lt hbm
            have HT2 := Lib.hid (HT.out.trans (he.touch.mono fun q hq => by
              rcases List.mem_cons.1 hq with rfl | hq
              · exact List.mem_cons_of_mem _ List.mem_cons_self
              · exact List.mem_cons_of_mem _ (List.mem_cons_of_mem _ (mem_range_flatMap.2 ⟨m, hlt, hq⟩))))
            have HTEN2 := Lib.hid (HTEN.out.keep hkb)
            have HR2 := Lib.hid (fun j hj => (show w2.cell? ⟨b, j, none⟩ = wr.cell? ⟨b, j, none⟩ by unfold World.cell?; rw [hkb]).trans (HR.out j hj))
            have HK2 : Hid (∃ cs ty, w2.heap[b]? = some (.cells cs ty (0, 0))) := Lib.hid (by rw [hkb]; exact HK.out)
            have HF2 := Lib.hid he.blk
            have HM2 := Lib.hid (HM.out.step HX.out he HGL.out HD.out)
            clear he hbm hkb f5
            go_wp2
            exact ⟨⟨m + 1, by go_num, by omega, HT2, HTEN2, HR2, HK2, HF2, HM2⟩, by simp [intOf]; omega⟩
          · obtain rfl : m = ts.length := by omega
            go_wp2
            go_end0
            exact ⟨rfl, HT.out, HTEN.out, by rw [rzT_subs, HTS.out]; exact HM.out.done HLEN.out HF.out HGL.out HD.out, HR.out, HK.out⟩
      ·
        have hT1 := hten.plain 1 h7
        have ht0 := Touch.of_below (b :: g :: (List.range ts.length).flatMap L) (Below.refl w.heap.size w)
        have hr0 : ∀ j, (j < o ∨ o + 10 ≤ j) → w.cell? ⟨b, j, none⟩ = w.cell? ⟨b, j, none⟩ := fun _ _ => rfl
        have hk0 := hblk
        have hb0 : ∀ q, q ≠ b → w.heap[q]? = w.heap[q]? := fun _ _ => rfl
        have e7 : (t.kind == 7) = false := by simpa using h7
        obtain ⟨d0, d1, d2, d3, d4, d5, d6, d7, d8, d9⟩ := hten
        have hH := Halfway.start (k := 1) (w' := w) hc hs (fun q hq => hb0 q (fun e => hbF (by subst e; rcases hq with rfl | ⟨i, hi, hq⟩; exact List.mem_cons_self; exact List.mem_cons_of_mem _ (mem_range_flatMap.2 ⟨i, hi, hq⟩))))
        have hgb : g ≠ b := fun e => hbF (by subst e; exact List.mem_cons_self)
        have hf0 : ∃ cs ty, w.heap[g]? = some (.cells cs ty (0, 0)) := by rw [hb0 g hgb]; exact hf
        have HT1 := Lib.hid hT1; have HT0 := Lib.hid ht0; have HR0 := Lib.hid hr0; have HK0 := Lib.hid hk0
        have HH := Lib.hid hH; have HF0 := Lib.hid hf0; have HGL := Lib.hid hgL; have HD := Lib.hid hd; have HBF := Lib.hid hbF; have HLEN := Lib.hid hlen; have HFM := Lib.hid hform; have HTS := Lib.hid hts; have IH := Lib.hid ih; have HOB := Lib.hid hlt
        clear hT1 ht0 hr0 hk0 hb0 hblk hnum ih hbF hform hH hf0 hc hs hf hgL hd hlt hts
        go_enter Tryz.func28, Tryz.ntmps28
        go_wp2
        have e5 := d5
        go_loopw [20] (fun iv wr => ∃ m : Nat, iv = .int .i64 m ∧ m ≤ ts.length ∧ Hid (Touch (b :: g :: (List.range ts.length).flatMap L) w wr) ∧ Hid (TenAt wr b o (t.rzT 1) (.slice (some ⟨g, o2, none⟩) ts.length cap)) ∧ Hid (∀ j, (j < o ∨ o + 10 ≤ j) → wr.cell? ⟨b, j, none⟩ = w.cell? ⟨b, j, none⟩) ∧ Hid (∃ cs ty, wr.heap[b]? = some (.cells cs ty (0, 0))) ∧ Hid (∃ cs ty, wr.heap[g]? = some (.cells cs ty (0, 0))) ∧ Hid (Halfway 1 m ts g o2 S L wr)) (fun iv _ => ts.length - (intOf iv).toNat)
        case atStart => exact ⟨0, rfl, Nat.zero_le _, HT0, HT1, Lib.hid (fun _ _ => rfl), HK0, HF0, HH⟩
        case round =>
          obtain ⟨m, rfl, hm, HT, HTEN, HR, HK, HF, HM⟩ := hrel
          have wm : IntKind.i64.wrap ((m : Int) + 1) = (m : Int) + 1 := IntWalk.i64_in _ (by have := HLEN.out; omega)
          by_cases hlt : m < ts.length
          · obtain ⟨x, hx⟩ : ∃ x, ts[m]? = some x := ⟨_, List.getElem?_eq_getElem hlt⟩
            have hmem : x ∈ t.subs := by rw [HTS.out]; exact List.mem_of_getElem? hx
            obtain ⟨q1, q2⟩ := HM.out m x hx
            rw [if_neg (Nat.lt_irrefl m)] at q1 q2
            have HC := Lib.hid (IH.out x hmem (HFM.out.sub hmem) wr g (o2 + m * 10) (S m) (L m) q1 q2 (HGL.out m hlt) HF.out)
            have f5 := HTEN.out.c5
            have HX := Lib.hid hx
            have hbytes := HLEN.out
            clear hmem q1 q2 hx
            go_wp2_with fail
            refine HC.out.mono ?_
            intro e w2 he
            obtain rfl := he.ret
            have hbm : b ∉ g :: L m := fun h => HBF.out (by
              rcases List.mem_cons.1 h with rfl | h
              · exact List.mem_cons_self
              · exact List.mem_cons_of_mem _ (mem_range_flatMap.2 ⟨m, hlt, h⟩))
            have hkb : w2.heap[b]? = wr.heap[b]? := he.touch.block b HTEN.out.lt hbm
            have HT2 := Lib.hid (HT.out.trans (he.touch.mono fun q hq => by
              rcases List.mem_cons.1 hq with rfl | hq
              · exact List.mem_cons_of_mem _ List.mem_cons_self
              · exact List.mem_cons_of_mem _ (List.mem_cons_of_mem _ (mem_range_flatMap.2 ⟨m, hlt, hq⟩))))
            have HTEN2 := Lib.hid (HTEN.out.keep hkb)
            have HR2 := Lib.hid (fun j hj => (show w2.cell? ⟨b, j, none⟩ = wr.cell? ⟨b, j, none⟩ by unfold World.cell?; rw [hkb]).trans (HR.out j hj))
            have HK2 : Hid (∃ cs ty, w2.heap[b]? = some (.cells cs ty (0, 0))) := Lib.hid (by rw [hkb]; exact HK.out)
            have HF2 := Lib.hid he.blk
            have HM2 := Lib.hid (HM.out.step HX.out he HGL.out HD.out)
            clear he hbm hkb f5
            go_wp2
            exact ⟨⟨m + 1, by go_num, by omega, HT2, HTEN2, HR2, HK2, HF2, HM2⟩, by simp [intOf]; omega⟩
          · obtain rfl : m = ts.length := by omega
            go_wp2
            go_end0
            exact ⟨rfl, HT.out, HTEN.out, by rw [rzT_subs, HTS.out]; exact HM.out.done HLEN.out HF.out HGL.out HD.out, HR.out, HK.out⟩
end Go.Proofs.YtlbhbjmobcikfaaGreatDoor
/- A pattern in brackets, and two with a bar between. Plain facts: nothing of the program. -/
namespace Go.Proofs.YtlbhbjmobcikfaaGreatDoor
namespace Ep
theorem whole_ok {f : Nat → Nat} {n : Nat} {ic nl : Bool} (hf : Br.Txt f n) {t : Tr} {j g : Nat} (h : parse f n ic nl = .ok t j g) : n ≤ 1024 ∧ j = n ∧ pat f n ic nl 32 0 0 = .ok t n g := by
  unfold parse at h
  split at h
  · cases h
  rename_i hn
  unfold whole at h
  cases hp : pat f n ic nl 32 0 0 with
  | err c p => rw [hp] at h; cases h
  | ok u m g2 =>
    rw [hp] at h
    simp only at h
    split at h
    · cases h
    rename_i hj
    split at h
    · cases h
    injection h with h1 h2 h3
    subst h1 h2 h3
    have h4 := alts_next hf (group_next hf 32) (by omega) hp
    obtain rfl : m = n := by omega
    exact ⟨by omega, rfl, rfl⟩
/-- A pattern in brackets. -/
theorem parse_paren {f F : Nat → Nat} {n : Nat} {ic nl : Bool} (hf : Br.Txt f n) (hF : Br.Txt F (n + 2)) (h0 : F 0 = 40) (hs : ∀ j, j < n → F (j + 1) = f j) (h9 : F (n + 1) = 41) (hn : n ≤ 1000) {t : Tr} {j g : Nat} (h : parse f n ic nl = .ok t j g) :
    (∃ p, parse F (n + 2) ic nl = .err 10 p) ∨ (∃ p, parse F (n + 2) ic nl = .err 11 p) ∨ parse F (n + 2) ic nl = .ok (.grp (1 : Nat) (t.rzT 1)) (n + 2) (g + 1) := by
  obtain ⟨-, -, hp⟩ := whole_ok hf h
  have hL : Lies f F n (n + 2) 1 := ⟨hf, hF, ⟨by omega, hs⟩, .inl h9⟩
  have h256 : F (n + 2) = 256 := hF.2 _ (Nat.le_refl _)
  have ha := alts_in (E := True) (ic := ic) (nl := nl) (k := 1) hL (group_next hf 32) (group_in hL 32 31 (.inr trivial)) (n + 1) (n + 3) [] 0 0 (by omega) (by omega) t n g (.inr (by rw [h9]; decide)) hp
  rw [List.map_nil] at ha
  have hgr : (∃ p, group F (n + 2) ic nl 32 0 0 = .err 11 p) ∨ group F (n + 2) ic nl 32 0 0 = .ok (.grp (1 : Nat) (t.rzT 1)) (n + 2) (g + 1) := by
    rw [group]
    rcases ha with e | ⟨-, p, e⟩
    · rw [e]; right; simp only [h9, if_true]
    · rw [e]; exact .inl ⟨p, rfl⟩
  have hpc : (∃ p, piece F (n + 2) ic nl (group F (n + 2) ic nl 32) 0 0 = .err 11 p) ∨ piece F (n + 2) ic nl (group F (n + 2) ic nl 32) 0 0 = .ok (.grp (1 : Nat) (t.rzT 1)) (n + 2) (g + 1) := by
    have ea : atom F (n + 2) ic nl (group F (n + 2) ic nl 32) 0 0 = group F (n + 2) ic nl 32 0 0 := by unfold atom; rw [if_pos h0]
    have hr0 : isRep (F 0) = false := by rw [h0]; decide
    unfold piece
    rw [if_neg (by omega), if_neg (by omega), hr0, ea]
    simp only [Bool.false_eq_true, if_false]
    rcases hgr with ⟨p, e⟩ | e
    · rw [e]; exact .inl ⟨p, rfl⟩
    · rw [e]
      right
      simp only [rep, h256, show ¬ (256 = 42) from by decide, show ¬ (256 = 43) from by decide, show ¬ (256 = 63) from by decide, show ¬ (256 = 123) from by decide, if_false]
  have hal : (∃ p, pat F (n + 2) ic nl 32 0 0 = .err 11 p) ∨ pat F (n + 2) ic nl 32 0 0 = .ok (.grp (1 : Nat) (t.rzT 1)) (n + 2) (g + 1) := by
    rw [pat, alts, branch, if_neg (by omega)]
    rcases hpc with ⟨p, e⟩ | e
    · rw [e]; exact .inl ⟨p, rfl⟩
    · rw [e]
      right
      simp only
      rw [branch, if_pos (.inl (Nat.le_refl _))]
      simp only [h256, show ¬ (256 = 124) from by decide, if_false, List.nil_append, Tr.several]
  unfold parse
  rw [if_neg (by omega)]
  unfold whole
  rcases hal with ⟨p, e⟩ | e
  · rw [e]; exact .inr (.inl ⟨p, rfl⟩)
  · rw [e]
    simp only [Nat.lt_irrefl, if_false]
    split
    · exact .inl ⟨_, rfl⟩
    · exact .inr (.inr rfl)
end Ep
end Go.Proofs.YtlbhbjmobcikfaaGreatDoor
/- EreJoins: whatever the patterns and the flags, the law returns true. -/
namespace Go.Proofs.YtlbhbjmobcikfaaGreatDoor
open Go.RowKit
/-- A value that is a node; a list of nodes: wherever their lists lie. -/
def NdAt (w : World) (v : Value) (t : Tr) : Prop := NodeV w (fun _ => True) v t
def LsAt (w : World) (v : Value) (ts : List Tr) : Prop := TreesAt w (fun _ => True) v ts
theorem NdAt.below {w w' : World} {v : Value} {t : Tr} (h : NdAt w v t) (hb : Below w.heap.size w w') : NdAt w' v t := NodeV.later h hb
theorem LsAt.below {w w' : World} {v : Value} {ts : List Tr} (h : LsAt w v ts) (hb : Below w.heap.size w w') : LsAt w' v ts := TreesAt.later h hb
theorem TreesAt.any {w : World} {B : Nat → Prop} {s : Value} {ts : List Tr} (h : TreesAt w B s ts) : TreesAt w (fun _ => True) s ts := h.mono fun _ _ _ => trivial
theorem NodeV.nd {w : World} {B : Nat → Prop} {v : Value} {t : Tr} (h : NodeV w B v t) : NdAt w v t := by
  obtain ⟨s, h1, h2⟩ := h; exact ⟨s, h1, h2.any⟩
theorem LsAt.one {w : World} {t : Tr} {s : Value} (h : TreesAt w (fun _ => True) s t.subs) : LsAt (w.alloc (.cells (t.cells s) 28)) (.slice (some ⟨w.heap.size, 0, none⟩) 1 1) [t] := by
  have hb : Below w.heap.size w (w.alloc (.cells (t.cells s) 28)) := (Below.refl _ _).alloc (Nat.le_refl _) _
  refine TreesAt.mk (ts := [t]) (some ⟨w.heap.size, 0, none⟩) 1 (fun _ => s) (by simp) (fun i t' hi => ?_) (fun i t' hi => ?_)
  · obtain ⟨rfl, rfl⟩ : i = 0 ∧ t = t' := by
      cases i with
      | zero => simpa using hi
      | succ i => simp at hi
    obtain ⟨d0, d1, d2, d3, d4, d5, d6, d7, d8, d9⟩ := allTen (heap_alloc_new w (.cells (t.cells s) 28))
    exact ⟨_, 0, rfl, trivial, d0, d1, d2, d3, d4, d5, d6, d7, d8, d9⟩
  · obtain ⟨rfl, rfl⟩ : i = 0 ∧ t = t' := by
      cases i with
      | zero => simpa using hi
      | succ i => simp at hi
    exact h.later hb
theorem twenty {w : World} {b : Nat} {x0 x1 x2 x3 x4 x5 x6 x7 x8 x9 y0 y1 y2 y3 y4 y5 y6 y7 y8 y9 : Value} {t : TypeId} (h : w.heap[b]? = some (.cells #[x0, x1, x2, x3, x4, x5, x6, x7, x8, x9, y0, y1, y2, y3, y4, y5, y6, y7, y8, y9] t)) :
    (w.cell? ⟨b, 0, none⟩ = some x0 ∧ w.cell? ⟨b, 1, none⟩ = some x1 ∧ w.cell? ⟨b, 2, none⟩ = some x2 ∧ w.cell? ⟨b, 3, none⟩ = some x3 ∧ w.cell? ⟨b, 4, none⟩ = some x4 ∧ w.cell? ⟨b, 5, none⟩ = some x5 ∧ w.cell? ⟨b, 6, none⟩ = some x6 ∧ w.cell? ⟨b, 7, none⟩ = some x7 ∧ w.cell? ⟨b, 8, none⟩ = some x8 ∧ w.cell? ⟨b, 9, none⟩ = some x9) ∧
    (w.cell? ⟨b, 10, none⟩ = some y0 ∧ w.cell? ⟨b, 11, none⟩ = some y1 ∧ w.cell? ⟨b, 12, none⟩ = some y2 ∧ w.cell? ⟨b, 13, none⟩ = some y3 ∧ w.cell? ⟨b, 14, none⟩ = some y4 ∧ w.cell? ⟨b, 15, none⟩ = some y5 ∧ w.cell? ⟨b, 16, none⟩ = some y6 ∧ w.cell? ⟨b, 17, none⟩ = some y7 ∧ w.cell? ⟨b, 18, none⟩ = some y8 ∧ w.cell? ⟨b, 19, none⟩ = some y9) := by
  simp [World.cell?, h]
/-- The cells of two nodes. -/
def cells2 (t u : Tr) (s r : Value) : Array Value :=
  #[.int .i64 t.kind, .int .u64 (Oc.U t.w0), .int .u64 (Oc.U t.w1), .int .u64 (Oc.U t.w2), .int .u64 (Oc.U t.w3), s, .int .i64 t.num, .int .i64 t.least, .int .i64 t.most, .bool t.bare,
    .int .i64 u.kind, .int .u64 (Oc.U u.w0), .int .u64 (Oc.U u.w1), .int .u64 (Oc.U u.w2), .int .u64 (Oc.U u.w3), r, .int .i64 u.num, .int .i64 u.least, .int .i64 u.most, .bool u.bare]
theorem LsAt.two {w : World} {t u : Tr} {s r : Value} (h : TreesAt w (fun _ => True) s t.subs) (k : TreesAt w (fun _ => True) r u.subs) : LsAt (w.alloc (.cells (cells2 t u s r) 28)) (.slice (some ⟨w.heap.size, 0, none⟩) 2 2) [t, u] := by
  have hb : Below w.heap.size w (w.alloc (.cells (cells2 t u s r) 28)) := (Below.refl _ _).alloc (Nat.le_refl _) _
  have two : ∀ (i : Nat) (t' : Tr), ([t, u] : List Tr)[i]? = some t' → (i = 0 ∧ t' = t) ∨ (i = 1 ∧ t' = u) := fun i t' hi => by
    match i, hi with
    | 0, hi => exact .inl ⟨rfl, by simpa using hi.symm⟩
    | 1, hi => exact .inr ⟨rfl, by simpa using hi.symm⟩
    | i + 2, hi => simp at hi
  refine TreesAt.mk (ts := [t, u]) (some ⟨w.heap.size, 0, none⟩) 2 (fun i => if i = 0 then s else r) (by simp) (fun i t' hi => ?_) (fun i t' hi => ?_)
  · obtain ⟨⟨d0, d1, d2, d3, d4, d5, d6, d7, d8, d9⟩, e0, e1, e2, e3, e4, e5, e6, e7, e8, e9⟩ := twenty (heap_alloc_new w (.cells (cells2 t u s r) 28))
    rcases two i t' hi with ⟨rfl, rfl⟩ | ⟨rfl, rfl⟩
    · exact ⟨_, 0, rfl, trivial, d0, d1, d2, d3, d4, d5, d6, d7, d8, d9⟩
    · exact ⟨_, 0, rfl, trivial, e0, e1, e2, e3, e4, e5, e6, e7, e8, e9⟩
  · rcases two i t' hi with ⟨rfl, rfl⟩ | ⟨rfl, rfl⟩
    · exact h.later hb
    · exact k.later hb
theorem wp_node1 {Q : Exit → Act → World → Prop} {o : Oper} {a : Act} {w : World} {K : Act → World → Prop} (x : Operand) (t : Tr) (p : Option Addr) (len cap : Nat) (ho : o.op = .buildSlice 26 1 #[(0, x)]) (hx : a.eval x = .agg (t.cells (.slice p len cap)))
    (h : K (a.put o.dst (.slice (some ⟨w.heap.size, 0, none⟩) 1 1)) (w.alloc (.cells (t.cells (.slice p len cap)) 28))) : Oper.wp Tryz.prog o a w K Q := by
  obtain ⟨ie, hi, hz0, hz1, -⟩ := info_parts Tryz.infoNode
  refine wp_buildSlice 26 28 1 _ ho _ ie _ Tryz.underlying26 hi hz0 (by rw [hz1]; decide) (by rw [hz1]; decide) ?_ h
  rw [hz1]
  simp only [List.map_toArray, List.map_cons, List.map_nil, hx]
  kernel_rfl
end Go.Proofs.YtlbhbjmobcikfaaGreatDoor
/- BreGroups: whatever the pattern and the flags, the law returns true. -/
namespace Go.Proofs.YtlbhbjmobcikfaaGreatDoor
open Go.RowKit
def bqT (x : ByteArray) : ByteArray := ⟨#[92, 40]⟩ ++ x ++ ⟨#[92, 41]⟩
theorem bq_join (x : ByteArray) (ic nl : Bool) (hn : x.size ≤ 1020) {t : Tr} {j g : Nat} (h : Bp.parse (bt x) x.size ic nl = .ok t j g) :
    (∃ c p, (c = 10 ∨ c = 11) ∧ Bp.parse (bt (bqT x)) (bqT x).size ic nl = .err c p) ∨ Bp.parse (bt (bqT x)) (bqT x).size ic nl = .ok (.grp (1 : Nat) (t.rzT 1)) (x.size + 4) (g + 1) := by
  have h1 : (⟨#[92, 40]⟩ ++ x : ByteArray).size = x.size + 2 := by rw [ByteArray.size_append]; show 2 + x.size = _; omega
  have hz : (bqT x).size = x.size + 4 := by unfold bqT; rw [ByteArray.size_append, h1]; rfl
  have ht := bt_txt (bqT x)
  rw [hz] at ht ⊢
  have := Bp.parse_paren (ic := ic) (nl := nl) (bt_txt x) ht ?_ ?_ (fun j hj => ?_) ?_ ?_ hn h
  · rcases this with ⟨p, e⟩ | ⟨p, e⟩ | e
    · exact .inl ⟨10, p, .inl rfl, e⟩
    · exact .inl ⟨11, p, .inr rfl, e⟩
    · exact .inr e
  · unfold bqT; rw [bt_append, if_pos (by omega), bt_append, if_pos (by decide)]; decide
  · unfold bqT; rw [bt_append, if_pos (by omega), bt_append, if_pos (by decide)]; decide
  · unfold bqT; rw [bt_append, if_pos (by omega), bt_append, if_neg (by show ¬ j + 2 < 2; omega)]; rfl
  · unfold bqT; rw [bt_append, if_neg (by omega), h1, Nat.sub_self]; decide
  · unfold bqT; rw [bt_append, if_neg (by omega), h1, show x.size + 3 - (x.size + 2) = 1 by omega]; decide
set_option maxRecDepth 100000 in
set_option maxHeartbeats 8000000 in
theorem bregroups_err (A : Nat → Addr) (x : ByteArray) (fl : Int) (w : World) (hE : BrEnv w A) (hT : ErrType w) (c : Nat) (q : Int) (hO : Bp.parse (bt x) x.size (icB fl) (nlB fl) = .err c q) :
    Calls Tryz.prog 9 #[.string x, .int .i64 fl] w fun e w' => e = .returned (.bool true) ∧ Below w.heap.size w w' := by
  have HL := Lib.hid (bqlives_any A w hE hT)
  have HE := Lib.hid hE; have HT := Lib.hid hT
  have HD := Lib.hid bqparse_does
  have HO := Lib.hid hO
  clear hO
  clear hE hT
  go_enter Tryz.func9, Tryz.ntmps9
  go_wp2_with fail
  refine HL.out.mono ?_; rintro e w1 ⟨rfl, hb1⟩
  have HB1 := Lib.hid hb1; have HE1 := Lib.hid (HE.out.below hb1); have HT1 := Lib.hid (HT.out.later hb1)
  clear hb1 HL
  go_wp2_with fail
  refine (HD.out A _ x fl HE1.out).mono ?_
  intro e w2 he
  obtain ⟨v2, rfl, hv, hb2⟩ := he.err HO.out
  obtain ⟨q2, rfl⟩ := hv.iface
  have HVP2 := Lib.hid (hv.at.later ((Below.refl w2.heap.size w2).alloc (Nat.le_refl _) (.cells noNode 28)))
  have hb3 := HB1.out.trans (hb2.mono HB1.out.size)
  have HB2 := Lib.hid (hb3.alloc hb3.size (.cells noNode 28))
  have HE2 := Lib.hid (HE.out.below HB2.out); have HT2 := Lib.hid (HT.out.later HB2.out)
  clear he hv hb2 hb3
  go_wp2
  go_ret
  exact ⟨rfl, HB2.out⟩
set_option maxRecDepth 100000 in
set_option maxHeartbeats 8000000 in
theorem bregroups_big (A : Nat → Addr) (x : ByteArray) (fl : Int) (w : World) (hE : BrEnv w A) (hT : ErrType w) (t : Tr) (j g : Nat) (hO : Bp.parse (bt x) x.size (icB fl) (nlB fl) = .ok t j g) (hb : 1020 < x.size) :
    Calls Tryz.prog 9 #[.string x, .int .i64 fl] w fun e w' => e = .returned (.bool true) ∧ Below w.heap.size w w' := by
  have HL := Lib.hid (bqlives_any A w hE hT)
  have HE := Lib.hid hE; have HT := Lib.hid hT
  have HD := Lib.hid bqparse_does
  have HO := Lib.hid hO
  have hd : decide ((1020 : Int) < x.size) = true := by simp; omega
  have hd' : decide (1020 < x.size) = true := by simp; omega
  clear hO hb
  clear hE hT
  go_enter Tryz.func9, Tryz.ntmps9
  go_wp2_with fail
  refine HL.out.mono ?_; rintro e w1 ⟨rfl, hb1⟩
  have HB1 := Lib.hid hb1; have HE1 := Lib.hid (HE.out.below hb1); have HT1 := Lib.hid (HT.out.later hb1)
  clear hb1 HL
  go_wp2_with fail
  refine (HD.out A _ x fl HE1.out).mono ?_
  intro e w2 he
  obtain ⟨v2, F2, rfl, ho, -, hb2⟩ := he.ok HO.out
  obtain ⟨p2, c2, rfl, -⟩ := ho.slice
  have HTR2 := Lib.hid (fun w' (hb : Below (w2.alloc (.cells (t.cells (.slice p2 t.subs.length c2)) 28)).heap.size (w2.alloc (.cells (t.cells (.slice p2 t.subs.length c2)) 28)) w') => (TreesAt.later (w' := w') (ho.trees.any) (((Below.refl w2.heap.size w2).alloc (Nat.le_refl _) (.cells (t.cells (.slice p2 t.subs.length c2)) 28)).trans (Below.mono hb (by simp)))))
  have hb3 := HB1.out.trans (hb2.mono HB1.out.size)
  have hk2 := hb2.alloc hb2.size (.cells (t.cells (.slice p2 t.subs.length c2)) 28)
  have HB2 := Lib.hid (hb3.alloc hb3.size (.cells (t.cells (.slice p2 t.subs.length c2)) 28))
  have HE2 := Lib.hid (HE.out.below HB2.out); have HT2 := Lib.hid (HT.out.later HB2.out)
  have Z2 := Lib.hid (heap_alloc_new w2 (.cells (t.cells (.slice p2 t.subs.length c2)) 28))
  clear he ho hb2 hb3
  clear hk2 HTR2
  unfold Tr.cells at *
  go_wp2
  go_ret
  exact ⟨rfl, HB2.out⟩
set_option maxRecDepth 100000 in
set_option maxHeartbeats 8000000 in
theorem bregroups_bad (A : Nat → Addr) (x : ByteArray) (fl : Int) (w : World) (hE : BrEnv w A) (hT : ErrType w) (t : Tr) (j g : Nat) (hO : Bp.parse (bt x) x.size (icB fl) (nlB fl) = .ok t j g) (hb : x.size ≤ 1020) (c : Nat) (q : Int) (hc : c = 10 ∨ c = 11) (hX : Bp.parse (bt (bqT x)) (bqT x).size (icB fl) (nlB fl) = .err c q) :
    Calls Tryz.prog 9 #[.string x, .int .i64 fl] w fun e w' => e = .returned (.bool true) ∧ Below w.heap.size w w' := by
  have HL := Lib.hid (bqlives_any A w hE hT)
  have HE := Lib.hid hE; have HT := Lib.hid hT
  have HD := Lib.hid bqparse_does
  have HO := Lib.hid hO; have HX := Lib.hid hX
  have hd : decide ((1020 : Int) < x.size) = false := by simp; omega
  have hd' : decide (1020 < x.size) = false := by simp; omega
  have h40 : (⟨#[92, 40]⟩ ++ x : ByteArray).size = x.size + 2 := by rw [ByteArray.size_append]; show 2 + x.size = _; omega
  clear hO hX
  clear hE hT
  go_enter Tryz.func9, Tryz.ntmps9
  go_wp2_with fail
  refine HL.out.mono ?_; rintro e w1 ⟨rfl, hb1⟩
  have HB1 := Lib.hid hb1; have HE1 := Lib.hid (HE.out.below hb1); have HT1 := Lib.hid (HT.out.later hb1)
  clear hb1 HL
  go_wp2_with fail
  refine (HD.out A _ x fl HE1.out).mono ?_
  intro e w2 he
  obtain ⟨v2, F2, rfl, ho, -, hb2⟩ := he.ok HO.out
  obtain ⟨p2, c2, rfl, -⟩ := ho.slice
  have HTR2 := Lib.hid (fun w' (hb : Below (w2.alloc (.cells (t.cells (.slice p2 t.subs.length c2)) 28)).heap.size (w2.alloc (.cells (t.cells (.slice p2 t.subs.length c2)) 28)) w') => (TreesAt.later (w' := w') (ho.trees.any) (((Below.refl w2.heap.size w2).alloc (Nat.le_refl _) (.cells (t.cells (.slice p2 t.subs.length c2)) 28)).trans (Below.mono hb (by simp)))))
  have hb3 := HB1.out.trans (hb2.mono HB1.out.size)
  have hk2 := hb2.alloc hb2.size (.cells (t.cells (.slice p2 t.subs.length c2)) 28)
  have HB2 := Lib.hid (hb3.alloc hb3.size (.cells (t.cells (.slice p2 t.subs.length c2)) 28))
  have HE2 := Lib.hid (HE.out.below HB2.out); have HT2 := Lib.hid (HT.out.later HB2.out)
  have Z2 := Lib.hid (heap_alloc_new w2 (.cells (t.cells (.slice p2 t.subs.length c2)) 28))
  clear he ho hb2 hb3
  clear hk2 HTR2
  unfold Tr.cells at *
  have hz2 : w2.heap.size < (w2.alloc (.cells #[.int .i64 (t).kind, .int .u64 (Oc.U (t).w0), .int .u64 (Oc.U (t).w1), .int .u64 (Oc.U (t).w2), .int .u64 (Oc.U (t).w3), .slice p2 t.subs.length c2, .int .i64 (t).num, .int .i64 (t).least, .int .i64 (t).most, .bool (t).bare] 28)).heap.size := by simp
  go_wp2_with fail
  refine (HD.out A _ _ fl HE2.out).mono ?_
  intro e w3 he
  obtain ⟨v3, rfl, hv, hb2⟩ := he.err HX.out
  obtain ⟨q3, rfl⟩ := hv.iface
  have HVP3 := Lib.hid (hv.at.later ((Below.refl w3.heap.size w3).alloc (Nat.le_refl _) (.cells noNode 28)))
  have hb3 := HB2.out.trans (hb2.mono HB2.out.size)
  have HB3 := Lib.hid (hb3.alloc hb3.size (.cells noNode 28))
  have HE3 := Lib.hid (HE.out.below HB3.out); have HT3 := Lib.hid (HT.out.later HB3.out)
  clear he hv hb2 hb3
  go_wp2_with fail
  refine (HVP3.out.num HE3.out).mono ?_; rintro e w6 ⟨rfl, hb6⟩
  have HB6 := Lib.hid (HB3.out.trans (hb6.mono HB3.out.size))
  clear hb6
  rcases hc with rfl | rfl
  all_goals
    go_wp2
    go_ret
    exact ⟨rfl, HB6.out⟩
set_option maxRecDepth 100000 in
set_option maxHeartbeats 8000000 in
theorem bregroups_good (A : Nat → Addr) (x : ByteArray) (fl : Int) (w : World) (hE : BrEnv w A) (hT : ErrType w) (t : Tr) (j g : Nat) (hO : Bp.parse (bt x) x.size (icB fl) (nlB fl) = .ok t j g) (hb : x.size ≤ 1020) (k : Nat) (hX : Bp.parse (bt (bqT x)) (bqT x).size (icB fl) (nlB fl) = .ok (Tr.grp (1 : Nat) (t.rzT 1)) k (g + 1)) :
    Calls Tryz.prog 9 #[.string x, .int .i64 fl] w fun e w' => e = .returned (.bool true) ∧ Below w.heap.size w w' := by
  have HL := Lib.hid (bqlives_any A w hE hT)
  have HE := Lib.hid hE; have HT := Lib.hid hT
  have HD := Lib.hid bqparse_does
  have HO := Lib.hid hO; have HX := Lib.hid hX
  obtain ⟨-, hf, -, -, -, hg9⟩ := Bp.parse_right (bt_txt x) hO
  have hd : decide ((1020 : Int) < x.size) = false := by simp; omega
  have hd' : decide (1020 < x.size) = false := by simp; omega
  have wg : IntKind.i64.wrap ((g : Int) + 1) = (g : Int) + 1 := IntWalk.i64_in _ (by omega)
  have HF := Lib.hid hf
  have h40 : (⟨#[92, 40]⟩ ++ x : ByteArray).size = x.size + 2 := by rw [ByteArray.size_append]; show 2 + x.size = _; omega
  clear hO hX hf
  clear hE hT
  go_enter Tryz.func9, Tryz.ntmps9
  go_wp2_with fail
  refine HL.out.mono ?_; rintro e w1 ⟨rfl, hb1⟩
  have HB1 := Lib.hid hb1; have HE1 := Lib.hid (HE.out.below hb1); have HT1 := Lib.hid (HT.out.later hb1)
  clear hb1 HL
  go_wp2_with fail
  refine (HD.out A _ x fl HE1.out).mono ?_
  intro e w2 he
  obtain ⟨v2, F2, rfl, ho, -, hb2⟩ := he.ok HO.out
  obtain ⟨p2, c2, rfl, -⟩ := ho.slice
  have HTR2 := Lib.hid (fun w' (hb : Below (w2.alloc (.cells (t.cells (.slice p2 t.subs.length c2)) 28)).heap.size (w2.alloc (.cells (t.cells (.slice p2 t.subs.length c2)) 28)) w') => (TreesAt.later (w' := w') (ho.trees.any) (((Below.refl w2.heap.size w2).alloc (Nat.le_refl _) (.cells (t.cells (.slice p2 t.subs.length c2)) 28)).trans (Below.mono hb (by simp)))))
  have hb3 := HB1.out.trans (hb2.mono HB1.out.size)
  have hk2 := hb2.alloc hb2.size (.cells (t.cells (.slice p2 t.subs.length c2)) 28)
  have HB2 := Lib.hid (hb3.alloc hb3.size (.cells (t.cells (.slice p2 t.subs.length c2)) 28))
  have HE2 := Lib.hid (HE.out.below HB2.out); have HT2 := Lib.hid (HT.out.later HB2.out)
  have Z2 := Lib.hid (heap_alloc_new w2 (.cells (t.cells (.slice p2 t.subs.length c2)) 28))
  clear he ho hb2 hb3
  unfold Tr.cells at *
  have hz2 : w2.heap.size < (w2.alloc (.cells #[.int .i64 (t).kind, .int .u64 (Oc.U (t).w0), .int .u64 (Oc.U (t).w1), .int .u64 (Oc.U (t).w2), .int .u64 (Oc.U (t).w3), .slice p2 t.subs.length c2, .int .i64 (t).num, .int .i64 (t).least, .int .i64 (t).most, .bool (t).bare] 28)).heap.size := by simp
  go_wp2_with fail
  refine (HD.out A _ _ fl HE2.out).mono ?_
  intro e w3 he
  obtain ⟨v3, F3, rfl, ho, -, hb2⟩ := he.ok HX.out
  obtain ⟨p3, c3, rfl, -⟩ := ho.slice
  have HTR3 := Lib.hid (fun w' (hb : Below (w3.alloc (.cells ((Tr.grp (1 : Nat) (t.rzT 1)).cells (.slice p3 (Tr.grp (1 : Nat) (t.rzT 1)).subs.length c3)) 28)).heap.size (w3.alloc (.cells ((Tr.grp (1 : Nat) (t.rzT 1)).cells (.slice p3 (Tr.grp (1 : Nat) (t.rzT 1)).subs.length c3)) 28)) w') => (TreesAt.later (w' := w') (ho.trees.any) (((Below.refl w3.heap.size w3).alloc (Nat.le_refl _) (.cells ((Tr.grp (1 : Nat) (t.rzT 1)).cells (.slice p3 (Tr.grp (1 : Nat) (t.rzT 1)).subs.length c3)) 28)).trans (Below.mono hb (by simp)))))
  have hb3 := HB2.out.trans (hb2.mono HB2.out.size)
  have hk3 := hb2.alloc hb2.size (.cells ((Tr.grp (1 : Nat) (t.rzT 1)).cells (.slice p3 (Tr.grp (1 : Nat) (t.rzT 1)).subs.length c3)) 28)
  have HB3 := Lib.hid (hb3.alloc hb3.size (.cells ((Tr.grp (1 : Nat) (t.rzT 1)).cells (.slice p3 (Tr.grp (1 : Nat) (t.rzT 1)).subs.length c3)) 28))
  have HE3 := Lib.hid (HE.out.below HB3.out); have HT3 := Lib.hid (HT.out.later HB3.out)
  have Z3 := Lib.hid (heap_alloc_new w3 (.cells ((Tr.grp (1 : Nat) (t.rzT 1)).cells (.slice p3 (Tr.grp (1 : Nat) (t.rzT 1)).subs.length c3)) 28))
  clear he ho hb2 hb3
  have ZT := Lib.hid (keep_blk hk3 Z2.out)
  have HTT := Lib.hid (HTR2.out _ hk3)
  clear hk2 hk3 HTR2 Z2
  generalize hXX : (Tr.grp (1 : Nat) (t.rzT 1)) = X at *
  have HXX := Lib.hid hXX
  clear hXX
  unfold Tr.cells at *
  go_wp2_with (first
    | (refine wpList_load_row rfl 28 (.tmp 5) rfl w2.heap.size rfl 28 _ (0, 0) _ ZT.out Tryz.underlying28 rfl (by kernel_rfl) ?_)
    | fail)
  have hs4 : w3.heap.size < (w3.alloc (.cells #[.int .i64 (X).kind, .int .u64 (Oc.U (X).w0), .int .u64 (Oc.U (X).w1), .int .u64 (Oc.U (X).w2), .int .u64 (Oc.U (X).w3), .slice p3 X.subs.length c3, .int .i64 (X).num, .int .i64 (X).least, .int .i64 (X).most, .bool (X).bare] 28)).heap.size := by simp
  generalize World.alloc w3 _ = W4 at *
  refine (copynode_own t W4 _ _ ⟨_, rfl, HTT.out⟩).mono ?_
  intro e w5 he
  obtain ⟨s5, F5, rfl, ho5, hF5, hb5⟩ := he
  obtain ⟨p5, c5, rfl, -⟩ := ho5.slice
  have hb6 : Below W4.heap.size W4 (w5.alloc (.cells (t.cells (.slice p5 t.subs.length c5)) 28)) := hb5.alloc hb5.size _
  have hlt5 := ho5.lt
  have hten : TenAt (w5.alloc (.cells (t.cells (.slice p5 t.subs.length c5)) 28)) w5.heap.size 0 t (.slice p5 t.subs.length c5) := by
    obtain ⟨d0, d1, d2, d3, d4, d5, d6, d7, d8, d9⟩ := allTen (heap_alloc_new w5 (.cells (t.cells (.slice p5 t.subs.length c5)) 28))
    exact ⟨d0, d1, d2, d3, d4, d5, d6, d7, d8, d9⟩
  have ho6 := ho5.later ((Below.refl w5.heap.size w5).alloc (Nat.le_refl _) (.cells (t.cells (.slice p5 t.subs.length c5)) 28))
  have HR7 := Lib.hid (raise7_any t HF.out (w5.alloc (.cells (t.cells (.slice p5 t.subs.length c5)) 28)) w5.heap.size 0 (.slice p5 t.subs.length c5) F5 hten ho6 (fun h => by have := hlt5 _ h; omega) ⟨_, _, heap_alloc_new _ _⟩)
  have HB6 := Lib.hid (HB3.out.trans (hb6.mono HB3.out.size))
  have HFN : Hid (∀ b, b ∈ w5.heap.size :: F5 → W4.heap.size ≤ b) := Lib.hid fun b hb => by
    rcases List.mem_cons.1 hb with rfl | hb
    · exact hb5.size
    · exact hF5 b hb
  have HK6 := Lib.hid hb6
  clear ho5 hF5 hb5 hb6 hlt5 hten ho6 ZT HTT
  unfold Tr.cells at HR7 HB6 HK6 ⊢
  go_wp2_with fail
  generalize World.alloc w5 _ = W6 at *
  refine HR7.out.mono ?_
  intro e w7 he
  obtain rfl := he.ret
  have hb67 : Below W4.heap.size W6 w7 := he.touch.below HFN.out HK6.out.size
  have HB7 := Lib.hid (HB6.out.trans (hb67.mono (Nat.le_trans HB3.out.size (Nat.le_refl _))))
  have hb47 : Below W4.heap.size W4 w7 := HK6.out.trans hb67
  have ZX7 := Lib.hid (keep_blk hb47 Z3.out)
  have HTX7 := HTR3.out w7 hb47
  have hten := he.ten
  have hown := he.own
  have hlen : (t.rzT 1).subs.length = t.subs.length := by rw [rzT_subs, List.length_map]
  clear he hb47 hb67 HR7 HK6 HFN HB6 HTR3 Z3
  obtain ⟨d0, d1, d2, d3, d4, d5, d6, d7, d8, d9⟩ := allTen ZX7.out
  obtain ⟨u0, u1, u2, u3, u4, u5, u6, u7, u8, u9⟩ := hten
  simp only [Nat.zero_add] at u0 u1 u2 u3 u4 u5 u6 u7 u8 u9
  have HOW := Lib.hid (hown.trees.any)
  clear hown
  have HTXX := Lib.hid HTX7
  clear HTX7
  generalize hUU : t.rzT 1 = U at *
  clear hUU
  generalize t.subs.length = L at *
  clear hlen
  go_wp2_with (first
    | (refine BigFrame.wpList_want (by rfl) (fun K hK => wp_node1 (.tmp 56) U p5 L c5 rfl rfl (hK _ _ ?_)))
    | fail)
  have hb8 : Below w7.heap.size w7 (w7.alloc (.cells (U.cells (.slice p5 L c5)) 28)) := (Below.refl _ _).alloc (Nat.le_refl _) _
  have HB8 := Lib.hid (HB7.out.trans (hb8.mono HB7.out.size))
  refine (samenodes_any X (Tr.grp (1 : Nat) U) _ _ _ _ _ ⟨_, rfl, HTXX.out.later hb8⟩ ⟨_, rfl, LsAt.one HOW.out⟩).mono ?_
  intro e w9 h9
  obtain ⟨rfl, hb9⟩ := h9.yes HXX.out.symm
  have HB9 := Lib.hid (HB8.out.trans (hb9.mono HB8.out.size))
  clear hb8 hb9 h9 d0 d1 d2 d3 d4 d5 d6 d7 d8 d9 u0 u1 u2 u3 u4 u5 u6 u7 u8 u9
  go_wp2
  go_ret
  exact ⟨rfl, HB9.out⟩
theorem bregroups_any (A : Nat → Addr) (x : ByteArray) (fl : Int) (w : World) (hE : BrEnv w A) (hT : ErrType w) :
    Calls Tryz.prog 9 #[.string x, .int .i64 fl] w fun e w' => e = .returned (.bool true) ∧ Below w.heap.size w w' := by
  cases hO : Bp.parse (bt x) x.size (icB fl) (nlB fl) with
  | err c q => exact bregroups_err A x fl w hE hT c q hO
  | ok t j g =>
    by_cases hb : x.size ≤ 1020
    · rcases bq_join x (icB fl) (nlB fl) hb hO with ⟨c, q, hc, hX⟩ | hX
      · exact bregroups_bad A x fl w hE hT t j g hO hb c q hc hX
      · exact bregroups_good A x fl w hE hT t j g hO hb _ hX
    · exact bregroups_big A x fl w hE hT t j g hO (by omega)
end Go.Proofs.YtlbhbjmobcikfaaGreatDoor
