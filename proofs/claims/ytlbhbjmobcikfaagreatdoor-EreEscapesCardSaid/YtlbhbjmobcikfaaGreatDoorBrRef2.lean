/- What the reference of bracket answers of one item. -/
import Derived.Test.YtlbhbjmobcikfaaGreatDoorBrRef
import Derived.Test.YtlbhbjmobcikfaaGreatDoorClKnown
import Derived.Test.YtlbhbjmobcikfaaGreatDoorOcRange
import Derived.Deep.QuietTactic
import Derived.BigQuiet
namespace Go.Proofs.YtlbhbjmobcikfaaGreatDoor
open Go.RowKit
/-- An answer as the reference holds it. -/
def ansC : Br.Ans → Array Value
  | .ok P j => #[.int .u64 (Oc.U (Oc.mk P 0)), .int .u64 (Oc.U (Oc.mk P 1)), .int .u64 (Oc.U (Oc.mk P 2)), .int .u64 (Oc.U (Oc.mk P 3)), .int .i64 j, .int .i64 0, .int .i64 0]
  | .err c p => #[.int .u64 0, .int .u64 0, .int .u64 0, .int .u64 0, .int .i64 0, .int .i64 c, .int .i64 p]
def ansV (R : Br.Ans) : Value := .agg (ansC R)
theorem ansC_one (R : Br.Ans) : (ansC R).all (·.oneCell') = true := by cases R <;> simp [ansC, Value.oneCell']
theorem dotted_is (s : ByteArray) (hs : s.size ≤ 1152921504606846976) (j : Int) (i : Nat) (hj : j = i) (hi : i ≤ s.size + 10) (b : Bool) (hb : Br.dotted (bt s) i = b) (w : World) :
    Calls Tryz.prog 149 #[.string s, .int .i64 j] w fun e w' => e = .returned (.bool b) ∧ w = w' := by
  have := dotted_any s hs j i hj hi w
  rw [hb] at this; exact this
theorem colon_is (s : ByteArray) (hs : s.size ≤ 1152921504606846976) (j : Int) (i : Nat) (hj : j = i) (hi : i ≤ s.size + 10) (b : Bool) (hb : Br.colon (bt s) i = b) (w : World) :
    Calls Tryz.prog 150 #[.string s, .int .i64 j] w fun e w' => e = .returned (.bool b) ∧ w = w' := by
  have := colon_any s hs j i hj hi w
  rw [hb] at this; exact this
theorem closing_is (s : ByteArray) (hs : s.size ≤ 1152921504606846976) (j : Int) (i : Nat) (hj : j = i) (hi : i ≤ s.size + 10) (o : Option Nat) (ho : Br.clos (bt s) (s.size - (i + 1)) i = o) (w : World) :
    Calls Tryz.prog 151 #[.string s, .int .i64 j] w fun e w' => e = .returned (.int .i64 (optI o)) ∧ w = w' := by
  have := closing_any s hs j i hj hi w
  rw [ho] at this; exact this
/-- What a call of item ends with. -/
def ItemEnd (R : Br.Ans) (w : World) (e : Ending) (w' : World) : Prop := e = .returned (ansV R) ∧ Below w.heap.size w w'
set_option maxRecDepth 100000 in
set_option maxHeartbeats 1000000 in
theorem item_dotted (s : ByteArray) (hs : s.size ≤ 1152921504606846976) (i a : Nat) (hi : i < s.size) (h1 : Br.dotted (bt s) i = true) (w : World) :
    Calls Tryz.prog 127 #[.string s, .int .i64 i, .int .i64 a] w (ItemEnd (.err 7 i) w) := by
  have HD := Lib.hid (dotted_is s hs i i rfl (by omega) true h1)
  clear h1
  go_enter Tryz.func127, Tryz.ntmps127
  go_wp2_with fail
  refine (HD.out _).mono ?_; rintro e w' ⟨rfl, rfl⟩
  go_wp2
  exact bodyPost_ret (v := ansV (.err 7 i)) (by simp [results, Tryz.results127, go_sem]; rfl) rfl ⟨rfl, by go_grown⟩
set_option maxRecDepth 100000 in
set_option maxHeartbeats 1000000 in
theorem item_open (s : ByteArray) (hs : s.size ≤ 1152921504606846976) (i a : Nat) (hi : i < s.size) (h1 : Br.dotted (bt s) i = false) (h2 : Br.colon (bt s) i = true) (h3 : Br.clos (bt s) (s.size - (i + 3)) (i + 2) = none) (w : World) :
    Calls Tryz.prog 127 #[.string s, .int .i64 i, .int .i64 a] w (ItemEnd (.err 1 a) w) := by
  have HD := Lib.hid (dotted_is s hs i i rfl (by omega) false h1)
  have HC := Lib.hid (colon_is s hs i i rfl (by omega) true h2)
  have HL := Lib.hid (closing_is s hs ((i : Int) + 2) (i + 2) (by omega) (by omega) none h3)
  have hw : IntKind.i64.wrap ((i : Int) + 2) = (i : Int) + 2 := IntWalk.i64_in _ (by omega)
  clear h1 h2 h3
  go_enter Tryz.func127, Tryz.ntmps127
  go_wp2_with fail
  refine (HD.out _).mono ?_; rintro e w' ⟨rfl, rfl⟩
  go_wp2_with fail
  refine (HC.out _).mono ?_; rintro e w' ⟨rfl, rfl⟩
  go_wp2_with fail
  refine (HL.out _).mono ?_; rintro e w' ⟨rfl, rfl⟩
  unfold optI
  go_wp2
  exact bodyPost_ret (v := ansV (.err 1 a)) (by simp [results, Tryz.results127, go_sem]; rfl) rfl ⟨rfl, by go_grown⟩
/-- The name in a text. -/
theorem name_part (s : ByteArray) (i e : Nat) (h : i ≤ e) (he : e ≤ s.size) : Br.part (bt s) i (e - i) = (s.extract i e).data.toList.map (·.toNat) := by
  apply List.ext_getElem
  · unfold Br.part; simp; omega
  · intro k h1 h2
    unfold Br.part at h1 ⊢
    simp at h1
    simp only [List.getElem_map, List.getElem_range]
    have hk : i + k < s.size := by omega
    rw [bt_in hk]
    unfold byteAt
    congr 1
    simp [hk]
set_option maxRecDepth 100000 in
set_option maxHeartbeats 1000000 in
theorem item_name (s : ByteArray) (hs : s.size ≤ 1152921504606846976) (i a e : Nat) (hi : i < s.size) (h1 : Br.dotted (bt s) i = false) (h2 : Br.colon (bt s) i = true) (h3 : Br.clos (bt s) (s.size - (i + 3)) (i + 2) = some e) (w : World) :
    Calls Tryz.prog 127 #[.string s, .int .i64 i, .int .i64 a] w (ItemEnd (Br.named (bt s) i e) w) := by
  obtain ⟨e1, e2, -⟩ := Br.clos_some h3
  have HD := Lib.hid (dotted_is s hs i i rfl (by omega) false h1)
  have HC := Lib.hid (colon_is s hs i i rfl (by omega) true h2)
  have HL := Lib.hid (closing_is s hs ((i : Int) + 2) (i + 2) (by omega) (by omega) (some e) h3)
  have hw : IntKind.i64.wrap ((i : Int) + 2) = (i : Int) + 2 := IntWalk.i64_in _ (by omega)
  have hw2 : IntKind.i64.wrap ((e : Int) + 2) = (e : Int) + 2 := IntWalk.i64_in _ (by omega)
  have hep := name_part s (i + 2) e e1 (by omega)
  clear h1 h2 h3
  unfold Br.named
  rw [hep]
  clear hep
  cases hc : Br.clsAt ((s.extract (i + 2) e).data.toList.map (·.toNat)) with
  | none =>
    have HN := Lib.hid (refnamed_no _ (clsAt_none hc))
    clear hc
    go_enter Tryz.func127, Tryz.ntmps127
    go_wp2_with fail
    refine (HD.out _).mono ?_; rintro e w' ⟨rfl, rfl⟩
    go_wp2_with fail
    refine (HC.out _).mono ?_; rintro e w' ⟨rfl, rfl⟩
    go_wp2_with fail
    refine (HL.out _).mono ?_; rintro e w' ⟨rfl, rfl⟩
    unfold optI
    go_wp2_with fail
    refine (HN.out _).mono ?_; rintro e' w1 ⟨rfl, hb1⟩
    have Z1 := Lib.hid (keep_blk hb1 (heap_alloc_new w _))
    have hb2 : Below w.heap.size w w1 := ((Below.refl _ _).alloc (Nat.le_refl _) _).trans (hb1.mono (by simp))
    have hsz : w.heap.size < w1.heap.size := by have := hb1.size; simp at this; omega
    have Z2 := fun o => Lib.hid (heap_alloc_lt (o := o) Z1.out)
    have HB := fun o => Lib.hid (hb2.alloc (o := o) hb2.size)
    clear hb1 hb2
    go_wp2_with (first
      | (refine wpList_store_row rfl 140 (.tmp 6) (.tmp 40) rfl w.heap.size (ansC (.err 6 i)) rfl rfl 140 _ (Z2 _).out (by kernel_rfl) rfl (ansC_one _) ?_)
      | fail)
    exact bodyPost_ret (results_cell_row rfl _ _ w.heap.size 140 (ansC (.err 6 i)) (0, 0) _ rfl (heap_setRow (Z2 _).out) Tryz.underlying140 rfl (by kernel_rfl)) rfl ⟨rfl, below_setRow (HB _).out (Nat.le_refl _) _⟩
  | some k =>
    obtain ⟨hk, hnm⟩ := clsAt_some hc
    have HN := Lib.hid (known k hk).2
    rw [← hnm] at HN
    clear hc hnm
    go_enter Tryz.func127, Tryz.ntmps127
    go_wp2_with fail
    refine (HD.out _).mono ?_; rintro e w' ⟨rfl, rfl⟩
    go_wp2_with fail
    refine (HC.out _).mono ?_; rintro e w' ⟨rfl, rfl⟩
    go_wp2_with fail
    refine (HL.out _).mono ?_; rintro e w' ⟨rfl, rfl⟩
    unfold optI
    go_wp2_with fail
    refine (HN.out _).mono ?_; rintro e' w1 ⟨rfl, hb1⟩
    have Z1 := Lib.hid (keep_blk hb1 (heap_alloc_new w _))
    have hb2 : Below w.heap.size w w1 := ((Below.refl _ _).alloc (Nat.le_refl _) _).trans (hb1.mono (by simp))
    have hsz : w.heap.size < w1.heap.size := by have := hb1.size; simp at this; omega
    have Z2 := fun o => Lib.hid (heap_alloc_lt (o := o) Z1.out)
    have HB := fun o => Lib.hid (hb2.alloc (o := o) hb2.size)
    clear hb1 hb2
    go_wp2_with (first
      | (refine wpList_store_row rfl 140 (.tmp 6) (.tmp 44) rfl w.heap.size (ansC (.ok (Cl.cls k) (e + 2))) rfl rfl 140 _ (Z2 _).out (by kernel_rfl) rfl (ansC_one _) ?_)
      | fail)
    exact bodyPost_ret (results_cell_row rfl _ _ w.heap.size 140 (ansC (.ok (Cl.cls k) (e + 2))) (0, 0) _ rfl (heap_setRow (Z2 _).out) Tryz.underlying140 rfl (by kernel_rfl)) rfl ⟨rfl, below_setRow (HB _).out (Nat.le_refl _) _⟩
set_option maxRecDepth 100000 in
set_option maxHeartbeats 1000000 in
theorem item_rdotted (s : ByteArray) (hs : s.size ≤ 1152921504606846976) (i a : Nat) (h1 : Br.dotted (bt s) i = false) (h2 : Br.colon (bt s) i = false) (h3 : Br.isRange (bt s) s.size i = true) (h4 : Br.dotted (bt s) (i + 2) = true) (w : World) :
    Calls Tryz.prog 127 #[.string s, .int .i64 i, .int .i64 a] w (ItemEnd (.err 7 ((i : Int) + 2)) w) := by
  unfold Br.isRange at h3
  simp only [Bool.and_eq_true, decide_eq_true_eq, bne_iff_ne, ne_eq] at h3
  obtain ⟨⟨h31, h32⟩, h33⟩ := h3
  have HD := Lib.hid (dotted_is s hs i i rfl (by omega) false h1)
  have HC := Lib.hid (colon_is s hs i i rfl (by omega) false h2)
  have HI := Lib.hid (ris_nat s hs ((i : Int) + 1) (i + 1) 45 (by omega) (by omega) true h31)
  have HD2 := Lib.hid (dotted_is s hs ((i : Int) + 2) (i + 2) (by omega) (by omega) true h4)
  have hw1 : IntKind.i64.wrap ((i : Int) + 1) = (i : Int) + 1 := IntWalk.i64_in _ (by omega)
  have hw : IntKind.i64.wrap ((i : Int) + 2) = (i : Int) + 2 := IntWalk.i64_in _ (by omega)
  have hd : decide ((i : Int) + 2 < s.size) = true := by simp; omega
  have h93 : ((s[i + 2].toNat : Int) != 93) = true := by rw [bt_at h32]; simp; omega
  clear h1 h2 h31 h33 h4
  go_enter Tryz.func127, Tryz.ntmps127
  go_wp2_with fail
  refine (HD.out _).mono ?_; rintro e w' ⟨rfl, rfl⟩
  go_wp2_with fail
  refine (HC.out _).mono ?_; rintro e w' ⟨rfl, rfl⟩
  go_wp2_with fail
  refine (HI.out _).mono ?_; rintro e w' ⟨rfl, rfl⟩
  go_wp2_with fail
  refine (HD2.out _).mono ?_; rintro e w' ⟨rfl, rfl⟩
  go_wp2
  exact bodyPost_ret (v := ansV (.err 7 ((i : Int) + 2))) (by simp [results, Tryz.results127, go_sem]; rfl) rfl ⟨rfl, by go_grown⟩
end Go.Proofs.YtlbhbjmobcikfaaGreatDoor
