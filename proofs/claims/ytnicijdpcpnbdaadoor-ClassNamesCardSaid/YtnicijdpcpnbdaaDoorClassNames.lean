/- ClassNames: the law returns true. -/
import Derived.Test.YtnicijdpcpnbdaaDoorClTexts
namespace Go.Proofs.YtnicijdpcpnbdaaDoor
open Go.RowKit
set_option maxRecDepth 100000 in
set_option maxHeartbeats 4000000 in
theorem clnames_any (A : Nat → Addr) (w : World) (hE : Errs w A) : Calls Tryd.prog 5 #[] w fun e w' => e = .returned (.bool true) ∧ Below w.heap.size w w' := by
  have he := eq4
  have HE := Lib.hid hE; clear hE
  go_enter Tryd.func5, Tryd.ntmps5
  go_wp2_with fail
  refine (cllives_any A _ HE.out).mono ?_
  rintro e w1 ⟨rfl, hb1⟩
  have hw1 := hb1.size
  have HB1 := Lib.hid hb1; clear hb1
  go_wp2_with fail
  have hn : NamesAt (w1.alloc (.cells #[.string ⟨#[97, 108, 110, 117, 109]⟩, .string ⟨#[97, 108, 112, 104, 97]⟩, .string ⟨#[98, 108, 97, 110, 107]⟩, .string ⟨#[99, 110, 116, 114, 108]⟩, .string ⟨#[100, 105, 103, 105, 116]⟩, .string ⟨#[103, 114, 97, 112, 104]⟩, .string ⟨#[108, 111, 119, 101, 114]⟩, .string ⟨#[112, 114, 105, 110, 116]⟩, .string ⟨#[112, 117, 110, 99, 116]⟩, .string ⟨#[115, 112, 97, 99, 101]⟩, .string ⟨#[117, 112, 112, 101, 114]⟩, .string ⟨#[120, 100, 105, 103, 105, 116]⟩] 9)) w1.heap.size 0 := by
    unfold NamesAt; rw [namesC_zero]; exact heap_alloc_new w1 _
  have hb2 := HB1.out.alloc HB1.out.size (.cells #[.string ⟨#[97, 108, 110, 117, 109]⟩, .string ⟨#[97, 108, 112, 104, 97]⟩, .string ⟨#[98, 108, 97, 110, 107]⟩, .string ⟨#[99, 110, 116, 114, 108]⟩, .string ⟨#[100, 105, 103, 105, 116]⟩, .string ⟨#[103, 114, 97, 112, 104]⟩, .string ⟨#[108, 111, 119, 101, 114]⟩, .string ⟨#[112, 114, 105, 110, 116]⟩, .string ⟨#[112, 117, 110, 99, 116]⟩, .string ⟨#[115, 112, 97, 99, 101]⟩, .string ⟨#[117, 112, 112, 101, 114]⟩, .string ⟨#[120, 100, 105, 103, 105, 116]⟩] 9)
  have hsz2 : w1.heap.size < (w1.alloc (.cells #[.string ⟨#[97, 108, 110, 117, 109]⟩, .string ⟨#[97, 108, 112, 104, 97]⟩, .string ⟨#[98, 108, 97, 110, 107]⟩, .string ⟨#[99, 110, 116, 114, 108]⟩, .string ⟨#[100, 105, 103, 105, 116]⟩, .string ⟨#[103, 114, 97, 112, 104]⟩, .string ⟨#[108, 111, 119, 101, 114]⟩, .string ⟨#[112, 114, 105, 110, 116]⟩, .string ⟨#[112, 117, 110, 99, 116]⟩, .string ⟨#[115, 112, 97, 99, 101]⟩, .string ⟨#[117, 112, 112, 101, 114]⟩, .string ⟨#[120, 100, 105, 103, 105, 116]⟩] 9)).heap.size := by simp
  generalize World.alloc w1 _ = w2 at *
  have HN := Lib.hid hn; have HB2 := Lib.hid hb2; clear hn hb2 HB1
  refine (names_any _).mono ?_
  rintro e w3 ⟨rfl, hw3⟩
  have HA3 : Hid (NamesAt w3 w2.heap.size 0) := Lib.hid (by rw [hw3]; exact heap_alloc_new w2 _)
  have HB3 : Hid (Below w.heap.size w w3) := Lib.hid (by rw [hw3]; exact HB2.out.alloc HB2.out.size _)
  have HN3 : Hid (NamesAt w3 w1.heap.size 0) := Lib.hid (by rw [hw3]; exact heap_alloc_lt HN.out)
  have hsz3 : w2.heap.size < w3.heap.size := by rw [hw3]; simp
  clear hw3 HN HB2
  go_wp2_with fail
  refine (names_any _).mono ?_
  rintro e w4 ⟨rfl, hw4⟩
  have HA4 : Hid (NamesAt w4 w2.heap.size 0) := Lib.hid (by rw [hw4]; exact heap_alloc_lt HA3.out)
  have HB4 : Hid (Below w.heap.size w w4) := Lib.hid (by rw [hw4]; exact HB3.out.alloc HB3.out.size _)
  have HN4 : Hid (NamesAt w4 w1.heap.size 0) := Lib.hid (by rw [hw4]; exact heap_alloc_lt HN3.out)
  have HC4 : Hid (NamesAt w4 w3.heap.size 0) := Lib.hid (by rw [hw4]; exact heap_alloc_new w3 _)
  have hsz4 : w3.heap.size < w4.heap.size := by rw [hw4]; simp
  clear hw4 HA3 HB3 HN3
  go_wp2_with fail
  refine (same_texts _ _ _ HA4.out HN4.out).mono ?_
  rintro e w5 ⟨rfl, hb5⟩
  have HA5 := Lib.hid (HA4.out.below hb5); have HN5 := Lib.hid (HN4.out.below hb5); have HC5 := Lib.hid (HC4.out.below hb5); have HB5 := Lib.hid (HB4.out.trans (hb5.mono HB4.out.size))
  have hsz5 : w4.heap.size ≤ w5.heap.size := hb5.size
  clear hb5 HA4 HN4 HC4 HB4
  go_wp2_with fail
  refine (same_texts _ _ _ HC5.out HN5.out).mono ?_
  rintro e w6 ⟨rfl, hb6⟩
  have HA6 := Lib.hid (HA5.out.below hb6); have HN6 := Lib.hid (HN5.out.below hb6); have HC6 := Lib.hid (HC5.out.below hb6); have HB6 := Lib.hid (HB5.out.trans (hb6.mono HB5.out.size))
  have hsz6 : w5.heap.size ≤ w6.heap.size := hb6.size
  clear hb6 HA5 HN5 HC5 HB5
  go_wp2
  go_loopw [26] (fun i wr => ∃ k : Nat, k ≤ 12 ∧ i = .int .i64 k ∧ Below w.heap.size w wr ∧ w6.heap.size ≤ wr.heap.size ∧ NamesAt wr w2.heap.size k ∧ NamesAt wr w1.heap.size 0 ∧ NamesAt wr w3.heap.size 0) (fun i _ => 12 - (intOf i).toNat)
  case atStart => exact ⟨0, Nat.zero_le _, rfl, HB6.out, Nat.le_refl _, HA6.out, HN6.out, HC6.out⟩
  case round =>
    clear HB6 HA6 HN6 HC6
    obtain ⟨k, hk, rfl, hbel, hsz, ha, hn, hc⟩ := hrel
    by_cases hlt : k < 12
    · have la := ha.cell hlt
      rw [show nameAt k k = Cl.nm k by unfold nameAt; rw [if_neg (Nat.lt_irrefl _)]] at la
      have HKN := Lib.hid (known k hlt)
      have HB := Lib.hid hbel; have HA := Lib.hid ha; have HN := Lib.hid hn; have HC := Lib.hid hc
      clear hbel ha hn hc
      go_wp2_with fail
      clear la
      refine (HKN.out.1 _).mono ?_
      rintro e w7 ⟨rfl, hb7⟩
      have HA7 := Lib.hid (HA.out.below hb7); have HN7 := Lib.hid (HN.out.below hb7); have HC7 := Lib.hid (HC.out.below hb7); have HB7 := Lib.hid (HB.out.trans (hb7.mono HB.out.size))
      have hsz7 : wr.heap.size ≤ w7.heap.size := hb7.size
      clear hb7 HA HN HC HB
      have lw : ∀ o, (w7.alloc o).cell? ⟨w1.heap.size, k, none⟩ = some (.string (Cl.nm k)) := fun o => NamesAt.cell (k := 0) (heap_alloc_lt HN7.out) hlt
      go_wp2_with fail
      clear lw
      refine (HKN.out.2 _).mono ?_
      rintro e w8 ⟨rfl, hb8⟩
      have HA8 := Lib.hid (NamesAt.below (heap_alloc_lt HA7.out) hb8); have HN8 := Lib.hid (NamesAt.below (heap_alloc_lt HN7.out) hb8); have HC8 := Lib.hid (NamesAt.below (heap_alloc_lt HC7.out) hb8)
      have HB8 := Lib.hid ((HB7.out.alloc HB7.out.size _).trans (hb8.mono (by have := HB7.out.size; simp; omega)))
      have hsz8 : w7.heap.size < w8.heap.size := by have := hb8.size; simp at this; omega
      have Z8 := Lib.hid (keep_blk hb8 (heap_alloc_new w7 _))
      clear hb8 HA7 HN7 HC7 HB7
      have c0 := fun o => (four (heap_alloc_lt (o := o) Z8.out)).1
      have c1 := fun o => (four (heap_alloc_lt (o := o) Z8.out)).2.1
      have c2 := fun o => (four (heap_alloc_lt (o := o) Z8.out)).2.2.1
      have c3 := fun o => (four (heap_alloc_lt (o := o) Z8.out)).2.2.2.1
      have la : ∀ o, (w8.alloc o).cell? ⟨w2.heap.size, k, none⟩ = some (.string (nameAt k k)) := fun o => NamesAt.cell (k := k) (heap_alloc_lt HA8.out) hlt
      have lf : ∀ o, (w8.alloc o).frozen? ⟨w2.heap.size, k, none⟩ = false := fun o => NamesAt.free (k := k) (heap_alloc_lt HA8.out)
      go_wp2
      refine ⟨⟨k + 1, by omega, by go_num, ?_, ?_, NamesAt.set (heap_alloc_lt HA8.out), ?_, ?_⟩, by simp [intOf]; omega⟩
      · exact (HB8.out.alloc HB8.out.size _).setCell (by show w.heap.size ≤ w2.heap.size; omega) _
      · simp; omega
      · unfold NamesAt; rw [Below.heap_setCell _ _ _ _ (by show w1.heap.size ≠ w2.heap.size; omega)]; exact heap_alloc_lt HN8.out
      · unfold NamesAt; rw [Below.heap_setCell _ _ _ _ (by show w3.heap.size ≠ w2.heap.size; omega)]; exact heap_alloc_lt HC8.out
    · obtain rfl : k = 12 := by omega
      have HB := Lib.hid hbel; have HN := Lib.hid hn; have HC := Lib.hid hc
      clear hbel ha hn hc
      go_wp2_with fail
      refine (same_texts _ _ _ HC.out HN.out).mono ?_
      rintro e w7 ⟨rfl, hb7⟩
      have HN7 := Lib.hid (HN.out.below hb7); have HB7 := Lib.hid (HB.out.trans (hb7.mono HB.out.size))
      clear hb7 HN HB HC
      go_wp2_with fail
      refine (names_any _).mono ?_
      rintro e w8 ⟨rfl, hw8⟩
      have HA8 : Hid (NamesAt w8 w7.heap.size 0) := Lib.hid (by rw [hw8]; exact heap_alloc_new w7 _)
      have HB8 : Hid (Below w.heap.size w w8) := Lib.hid (by rw [hw8]; exact HB7.out.alloc HB7.out.size _)
      have HN8 : Hid (NamesAt w8 w1.heap.size 0) := Lib.hid (by rw [hw8]; exact heap_alloc_lt HN7.out)
      clear hw8 HN7 HB7
      go_wp2_with fail
      refine (same_texts _ _ _ HA8.out HN8.out).mono ?_
      rintro e w9 ⟨rfl, hb9⟩
      have HB9 := Lib.hid (HB8.out.trans (hb9.mono HB8.out.size))
      clear hb9
      go_wp2
      go_ret
      exact ⟨rfl, HB9.out⟩
end Go.Proofs.YtnicijdpcpnbdaaDoor
