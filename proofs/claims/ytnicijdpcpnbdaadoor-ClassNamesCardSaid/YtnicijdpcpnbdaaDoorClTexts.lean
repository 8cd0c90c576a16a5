/- Lists of the twelve names; whether two lists of texts are alike. -/
import Derived.Test.YtnicijdpcpnbdaaDoorClLives
import Derived.Test.YtnicijdpcpnbdaaDoorClassNamed
import Derived.Deep.QuietTactic
import Derived.BigQuiet
namespace Go.Proofs.YtnicijdpcpnbdaaDoor
open Go.RowKit
def spoiltText : ByteArray := ⟨#[115, 112, 111, 105, 108, 116]⟩
/-- The names, the first k of them written over. -/
def nameAt (k j : Nat) : ByteArray := if j < k then spoiltText else Cl.nm j
def namesC (k : Nat) : Array Value := Array.ofFn (n := 12) fun i => .string (nameAt k i.val)
theorem namesC_get (k j : Nat) (h : j < 12) : (namesC k)[j]? = some (.string (nameAt k j)) := by
  unfold namesC; rw [Array.getElem?_eq_getElem (by simpa using h)]; simp
theorem namesC_set (k : Nat) : (namesC k).setIfInBounds k (.string spoiltText) = namesC (k + 1) := by
  apply Array.ext
  · simp [namesC]
  · intro i h1 h2
    by_cases e : i = k
    · subst e; simp [namesC, nameAt]
    · rw [Array.getElem_setIfInBounds_ne (by simpa using h1) (Ne.symm e)]
      have : (i < k + 1) = (i < k) := by rw [eq_iff_iff]; omega
      simp [namesC, nameAt, this]
theorem namesC_zero : namesC 0 = #[.string ⟨#[97, 108, 110, 117, 109]⟩, .string ⟨#[97, 108, 112, 104, 97]⟩, .string ⟨#[98, 108, 97, 110, 107]⟩, .string ⟨#[99, 110, 116, 114, 108]⟩, .string ⟨#[100, 105, 103, 105, 116]⟩, .string ⟨#[103, 114, 97, 112, 104]⟩, .string ⟨#[108, 111, 119, 101, 114]⟩, .string ⟨#[112, 114, 105, 110, 116]⟩, .string ⟨#[112, 117, 110, 99, 116]⟩, .string ⟨#[115, 112, 97, 99, 101]⟩, .string ⟨#[117, 112, 112, 101, 114]⟩, .string ⟨#[120, 100, 105, 103, 105, 116]⟩] := by rfl
/-- Block g holds the names, the first k of them written over. -/
def NamesAt (w : World) (g k : Nat) : Prop := w.heap[g]? = some (.cells (namesC k) 9)
theorem NamesAt.below {w w' : World} {g k : Nat} (h : NamesAt w g k) (hb : Below w.heap.size w w') : NamesAt w' g k := keep_blk hb h
theorem NamesAt.cell {w : World} {g k j : Nat} (h : NamesAt w g k) (hj : j < 12) : w.cell? ⟨g, j, none⟩ = some (.string (nameAt k j)) := by
  unfold NamesAt at h; unfold World.cell?; rw [h]; exact namesC_get k j hj
theorem NamesAt.free {w : World} {g k j : Nat} (h : NamesAt w g k) : w.frozen? ⟨g, j, none⟩ = false := by
  unfold NamesAt at h; unfold World.frozen?; rw [h]; simp
theorem NamesAt.set {w : World} {g k : Nat} (h : NamesAt w g k) : NamesAt (w.setCell ⟨g, k, none⟩ (.string spoiltText)) g (k + 1) := by
  unfold NamesAt at *
  simp [World.setCell, Array.getElem?_modify, h, namesC_set]
theorem names_any (w : World) : Calls Tryd.prog 18 #[] w fun e w' => e = .returned (.slice (some ⟨w.heap.size, 0, none⟩) 12 12) ∧ w' = w.alloc (.cells (namesC 0) 9) := by
  rw [namesC_zero]
  go_enter Tryd.func18, Tryd.ntmps18
  go_wp2
  go_ret
  exact ⟨rfl, rfl⟩
set_option maxRecDepth 100000 in
set_option maxHeartbeats 2000000 in
theorem same_texts (g1 g2 : Nat) (w : World) (h1 : NamesAt w g1 0) (h2 : NamesAt w g2 0) :
    Calls Tryd.prog 19 #[.slice (some ⟨g1, 0, none⟩) 12 12, .slice (some ⟨g2, 0, none⟩) 12 12] w fun e w' => e = .returned (.bool true) ∧ Below w.heap.size w w' := by
  have H1 := Lib.hid h1; have H2 := Lib.hid h2; clear h1 h2
  go_enter Tryd.func19, Tryd.ntmps19
  go_wp2
  go_loopw [13] (fun i wr => ∃ k : Nat, k ≤ 12 ∧ i = .int .i64 k ∧ Below w.heap.size w wr) (fun i _ => 12 - (intOf i).toNat)
  case atStart => exact ⟨0, Nat.zero_le _, rfl, Below.refl _ _⟩
  case round =>
    obtain ⟨k, hk, rfl, hbel⟩ := hrel
    by_cases hlt : k < 12
    · have c1 := (H1.out.below hbel).cell hlt
      have c2 := (H2.out.below hbel).cell hlt
      have HB := Lib.hid hbel; clear hbel
      generalize nameAt 0 k = s at *
      go_wp2_with fail
      go_region
      go_wp2
      have hbel := HB.out
      exact ⟨⟨k + 1, by omega, by go_num, by go_grown⟩, by simp [intOf]; omega⟩
    · obtain rfl : k = 12 := by omega
      have HB := Lib.hid hbel; clear hbel
      go_wp2
      go_ret
      exact ⟨rfl, HB.out⟩
end Go.Proofs.YtnicijdpcpnbdaaDoor
