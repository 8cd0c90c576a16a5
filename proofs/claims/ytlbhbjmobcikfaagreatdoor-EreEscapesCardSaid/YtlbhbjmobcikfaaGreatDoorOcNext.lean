/- The least byte of a set from a place on; the zeros behind a word. -/
import Derived.Test.YtlbhbjmobcikfaaGreatDoorOcRef
import Derived.Shelf.Spec.TrailingZeros
namespace Go.Proofs.YtlbhbjmobcikfaaGreatDoor
open Go.RowKit
namespace Oc
/-- From f on, n steps at most: the first that says yes. -/
def nxt (p : Nat → Bool) : Nat → Nat → Nat
  | 0, f => f
  | n + 1, f => if p f then f else nxt p n (f + 1)
/-- The least byte at or behind f; 256: none. -/
def nx (p : Nat → Bool) (f : Nat) : Nat := nxt p (256 - f) f
theorem nxt_eq {p : Nat → Bool} : ∀ n f r, f ≤ r → r ≤ f + n → (∀ i, f ≤ i → i < r → p i = false) → (r < f + n → p r = true) → nxt p n f = r
  | 0, f, r, h0, h1, _, _ => by simp only [nxt]; omega
  | n + 1, f, r, h0, h1, h2, h3 => by
    simp only [nxt]
    by_cases e : f = r
    · subst e; rw [if_pos (h3 (by omega))]
    · rw [if_neg (by rw [h2 f (Nat.le_refl _) (by omega)]; simp)]
      exact nxt_eq n (f + 1) r (by omega) (by omega) (fun i hi hr => h2 i (by omega) hr) (fun h => h3 (by omega))
theorem nx_eq {p : Nat → Bool} {f r : Nat} (h0 : f ≤ r) (h1 : r ≤ 256) (h2 : ∀ i, f ≤ i → i < r → p i = false) (h3 : r < 256 → p r = true) : nx p f = r :=
  nxt_eq _ _ _ h0 (by omega) h2 (fun h => h3 (by omega))
theorem nxt_spec {p : Nat → Bool} : ∀ n f, f ≤ nxt p n f ∧ nxt p n f ≤ f + n ∧ (∀ i, f ≤ i → i < nxt p n f → p i = false) ∧ (nxt p n f < f + n → p (nxt p n f) = true)
  | 0, f => by simp only [nxt]; exact ⟨Nat.le_refl _, Nat.le_refl _, fun i h1 h2 => by omega, fun h => by omega⟩
  | n + 1, f => by
    simp only [nxt]
    split
    · rename_i h; exact ⟨Nat.le_refl _, by omega, fun i h1 h2 => by omega, fun _ => h⟩
    · rename_i h
      obtain ⟨h0, h1, h2, h3⟩ := nxt_spec (p := p) n (f + 1)
      refine ⟨by omega, by omega, fun i a b => ?_, fun a => h3 (by omega)⟩
      by_cases e : i = f
      · subst e; simpa using h
      · exact h2 i (by omega) b
theorem nx_spec (p : Nat → Bool) (f : Nat) (hf : f ≤ 256) : f ≤ nx p f ∧ nx p f ≤ 256 ∧ (∀ i, f ≤ i → i < nx p f → p i = false) ∧ (nx p f < 256 → p (nx p f) = true) := by
  obtain ⟨h0, h1, h2, h3⟩ := nxt_spec (p := p) (256 - f) f
  exact ⟨h0, by unfold nx; omega, h2, fun h => h3 (by unfold nx at h; omega)⟩
/-- How many zeros stand behind a word. -/
def zeros (x : BitVec 64) : Nat := Lib.ctz 64 x.toNat
/-- The zeros behind a word that isn't 0. -/
theorem ctz_bits (x : BitVec 64) (h : x ≠ 0#64) : zeros x < 64 ∧ x.getLsbD (zeros x) = true ∧ ∀ i, i < zeros x → x.getLsbD i = false := by
  unfold zeros
  have hx0 : x.toNat ≠ 0 := fun e => h (BitVec.eq_of_toNat_eq (by simpa using e))
  obtain ⟨m, hm, hlt⟩ := Lib.ctzFrom_spec 64 x.toNat (by omega) x.isLt
  have hc : Lib.ctz 64 x.toNat = Lib.ctzFrom 64 x.toNat := by unfold Lib.ctz; rw [if_neg hx0]
  rw [hc]
  generalize Lib.ctzFrom 64 x.toNat = c at *
  refine ⟨hlt, ?_, fun i hi => ?_⟩
  · show x.toNat.testBit c = true
    rw [hm, Nat.testBit_two_pow_mul]; simp
  · show x.toNat.testBit i = false
    rw [hm, Nat.testBit_two_pow_mul]; simp; omega
end Oc
theorem shr_word (x : BitVec 64) (k : Nat) : Oc.U x / (2 : Int) ^ k = Oc.U (x >>> k) := by
  rw [← Oc.shrU]; congr 1
theorem U_zero {x : BitVec 64} : (Oc.U x = 0) = (x = 0#64) := by
  rw [eq_iff_iff]; constructor
  · intro h; exact Oc.U_inj (y := 0#64) (by rw [h]; decide)
  · rintro rfl; decide
theorem next_zero {a b c d : BitVec 64} {f k : Nat} (hn : ∀ i, f ≤ i → i < k → Oc.mem a b c d i = false) (hz : Oc.w4 a b c d (k / 64) >>> (k % 64) = 0#64) : ∀ i, f ≤ i → i < 64 * (k / 64) + 64 → Oc.mem a b c d i = false := by
  intro i h1 h2
  by_cases h : i < k
  · exact hn i h1 h
  · unfold Oc.mem
    rw [show i / 64 = k / 64 by omega, show i % 64 = k % 64 + (i % 64 - k % 64) by omega, ← BitVec.getLsbD_ushiftRight, hz]
    simp
theorem next_found {a b c d : BitVec 64} {f k : Nat} (hfk : f ≤ k) (hk : k < 256) (hn : ∀ i, f ≤ i → i < k → Oc.mem a b c d i = false) (hz : Oc.w4 a b c d (k / 64) >>> (k % 64) ≠ 0#64) :
    (Oc.nx (Oc.mem a b c d) f) = k + Oc.zeros (Oc.w4 a b c d (k / 64) >>> (k % 64)) := by
  obtain ⟨h0, h1, h2⟩ := Oc.ctz_bits _ hz
  generalize Oc.zeros (Oc.w4 a b c d (k / 64) >>> (k % 64)) = z at *
  rw [BitVec.getLsbD_ushiftRight] at h1
  have hlt : k % 64 + z < 64 := BitVec.lt_of_getLsbD h1
  refine Oc.nx_eq (by omega) (by omega) (fun i a1 a2 => ?_) (fun _ => ?_)
  · by_cases h : i < k
    · exact hn i a1 h
    · have h3 := h2 (i - k) (by omega)
      rw [BitVec.getLsbD_ushiftRight] at h3
      unfold Oc.mem
      rw [show i / 64 = k / 64 by omega, show i % 64 = k % 64 + (i - k) by omega]; exact h3
  · unfold Oc.mem
    rw [show (k + z) / 64 = k / 64 by omega, show (k + z) % 64 = k % 64 + z by omega]; exact h1
end Go.Proofs.YtlbhbjmobcikfaaGreatDoor
