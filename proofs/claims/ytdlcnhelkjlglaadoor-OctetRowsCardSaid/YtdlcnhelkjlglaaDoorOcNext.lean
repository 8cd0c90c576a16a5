/- The least byte of a set from a place on; the zeros behind a word. -/
import Derived.Test.YtdlcnhelkjlglaaDoorOcRef
import Derived.Shelf.Spec.TrailingZeros
namespace Go.Proofs.YtdlcnhelkjlglaaDoor
open Go.RowKit
namespace Oc
/-- From f on, n steps at most: the first that says yes. -/
def nxt (p : Nat → Bool) : Nat → Nat → Nat
  | 0, f => f
  | n + 1, f => if p f then f else nxt p n (f + 1)
/-- The least byte at or behind f; 256: none. -/
def nx (p : Nat → Bool) (f : Nat) : Nat := nxt p (256 - f) f
theorem nxt_eq {p : Nat → Bool} : ∀ n f r, f ≤ r → r ≤ f + n → (∀ i, f ≤ i → i < r → p i = false) → (r < f + n → p r = true) → nxt p n f = r
  | 0, f, r, h0, h1, _, _ => by simp only [nxt]; omega
  | n + 1, f, r, h0, h1, h2, h3 => by
    simp only [nxt]
    by_cases e : f = r
    · subst e; rw [if_pos (h3 (by omega))]
    · rw [if_neg (by rw [h2 f (Nat.le_refl _) (by omega)]; simp)]
      exact nxt_eq n (f + 1) r (by omega) (by omega) (fun i hi hr => h2 i (by omega) hr) (fun h => h3 (by omega))
theorem nx_eq {p : Nat → Bool} {f r : Nat} (h0 : f ≤ r) (h1 : r ≤ 256) (h2 : ∀ i, f ≤ i → i < r → p i = false) (h3 : r < 256 → p r = true) : nx p f = r :=
  nxt_eq _ _ _ h0 (by omega) h2 (fun h => h3 (by omega))
theorem nxt_spec {p : Nat → Bool} : ∀ n f, f ≤ nxt p n f ∧ nxt p n f ≤ f + n ∧ (∀ i, f ≤ i → i < nxt p n f → p i = false) ∧ (nxt p n f < f + n → p (nxt p n f) = true)
  | 0, f => by simp only [nxt]; exact ⟨Nat.le_refl _, Nat.le_refl _, fun i h1 h2 => by omega, fun h => by omega⟩
  | n + 1, f => by
    simp only [nxt]
    split
    · rename_i h; exact ⟨Nat.le_refl _, by omega, fun i h1 h2 => by omega, fun _ => h⟩
    · rename_i h
      obtain ⟨h0, h1, h2, h3⟩ := nxt_spec (p := p) n (f + 1)
      refine ⟨by omega, by omega, fun i a b => ?_, fun a => h3 (by omega)⟩
      by_cases e : i = f
      · subst e; simpa using h
      · exact h2 i (by omega) b
theorem nx_spec (p : Nat → Bool) (f : Nat) (hf : f ≤ 256) : f ≤ nx p f ∧ nx p f ≤ 256 ∧ (∀ i, f ≤ i → i < nx p f → p i = false) ∧ (nx p f < 256 → p (nx p f) = true) := by
  obtain ⟨h0, h1, h2, h3⟩ := nxt_spec (p := p) (256 - f) f
  exact ⟨h0, by unfold nx; omega, h2, fun h => h3 (by unfold nx at h; omega)⟩
/-- How many zeros stand behind a word. -/
def zeros (x : BitVec 64) : Nat := Lib.ctz 64 x.toNat
/-- The zeros behind a word that isn't 0. -/
theorem ctz_bits (x : BitVec 64) (h : x ≠ 0#64) : zeros x < 64 ∧ x.getLsbD (zeros x) = true ∧ ∀ i, i < zeros x → x.getLsbD i = false := by
  unfold zeros
  have hx0 : x.toNat ≠ 0 := fun e => h (BitVec.eq_of_toNat_eq (by simpa using e))
  obtain ⟨m, hm, hlt⟩ := Lib.ctzFrom_spec 64 x.toNat (by omega) x.isLt
  have hc : Lib.ctz 64 x.toNat = Lib.ctzFrom 64 x.toNat := by unfold Lib.ctz; rw [if_neg hx0]
  rw [hc]
  generalize Lib.ctzFrom 64 x.toNat = c at *
  refine ⟨hlt, ?_, fun i hi => ?_⟩
  · show x.toNat.testBit c = true
    rw [hm, Nat.testBit_two_pow_mul]; simp
  · show x.toNat.testBit i = false
    rw [hm, Nat.testBit_two_pow_mul]; simp; omega
end Oc
set_option maxHeartbeats 1000000 in
theorem tz_core (x : BitVec 64) (k idx : Nat) (w : World) (hx0 : (Oc.U x == 0) = false)
    (key : IntKind.u64.wrap (bits BinOp.and IntKind.u64 (Oc.U x) (IntKind.u64.wrap (-(Oc.U x))) * 285870213051353865) / 288230376151711744 = (idx : Int))
    (hi : idx < 64) (hk : k < 64) (hcell : w.cell? ⟨21, idx, none⟩ = some (.int .u8 k)) :
    Calls Tryd.prog 35 #[.int .u64 (Oc.U x)] w fun e w' => e = .returned (.int .i64 k) ∧ w = w' := by
  go_enter Tryd.func35, Tryd.ntmps35
  go_wp2_with (simp only [key])
  go_ret
  exact ⟨rfl, rfl⟩
theorem tz_any (x : BitVec 64) (hx : x ≠ 0#64) (w : World) (hT : TabAt 21 Lib.deBruijn64tab w) :
    Calls Tryd.prog 35 #[.int .u64 (Oc.U x)] w fun e w' => e = .returned (.int .i64 (Oc.zeros x)) ∧ w = w' := by
  have hx0 : x.toNat ≠ 0 := fun e => hx (BitVec.eq_of_toNat_eq (by simpa using e))
  obtain ⟨hlow, hk⟩ := Lib.lowest_bit 64 x.toNat hx0 x.isLt
  obtain ⟨hi, htab⟩ := Lib.deBruijn64_at _ hk
  have hcell := hT _ hi
  rw [htab] at hcell
  exact tz_core x _ _ w (by unfold Oc.U; simp; omega) (tz64_key x.toNat _ x.isLt hx0 hlow) hi hk hcell
theorem shr_word (x : BitVec 64) (k : Nat) : Oc.U x / (2 : Int) ^ k = Oc.U (x >>> k) := by
  rw [← Oc.shrU]; congr 1
theorem U_zero {x : BitVec 64} : (Oc.U x = 0) = (x = 0#64) := by
  rw [eq_iff_iff]; constructor
  · intro h; exact Oc.U_inj (y := 0#64) (by rw [h]; decide)
  · rintro rfl; decide
theorem next_zero {a b c d : BitVec 64} {f k : Nat} (hn : ∀ i, f ≤ i → i < k → Oc.mem a b c d i = false) (hz : Oc.w4 a b c d (k / 64) >>> (k % 64) = 0#64) : ∀ i, f ≤ i → i < 64 * (k / 64) + 64 → Oc.mem a b c d i = false := by
  intro i h1 h2
  by_cases h : i < k
  · exact hn i h1 h
  · unfold Oc.mem
    rw [show i / 64 = k / 64 by omega, show i % 64 = k % 64 + (i % 64 - k % 64) by omega, ← BitVec.getLsbD_ushiftRight, hz]
    simp
theorem next_found {a b c d : BitVec 64} {f k : Nat} (hfk : f ≤ k) (hk : k < 256) (hn : ∀ i, f ≤ i → i < k → Oc.mem a b c d i = false) (hz : Oc.w4 a b c d (k / 64) >>> (k % 64) ≠ 0#64) :
    (Oc.nx (Oc.mem a b c d) f) = k + Oc.zeros (Oc.w4 a b c d (k / 64) >>> (k % 64)) := by
  obtain ⟨h0, h1, h2⟩ := Oc.ctz_bits _ hz
  generalize Oc.zeros (Oc.w4 a b c d (k / 64) >>> (k % 64)) = z at *
  rw [BitVec.getLsbD_ushiftRight] at h1
  have hlt : k % 64 + z < 64 := BitVec.lt_of_getLsbD h1
  refine Oc.nx_eq (by omega) (by omega) (fun i a1 a2 => ?_) (fun _ => ?_)
  · by_cases h : i < k
    · exact hn i a1 h
    · have h3 := h2 (i - k) (by omega)
      rw [BitVec.getLsbD_ushiftRight] at h3
      unfold Oc.mem
      rw [show i / 64 = k / 64 by omega, show i % 64 = k % 64 + (i - k) by omega]; exact h3
  · unfold Oc.mem
    rw [show (k + z) / 64 = k / 64 by omega, show (k + z) % 64 = k % 64 + z by omega]; exact h1
set_option maxRecDepth 100000 in
set_option maxHeartbeats 1000000 in
theorem next_any (a b c d : BitVec 64) (f : Nat) (hf : f ≤ 256) (w : World) (hT : TabAt 21 Lib.deBruijn64tab w) (hg : 21 < w.heap.size) :
    Calls Tryd.prog 29 #[(.agg #[.int .u64 (Oc.U a), .int .u64 (Oc.U b), .int .u64 (Oc.U c), .int .u64 (Oc.U d)]), .int .i64 f] w fun e w' => e = .returned (.int .i64 (Oc.nx (Oc.mem a b c d) f)) ∧ Below w.heap.size w w' := by
  have ha := Oc.U_nonneg a; have hb := Oc.U_nonneg b; have hc := Oc.U_nonneg c; have hd := Oc.U_nonneg d
  have hT1 : ∀ o, TabAt 21 Lib.deBruijn64tab (w.alloc o) := fun o j hj => (((Below.refl w.heap.size w).alloc (Nat.le_refl _) o).cell (p := ⟨_, j, none⟩) hg).trans (hT j hj)
  have HT := Lib.hid hT1
  clear hT hT1
  go_enter Tryd.func29, Tryd.ntmps29
  go_wp2
  go_loop [1] (fun i => ∃ k : Nat, f ≤ k ∧ k ≤ 256 ∧ i = .int .i64 k ∧ Hid (∀ i, f ≤ i → i < k → Oc.mem a b c d i = false)) (fun i => 256 - (intOf i).toNat)
  case atStart => exact ⟨f, Nat.le_refl _, hf, rfl, fun i h1 h2 => by omega⟩
  case round =>
    obtain ⟨k, hfk, hk, rfl, HN⟩ := hrel
    by_cases hlt : k < 256
    · have hq : k / 64 = 0 ∨ k / 64 = 1 ∨ k / 64 = 2 ∨ k / 64 = 3 := by omega
      rcases hq with hq | hq | hq | hq
      · have hx : Oc.w4 a b c d (k / 64) = a := by rw [hq]; rfl
        have HX := Lib.hid hx
        clear hx
        by_cases hz : a >>> (k % 64) = 0#64
        · have HZ := Lib.hid hz
          have hs := shr_word a (k % 64)
          rw [hz, show Oc.U 0#64 = 0 by decide] at hs
          clear hz
          go_wp2_with fail
          exact ⟨⟨64 * (k / 64) + 64, by omega, by omega, by congr 1; omega, next_zero HN.out (by rw [HX.out]; exact HZ.out)⟩, by simp [intOf]; omega⟩
        · have HZ := Lib.hid hz
          have hs := shr_word a (k % 64)
          have hne : (Oc.U (a >>> (k % 64)) == 0) = false := by
            rw [beq_eq_false_iff_ne]; intro h; exact hz (Oc.U_inj (y := 0#64) (by rw [h]; decide))
          have hlt2 := (Oc.ctz_bits _ hz).1
          have hfin := next_found hfk hlt HN.out (show Oc.w4 a b c d (k / 64) >>> (k % 64) ≠ 0#64 by rw [HX.out]; exact hz)
          rw [HX.out] at hfin
          have HF := Lib.hid hfin
          have hne2 : ¬ (Oc.U (a >>> (k % 64)) = 0) := fun h => hz (Oc.U_inj (y := 0#64) (by rw [h]; decide))
          clear hz hfin
          go_wp2_with fail
          refine (tz_any _ HZ.out _ (HT.out _)).mono ?_
          rintro e w' ⟨rfl, rfl⟩
          go_wp2
          go_ret
          exact ⟨ret_int (by rw [HF.out]; omega), by go_grown⟩
      · have hx : Oc.w4 a b c d (k / 64) = b := by rw [hq]; rfl
        have HX := Lib.hid hx
        clear hx
        by_cases hz : b >>> (k % 64) = 0#64
        · have HZ := Lib.hid hz
          have hs := shr_word b (k % 64)
          rw [hz, show Oc.U 0#64 = 0 by decide] at hs
          clear hz
          go_wp2_with fail
          exact ⟨⟨64 * (k / 64) + 64, by omega, by omega, by congr 1; omega, next_zero HN.out (by rw [HX.out]; exact HZ.out)⟩, by simp [intOf]; omega⟩
        · have HZ := Lib.hid hz
          have hs := shr_word b (k % 64)
          have hne : (Oc.U (b >>> (k % 64)) == 0) = false := by
            rw [beq_eq_false_iff_ne]; intro h; exact hz (Oc.U_inj (y := 0#64) (by rw [h]; decide))
          have hlt2 := (Oc.ctz_bits _ hz).1
          have hfin := next_found hfk hlt HN.out (show Oc.w4 a b c d (k / 64) >>> (k % 64) ≠ 0#64 by rw [HX.out]; exact hz)
          rw [HX.out] at hfin
          have HF := Lib.hid hfin
          have hne2 : ¬ (Oc.U (b >>> (k % 64)) = 0) := fun h => hz (Oc.U_inj (y := 0#64) (by rw [h]; decide))
          clear hz hfin
          go_wp2_with fail
          refine (tz_any _ HZ.out _ (HT.out _)).mono ?_
          rintro e w' ⟨rfl, rfl⟩
          go_wp2
          go_ret
          exact ⟨ret_int (by rw [HF.out]; omega), by go_grown⟩
      · have hx : Oc.w4 a b c d (k / 64) = c := by rw [hq]; rfl
        have HX := Lib.hid hx
        clear hx
        by_cases hz : c >>> (k % 64) = 0#64
        · have HZ := Lib.hid hz
          have hs := shr_word c (k % 64)
          rw [hz, show Oc.U 0#64 = 0 by decide] at hs
          clear hz
          go_wp2_with fail
          exact ⟨⟨64 * (k / 64) + 64, by omega, by omega, by congr 1; omega, next_zero HN.out (by rw [HX.out]; exact HZ.out)⟩, by simp [intOf]; omega⟩
        · have HZ := Lib.hid hz
          have hs := shr_word c (k % 64)
          have hne : (Oc.U (c >>> (k % 64)) == 0) = false := by
            rw [beq_eq_false_iff_ne]; intro h; exact hz (Oc.U_inj (y := 0#64) (by rw [h]; decide))
          have hlt2 := (Oc.ctz_bits _ hz).1
          have hfin := next_found hfk hlt HN.out (show Oc.w4 a b c d (k / 64) >>> (k % 64) ≠ 0#64 by rw [HX.out]; exact hz)
          rw [HX.out] at hfin
          have HF := Lib.hid hfin
          have hne2 : ¬ (Oc.U (c >>> (k % 64)) = 0) := fun h => hz (Oc.U_inj (y := 0#64) (by rw [h]; decide))
          clear hz hfin
          go_wp2_with fail
          refine (tz_any _ HZ.out _ (HT.out _)).mono ?_
          rintro e w' ⟨rfl, rfl⟩
          go_wp2
          go_ret
          exact ⟨ret_int (by rw [HF.out]; omega), by go_grown⟩
      · have hx : Oc.w4 a b c d (k / 64) = d := by rw [hq]; rfl
        have HX := Lib.hid hx
        clear hx
        by_cases hz : d >>> (k % 64) = 0#64
        · have HZ := Lib.hid hz
          have hs := shr_word d (k % 64)
          rw [hz, show Oc.U 0#64 = 0 by decide] at hs
          clear hz
          go_wp2_with fail
          exact ⟨⟨64 * (k / 64) + 64, by omega, by omega, by congr 1; omega, next_zero HN.out (by rw [HX.out]; exact HZ.out)⟩, by simp [intOf]; omega⟩
        · have HZ := Lib.hid hz
          have hs := shr_word d (k % 64)
          have hne : (Oc.U (d >>> (k % 64)) == 0) = false := by
            rw [beq_eq_false_iff_ne]; intro h; exact hz (Oc.U_inj (y := 0#64) (by rw [h]; decide))
          have hlt2 := (Oc.ctz_bits _ hz).1
          have hfin := next_found hfk hlt HN.out (show Oc.w4 a b c d (k / 64) >>> (k % 64) ≠ 0#64 by rw [HX.out]; exact hz)
          rw [HX.out] at hfin
          have HF := Lib.hid hfin
          have hne2 : ¬ (Oc.U (d >>> (k % 64)) = 0) := fun h => hz (Oc.U_inj (y := 0#64) (by rw [h]; decide))
          clear hz hfin
          go_wp2_with fail
          refine (tz_any _ HZ.out _ (HT.out _)).mono ?_
          rintro e w' ⟨rfl, rfl⟩
          go_wp2
          go_ret
          exact ⟨ret_int (by rw [HF.out]; omega), by go_grown⟩
    · obtain rfl : k = 256 := by omega
      have hfin : Oc.nx (Oc.mem a b c d) f = 256 := Oc.nx_eq hf (Nat.le_refl _) HN.out (fun h => by omega)
      have HF := Lib.hid hfin
      clear hfin
      go_wp2
      go_ret
      exact ⟨ret_int (by rw [HF.out]; rfl), by go_grown⟩
end Go.Proofs.YtdlcnhelkjlglaaDoor
