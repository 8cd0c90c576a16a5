/- The count of a word's bits by fields of growing width (as math/bits does it) is the count of its bits. It imports nothing of the program. -/
import Derived.Test.YtlbhbjmobcikfaaGreatDoorOcMath
namespace Go.Proofs.YtlbhbjmobcikfaaGreatDoor
namespace Oc

theorem and_split (a c b d : Nat) (hb : b < 256) (hd : d < 256) : (256 * a + b) &&& (256 * c + d) = 256 * (a &&& c) + (b &&& d) := by
  have hbd : b &&& d < 2 ^ 8 := Nat.and_lt_two_pow _ (by omega)
  apply Nat.eq_of_testBit_eq; intro i
  rw [show (256 : Nat) = 2 ^ 8 from rfl, Nat.testBit_and, Nat.testBit_two_pow_mul_add _ (by omega), Nat.testBit_two_pow_mul_add _ (by omega), Nat.testBit_two_pow_mul_add _ hbd]
  split <;> simp

def m1 : Nat → Nat | 0 => 0 | n + 1 => 256 * m1 n + 85
def m2 : Nat → Nat | 0 => 0 | n + 1 => 256 * m2 n + 51
def m4 : Nat → Nat | 0 => 0 | n + 1 => 256 * m4 n + 15
def k4 : Nat → Nat | 0 => 0 | n + 1 => 256 * k4 n + 68
def y1 (n x : Nat) : Nat := ((x / 2) &&& m1 n) + (x &&& m1 n)
def y2 (n x : Nat) : Nat := ((y1 n x / 4) &&& m2 n) + (y1 n x &&& m2 n)
def y3 (n x : Nat) : Nat := (y2 n x / 16 + y2 n x) &&& m4 n
/-- The same of one byte. -/
def a1 (x : Nat) : Nat := ((x / 2) &&& 85) + (x &&& 85)
def a2 (x : Nat) : Nat := ((a1 x / 4) &&& 51) + (a1 x &&& 51)
def a3 (x : Nat) : Nat := (a2 x / 16 + a2 x) &&& 15
theorem byte_facts : ∀ r, r < 256 → a1 r < 256 ∧ a2 r ≤ 68 ∧ a2 r % 16 ≤ 4 ∧ a3 r = cnt r.testBit 8 ∧ a3 r ≤ 8 := by decide +kernel
theorem mask_facts : ∀ r, r < 256 → (∀ t, t < 2 → (128 * t + r / 2) &&& 85 = (r / 2) &&& 85) ∧ (∀ t, t < 4 → (64 * t + r / 4) &&& 51 = (r / 4) &&& 51) := by decide +kernel
theorem low_facts : ∀ s, s < 73 → ∀ t, t < 5 → (16 * t + s) &&& 15 = s &&& 15 := by decide +kernel
theorem y1_step (n q r : Nat) (h : r < 256) : y1 (n + 1) (256 * q + r) = 256 * y1 n q + a1 r := by
  have e : (256 * q + r) / 2 = 256 * (q / 2) + (128 * (q % 2) + r / 2) := by omega
  unfold y1 a1; simp only [m1]
  rw [e, and_split _ _ _ _ (by omega) (by omega), and_split _ _ _ _ h (by omega), (mask_facts r h).1 (q % 2) (by omega)]
  omega
theorem y2_step (n q r : Nat) (h : r < 256) : y2 (n + 1) (256 * q + r) = 256 * y2 n q + a2 r := by
  have hb := (byte_facts r h).1
  have e : (256 * y1 n q + a1 r) / 4 = 256 * (y1 n q / 4) + (64 * (y1 n q % 4) + a1 r / 4) := by omega
  unfold y2 a2; simp only [m2]
  rw [y1_step n q r h, e, and_split _ _ _ _ (by omega) (by omega), and_split _ _ _ _ hb (by omega), (mask_facts (a1 r) hb).2 (y1 n q % 4) (by omega)]
  omega
theorem y2_le : ∀ n x, x < 256 ^ n → y2 n x ≤ k4 n ∧ y2 n x % 16 ≤ 4
  | 0, x, h => by
    have : x = 0 := by simpa using h
    subst this; decide
  | n + 1, x, h => by
    have hr : x % 256 < 256 := by omega
    have hq : x / 256 < 256 ^ n := by rw [Nat.pow_succ] at h; omega
    have := y2_le n (x / 256) hq
    have hb := byte_facts _ hr
    have e := y2_step n (x / 256) (x % 256) hr
    rw [show 256 * (x / 256) + x % 256 = x by omega] at e
    rw [e]; simp only [k4]; omega
theorem y3_step (n q r : Nat) (hq : q < 256 ^ n) (h : r < 256) : y3 (n + 1) (256 * q + r) = 256 * y3 n q + a3 r := by
  have hb := byte_facts r h
  have hy := (y2_le n q hq).2
  have e : (256 * y2 n q + a2 r) / 16 + (256 * y2 n q + a2 r) = 256 * (y2 n q / 16 + y2 n q) + (16 * (y2 n q % 16) + (a2 r / 16 + a2 r)) := by omega
  unfold y3 a3; simp only [m4]
  rw [y2_step n q r h, e, and_split _ _ _ _ (by omega) (by omega), low_facts _ (by omega) _ (by omega)]
theorem chain8 (z0 z1 z2 z3 z4 z5 z6 z7 z8 q0 q1 q2 q3 q4 q5 q6 q7 : Nat) (h0 : z0 = 256 * z1 + q0) (h1 : z1 = 256 * z2 + q1) (h2 : z2 = 256 * z3 + q2) (h3 : z3 = 256 * z4 + q3) (h4 : z4 = 256 * z5 + q4)
    (h5 : z5 = 256 * z6 + q5) (h6 : z6 = 256 * z7 + q6) (h7 : z7 = 256 * z8 + q7) (h8 : z8 = 0) :
    z0 = q0 + 256 * q1 + 65536 * q2 + 16777216 * q3 + 4294967296 * q4 + 1099511627776 * q5 + 281474976710656 * q6 + 72057594037927936 * q7 := by omega
/-- Byte j of x. -/
def byt (x j : Nat) : Nat := x / 256 ^ j % 256
def top (x j : Nat) : Nat := x / 256 ^ j
theorem top_succ (x j : Nat) : top x j = 256 * top x (j + 1) + byt x j := by
  unfold top byt; rw [Nat.pow_succ, ← Nat.div_div_eq_div_mul]; omega
theorem byt_lt (x j : Nat) : byt x j < 256 := by unfold byt; omega
theorem top_lt (x : Nat) (h : x < 256 ^ 8) (n j : Nat) (hj : j + n = 8) : top x j < 256 ^ n := by
  unfold top; rw [Nat.div_lt_iff_lt_mul (Nat.pow_pos (by omega)), ← Nat.pow_add, Nat.add_comm, hj]; exact h
theorem byt_cnt (x j : Nat) : cnt (fun i => x.testBit (8 * j + i)) 8 = a3 (byt x j) := by
  rw [(byte_facts (byt x j) (byt_lt x j)).2.2.2.1]
  refine cnt_congr 8 fun i hi => ?_
  unfold byt
  rw [show (256 : Nat) = 2 ^ 8 from rfl, Nat.testBit_mod_two_pow, ← Nat.pow_mul, Nat.testBit_div_two_pow]
  simp [hi, Nat.add_comm]
theorem cnt8 (x : Nat) : ∀ n, cnt x.testBit (8 * n) = (List.range n).foldl (fun s j => s + a3 (byt x j)) 0
  | 0 => rfl
  | n + 1 => by rw [List.range_succ, List.foldl_append, ← cnt8 x n, Nat.mul_succ, cnt_add, byt_cnt]; rfl
theorem y3_top (x : Nat) (h : x < 256 ^ 8) (n j : Nat) (hj : j + (n + 1) = 8) : y3 (n + 1) (top x j) = 256 * y3 n (top x (j + 1)) + a3 (byt x j) := by
  rw [top_succ x j]; exact y3_step n _ _ (top_lt x h n (j + 1) (by omega)) (byt_lt x j)
/-- Eight counts side by side. -/
theorem y3_eight (x : Nat) (h : x < 18446744073709551616) : ∃ p0 p1 p2 p3 p4 p5 p6 p7 : Nat, p0 ≤ 8 ∧ p1 ≤ 8 ∧ p2 ≤ 8 ∧ p3 ≤ 8 ∧ p4 ≤ 8 ∧ p5 ≤ 8 ∧ p6 ≤ 8 ∧ p7 ≤ 8 ∧
    y3 8 x = p0 + 256 * p1 + 65536 * p2 + 16777216 * p3 + 4294967296 * p4 + 1099511627776 * p5 + 281474976710656 * p6 + 72057594037927936 * p7 ∧ cnt x.testBit 64 = p0 + p1 + p2 + p3 + p4 + p5 + p6 + p7 := by
  have hx : x < 256 ^ 8 := h
  have hb : ∀ j, a3 (byt x j) ≤ 8 := fun j => (byte_facts _ (byt_lt x j)).2.2.2.2
  have ht : top x 0 = x := by unfold top; simp
  have h8 : y3 0 (top x 8) = 0 := by unfold y3; simp [m4]
  have s0 := y3_top x hx 7 0 rfl
  rw [ht] at s0
  refine ⟨a3 (byt x 0), a3 (byt x 1), a3 (byt x 2), a3 (byt x 3), a3 (byt x 4), a3 (byt x 5), a3 (byt x 6), a3 (byt x 7), hb 0, hb 1, hb 2, hb 3, hb 4, hb 5, hb 6, hb 7, ?_, ?_⟩
  · exact chain8 _ (y3 7 (top x 1)) (y3 6 (top x 2)) (y3 5 (top x 3)) (y3 4 (top x 4)) (y3 3 (top x 5)) (y3 2 (top x 6)) (y3 1 (top x 7)) (y3 0 (top x 8)) _ _ _ _ _ _ _ _
      s0 (y3_top x hx 6 1 rfl) (y3_top x hx 5 2 rfl) (y3_top x hx 4 3 rfl) (y3_top x hx 3 4 rfl) (y3_top x hx 2 5 rfl) (y3_top x hx 1 6 rfl) (y3_top x hx 0 7 rfl) h8
  · have := cnt8 x 8
    rw [show 8 * 8 = 64 from rfl] at this
    rw [this, show List.range 8 = [0, 1, 2, 3, 4, 5, 6, 7] from rfl]
    simp only [List.foldl_cons, List.foldl_nil]
    omega
/-- The words of the road, as the walk writes them. -/
def v1 (x : BitVec 64) : BitVec 64 := ((x >>> 1) &&& 6148914691236517205#64) + (x &&& 6148914691236517205#64)
def v2 (x : BitVec 64) : BitVec 64 := ((v1 x >>> 2) &&& 3689348814741910323#64) + (v1 x &&& 3689348814741910323#64)
def v3 (x : BitVec 64) : BitVec 64 := ((v2 x >>> 4) + v2 x) &&& 1085102592571150095#64
def v4 (x : BitVec 64) : BitVec 64 := v3 x + (v3 x >>> 8)
def v5 (x : BitVec 64) : BitVec 64 := v4 x + (v4 x >>> 16)
def v6 (x : BitVec 64) : BitVec 64 := v5 x + (v5 x >>> 32)
theorem and_lit1 (x : BitVec 64) : bits .and .u64 (U x) 6148914691236517205 = U (x &&& 6148914691236517205#64) := andU x 6148914691236517205#64
theorem and_lit2 (x : BitVec 64) : bits .and .u64 (U x) 3689348814741910323 = U (x &&& 3689348814741910323#64) := andU x 3689348814741910323#64
theorem and_lit4 (x : BitVec 64) : bits .and .u64 (U x) 1085102592571150095 = U (x &&& 1085102592571150095#64) := andU x 1085102592571150095#64
theorem k4_8 : k4 8 = 4919131752989213764 := by decide
theorem m1_8 : m1 8 = 6148914691236517205 := by decide
theorem m2_8 : m2 8 = 3689348814741910323 := by decide
theorem m4_8 : m4 8 = 1085102592571150095 := by decide
theorem v1_eq (x : BitVec 64) : (v1 x).toNat = y1 8 x.toNat := by
  unfold v1 y1
  rw [m1_8, BitVec.toNat_add, BitVec.toNat_and, BitVec.toNat_and, BitVec.toNat_ushiftRight, Nat.shiftRight_eq_div_pow, BitVec.toNat_ofNat]
  have a : (x.toNat / 2 ^ 1) &&& (6148914691236517205 % 2 ^ 64) ≤ 6148914691236517205 := Nat.and_le_right
  have b : x.toNat &&& (6148914691236517205 % 2 ^ 64) ≤ 6148914691236517205 := Nat.and_le_right
  rw [Nat.mod_eq_of_lt]
  exact Nat.lt_of_le_of_lt (Nat.add_le_add a b) (by decide)
theorem v2_eq (x : BitVec 64) : (v2 x).toNat = y2 8 x.toNat := by
  unfold v2 y2
  rw [m2_8, BitVec.toNat_add, BitVec.toNat_and, BitVec.toNat_and, BitVec.toNat_ushiftRight, Nat.shiftRight_eq_div_pow, BitVec.toNat_ofNat, v1_eq]
  have a : (y1 8 x.toNat / 2 ^ 2) &&& (3689348814741910323 % 2 ^ 64) ≤ 3689348814741910323 := Nat.and_le_right
  have b : y1 8 x.toNat &&& (3689348814741910323 % 2 ^ 64) ≤ 3689348814741910323 := Nat.and_le_right
  rw [Nat.mod_eq_of_lt]
  exact Nat.lt_of_le_of_lt (Nat.add_le_add a b) (by decide)
theorem v3_eq (x : BitVec 64) : (v3 x).toNat = y3 8 x.toNat := by
  have hk := (y2_le 8 x.toNat (show x.toNat < 256 ^ 8 from x.isLt)).1
  rw [k4_8] at hk
  unfold v3 y3
  rw [m4_8, BitVec.toNat_and, BitVec.toNat_add, BitVec.toNat_ushiftRight, Nat.shiftRight_eq_div_pow, BitVec.toNat_ofNat, v2_eq]
  have a : y2 8 x.toNat / 2 ^ 4 ≤ 4919131752989213764 := Nat.le_trans (Nat.div_le_self _ _) hk
  rw [Nat.mod_eq_of_lt (Nat.lt_of_le_of_lt (Nat.add_le_add a hk) (by decide))]
theorem v4_eq {x : BitVec 64} {p0 p1 p2 p3 p4 p5 p6 p7 : Nat} (b0 : p0 ≤ 8) (b1 : p1 ≤ 8) (b2 : p2 ≤ 8) (b3 : p3 ≤ 8) (b4 : p4 ≤ 8) (b5 : p5 ≤ 8) (b6 : p6 ≤ 8) (b7 : p7 ≤ 8)
    (h : (v3 x).toNat = p0 + 256 * p1 + 65536 * p2 + 16777216 * p3 + 4294967296 * p4 + 1099511627776 * p5 + 281474976710656 * p6 + 72057594037927936 * p7) :
    (v4 x).toNat = (p0 + p1) + 256 * (p1 + p2) + 65536 * (p2 + p3) + 16777216 * (p3 + p4) + 4294967296 * (p4 + p5) + 1099511627776 * (p5 + p6) + 281474976710656 * (p6 + p7) + 72057594037927936 * p7 := by
  unfold v4
  rw [BitVec.toNat_add, BitVec.toNat_ushiftRight, Nat.shiftRight_eq_div_pow, show 2 ^ 8 = 256 from rfl]
  have e : (v3 x).toNat / 256 = p1 + 256 * p2 + 65536 * p3 + 16777216 * p4 + 4294967296 * p5 + 1099511627776 * p6 + 281474976710656 * p7 := by omega
  rw [e, h, Nat.mod_eq_of_lt] <;> omega
theorem v5_eq {x : BitVec 64} {q0 q1 q2 q3 q4 q5 q6 q7 : Nat} (b0 : q0 ≤ 16) (b1 : q1 ≤ 16) (b2 : q2 ≤ 16) (b3 : q3 ≤ 16) (b4 : q4 ≤ 16) (b5 : q5 ≤ 16) (b6 : q6 ≤ 16) (_ : q7 ≤ 16)
    (h : (v4 x).toNat = q0 + 256 * q1 + 65536 * q2 + 16777216 * q3 + 4294967296 * q4 + 1099511627776 * q5 + 281474976710656 * q6 + 72057594037927936 * q7) :
    (v5 x).toNat = (q0 + q2) + 256 * (q1 + q3) + 65536 * (q2 + q4) + 16777216 * (q3 + q5) + 4294967296 * (q4 + q6) + 1099511627776 * (q5 + q7) + 281474976710656 * q6 + 72057594037927936 * q7 := by
  unfold v5
  rw [BitVec.toNat_add, BitVec.toNat_ushiftRight, Nat.shiftRight_eq_div_pow, show 2 ^ 16 = 65536 from rfl]
  have e : (v4 x).toNat / 65536 = q2 + 256 * q3 + 65536 * q4 + 16777216 * q5 + 4294967296 * q6 + 1099511627776 * q7 := by omega
  rw [e, h, Nat.mod_eq_of_lt] <;> omega
theorem v6_eq {x : BitVec 64} {q0 q1 q2 q3 q4 q5 q6 q7 : Nat} (b0 : q0 ≤ 32) (b1 : q1 ≤ 32) (b2 : q2 ≤ 32) (b3 : q3 ≤ 32) (b4 : q4 ≤ 32) (_ : q5 ≤ 32) (_ : q6 ≤ 32) (_ : q7 ≤ 32)
    (h : (v5 x).toNat = q0 + 256 * q1 + 65536 * q2 + 16777216 * q3 + 4294967296 * q4 + 1099511627776 * q5 + 281474976710656 * q6 + 72057594037927936 * q7) :
    (v6 x).toNat = (q0 + q4) + 256 * (q1 + q5) + 65536 * (q2 + q6) + 16777216 * (q3 + q7) + 4294967296 * q4 + 1099511627776 * q5 + 281474976710656 * q6 + 72057594037927936 * q7 := by
  unfold v6
  rw [BitVec.toNat_add, BitVec.toNat_ushiftRight, Nat.shiftRight_eq_div_pow, show 2 ^ 32 = 4294967296 from rfl]
  have e : (v5 x).toNat / 4294967296 = q4 + 256 * q5 + 65536 * q6 + 16777216 * q7 := by omega
  rw [e, h, Nat.mod_eq_of_lt] <;> omega
theorem and127 (y : BitVec 64) : bits .and .i64 (RowKit.wrap64 (U y)) 127 = ((y.toNat % 128 : Nat) : Int) := by
  have e : BitVec.ofInt 64 (RowKit.wrap64 (U y)) = y := by
    apply BitVec.eq_of_toNat_eq
    rw [BitVec.toNat_ofInt]
    have := y.isLt
    unfold RowKit.wrap64 U
    omega
  show IntKind.i64.wrap ((BitVec.ofInt 64 (RowKit.wrap64 (U y)) &&& BitVec.ofInt 64 127).toNat : Int) = _
  rw [e, BitVec.toNat_and, show (BitVec.ofInt 64 127).toNat = 2 ^ 7 - 1 from rfl, Nat.and_two_pow_sub_one_eq_mod]
  rw [IntKind.wrap_i64]
  have : y.toNat % 2 ^ 7 < 128 := by omega
  omega
theorem ones_eq (x : BitVec 64) : (v6 x).toNat % 128 = cnt x.getLsbD 64 := by
  obtain ⟨p0, p1, p2, p3, p4, p5, p6, p7, b0, b1, b2, b3, b4, b5, b6, b7, hy, hc⟩ := y3_eight x.toNat x.isLt
  have h3 : (v3 x).toNat = _ := (v3_eq x).trans hy
  have h4 := v4_eq b0 b1 b2 b3 b4 b5 b6 b7 h3
  have h5 := v5_eq (by omega) (by omega) (by omega) (by omega) (by omega) (by omega) (by omega) (by omega) h4
  have h6 := v6_eq (by omega) (by omega) (by omega) (by omega) (by omega) (by omega) (by omega) (by omega) h5
  have h7 : cnt x.getLsbD 64 = cnt x.toNat.testBit 64 := rfl
  rw [h7, hc, h6]
  clear h3 h4 h5 h6 h7 hy hc
  omega
end Oc
end Go.Proofs.YtlbhbjmobcikfaaGreatDoor
