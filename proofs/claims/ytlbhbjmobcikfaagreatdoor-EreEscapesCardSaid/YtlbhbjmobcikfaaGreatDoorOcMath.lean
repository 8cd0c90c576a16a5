/- Plain facts on words of 64 bits, on counts and on sets of bytes as four words. It imports nothing of the program. -/
import Derived.WalkKit
namespace Go.Proofs.YtlbhbjmobcikfaaGreatDoor
namespace Oc

/-- A word as the integer that the model holds. -/
def U (x : BitVec 64) : Int := x.toNat
theorem U_nonneg (x : BitVec 64) : 0 ≤ U x := by unfold U; omega
theorem U_lt (x : BitVec 64) : U x < 18446744073709551616 := by have := x.isLt; unfold U; omega
theorem U_inj {x y : BitVec 64} (h : U x = U y) : x = y := by
  unfold U at h; exact BitVec.eq_of_toNat_eq (by omega)
theorem U_toNat (x : BitVec 64) : (U x).toNat = x.toNat := by unfold U; omega
theorem ofInt_U (x : BitVec 64) : BitVec.ofInt 64 (U x) = x := by
  unfold U; rw [BitVec.ofInt_natCast]; exact BitVec.eq_of_toNat_eq (by rw [BitVec.toNat_ofNat]; exact Nat.mod_eq_of_lt x.isLt)
theorem wrapU (n : Int) : IntKind.u64.wrap n = U (BitVec.ofInt 64 n) := by
  rw [IntKind.wrap_u64]; unfold U; rw [BitVec.toNat_ofInt]; omega
theorem andU (x y : BitVec 64) : bits .and .u64 (U x) (U y) = U (x &&& y) := by
  show IntKind.u64.wrap ((BitVec.ofInt 64 (U x) &&& BitVec.ofInt 64 (U y)).toNat : Int) = _
  rw [ofInt_U, ofInt_U, wrapU]; exact congrArg U (ofInt_U (x &&& y))
theorem orU (x y : BitVec 64) : bits .or .u64 (U x) (U y) = U (x ||| y) := by
  show IntKind.u64.wrap ((BitVec.ofInt 64 (U x) ||| BitVec.ofInt 64 (U y)).toNat : Int) = _
  rw [ofInt_U, ofInt_U, wrapU]; exact congrArg U (ofInt_U (x ||| y))
theorem maxU : IntKind.u64.max = U (BitVec.allOnes 64) := by decide
theorem notU (x : BitVec 64) : bits .xor .u64 IntKind.u64.max (U x) = U (~~~x) := by
  rw [maxU]
  show IntKind.u64.wrap ((BitVec.ofInt 64 (U (BitVec.allOnes 64)) ^^^ BitVec.ofInt 64 (U x)).toNat : Int) = _
  rw [ofInt_U, ofInt_U, wrapU]
  exact congrArg U ((ofInt_U (BitVec.allOnes 64 ^^^ x)).trans BitVec.allOnes_xor)
theorem addU (x y : BitVec 64) : IntKind.u64.wrap (U x + U y) = U (x + y) := by
  rw [wrapU]; refine congrArg U ?_
  rw [BitVec.ofInt_add, ofInt_U, ofInt_U]
theorem wrapU_self (x : BitVec 64) : IntKind.u64.wrap (U x) = U x := by rw [wrapU, ofInt_U]
theorem shrU (x : BitVec 64) (n : Nat) : U x / ((2 ^ n : Nat) : Int) = U (x >>> n) := by
  unfold U; rw [BitVec.toNat_ushiftRight, Nat.shiftRight_eq_div_pow]; simp
theorem litU (n : Nat) (h : n < 18446744073709551616) : (n : Int) = U (BitVec.ofNat 64 n) := by
  unfold U; rw [BitVec.toNat_ofNat, Nat.mod_eq_of_lt (by omega)]

theorem shr1 (x : BitVec 64) : U x / (2 : Int) = U (x >>> 1) := shrU x 1
theorem shr2 (x : BitVec 64) : U x / (4 : Int) = U (x >>> 2) := shrU x 2
theorem shr4 (x : BitVec 64) : U x / (16 : Int) = U (x >>> 4) := shrU x 4
theorem shr8 (x : BitVec 64) : U x / (256 : Int) = U (x >>> 8) := shrU x 8
theorem shr16 (x : BitVec 64) : U x / (65536 : Int) = U (x >>> 16) := shrU x 16
theorem shr32 (x : BitVec 64) : U x / (4294967296 : Int) = U (x >>> 32) := shrU x 32
theorem hasBit (x : BitVec 64) (k : Nat) : (bits .and .u64 (U x / (2 : Int) ^ k) 1 == 1) = x.getLsbD k := by
  have e : U x / (2 : Int) ^ k = U (x >>> k) := by
    rw [← shrU]; congr 1
  have e1 : (1 : Int) = U 1#64 := by decide
  rw [e]
  show (bits .and .u64 (U (x >>> k)) (U 1#64) == U 1#64) = _
  rw [andU]
  have hb : (x >>> k &&& 1#64) = if x.getLsbD k then 1#64 else 0#64 := by
    apply BitVec.eq_of_getLsbD_eq; intro i hi
    by_cases h : i = 0
    · subst h; cases hx : x.getLsbD k <;> simp [hx]
    · cases hx : x.getLsbD k <;> simp [h]
  rw [hb]
  cases x.getLsbD k <;> decide
theorem shlBit (k : Nat) : IntKind.u64.wrap ((2 : Int) ^ k) = U (1#64 <<< k) := by
  rw [wrapU]; refine congrArg U ?_
  apply BitVec.eq_of_toNat_eq
  rw [BitVec.toNat_shiftLeft, show ((2 : Int) ^ k) = ((2 ^ k : Nat) : Int) by simp, BitVec.ofInt_natCast, BitVec.toNat_ofNat, Nat.shiftLeft_eq]
  simp

/-- How many of the first n say yes. -/
def cnt (p : Nat → Bool) : Nat → Nat
  | 0 => 0
  | n + 1 => cnt p n + (p n).toNat
theorem cnt_le (p : Nat → Bool) : ∀ n, cnt p n ≤ n
  | 0 => Nat.le_refl _
  | n + 1 => by have := cnt_le p n; have := (p n).toNat_le; simp only [cnt]; omega
theorem cnt_add (p : Nat → Bool) (m : Nat) : ∀ n, cnt p (m + n) = cnt p m + cnt (fun i => p (m + i)) n
  | 0 => rfl
  | n + 1 => by rw [← Nat.add_assoc]; simp only [cnt]; rw [cnt_add p m n]; omega
theorem cnt_congr {p q : Nat → Bool} : ∀ n, (∀ i, i < n → p i = q i) → cnt p n = cnt q n
  | 0, _ => rfl
  | n + 1, h => by simp only [cnt]; rw [cnt_congr n (fun i hi => h i (by omega)), h n (by omega)]
theorem cnt_or_and (p q : Nat → Bool) : ∀ n, cnt (fun i => p i || q i) n + cnt (fun i => p i && q i) n = cnt p n + cnt q n
  | 0 => rfl
  | n + 1 => by
    have := cnt_or_and p q n
    simp only [cnt]
    cases p n <;> cases q n <;> simp <;> omega
theorem cnt_not (p : Nat → Bool) : ∀ n, cnt (fun i => !p i) n + cnt p n = n
  | 0 => rfl
  | n + 1 => by
    have := cnt_not p n
    simp only [cnt]
    cases p n <;> simp <;> omega

/-- One of the four words. -/
def w4 (a b c d : BitVec 64) (k : Nat) : BitVec 64 := if k = 0 then a else if k = 1 then b else if k = 2 then c else d
/-- Is byte i in the set of the four words? -/
def mem (a b c d : BitVec 64) (i : Nat) : Bool := (w4 a b c d (i / 64)).getLsbD (i % 64)
theorem mem0 (a b c d : BitVec 64) (i : Nat) (h : i < 64) : mem a b c d i = a.getLsbD i := by
  unfold mem w4; rw [show i / 64 = 0 by omega, show i % 64 = i by omega]; rfl
theorem mem1 (a b c d : BitVec 64) (i : Nat) (h : i < 64) : mem a b c d (64 + i) = b.getLsbD i := by
  unfold mem w4; rw [show (64 + i) / 64 = 1 by omega, show (64 + i) % 64 = i by omega]; rfl
theorem mem2 (a b c d : BitVec 64) (i : Nat) (h : i < 64) : mem a b c d (128 + i) = c.getLsbD i := by
  unfold mem w4; rw [show (128 + i) / 64 = 2 by omega, show (128 + i) % 64 = i by omega]; rfl
theorem mem3 (a b c d : BitVec 64) (i : Nat) (h : i < 64) : mem a b c d (192 + i) = d.getLsbD i := by
  unfold mem w4; rw [show (192 + i) / 64 = 3 by omega, show (192 + i) % 64 = i by omega]; rfl
theorem mem_or (a b c d a' b' c' d' : BitVec 64) (i : Nat) : mem (a ||| a') (b ||| b') (c ||| c') (d ||| d') i = (mem a b c d i || mem a' b' c' d' i) := by
  unfold mem w4; split <;> (try split) <;> (try split) <;> simp
theorem mem_and (a b c d a' b' c' d' : BitVec 64) (i : Nat) : mem (a &&& a') (b &&& b') (c &&& c') (d &&& d') i = (mem a b c d i && mem a' b' c' d' i) := by
  unfold mem w4; split <;> (try split) <;> (try split) <;> simp
theorem mem_not (a b c d : BitVec 64) (i : Nat) : mem (~~~a) (~~~b) (~~~c) (~~~d) i = !mem a b c d i := by
  have : i % 64 < 64 := by omega
  unfold mem w4; split <;> (try split) <;> (try split) <;> simp [this]
/-- Word k of the set that p tells, its first n bits. -/
def wn (p : Nat → Bool) (k : Nat) : Nat → Nat
  | 0 => 0
  | n + 1 => wn p k n + (if p (64 * k + n) then 2 ^ n else 0)
theorem wn_lt (p : Nat → Bool) (k : Nat) : ∀ n, wn p k n < 2 ^ n
  | 0 => by simp [wn]
  | n + 1 => by have := wn_lt p k n; simp only [wn]; split <;> omega
theorem wn_bit (p : Nat → Bool) (k : Nat) : ∀ n i, i < n → (wn p k n).testBit i = p (64 * k + i)
  | 0, i, h => by omega
  | n + 1, i, h => by
    have hl := wn_lt p k n
    simp only [wn]
    by_cases e : i = n
    · subst e
      by_cases q : p (64 * k + i) = true
      · rw [if_pos q, q, Nat.add_comm, Nat.testBit_two_pow_add_eq, Nat.testBit_lt_two_pow hl]; rfl
      · rw [if_neg q, Nat.add_zero, Nat.testBit_lt_two_pow hl]; simpa using q
    · rw [← wn_bit p k n i (by omega)]
      split
      · rw [Nat.add_comm, Nat.testBit_two_pow_add_gt (by omega)]
      · rw [Nat.add_zero]
def mk (p : Nat → Bool) (k : Nat) : BitVec 64 := BitVec.ofNat 64 (wn p k 64)
theorem mk_bit (p : Nat → Bool) (k i : Nat) (h : i < 64) : (mk p k).getLsbD i = p (64 * k + i) := by
  unfold mk; rw [BitVec.getLsbD_ofNat, wn_bit p k 64 i h]; simp [h]
theorem mk_eq {p : Nat → Bool} {k : Nat} {x : BitVec 64} (h : ∀ i, i < 64 → p (64 * k + i) = x.getLsbD i) : mk p k = x := by
  apply BitVec.eq_of_getLsbD_eq; intro i hi; rw [mk_bit p k i hi, h i hi]
theorem mem_mk (p : Nat → Bool) (i : Nat) (h : i < 256) : mem (mk p 0) (mk p 1) (mk p 2) (mk p 3) i = p i := by
  have h3 : i % 64 < 64 := by omega
  have : i / 64 = 0 ∨ i / 64 = 1 ∨ i / 64 = 2 ∨ i / 64 = 3 := by omega
  unfold mem w4
  rcases this with e | e | e | e <;> simp only [e] <;> simp only [if_true, if_false, Nat.reduceEqDiff] <;> rw [mk_bit _ _ _ h3] <;> congr 1 <;> omega
/-- Two sets with the same bytes have the same words. -/
theorem ext4 {a b c d a' b' c' d' : BitVec 64} (h : ∀ i, i < 256 → mem a b c d i = mem a' b' c' d' i) : a = a' ∧ b = b' ∧ c = c' ∧ d = d' := by
  refine ⟨?_, ?_, ?_, ?_⟩ <;> (apply BitVec.eq_of_getLsbD_eq; intro i hi)
  · have := h i (by omega); rwa [mem0 _ _ _ _ _ hi, mem0 _ _ _ _ _ hi] at this
  · have := h (64 + i) (by omega); rwa [mem1 _ _ _ _ _ hi, mem1 _ _ _ _ _ hi] at this
  · have := h (128 + i) (by omega); rwa [mem2 _ _ _ _ _ hi, mem2 _ _ _ _ _ hi] at this
  · have := h (192 + i) (by omega); rwa [mem3 _ _ _ _ _ hi, mem3 _ _ _ _ _ hi] at this
/-- How many bytes are in the set. -/
theorem cnt_mem (a b c d : BitVec 64) : cnt (mem a b c d) 256 = cnt a.getLsbD 64 + cnt b.getLsbD 64 + cnt c.getLsbD 64 + cnt d.getLsbD 64 := by
  rw [show 256 = 192 + 64 from rfl, cnt_add, show 192 = 128 + 64 from rfl, cnt_add, show 128 = 64 + 64 from rfl, cnt_add]
  rw [cnt_congr 64 (fun i hi => mem0 a b c d i hi), cnt_congr 64 (fun i hi => mem1 a b c d i hi)]
  rw [cnt_congr 64 (fun i hi => mem2 a b c d i hi), cnt_congr 64 (fun i hi => mem3 a b c d i hi)]
/-- The first n words joined; met. -/
def orAll (A : Nat → BitVec 64) : Nat → BitVec 64
  | 0 => 0#64
  | n + 1 => orAll A n ||| A n
def andAll (A : Nat → BitVec 64) : Nat → BitVec 64
  | 0 => BitVec.allOnes 64
  | n + 1 => andAll A n &&& A n
/-- Is j among the first n? -/
def anyB (bs : Nat → Nat) : Nat → Nat → Bool
  | 0, _ => false
  | n + 1, j => anyB bs n j || j == bs n
theorem mk_same {p q : Nat → Bool} {v k : Nat} (hq : ∀ j, q j = (p j || j == v)) (hk : v / 64 ≠ k) : mk q k = mk p k := by
  refine mk_eq fun i hi => ?_
  rw [mk_bit p k i hi, hq, show (64 * k + i == v) = false from by simp; omega]; simp
theorem mk_turn {p q : Nat → Bool} {v k : Nat} (hq : ∀ j, q j = (p j || j == v)) (hk : v / 64 = k) : mk q k = mk p k ||| (1#64 <<< (v % 64)) := by
  refine mk_eq fun i hi => ?_
  rw [hq, BitVec.getLsbD_or, mk_bit p k i hi]
  congr 1
  rw [BitVec.getLsbD_shiftLeft, BitVec.getLsbD_one, Bool.eq_iff_iff]
  simp [hi]; omega
theorem mk_none (k : Nat) : mk (fun _ => false) k = 0#64 := by
  refine mk_eq fun i _ => ?_
  simp
end Oc
end Go.Proofs.YtlbhbjmobcikfaaGreatDoor
