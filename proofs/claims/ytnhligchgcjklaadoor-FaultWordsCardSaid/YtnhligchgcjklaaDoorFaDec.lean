/- The reference's Decimal: the decimal numeral of any number. -/
import Derived.Test.YtnhligchgcjklaaDoorRows
import Derived.Test.YtnhligchgcjklaaDoorMem
import Derived.Lib.ItoaNum
import Derived.Laws.IdiomStrings
import Derived.Deep.CutBlock
namespace Go.Proofs.YtnhligchgcjklaaDoor
open Go.RowKit
theorem dec_small {u : Nat} (h : u < 10) : Lib.decDigits u = [UInt8.ofNat (48 + u)] := by rw [Lib.decDigits, dif_pos h]
theorem dec_big {u : Nat} (h : ¬ u < 10) : Lib.decDigits u = Lib.decDigits (u / 10) ++ [UInt8.ofNat (48 + u % 10)] := by rw [Lib.decDigits, dif_neg h]
theorem nDigits_le : ∀ k u : Nat, 0 < k → u < 10 ^ k → Lib.nDigits u ≤ k := by
  intro k
  induction k with
  | zero => intro u h; omega
  | succ k ih =>
    intro u _ hu
    rw [Lib.nDigits]
    split
    · omega
    · rename_i h
      rcases Nat.eq_zero_or_pos k with rfl | hk
      · omega
      · have : u / 10 < 10 ^ k := by rw [Nat.pow_succ] at hu; omega
        have := ih (u / 10) hk this
        omega
theorem dec_len {u : Nat} (h : u ≤ 9223372036854775808) : (Lib.decDigits u).length ≤ 19 := by
  rw [Lib.decDigits_length]
  exact nDigits_le 19 u (by omega) (by omega)
def dgt (d : Nat) : UInt8 := UInt8.ofNat (48 + d)
theorem dgt_nat {d : Nat} (h : d < 10) : (dgt d).toNat = 48 + d := by unfold dgt; simp; omega
/-- One byte turned into a text. -/
theorem one_text (d : Nat) (hd : d < 10) (w : World) : (convert 70 9 (.slice (some ⟨w.heap.size, 0, none⟩) 1 1)).run Tryd.prog (w.alloc (.cells #[.int .u8 (48 + (d : Int))] 5)) = .ok (.string ⟨#[dgt d]⟩) (w.alloc (.cells #[.int .u8 (48 + (d : Int))] 5)) := by
  have := run_convert_bytes_back (P := Tryd.prog) (w.alloc (.cells #[.int .u8 (48 + (d : Int))] 5)) 70 9 5 ⟨w.heap.size, 0, none⟩ 1 [dgt d] Tryd.underlying70 Tryd.underlying5 Tryd.underlying9 (fun j hj => by
    obtain rfl : j = 0 := by simpa using hj
    rw [show (⟨w.heap.size, 0, none⟩ : Addr).add 0 = ⟨w.heap.size, 0, none⟩ from rfl, cell_new]
    simp [dgt_nat hd])
  exact this
/-- The text of a list of bytes. -/
def tx (l : List UInt8) : ByteArray := ⟨l.toArray⟩
theorem tx_size (l : List UInt8) : (tx l).size = l.length := by simp [tx, ByteArray.size]
theorem tx_cons (c : UInt8) (l : List UInt8) : (⟨#[c]⟩ : ByteArray) ++ tx l = tx (c :: l) := by
  unfold tx; apply ByteArray.ext; simp [ByteArray.data_append]
set_option maxRecDepth 100000 in
set_option maxHeartbeats 2000000 in
theorem decimal_pos (n : Nat) (hn : n ≤ 9223372036854775807) (w : World) : Calls Tryd.prog 31 #[.int .i64 n] w fun e w' => e = .returned (.string (tx (Lib.itoa n))) ∧ Below w.heap.size w w' := by
  have hi : Lib.itoa (n : Int) = Lib.decDigits n := by unfold Lib.itoa; rw [if_neg (by omega)]; rfl
  have HI := Lib.hid hi; clear hi
  have hneg : decide ((n : Int) < 0) = false := by simp
  have hl0 := dec_len (u := n) (by omega)
  go_enter Tryd.func31, Tryd.ntmps31
  go_wp2
  go_loopw [0, 3] (fun v s wr => ∃ (m : Nat) (l : List UInt8), m ≤ n ∧ v = .int .i64 m ∧ s = .string (tx l) ∧ Lib.decDigits n = Lib.decDigits m ++ l ∧ Below w.heap.size w wr) (fun v _ _ => (intOf v).toNat)
  case atStart => exact ⟨n, [], Nat.le_refl _, rfl, rfl, by simp, Below.refl _ _⟩
  case round =>
    obtain ⟨m, l, hm, rfl, rfl, hd, hb⟩ := hrel
    have hll : l.length ≤ 19 := by have := congrArg List.length hd; simp at this; omega
    have hsz : ¬ 9223372036854775807 < 1 + (tx l).size := by rw [tx_size]; omega
    obtain ⟨d, hd10, hdm, r1⟩ : ∃ d : Nat, d < 10 ∧ d = m % 10 ∧ (m : Int) % 10 = (d : Int) := ⟨m % 10, by omega, rfl, by omega⟩
    obtain ⟨q, hqm, q1⟩ : ∃ q : Nat, q = m / 10 ∧ (m : Int) / 10 = (q : Int) := ⟨m / 10, rfl, by omega⟩
    have ot := fun w' => one_text d hd10 w'
    have tc := tx_cons (dgt d) l
    have hm63 : (m : Int) ≤ 9223372036854775807 := by omega
    have hd0 : (0 : Int) ≤ (d : Int) := by omega
    have hd9 : (d : Int) ≤ 9 := by omega
    have HB := Lib.hid hb; have HD := Lib.hid hd; have HDM := Lib.hid hdm; have HQM := Lib.hid hqm
    clear hb hd hll hdm hqm
    by_cases hq : q = 0
    · subst hq
      have hfin : Lib.itoa (n : Int) = dgt d :: l := by
        have h9 : m < 10 := by have := HQM.out; omega
        rw [HI.out, HD.out, dec_small h9, show m = d by have := HDM.out; omega]; rfl
      have HF := Lib.hid hfin; clear hfin
      go_wp2
      go_ret
      exact ⟨by rw [HF.out]; rfl, HB.out.alloc HB.out.size _⟩
    · have hq0 : ¬ (q : Int) = 0 := by omega
      go_wp2
      refine ⟨⟨q, dgt d :: l, ?_, rfl, rfl, ?_, HB.out.alloc HB.out.size _⟩, ?_⟩
      · have := HQM.out; omega
      · have h9 : ¬ m < 10 := by have := HQM.out; omega
        rw [HD.out, dec_big h9, ← HQM.out, ← HDM.out]; simp [dgt]
      · have := HQM.out; simp [intOf]; omega
set_option maxRecDepth 100000 in
set_option maxHeartbeats 4000000 in
theorem decimal_neg (n : Nat) (h0 : 0 < n) (hn : n ≤ 9223372036854775808) (w : World) : Calls Tryd.prog 31 #[.int .i64 (-(n : Int))] w fun e w' => e = .returned (.string (tx (Lib.itoa (-(n : Int))))) ∧ Below w.heap.size w w' := by
  have hi : Lib.itoa (-(n : Int)) = 45 :: Lib.decDigits n := by unfold Lib.itoa; rw [if_pos (by omega)]; simp
  have HI := Lib.hid hi; clear hi
  obtain ⟨x0, hx0⟩ : ∃ x : Int, x = -(n : Int) := ⟨_, rfl⟩
  rw [← hx0]
  have HX0 := Lib.hid hx0
  have hneg : x0 < 0 := by omega
  have hl0 := dec_len (u := n) (by omega)
  clear hx0
  go_enter Tryd.func31, Tryd.ntmps31
  go_wp2
  go_loopw [0, 3] (fun v s wr => ∃ (m : Nat) (l : List UInt8) (x : Int), 0 < m ∧ m ≤ n ∧ Hid (x = -(m : Int)) ∧ v = .int .i64 x ∧ s = .string (tx l) ∧ Hid (Lib.decDigits n = Lib.decDigits m ++ l) ∧ Below w.heap.size w wr) (fun v _ _ => (-(intOf v)).toNat)
  case atStart => exact ⟨n, [], x0, h0, Nat.le_refl _, HX0, rfl, rfl, Lib.hid (by simp), Below.refl _ _⟩
  case round =>
    obtain ⟨m, l, x, hm0, hm, HX, rfl, rfl, HD, hb⟩ := hrel
    have hll : l.length ≤ 19 := by have := congrArg List.length HD.out; simp at this; omega
    have hsz : ¬ 9223372036854775807 < 1 + (tx l).size := by rw [tx_size]; omega
    have hx := HX.out
    obtain ⟨d, hd10, hdm⟩ : ∃ d : Nat, d < 10 ∧ d = m % 10 := ⟨m % 10, by omega, rfl⟩
    obtain ⟨q, hqm⟩ : ∃ q : Nat, q = m / 10 := ⟨m / 10, rfl⟩
    obtain ⟨y, hy, r1⟩ : ∃ y : Int, y = -(d : Int) ∧ x.tmod 10 = y := ⟨_, rfl, by rw [hx, Int.neg_tmod, Int.tmod_eq_emod_of_nonneg (by omega)]; omega⟩
    obtain ⟨z, hz, q1⟩ : ∃ z : Int, z = -(q : Int) ∧ x.tdiv 10 = z := ⟨_, rfl, by rw [hx, Int.neg_tdiv, Int.tdiv_eq_ediv_of_nonneg (by omega)]; omega⟩
    have ot := fun w' => one_text d hd10 w'
    have tc := tx_cons (dgt d) l
    have hy0 : y ≤ 0 := by omega
    have hy9 : -9 ≤ y := by omega
    have wy : IntKind.i64.wrap y = y := IntWalk.i64_in _ (by omega)
    have wz : IntKind.i64.wrap z = z := IntWalk.i64_in _ (by omega)
    have hsz2 : ¬ 9223372036854775807 < 1 + (tx (dgt d :: l)).size := by rw [tx_size]; simp; omega
    have HB := Lib.hid hb; have HDM := Lib.hid hdm; have HQM := Lib.hid hqm; have HY := Lib.hid hy; have HZ := Lib.hid hz
    have hd0 : (0 : Int) ≤ (d : Int) := by omega
    have hd9 : (d : Int) ≤ 9 := by omega
    clear hb hll hdm hqm hx hz
    by_cases hd : d = 0
    · have hy1 : y = 0 := by omega
      subst hy1
      have hdz : (d : Int) = 0 := by omega
      subst hd
      have ot0 : ∀ w' : World, (convert 70 9 (.slice (some ⟨w'.heap.size, 0, none⟩) 1 1)).run Tryd.prog (w'.alloc (.cells #[.int .u8 48] 5)) = .ok (.string ⟨#[dgt 0]⟩) (w'.alloc (.cells #[.int .u8 48] 5)) := fun w' => by simpa using one_text 0 (by omega) w'
      clear hy hdz ot
      by_cases hq : q = 0
      · exfalso; have h1 := HQM.out; have h2 := HDM.out; omega
      · have hz0 : ¬ z = 0 := by have := HZ.out; omega
        go_wp2
        refine ⟨⟨q, dgt 0 :: l, z, by omega, ?_, HZ, rfl, rfl, Lib.hid ?_, HB.out.alloc HB.out.size _⟩, ?_⟩
        · have := HQM.out; omega
        · have h9 : ¬ m < 10 := by have := HQM.out; omega
          rw [HD.out, dec_big h9, ← HQM.out, ← HDM.out]; simp [dgt]
        · have h1 := HQM.out; have h2 := HZ.out; have h3 := HX.out; simp only [intOf]; omega
    · have hy1 : y < 0 := by omega
      have hny : -y = (d : Int) := by omega
      clear hy
      by_cases hq : q = 0
      · have hz0 : z = 0 := by have := HZ.out; omega
        subst hz0
        have hfin : Lib.itoa x0 = 45 :: dgt d :: l := by
          have h9 : m < 10 := by have := HQM.out; have := HZ.out; omega
          rw [HX0.out, HI.out, HD.out, dec_small h9, show m = d by have := HDM.out; omega]; rfl
        have HF := Lib.hid hfin; clear hfin
        have tc2 := tx_cons 45 (dgt d :: l)
        have TC := Lib.hid tc2; clear tc2
        go_wp2
        go_ret
        exact ⟨by rw [HF.out, ← TC.out]; rfl, HB.out.alloc HB.out.size _⟩
      · have hz0 : ¬ z = 0 := by have := HZ.out; omega
        go_wp2
        refine ⟨⟨q, dgt d :: l, z, by omega, ?_, HZ, rfl, rfl, Lib.hid ?_, HB.out.alloc HB.out.size _⟩, ?_⟩
        · have := HQM.out; omega
        · have h9 : ¬ m < 10 := by have := HQM.out; omega
          rw [HD.out, dec_big h9, ← HQM.out, ← HDM.out]; simp [dgt]
        · have h1 := HQM.out; have h2 := HZ.out; have h3 := HX.out; simp only [intOf]; omega
end Go.Proofs.YtnhligchgcjklaaDoor
