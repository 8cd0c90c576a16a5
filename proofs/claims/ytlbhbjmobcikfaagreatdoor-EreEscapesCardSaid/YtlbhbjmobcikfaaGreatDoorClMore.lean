/- Letters, their other case, bytes of words; the reference's. -/
import Derived.Test.YtlbhbjmobcikfaaGreatDoorClRef
namespace Go.Proofs.YtlbhbjmobcikfaaGreatDoor
open Go.RowKit
theorem letter_spec (n : Nat) : Cl.cls 1 n = true ↔ (65 ≤ n ∧ n ≤ 90) ∨ (97 ≤ n ∧ n ≤ 122) := by
  show (Cl.inI n 65 90 || Cl.inI n 97 122) = true ↔ _
  unfold Cl.inI; simp; omega
theorem xor_case : ∀ n : Nat, n < 256 → Cl.cls 1 n = true → bits .xor .u8 (n : Int) 32 = (Cl.oth n : Int) := by decide +kernel
theorem oth_no {n : Nat} (h : Cl.cls 1 n = false) : Cl.oth n = n := by
  have : ¬ ((65 ≤ n ∧ n ≤ 90) ∨ (97 ≤ n ∧ n ≤ 122)) := fun k => by rw [(letter_spec n).2 k] at h; cases h
  unfold Cl.oth; rw [if_neg (by omega), if_neg (by omega)]
set_option maxHeartbeats 1000000 in
theorem letter_any (n : Nat) (hn : n < 256) (w : World) : Calls Tryz.prog 156 #[.int .u8 n] w fun e w' => e = .returned (.bool (Cl.cls 1 n)) ∧ w = w' := by
  by_cases h1 : 65 ≤ n
  · by_cases h2 : n ≤ 90
    · have hr : Cl.cls 1 n = true := (letter_spec n).2 (.inl ⟨h1, h2⟩)
      rw [hr]; clear hr
      have i1 : (65 : Int) ≤ (n : Int) := by omega
      have i2 : (n : Int) ≤ 90 := by omega
      go_enter Tryz.func156, Tryz.ntmps156
      go_wp2
      go_ret
      exact ⟨rfl, rfl⟩
    · have i2 : decide ((n : Int) ≤ 90) = false := by simp; omega
      have i1 : (65 : Int) ≤ (n : Int) := by omega
      by_cases h3 : 97 ≤ n
      · by_cases h4 : n ≤ 122
        · have hr : Cl.cls 1 n = true := (letter_spec n).2 (.inr ⟨h3, h4⟩)
          rw [hr]; clear hr
          have i3 : (97 : Int) ≤ (n : Int) := by omega
          have i4 : (n : Int) ≤ 122 := by omega
          go_enter Tryz.func156, Tryz.ntmps156
          go_wp2
          go_ret
          exact ⟨rfl, rfl⟩
        · have hr : Cl.cls 1 n = false := by rw [Bool.eq_false_iff]; intro h; have := (letter_spec n).1 h; omega
          rw [hr]; clear hr
          have i3 : (97 : Int) ≤ (n : Int) := by omega
          have i4 : decide ((n : Int) ≤ 122) = false := by simp; omega
          go_enter Tryz.func156, Tryz.ntmps156
          go_wp2
          go_ret
          exact ⟨rfl, rfl⟩
      · have hr : Cl.cls 1 n = false := by rw [Bool.eq_false_iff]; intro h; have := (letter_spec n).1 h; omega
        rw [hr]; clear hr
        have i3 : decide ((97 : Int) ≤ (n : Int)) = false := by simp; omega
        go_enter Tryz.func156, Tryz.ntmps156
        go_wp2
        go_ret
        exact ⟨rfl, rfl⟩
  · have hr : Cl.cls 1 n = false := by rw [Bool.eq_false_iff]; intro h; have := (letter_spec n).1 h; omega
    rw [hr]; clear hr
    have i1 : decide ((65 : Int) ≤ (n : Int)) = false := by simp; omega
    have i3 : decide ((97 : Int) ≤ (n : Int)) = false := by simp; omega
    go_enter Tryz.func156, Tryz.ntmps156
    go_wp2
    go_ret
    exact ⟨rfl, rfl⟩
theorem other_any (n : Nat) (hn : n < 256) (w : World) : Calls Tryz.prog 141 #[.int .u8 n] w fun e w' => e = .returned (.int .u8 (Cl.oth n)) ∧ w = w' := by
  have hl := letter_any n hn
  cases h : Cl.cls 1 n with
  | true =>
    rw [h] at hl
    have hx := xor_case n hn h
    clear h
    have HL := Lib.hid hl; clear hl
    go_enter Tryz.func141, Tryz.ntmps141
    go_wp2_with (go_at_call 156; refine (HL.out _).mono ?_; rintro e w' ⟨rfl, rfl⟩)
    go_ret
    exact ⟨rfl, rfl⟩
  | false =>
    rw [h] at hl
    rw [oth_no h]
    clear h
    have HL := Lib.hid hl; clear hl
    go_enter Tryz.func141, Tryz.ntmps141
    go_wp2_with (go_at_call 156; refine (HL.out _).mono ?_; rintro e w' ⟨rfl, rfl⟩)
    go_ret
    exact ⟨rfl, rfl⟩
/-- Is it a byte of a word? -/
def Cl.wd (n : Nat) : Bool := Cl.isI n 95 || Cl.cls 0 n
theorem up_spec (n : Nat) : Cl.cls 10 n = true ↔ 65 ≤ n ∧ n ≤ 90 := by
  show Cl.inI n 65 90 = true ↔ _
  unfold Cl.inI; simp; omega
theorem low_spec (n : Nat) : Cl.cls 6 n = true ↔ 97 ≤ n ∧ n ≤ 122 := by
  show Cl.inI n 97 122 = true ↔ _
  unfold Cl.inI; simp; omega
set_option maxHeartbeats 1000000 in
theorem refother_any (n : Nat) (hn : n < 256) (w : World) : Calls Tryz.prog 131 #[.int .u8 n] w fun e w' => e = .returned (.int .u8 (Cl.oth n)) ∧ w = w' := by
  have hu := member_10 n
  have hl := member_6 n
  cases h : Cl.cls 10 n with
  | true =>
    rw [h] at hu
    have hs := (up_spec n).1 h
    have ho : ((n : Int) + 32) = (Cl.oth n : Int) := by unfold Cl.oth; rw [if_pos hs]; omega
    have hb : ((n : Int) + 32) < 256 := by omega
    clear h hl
    have HU := Lib.hid hu; clear hu
    have HO := Lib.hid ho; clear ho
    go_enter Tryz.func131, Tryz.ntmps131
    go_wp2_with (go_at_call 130; refine (HU.out _).mono ?_; rintro e w' ⟨rfl, rfl⟩)
    go_ret
    exact ⟨ret_int (by first | exact HO.out | (rw [← HO.out]; simp [IntKind.wrap_u8]; omega)), rfl⟩
  | false =>
    rw [h] at hu
    have hs : ¬ (65 ≤ n ∧ n ≤ 90) := fun k => by rw [(up_spec n).2 k] at h; cases h
    cases h' : Cl.cls 6 n with
    | true =>
      rw [h'] at hl
      have hs' := (low_spec n).1 h'
      have ho : ((n : Int) - 32) = (Cl.oth n : Int) := by unfold Cl.oth; rw [if_neg hs, if_pos hs']; omega
      clear h h'
      have HU := Lib.hid hu; clear hu
      have HL := Lib.hid hl; clear hl
      have HO := Lib.hid ho; clear ho
      have hb : (0 : Int) ≤ (n : Int) - 32 := by omega
      go_enter Tryz.func131, Tryz.ntmps131
      go_wp2_with fail
      refine (HU.out _).mono ?_; rintro e w' ⟨rfl, rfl⟩
      go_wp2_with fail
      refine (HL.out _).mono ?_; rintro e w' ⟨rfl, rfl⟩
      go_wp2
      go_ret
      exact ⟨ret_int (by first | exact HO.out | (rw [← HO.out]; simp [IntKind.wrap_u8]; omega)), rfl⟩
    | false =>
      rw [h'] at hl
      have ho : Cl.oth n = n := by
        have : ¬ (97 ≤ n ∧ n ≤ 122) := fun k => by rw [(low_spec n).2 k] at h'; cases h'
        unfold Cl.oth; rw [if_neg hs, if_neg this]
      rw [ho]
      clear h h' ho
      have HU := Lib.hid hu; clear hu
      have HL := Lib.hid hl; clear hl
      go_enter Tryz.func131, Tryz.ntmps131
      go_wp2_with fail
      refine (HU.out _).mono ?_; rintro e w' ⟨rfl, rfl⟩
      go_wp2_with fail
      refine (HL.out _).mono ?_; rintro e w' ⟨rfl, rfl⟩
      go_wp2
      go_ret
      exact ⟨rfl, rfl⟩
end Go.Proofs.YtlbhbjmobcikfaaGreatDoor
