/- What the reference of class does: member, Other, Word. -/
import Derived.Test.YtlbhbjmobcikfaaGreatDoorOcRef
import Derived.Test.YtlbhbjmobcikfaaGreatDoorClDef
namespace Go.Proofs.YtlbhbjmobcikfaaGreatDoor
open Go.RowKit
theorem in_any (b : Nat) (lo hi : Int) (w : World) : Calls Tryz.prog 153 #[.int .i64 b, .int .i64 lo, .int .i64 hi] w fun e w' => e = .returned (.bool (Cl.inI b lo hi)) ∧ w = w' := by
  unfold Cl.inI
  by_cases h1 : lo ≤ (b : Int)
  · by_cases h2 : (b : Int) ≤ hi
    · go_enter Tryz.func153, Tryz.ntmps153
      go_wp2
      go_ret
      exact ⟨ret_bool (by simp [h1, h2]), rfl⟩
    · have h3 : decide ((b : Int) ≤ hi) = false := by simpa using h2
      go_enter Tryz.func153, Tryz.ntmps153
      go_wp2
      go_ret
      exact ⟨ret_bool (by simp), rfl⟩
  · have h3 : decide (lo ≤ (b : Int)) = false := by simpa using h1
    go_enter Tryz.func153, Tryz.ntmps153
    go_wp2
    go_ret
    exact ⟨ret_bool (by simp), rfl⟩
set_option maxHeartbeats 1000000 in
theorem member_0 (b : Nat) (w : World) : Calls Tryz.prog 130 #[.string ⟨#[97, 108, 110, 117, 109]⟩, .int .i64 b] w fun e w' => e = .returned (.bool (Cl.cls 0 b)) ∧ w = w' := by
  show Calls _ _ _ _ fun e w' => e = .returned (.bool ((Cl.inI b 65 90 || Cl.inI b 97 122) || Cl.inI b 48 57)) ∧ w = w'
  have h1 := in_any b 65 90; have h2 := in_any b 97 122; have h3 := in_any b 48 57
  generalize Cl.inI b 65 90 = x at *
  generalize Cl.inI b 97 122 = y at *
  generalize Cl.inI b 48 57 = z at *
  have H1 := Lib.hid h1; have H2 := Lib.hid h2; have H3 := Lib.hid h3
  clear h1 h2 h3
  go_enter Tryz.func130, Tryz.ntmps130
  go_wp2_with fail
  refine (H1.out _).mono ?_; rintro e w' ⟨rfl, rfl⟩
  go_wp2_with fail
  refine (H2.out _).mono ?_; rintro e w' ⟨rfl, rfl⟩
  go_wp2_with fail
  refine (H3.out _).mono ?_; rintro e w' ⟨rfl, rfl⟩
  cases x <;> cases y <;> cases z
  all_goals
    go_wp2
    go_ret
    exact ⟨rfl, rfl⟩
set_option maxHeartbeats 1000000 in
theorem member_1 (b : Nat) (w : World) : Calls Tryz.prog 130 #[.string ⟨#[97, 108, 112, 104, 97]⟩, .int .i64 b] w fun e w' => e = .returned (.bool (Cl.cls 1 b)) ∧ w = w' := by
  show Calls _ _ _ _ fun e w' => e = .returned (.bool (Cl.inI b 65 90 || Cl.inI b 97 122)) ∧ w = w'
  have h1 := in_any b 65 90; have h2 := in_any b 97 122; have h3 := in_any b 48 57
  generalize Cl.inI b 65 90 = x at *
  generalize Cl.inI b 97 122 = y at *
  generalize Cl.inI b 48 57 = z at *
  have H1 := Lib.hid h1; have H2 := Lib.hid h2; have H3 := Lib.hid h3
  clear h1 h2 h3
  go_enter Tryz.func130, Tryz.ntmps130
  go_wp2_with fail
  refine (H1.out _).mono ?_; rintro e w' ⟨rfl, rfl⟩
  go_wp2_with fail
  refine (H2.out _).mono ?_; rintro e w' ⟨rfl, rfl⟩
  go_wp2_with fail
  refine (H3.out _).mono ?_; rintro e w' ⟨rfl, rfl⟩
  cases x <;> cases y
  all_goals
    go_wp2
    go_ret
    exact ⟨rfl, rfl⟩
set_option maxHeartbeats 1000000 in
theorem member_2 (b : Nat) (w : World) : Calls Tryz.prog 130 #[.string ⟨#[98, 108, 97, 110, 107]⟩, .int .i64 b] w fun e w' => e = .returned (.bool (Cl.cls 2 b)) ∧ w = w' := by
  show Calls _ _ _ _ fun e w' => e = .returned (.bool (Cl.isI b 9 || Cl.isI b 32)) ∧ w = w'
  have j0 : ((b : Int) == 9) = Cl.isI b 9 := rfl
  have j1 : ((b : Int) == 32) = Cl.isI b 32 := rfl
  have h1 := in_any b 65 90; have h2 := in_any b 97 122; have h3 := in_any b 48 57
  generalize Cl.inI b 65 90 = x at *
  generalize Cl.inI b 97 122 = y at *
  generalize Cl.inI b 48 57 = z at *
  generalize Cl.isI b 9 = i0 at *
  generalize Cl.isI b 32 = i1 at *
  have H1 := Lib.hid h1; have H2 := Lib.hid h2; have H3 := Lib.hid h3
  have J0 := Lib.hid j0
  have J1 := Lib.hid j1
  clear h1 h2 h3 j0 j1
  go_enter Tryz.func130, Tryz.ntmps130
  go_wp2_with fail
  refine (H1.out _).mono ?_; rintro e w' ⟨rfl, rfl⟩
  go_wp2_with fail
  refine (H2.out _).mono ?_; rintro e w' ⟨rfl, rfl⟩
  go_wp2_with fail
  refine (H3.out _).mono ?_; rintro e w' ⟨rfl, rfl⟩
  cases i0 <;> cases i1
  all_goals
    have j0 := J0.out; clear J0
    have j1 := J1.out; clear J1
    go_wp2
    go_ret
    exact ⟨rfl, rfl⟩
set_option maxHeartbeats 1000000 in
theorem member_3 (b : Nat) (w : World) : Calls Tryz.prog 130 #[.string ⟨#[99, 110, 116, 114, 108]⟩, .int .i64 b] w fun e w' => e = .returned (.bool (Cl.cls 3 b)) ∧ w = w' := by
  show Calls _ _ _ _ fun e w' => e = .returned (.bool (Cl.inI b 0 31 || Cl.isI b 127)) ∧ w = w'
  have j0 : ((b : Int) == 127) = Cl.isI b 127 := rfl
  have h1 := in_any b 65 90; have h2 := in_any b 97 122; have h3 := in_any b 48 57
  have k0 := in_any b 0 31
  generalize Cl.inI b 65 90 = x at *
  generalize Cl.inI b 97 122 = y at *
  generalize Cl.inI b 48 57 = z at *
  generalize Cl.inI b 0 31 = e0 at *
  generalize Cl.isI b 127 = i0 at *
  have H1 := Lib.hid h1; have H2 := Lib.hid h2; have H3 := Lib.hid h3
  have K0 := Lib.hid k0
  have J0 := Lib.hid j0
  clear h1 h2 h3 k0 j0
  go_enter Tryz.func130, Tryz.ntmps130
  go_wp2_with fail
  refine (H1.out _).mono ?_; rintro e w' ⟨rfl, rfl⟩
  go_wp2_with fail
  refine (H2.out _).mono ?_; rintro e w' ⟨rfl, rfl⟩
  go_wp2_with fail
  refine (H3.out _).mono ?_; rintro e w' ⟨rfl, rfl⟩
  cases e0 <;> cases i0
  all_goals
    have j0 := J0.out; clear J0
    go_wp2_with (first | (go_at_call 153; ((with_reducible refine (K0.out _).mono ?_); rintro e w' ⟨rfl, rfl⟩)))
    go_ret
    exact ⟨rfl, rfl⟩
set_option maxHeartbeats 1000000 in
theorem member_4 (b : Nat) (w : World) : Calls Tryz.prog 130 #[.string ⟨#[100, 105, 103, 105, 116]⟩, .int .i64 b] w fun e w' => e = .returned (.bool (Cl.cls 4 b)) ∧ w = w' := by
  show Calls _ _ _ _ fun e w' => e = .returned (.bool (Cl.inI b 48 57)) ∧ w = w'
  have h1 := in_any b 65 90; have h2 := in_any b 97 122; have h3 := in_any b 48 57
  generalize Cl.inI b 65 90 = x at *
  generalize Cl.inI b 97 122 = y at *
  generalize Cl.inI b 48 57 = z at *
  have H1 := Lib.hid h1; have H2 := Lib.hid h2; have H3 := Lib.hid h3
  clear h1 h2 h3
  go_enter Tryz.func130, Tryz.ntmps130
  go_wp2_with fail
  refine (H1.out _).mono ?_; rintro e w' ⟨rfl, rfl⟩
  go_wp2_with fail
  refine (H2.out _).mono ?_; rintro e w' ⟨rfl, rfl⟩
  go_wp2_with fail
  refine (H3.out _).mono ?_; rintro e w' ⟨rfl, rfl⟩
  go_wp2
  go_ret
  exact ⟨rfl, rfl⟩
set_option maxHeartbeats 1000000 in
theorem member_5 (b : Nat) (w : World) : Calls Tryz.prog 130 #[.string ⟨#[103, 114, 97, 112, 104]⟩, .int .i64 b] w fun e w' => e = .returned (.bool (Cl.cls 5 b)) ∧ w = w' := by
  show Calls _ _ _ _ fun e w' => e = .returned (.bool (Cl.inI b 33 126)) ∧ w = w'
  have h1 := in_any b 65 90; have h2 := in_any b 97 122; have h3 := in_any b 48 57
  have k0 := in_any b 33 126
  generalize Cl.inI b 65 90 = x at *
  generalize Cl.inI b 97 122 = y at *
  generalize Cl.inI b 48 57 = z at *
  generalize Cl.inI b 33 126 = e0 at *
  have H1 := Lib.hid h1; have H2 := Lib.hid h2; have H3 := Lib.hid h3
  have K0 := Lib.hid k0
  clear h1 h2 h3 k0
  go_enter Tryz.func130, Tryz.ntmps130
  go_wp2_with fail
  refine (H1.out _).mono ?_; rintro e w' ⟨rfl, rfl⟩
  go_wp2_with fail
  refine (H2.out _).mono ?_; rintro e w' ⟨rfl, rfl⟩
  go_wp2_with fail
  refine (H3.out _).mono ?_; rintro e w' ⟨rfl, rfl⟩
  go_wp2_with (first | (go_at_call 153; ((with_reducible refine (K0.out _).mono ?_); rintro e w' ⟨rfl, rfl⟩)))
  go_ret
  exact ⟨rfl, rfl⟩
set_option maxHeartbeats 1000000 in
theorem member_6 (b : Nat) (w : World) : Calls Tryz.prog 130 #[.string ⟨#[108, 111, 119, 101, 114]⟩, .int .i64 b] w fun e w' => e = .returned (.bool (Cl.cls 6 b)) ∧ w = w' := by
  show Calls _ _ _ _ fun e w' => e = .returned (.bool (Cl.inI b 97 122)) ∧ w = w'
  have h1 := in_any b 65 90; have h2 := in_any b 97 122; have h3 := in_any b 48 57
  generalize Cl.inI b 65 90 = x at *
  generalize Cl.inI b 97 122 = y at *
  generalize Cl.inI b 48 57 = z at *
  have H1 := Lib.hid h1; have H2 := Lib.hid h2; have H3 := Lib.hid h3
  clear h1 h2 h3
  go_enter Tryz.func130, Tryz.ntmps130
  go_wp2_with fail
  refine (H1.out _).mono ?_; rintro e w' ⟨rfl, rfl⟩
  go_wp2_with fail
  refine (H2.out _).mono ?_; rintro e w' ⟨rfl, rfl⟩
  go_wp2_with fail
  refine (H3.out _).mono ?_; rintro e w' ⟨rfl, rfl⟩
  go_wp2
  go_ret
  exact ⟨rfl, rfl⟩
set_option maxHeartbeats 1000000 in
theorem member_7 (b : Nat) (w : World) : Calls Tryz.prog 130 #[.string ⟨#[112, 114, 105, 110, 116]⟩, .int .i64 b] w fun e w' => e = .returned (.bool (Cl.cls 7 b)) ∧ w = w' := by
  show Calls _ _ _ _ fun e w' => e = .returned (.bool (Cl.inI b 32 126)) ∧ w = w'
  have h1 := in_any b 65 90; have h2 := in_any b 97 122; have h3 := in_any b 48 57
  have k0 := in_any b 32 126
  generalize Cl.inI b 65 90 = x at *
  generalize Cl.inI b 97 122 = y at *
  generalize Cl.inI b 48 57 = z at *
  generalize Cl.inI b 32 126 = e0 at *
  have H1 := Lib.hid h1; have H2 := Lib.hid h2; have H3 := Lib.hid h3
  have K0 := Lib.hid k0
  clear h1 h2 h3 k0
  go_enter Tryz.func130, Tryz.ntmps130
  go_wp2_with fail
  refine (H1.out _).mono ?_; rintro e w' ⟨rfl, rfl⟩
  go_wp2_with fail
  refine (H2.out _).mono ?_; rintro e w' ⟨rfl, rfl⟩
  go_wp2_with fail
  refine (H3.out _).mono ?_; rintro e w' ⟨rfl, rfl⟩
  go_wp2_with (first | (go_at_call 153; ((with_reducible refine (K0.out _).mono ?_); rintro e w' ⟨rfl, rfl⟩)))
  go_ret
  exact ⟨rfl, rfl⟩
set_option maxHeartbeats 1000000 in
theorem member_8 (b : Nat) (w : World) : Calls Tryz.prog 130 #[.string ⟨#[112, 117, 110, 99, 116]⟩, .int .i64 b] w fun e w' => e = .returned (.bool (Cl.cls 8 b)) ∧ w = w' := by
  show Calls _ _ _ _ fun e w' => e = .returned (.bool (((Cl.inI b 33 126 && !Cl.inI b 65 90) && !Cl.inI b 97 122) && !Cl.inI b 48 57)) ∧ w = w'
  have h1 := in_any b 65 90; have h2 := in_any b 97 122; have h3 := in_any b 48 57
  have k0 := in_any b 33 126
  generalize Cl.inI b 65 90 = x at *
  generalize Cl.inI b 97 122 = y at *
  generalize Cl.inI b 48 57 = z at *
  generalize Cl.inI b 33 126 = e0 at *
  have H1 := Lib.hid h1; have H2 := Lib.hid h2; have H3 := Lib.hid h3
  have K0 := Lib.hid k0
  clear h1 h2 h3 k0
  go_enter Tryz.func130, Tryz.ntmps130
  go_wp2_with fail
  refine (H1.out _).mono ?_; rintro e w' ⟨rfl, rfl⟩
  go_wp2_with fail
  refine (H2.out _).mono ?_; rintro e w' ⟨rfl, rfl⟩
  go_wp2_with fail
  refine (H3.out _).mono ?_; rintro e w' ⟨rfl, rfl⟩
  cases e0 <;> cases x <;> cases y <;> cases z
  all_goals
    go_wp2_with (first | (go_at_call 153; ((with_reducible refine (K0.out _).mono ?_); rintro e w' ⟨rfl, rfl⟩)))
    go_ret
    exact ⟨rfl, rfl⟩
set_option maxHeartbeats 1000000 in
theorem member_9 (b : Nat) (w : World) : Calls Tryz.prog 130 #[.string ⟨#[115, 112, 97, 99, 101]⟩, .int .i64 b] w fun e w' => e = .returned (.bool (Cl.cls 9 b)) ∧ w = w' := by
  show Calls _ _ _ _ fun e w' => e = .returned (.bool (Cl.inI b 9 13 || Cl.isI b 32)) ∧ w = w'
  have j0 : ((b : Int) == 32) = Cl.isI b 32 := rfl
  have h1 := in_any b 65 90; have h2 := in_any b 97 122; have h3 := in_any b 48 57
  have k0 := in_any b 9 13
  generalize Cl.inI b 65 90 = x at *
  generalize Cl.inI b 97 122 = y at *
  generalize Cl.inI b 48 57 = z at *
  generalize Cl.inI b 9 13 = e0 at *
  generalize Cl.isI b 32 = i0 at *
  have H1 := Lib.hid h1; have H2 := Lib.hid h2; have H3 := Lib.hid h3
  have K0 := Lib.hid k0
  have J0 := Lib.hid j0
  clear h1 h2 h3 k0 j0
  go_enter Tryz.func130, Tryz.ntmps130
  go_wp2_with fail
  refine (H1.out _).mono ?_; rintro e w' ⟨rfl, rfl⟩
  go_wp2_with fail
  refine (H2.out _).mono ?_; rintro e w' ⟨rfl, rfl⟩
  go_wp2_with fail
  refine (H3.out _).mono ?_; rintro e w' ⟨rfl, rfl⟩
  cases e0 <;> cases i0
  all_goals
    have j0 := J0.out; clear J0
    go_wp2_with (first | (go_at_call 153; ((with_reducible refine (K0.out _).mono ?_); rintro e w' ⟨rfl, rfl⟩)))
    go_ret
    exact ⟨rfl, rfl⟩
set_option maxHeartbeats 1000000 in
theorem member_10 (b : Nat) (w : World) : Calls Tryz.prog 130 #[.string ⟨#[117, 112, 112, 101, 114]⟩, .int .i64 b] w fun e w' => e = .returned (.bool (Cl.cls 10 b)) ∧ w = w' := by
  show Calls _ _ _ _ fun e w' => e = .returned (.bool (Cl.inI b 65 90)) ∧ w = w'
  have h1 := in_any b 65 90; have h2 := in_any b 97 122; have h3 := in_any b 48 57
  generalize Cl.inI b 65 90 = x at *
  generalize Cl.inI b 97 122 = y at *
  generalize Cl.inI b 48 57 = z at *
  have H1 := Lib.hid h1; have H2 := Lib.hid h2; have H3 := Lib.hid h3
  clear h1 h2 h3
  go_enter Tryz.func130, Tryz.ntmps130
  go_wp2_with fail
  refine (H1.out _).mono ?_; rintro e w' ⟨rfl, rfl⟩
  go_wp2_with fail
  refine (H2.out _).mono ?_; rintro e w' ⟨rfl, rfl⟩
  go_wp2_with fail
  refine (H3.out _).mono ?_; rintro e w' ⟨rfl, rfl⟩
  go_wp2
  go_ret
  exact ⟨rfl, rfl⟩
set_option maxHeartbeats 1000000 in
theorem member_11 (b : Nat) (w : World) : Calls Tryz.prog 130 #[.string ⟨#[120, 100, 105, 103, 105, 116]⟩, .int .i64 b] w fun e w' => e = .returned (.bool (Cl.cls 11 b)) ∧ w = w' := by
  show Calls _ _ _ _ fun e w' => e = .returned (.bool ((Cl.inI b 48 57 || Cl.inI b 65 70) || Cl.inI b 97 102)) ∧ w = w'
  have h1 := in_any b 65 90; have h2 := in_any b 97 122; have h3 := in_any b 48 57
  have k0 := in_any b 65 70
  have k1 := in_any b 97 102
  generalize Cl.inI b 65 90 = x at *
  generalize Cl.inI b 97 122 = y at *
  generalize Cl.inI b 48 57 = z at *
  generalize Cl.inI b 65 70 = e0 at *
  generalize Cl.inI b 97 102 = e1 at *
  have H1 := Lib.hid h1; have H2 := Lib.hid h2; have H3 := Lib.hid h3
  have K0 := Lib.hid k0
  have K1 := Lib.hid k1
  clear h1 h2 h3 k0 k1
  go_enter Tryz.func130, Tryz.ntmps130
  go_wp2_with fail
  refine (H1.out _).mono ?_; rintro e w' ⟨rfl, rfl⟩
  go_wp2_with fail
  refine (H2.out _).mono ?_; rintro e w' ⟨rfl, rfl⟩
  go_wp2_with fail
  refine (H3.out _).mono ?_; rintro e w' ⟨rfl, rfl⟩
  cases z <;> cases e0 <;> cases e1
  all_goals
    go_wp2_with (first | (go_at_call 153; ((with_reducible refine (K0.out _).mono ?_); rintro e w' ⟨rfl, rfl⟩)) | (go_at_call 153; ((with_reducible refine (K1.out _).mono ?_); rintro e w' ⟨rfl, rfl⟩)))
    go_ret
    exact ⟨rfl, rfl⟩
set_option maxHeartbeats 1000000 in
theorem member_no (s : ByteArray) (hs : Cl.No s) (b : Nat) (w : World) : Calls Tryz.prog 130 #[.string s, .int .i64 b] w fun e w' => e = .returned (.bool false) ∧ w = w' := by
  have n0 : (s.toList == [97, 108, 110, 117, 109]) = false := hs 0 (by omega)
  have n1 : (s.toList == [97, 108, 112, 104, 97]) = false := hs 1 (by omega)
  have n2 : (s.toList == [98, 108, 97, 110, 107]) = false := hs 2 (by omega)
  have n3 : (s.toList == [99, 110, 116, 114, 108]) = false := hs 3 (by omega)
  have n4 : (s.toList == [100, 105, 103, 105, 116]) = false := hs 4 (by omega)
  have n5 : (s.toList == [103, 114, 97, 112, 104]) = false := hs 5 (by omega)
  have n6 : (s.toList == [108, 111, 119, 101, 114]) = false := hs 6 (by omega)
  have n7 : (s.toList == [112, 114, 105, 110, 116]) = false := hs 7 (by omega)
  have n8 : (s.toList == [112, 117, 110, 99, 116]) = false := hs 8 (by omega)
  have n9 : (s.toList == [115, 112, 97, 99, 101]) = false := hs 9 (by omega)
  have n10 : (s.toList == [117, 112, 112, 101, 114]) = false := hs 10 (by omega)
  have n11 : (s.toList == [120, 100, 105, 103, 105, 116]) = false := hs 11 (by omega)
  clear hs
  have h1 := in_any b 65 90; have h2 := in_any b 97 122; have h3 := in_any b 48 57
  generalize Cl.inI b 65 90 = x at *
  generalize Cl.inI b 97 122 = y at *
  generalize Cl.inI b 48 57 = z at *
  have H1 := Lib.hid h1; have H2 := Lib.hid h2; have H3 := Lib.hid h3
  clear h1 h2 h3
  go_enter Tryz.func130, Tryz.ntmps130
  go_wp2_with fail
  refine (H1.out _).mono ?_; rintro e w' ⟨rfl, rfl⟩
  go_wp2_with fail
  refine (H2.out _).mono ?_; rintro e w' ⟨rfl, rfl⟩
  go_wp2_with fail
  refine (H3.out _).mono ?_; rintro e w' ⟨rfl, rfl⟩
  go_wp2
  go_ret
  exact ⟨rfl, rfl⟩
end Go.Proofs.YtlbhbjmobcikfaaGreatDoor
