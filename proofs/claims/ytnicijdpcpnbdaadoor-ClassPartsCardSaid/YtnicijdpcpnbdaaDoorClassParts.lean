/- ClassParts: whatever the byte, the law returns true. -/
import Derived.Test.YtnicijdpcpnbdaaDoorClLives
namespace Go.Proofs.YtnicijdpcpnbdaaDoor
open Go.RowKit
theorem has_0 (n : Nat) (hn : n < 256) (w w0 : World) (hb0 : Below w0.heap.size w0 w) : Calls Tryd.prog 24 #[.string ⟨#[97, 108, 110, 117, 109]⟩, .int .u8 n] w fun e w' => e = .returned (.bool (Cl.cls 0 n)) ∧ Below w0.heap.size w0 w' := by
  go_enter Tryd.func24, Tryd.ntmps24
  go_wp2_with fail
  refine (named_0 _).mono ?_
  rintro e w1 ⟨rfl, hb1⟩
  have HB1 := Lib.hid (hb0.trans (hb1.mono hb0.size)); clear hb1 hb0
  go_wp2_with fail
  refine (has_any _ _ _ _ n hn _).mono ?_
  rintro e w2 ⟨rfl, hb2⟩
  have HB2 := Lib.hid ((HB1.out.alloc HB1.out.size _).trans (hb2.mono (by have := HB1.out.size; simp; omega))); clear hb2 HB1
  have HM := Lib.hid (Oc.mem_mk (Cl.cls 0) n hn)
  go_wp2
  go_ret
  exact ⟨ret_bool HM.out, HB2.out⟩
theorem has_1 (n : Nat) (hn : n < 256) (w w0 : World) (hb0 : Below w0.heap.size w0 w) : Calls Tryd.prog 24 #[.string ⟨#[97, 108, 112, 104, 97]⟩, .int .u8 n] w fun e w' => e = .returned (.bool (Cl.cls 1 n)) ∧ Below w0.heap.size w0 w' := by
  go_enter Tryd.func24, Tryd.ntmps24
  go_wp2_with fail
  refine (named_1 _).mono ?_
  rintro e w1 ⟨rfl, hb1⟩
  have HB1 := Lib.hid (hb0.trans (hb1.mono hb0.size)); clear hb1 hb0
  go_wp2_with fail
  refine (has_any _ _ _ _ n hn _).mono ?_
  rintro e w2 ⟨rfl, hb2⟩
  have HB2 := Lib.hid ((HB1.out.alloc HB1.out.size _).trans (hb2.mono (by have := HB1.out.size; simp; omega))); clear hb2 HB1
  have HM := Lib.hid (Oc.mem_mk (Cl.cls 1) n hn)
  go_wp2
  go_ret
  exact ⟨ret_bool HM.out, HB2.out⟩
theorem has_2 (n : Nat) (hn : n < 256) (w w0 : World) (hb0 : Below w0.heap.size w0 w) : Calls Tryd.prog 24 #[.string ⟨#[98, 108, 97, 110, 107]⟩, .int .u8 n] w fun e w' => e = .returned (.bool (Cl.cls 2 n)) ∧ Below w0.heap.size w0 w' := by
  go_enter Tryd.func24, Tryd.ntmps24
  go_wp2_with fail
  refine (named_2 _).mono ?_
  rintro e w1 ⟨rfl, hb1⟩
  have HB1 := Lib.hid (hb0.trans (hb1.mono hb0.size)); clear hb1 hb0
  go_wp2_with fail
  refine (has_any _ _ _ _ n hn _).mono ?_
  rintro e w2 ⟨rfl, hb2⟩
  have HB2 := Lib.hid ((HB1.out.alloc HB1.out.size _).trans (hb2.mono (by have := HB1.out.size; simp; omega))); clear hb2 HB1
  have HM := Lib.hid (Oc.mem_mk (Cl.cls 2) n hn)
  go_wp2
  go_ret
  exact ⟨ret_bool HM.out, HB2.out⟩
theorem has_3 (n : Nat) (hn : n < 256) (w w0 : World) (hb0 : Below w0.heap.size w0 w) : Calls Tryd.prog 24 #[.string ⟨#[99, 110, 116, 114, 108]⟩, .int .u8 n] w fun e w' => e = .returned (.bool (Cl.cls 3 n)) ∧ Below w0.heap.size w0 w' := by
  go_enter Tryd.func24, Tryd.ntmps24
  go_wp2_with fail
  refine (named_3 _).mono ?_
  rintro e w1 ⟨rfl, hb1⟩
  have HB1 := Lib.hid (hb0.trans (hb1.mono hb0.size)); clear hb1 hb0
  go_wp2_with fail
  refine (has_any _ _ _ _ n hn _).mono ?_
  rintro e w2 ⟨rfl, hb2⟩
  have HB2 := Lib.hid ((HB1.out.alloc HB1.out.size _).trans (hb2.mono (by have := HB1.out.size; simp; omega))); clear hb2 HB1
  have HM := Lib.hid (Oc.mem_mk (Cl.cls 3) n hn)
  go_wp2
  go_ret
  exact ⟨ret_bool HM.out, HB2.out⟩
theorem has_4 (n : Nat) (hn : n < 256) (w w0 : World) (hb0 : Below w0.heap.size w0 w) : Calls Tryd.prog 24 #[.string ⟨#[100, 105, 103, 105, 116]⟩, .int .u8 n] w fun e w' => e = .returned (.bool (Cl.cls 4 n)) ∧ Below w0.heap.size w0 w' := by
  go_enter Tryd.func24, Tryd.ntmps24
  go_wp2_with fail
  refine (named_4 _).mono ?_
  rintro e w1 ⟨rfl, hb1⟩
  have HB1 := Lib.hid (hb0.trans (hb1.mono hb0.size)); clear hb1 hb0
  go_wp2_with fail
  refine (has_any _ _ _ _ n hn _).mono ?_
  rintro e w2 ⟨rfl, hb2⟩
  have HB2 := Lib.hid ((HB1.out.alloc HB1.out.size _).trans (hb2.mono (by have := HB1.out.size; simp; omega))); clear hb2 HB1
  have HM := Lib.hid (Oc.mem_mk (Cl.cls 4) n hn)
  go_wp2
  go_ret
  exact ⟨ret_bool HM.out, HB2.out⟩
theorem has_5 (n : Nat) (hn : n < 256) (w w0 : World) (hb0 : Below w0.heap.size w0 w) : Calls Tryd.prog 24 #[.string ⟨#[103, 114, 97, 112, 104]⟩, .int .u8 n] w fun e w' => e = .returned (.bool (Cl.cls 5 n)) ∧ Below w0.heap.size w0 w' := by
  go_enter Tryd.func24, Tryd.ntmps24
  go_wp2_with fail
  refine (named_5 _).mono ?_
  rintro e w1 ⟨rfl, hb1⟩
  have HB1 := Lib.hid (hb0.trans (hb1.mono hb0.size)); clear hb1 hb0
  go_wp2_with fail
  refine (has_any _ _ _ _ n hn _).mono ?_
  rintro e w2 ⟨rfl, hb2⟩
  have HB2 := Lib.hid ((HB1.out.alloc HB1.out.size _).trans (hb2.mono (by have := HB1.out.size; simp; omega))); clear hb2 HB1
  have HM := Lib.hid (Oc.mem_mk (Cl.cls 5) n hn)
  go_wp2
  go_ret
  exact ⟨ret_bool HM.out, HB2.out⟩
theorem has_6 (n : Nat) (hn : n < 256) (w w0 : World) (hb0 : Below w0.heap.size w0 w) : Calls Tryd.prog 24 #[.string ⟨#[108, 111, 119, 101, 114]⟩, .int .u8 n] w fun e w' => e = .returned (.bool (Cl.cls 6 n)) ∧ Below w0.heap.size w0 w' := by
  go_enter Tryd.func24, Tryd.ntmps24
  go_wp2_with fail
  refine (named_6 _).mono ?_
  rintro e w1 ⟨rfl, hb1⟩
  have HB1 := Lib.hid (hb0.trans (hb1.mono hb0.size)); clear hb1 hb0
  go_wp2_with fail
  refine (has_any _ _ _ _ n hn _).mono ?_
  rintro e w2 ⟨rfl, hb2⟩
  have HB2 := Lib.hid ((HB1.out.alloc HB1.out.size _).trans (hb2.mono (by have := HB1.out.size; simp; omega))); clear hb2 HB1
  have HM := Lib.hid (Oc.mem_mk (Cl.cls 6) n hn)
  go_wp2
  go_ret
  exact ⟨ret_bool HM.out, HB2.out⟩
theorem has_7 (n : Nat) (hn : n < 256) (w w0 : World) (hb0 : Below w0.heap.size w0 w) : Calls Tryd.prog 24 #[.string ⟨#[112, 114, 105, 110, 116]⟩, .int .u8 n] w fun e w' => e = .returned (.bool (Cl.cls 7 n)) ∧ Below w0.heap.size w0 w' := by
  go_enter Tryd.func24, Tryd.ntmps24
  go_wp2_with fail
  refine (named_7 _).mono ?_
  rintro e w1 ⟨rfl, hb1⟩
  have HB1 := Lib.hid (hb0.trans (hb1.mono hb0.size)); clear hb1 hb0
  go_wp2_with fail
  refine (has_any _ _ _ _ n hn _).mono ?_
  rintro e w2 ⟨rfl, hb2⟩
  have HB2 := Lib.hid ((HB1.out.alloc HB1.out.size _).trans (hb2.mono (by have := HB1.out.size; simp; omega))); clear hb2 HB1
  have HM := Lib.hid (Oc.mem_mk (Cl.cls 7) n hn)
  go_wp2
  go_ret
  exact ⟨ret_bool HM.out, HB2.out⟩
theorem has_8 (n : Nat) (hn : n < 256) (w w0 : World) (hb0 : Below w0.heap.size w0 w) : Calls Tryd.prog 24 #[.string ⟨#[112, 117, 110, 99, 116]⟩, .int .u8 n] w fun e w' => e = .returned (.bool (Cl.cls 8 n)) ∧ Below w0.heap.size w0 w' := by
  go_enter Tryd.func24, Tryd.ntmps24
  go_wp2_with fail
  refine (named_8 _).mono ?_
  rintro e w1 ⟨rfl, hb1⟩
  have HB1 := Lib.hid (hb0.trans (hb1.mono hb0.size)); clear hb1 hb0
  go_wp2_with fail
  refine (has_any _ _ _ _ n hn _).mono ?_
  rintro e w2 ⟨rfl, hb2⟩
  have HB2 := Lib.hid ((HB1.out.alloc HB1.out.size _).trans (hb2.mono (by have := HB1.out.size; simp; omega))); clear hb2 HB1
  have HM := Lib.hid (Oc.mem_mk (Cl.cls 8) n hn)
  go_wp2
  go_ret
  exact ⟨ret_bool HM.out, HB2.out⟩
theorem has_9 (n : Nat) (hn : n < 256) (w w0 : World) (hb0 : Below w0.heap.size w0 w) : Calls Tryd.prog 24 #[.string ⟨#[115, 112, 97, 99, 101]⟩, .int .u8 n] w fun e w' => e = .returned (.bool (Cl.cls 9 n)) ∧ Below w0.heap.size w0 w' := by
  go_enter Tryd.func24, Tryd.ntmps24
  go_wp2_with fail
  refine (named_9 _).mono ?_
  rintro e w1 ⟨rfl, hb1⟩
  have HB1 := Lib.hid (hb0.trans (hb1.mono hb0.size)); clear hb1 hb0
  go_wp2_with fail
  refine (has_any _ _ _ _ n hn _).mono ?_
  rintro e w2 ⟨rfl, hb2⟩
  have HB2 := Lib.hid ((HB1.out.alloc HB1.out.size _).trans (hb2.mono (by have := HB1.out.size; simp; omega))); clear hb2 HB1
  have HM := Lib.hid (Oc.mem_mk (Cl.cls 9) n hn)
  go_wp2
  go_ret
  exact ⟨ret_bool HM.out, HB2.out⟩
theorem has_10 (n : Nat) (hn : n < 256) (w w0 : World) (hb0 : Below w0.heap.size w0 w) : Calls Tryd.prog 24 #[.string ⟨#[117, 112, 112, 101, 114]⟩, .int .u8 n] w fun e w' => e = .returned (.bool (Cl.cls 10 n)) ∧ Below w0.heap.size w0 w' := by
  go_enter Tryd.func24, Tryd.ntmps24
  go_wp2_with fail
  refine (named_10 _).mono ?_
  rintro e w1 ⟨rfl, hb1⟩
  have HB1 := Lib.hid (hb0.trans (hb1.mono hb0.size)); clear hb1 hb0
  go_wp2_with fail
  refine (has_any _ _ _ _ n hn _).mono ?_
  rintro e w2 ⟨rfl, hb2⟩
  have HB2 := Lib.hid ((HB1.out.alloc HB1.out.size _).trans (hb2.mono (by have := HB1.out.size; simp; omega))); clear hb2 HB1
  have HM := Lib.hid (Oc.mem_mk (Cl.cls 10) n hn)
  go_wp2
  go_ret
  exact ⟨ret_bool HM.out, HB2.out⟩
theorem has_11 (n : Nat) (hn : n < 256) (w w0 : World) (hb0 : Below w0.heap.size w0 w) : Calls Tryd.prog 24 #[.string ⟨#[120, 100, 105, 103, 105, 116]⟩, .int .u8 n] w fun e w' => e = .returned (.bool (Cl.cls 11 n)) ∧ Below w0.heap.size w0 w' := by
  go_enter Tryd.func24, Tryd.ntmps24
  go_wp2_with fail
  refine (named_11 _).mono ?_
  rintro e w1 ⟨rfl, hb1⟩
  have HB1 := Lib.hid (hb0.trans (hb1.mono hb0.size)); clear hb1 hb0
  go_wp2_with fail
  refine (has_any _ _ _ _ n hn _).mono ?_
  rintro e w2 ⟨rfl, hb2⟩
  have HB2 := Lib.hid ((HB1.out.alloc HB1.out.size _).trans (hb2.mono (by have := HB1.out.size; simp; omega))); clear hb2 HB1
  have HM := Lib.hid (Oc.mem_mk (Cl.cls 11) n hn)
  go_wp2
  go_ret
  exact ⟨ret_bool HM.out, HB2.out⟩
/-- What is so of a byte: its classes, and whether it is 32, below 128, 95. -/
def Cl.marksOf (n : Nat) : List Bool := [Cl.cls 0 n, Cl.cls 1 n, Cl.cls 2 n, Cl.cls 3 n, Cl.cls 4 n, Cl.cls 5 n, Cl.cls 6 n, Cl.cls 7 n, Cl.cls 8 n, Cl.cls 9 n, Cl.cls 10 n, Cl.cls 11 n, (n : Int) == 32, decide ((n : Int) < 128), (n : Int) == 95]
theorem marks_all : ∀ n, n < 256 → Cl.marksOf n ∈ [[false, false, false, true, false, false, false, false, false, false, false, false, false, true, false], [false, false, true, true, false, false, false, false, false, true, false, false, false, true, false], [false, false, false, true, false, false, false, false, false, true, false, false, false, true, false], [false, false, true, false, false, false, false, true, false, true, false, false, true, true, false], [false, false, false, false, false, true, false, true, true, false, false, false, false, true, false], [true, false, false, false, true, true, false, true, false, false, false, true, false, true, false], [true, true, false, false, false, true, false, true, false, false, true, true, false, true, false], [true, true, false, false, false, true, false, true, false, false, true, false, false, true, false], [false, false, false, false, false, true, false, true, true, false, false, false, false, true, true], [true, true, false, false, false, true, true, true, false, false, false, true, false, true, false], [true, true, false, false, false, true, true, true, false, false, false, false, false, true, false], [false, false, false, false, false, false, false, false, false, false, false, false, false, false, false]] := by decide +kernel
/-- Bytes fall into 12 kinds. -/
def Cl.Kind (n : Nat) (l : List Bool) : Prop := Cl.marksOf n = l
theorem kinds (n : Nat) (hn : n < 256) : Cl.Kind n [false, false, false, true, false, false, false, false, false, false, false, false, false, true, false] ∨ Cl.Kind n [false, false, true, true, false, false, false, false, false, true, false, false, false, true, false] ∨ Cl.Kind n [false, false, false, true, false, false, false, false, false, true, false, false, false, true, false] ∨ Cl.Kind n [false, false, true, false, false, false, false, true, false, true, false, false, true, true, false] ∨ Cl.Kind n [false, false, false, false, false, true, false, true, true, false, false, false, false, true, false] ∨ Cl.Kind n [true, false, false, false, true, true, false, true, false, false, false, true, false, true, false] ∨ Cl.Kind n [true, true, false, false, false, true, false, true, false, false, true, true, false, true, false] ∨ Cl.Kind n [true, true, false, false, false, true, false, true, false, false, true, false, false, true, false] ∨ Cl.Kind n [false, false, false, false, false, true, false, true, true, false, false, false, false, true, true] ∨ Cl.Kind n [true, true, false, false, false, true, true, true, false, false, false, true, false, true, false] ∨ Cl.Kind n [true, true, false, false, false, true, true, true, false, false, false, false, false, true, false] ∨ Cl.Kind n [false, false, false, false, false, false, false, false, false, false, false, false, false, false, false] := by
  have := marks_all n hn
  simp only [List.mem_cons, List.not_mem_nil, or_false] at this
  exact this
set_option maxRecDepth 100000 in
set_option maxHeartbeats 4000000 in
theorem parts_0 (A : Nat → Addr) (n : Nat) (hn : n < 256) (hk : Cl.Kind n [false, false, false, true, false, false, false, false, false, false, false, false, false, true, false]) (w : World) (hE : Errs w A) : Calls Tryd.prog 7 #[.int .u8 n] w fun e w' => e = .returned (.bool true) ∧ Below w.heap.size w w' := by
  have HE := Lib.hid hE; clear hE
  unfold Cl.Kind Cl.marksOf at hk
  simp only [List.cons.injEq, and_true] at hk
  obtain ⟨e0, e1, e2, e3, e4, e5, e6, e7, e8, e9, e10, e11, e12, e13, e14⟩ := hk
  have ho := other_any n hn; have hw := word_any n hn
  have hwd : Cl.wd n = false := by unfold Cl.wd; rw [show Cl.isI n 95 = _ from e14, e0]; rfl
  rw [oth_no e1] at ho
  rw [hwd] at hw
  have h0 := fun w' => has_0 n hn w' w; rw [e0] at h0; have H0 := Lib.hid h0; clear h0
  have h1 := fun w' => has_1 n hn w' w; rw [e1] at h1; have H1 := Lib.hid h1; clear h1
  have h2 := fun w' => has_2 n hn w' w; rw [e2] at h2; have H2 := Lib.hid h2; clear h2 e2
  have h3 := fun w' => has_3 n hn w' w; rw [e3] at h3; have H3 := Lib.hid h3; clear h3 e3
  have h4 := fun w' => has_4 n hn w' w; rw [e4] at h4; have H4 := Lib.hid h4; clear h4 e4
  have h5 := fun w' => has_5 n hn w' w; rw [e5] at h5; have H5 := Lib.hid h5; clear h5 e5
  have h6 := fun w' => has_6 n hn w' w; rw [e6] at h6; have H6 := Lib.hid h6; clear h6 e6
  have h7 := fun w' => has_7 n hn w' w; rw [e7] at h7; have H7 := Lib.hid h7; clear h7 e7
  have h8 := fun w' => has_8 n hn w' w; rw [e8] at h8; have H8 := Lib.hid h8; clear h8 e8
  have h9 := fun w' => has_9 n hn w' w; rw [e9] at h9; have H9 := Lib.hid h9; clear h9 e9
  have h10 := fun w' => has_10 n hn w' w; rw [e10] at h10; have H10 := Lib.hid h10; clear h10 e10
  have h11 := fun w' => has_11 n hn w' w; rw [e11] at h11; have H11 := Lib.hid h11; clear h11 e11
  have HO := Lib.hid ho; have HW := Lib.hid hw; clear ho hw hwd e0 e1
  go_enter Tryd.func7, Tryd.ntmps7
  go_wp2_with fail
  refine (cllives_any A w HE.out).mono ?_
  rintro e w1 ⟨rfl, hb⟩
  go_wp2_with (first
    | (go_at_call 24; ((with_reducible refine (H0.out _ hb).mono ?_); clear hb; rintro e w' ⟨rfl, hb⟩))
    | (go_at_call 24; ((with_reducible refine (H1.out _ hb).mono ?_); clear hb; rintro e w' ⟨rfl, hb⟩))
    | (go_at_call 24; ((with_reducible refine (H2.out _ hb).mono ?_); clear hb; rintro e w' ⟨rfl, hb⟩))
    | (go_at_call 24; ((with_reducible refine (H3.out _ hb).mono ?_); clear hb; rintro e w' ⟨rfl, hb⟩))
    | (go_at_call 24; ((with_reducible refine (H4.out _ hb).mono ?_); clear hb; rintro e w' ⟨rfl, hb⟩))
    | (go_at_call 24; ((with_reducible refine (H5.out _ hb).mono ?_); clear hb; rintro e w' ⟨rfl, hb⟩))
    | (go_at_call 24; ((with_reducible refine (H6.out _ hb).mono ?_); clear hb; rintro e w' ⟨rfl, hb⟩))
    | (go_at_call 24; ((with_reducible refine (H7.out _ hb).mono ?_); clear hb; rintro e w' ⟨rfl, hb⟩))
    | (go_at_call 24; ((with_reducible refine (H8.out _ hb).mono ?_); clear hb; rintro e w' ⟨rfl, hb⟩))
    | (go_at_call 24; ((with_reducible refine (H9.out _ hb).mono ?_); clear hb; rintro e w' ⟨rfl, hb⟩))
    | (go_at_call 24; ((with_reducible refine (H10.out _ hb).mono ?_); clear hb; rintro e w' ⟨rfl, hb⟩))
    | (go_at_call 24; ((with_reducible refine (H11.out _ hb).mono ?_); clear hb; rintro e w' ⟨rfl, hb⟩))
    | (go_at_call 14; refine (HO.out _).mono ?_; rintro e w' ⟨rfl, rfl⟩)
    | (go_at_call 16; refine (HW.out _).mono ?_; rintro e w' ⟨rfl, rfl⟩))
  go_ret
  exact ⟨rfl, hb⟩
set_option maxRecDepth 100000 in
set_option maxHeartbeats 4000000 in
theorem parts_1 (A : Nat → Addr) (n : Nat) (hn : n < 256) (hk : Cl.Kind n [false, false, true, true, false, false, false, false, false, true, false, false, false, true, false]) (w : World) (hE : Errs w A) : Calls Tryd.prog 7 #[.int .u8 n] w fun e w' => e = .returned (.bool true) ∧ Below w.heap.size w w' := by
  have HE := Lib.hid hE; clear hE
  unfold Cl.Kind Cl.marksOf at hk
  simp only [List.cons.injEq, and_true] at hk
  obtain ⟨e0, e1, e2, e3, e4, e5, e6, e7, e8, e9, e10, e11, e12, e13, e14⟩ := hk
  have ho := other_any n hn; have hw := word_any n hn
  have hwd : Cl.wd n = false := by unfold Cl.wd; rw [show Cl.isI n 95 = _ from e14, e0]; rfl
  rw [oth_no e1] at ho
  rw [hwd] at hw
  have h0 := fun w' => has_0 n hn w' w; rw [e0] at h0; have H0 := Lib.hid h0; clear h0
  have h1 := fun w' => has_1 n hn w' w; rw [e1] at h1; have H1 := Lib.hid h1; clear h1
  have h2 := fun w' => has_2 n hn w' w; rw [e2] at h2; have H2 := Lib.hid h2; clear h2 e2
  have h3 := fun w' => has_3 n hn w' w; rw [e3] at h3; have H3 := Lib.hid h3; clear h3 e3
  have h4 := fun w' => has_4 n hn w' w; rw [e4] at h4; have H4 := Lib.hid h4; clear h4 e4
  have h5 := fun w' => has_5 n hn w' w; rw [e5] at h5; have H5 := Lib.hid h5; clear h5 e5
  have h6 := fun w' => has_6 n hn w' w; rw [e6] at h6; have H6 := Lib.hid h6; clear h6 e6
  have h7 := fun w' => has_7 n hn w' w; rw [e7] at h7; have H7 := Lib.hid h7; clear h7 e7
  have h8 := fun w' => has_8 n hn w' w; rw [e8] at h8; have H8 := Lib.hid h8; clear h8 e8
  have h9 := fun w' => has_9 n hn w' w; rw [e9] at h9; have H9 := Lib.hid h9; clear h9 e9
  have h10 := fun w' => has_10 n hn w' w; rw [e10] at h10; have H10 := Lib.hid h10; clear h10 e10
  have h11 := fun w' => has_11 n hn w' w; rw [e11] at h11; have H11 := Lib.hid h11; clear h11 e11
  have HO := Lib.hid ho; have HW := Lib.hid hw; clear ho hw hwd e0 e1
  go_enter Tryd.func7, Tryd.ntmps7
  go_wp2_with fail
  refine (cllives_any A w HE.out).mono ?_
  rintro e w1 ⟨rfl, hb⟩
  go_wp2_with (first
    | (go_at_call 24; ((with_reducible refine (H0.out _ hb).mono ?_); clear hb; rintro e w' ⟨rfl, hb⟩))
    | (go_at_call 24; ((with_reducible refine (H1.out _ hb).mono ?_); clear hb; rintro e w' ⟨rfl, hb⟩))
    | (go_at_call 24; ((with_reducible refine (H2.out _ hb).mono ?_); clear hb; rintro e w' ⟨rfl, hb⟩))
    | (go_at_call 24; ((with_reducible refine (H3.out _ hb).mono ?_); clear hb; rintro e w' ⟨rfl, hb⟩))
    | (go_at_call 24; ((with_reducible refine (H4.out _ hb).mono ?_); clear hb; rintro e w' ⟨rfl, hb⟩))
    | (go_at_call 24; ((with_reducible refine (H5.out _ hb).mono ?_); clear hb; rintro e w' ⟨rfl, hb⟩))
    | (go_at_call 24; ((with_reducible refine (H6.out _ hb).mono ?_); clear hb; rintro e w' ⟨rfl, hb⟩))
    | (go_at_call 24; ((with_reducible refine (H7.out _ hb).mono ?_); clear hb; rintro e w' ⟨rfl, hb⟩))
    | (go_at_call 24; ((with_reducible refine (H8.out _ hb).mono ?_); clear hb; rintro e w' ⟨rfl, hb⟩))
    | (go_at_call 24; ((with_reducible refine (H9.out _ hb).mono ?_); clear hb; rintro e w' ⟨rfl, hb⟩))
    | (go_at_call 24; ((with_reducible refine (H10.out _ hb).mono ?_); clear hb; rintro e w' ⟨rfl, hb⟩))
    | (go_at_call 24; ((with_reducible refine (H11.out _ hb).mono ?_); clear hb; rintro e w' ⟨rfl, hb⟩))
    | (go_at_call 14; refine (HO.out _).mono ?_; rintro e w' ⟨rfl, rfl⟩)
    | (go_at_call 16; refine (HW.out _).mono ?_; rintro e w' ⟨rfl, rfl⟩))
  go_ret
  exact ⟨rfl, hb⟩
set_option maxRecDepth 100000 in
set_option maxHeartbeats 4000000 in
theorem parts_2 (A : Nat → Addr) (n : Nat) (hn : n < 256) (hk : Cl.Kind n [false, false, false, true, false, false, false, false, false, true, false, false, false, true, false]) (w : World) (hE : Errs w A) : Calls Tryd.prog 7 #[.int .u8 n] w fun e w' => e = .returned (.bool true) ∧ Below w.heap.size w w' := by
  have HE := Lib.hid hE; clear hE
  unfold Cl.Kind Cl.marksOf at hk
  simp only [List.cons.injEq, and_true] at hk
  obtain ⟨e0, e1, e2, e3, e4, e5, e6, e7, e8, e9, e10, e11, e12, e13, e14⟩ := hk
  have ho := other_any n hn; have hw := word_any n hn
  have hwd : Cl.wd n = false := by unfold Cl.wd; rw [show Cl.isI n 95 = _ from e14, e0]; rfl
  rw [oth_no e1] at ho
  rw [hwd] at hw
  have h0 := fun w' => has_0 n hn w' w; rw [e0] at h0; have H0 := Lib.hid h0; clear h0
  have h1 := fun w' => has_1 n hn w' w; rw [e1] at h1; have H1 := Lib.hid h1; clear h1
  have h2 := fun w' => has_2 n hn w' w; rw [e2] at h2; have H2 := Lib.hid h2; clear h2 e2
  have h3 := fun w' => has_3 n hn w' w; rw [e3] at h3; have H3 := Lib.hid h3; clear h3 e3
  have h4 := fun w' => has_4 n hn w' w; rw [e4] at h4; have H4 := Lib.hid h4; clear h4 e4
  have h5 := fun w' => has_5 n hn w' w; rw [e5] at h5; have H5 := Lib.hid h5; clear h5 e5
  have h6 := fun w' => has_6 n hn w' w; rw [e6] at h6; have H6 := Lib.hid h6; clear h6 e6
  have h7 := fun w' => has_7 n hn w' w; rw [e7] at h7; have H7 := Lib.hid h7; clear h7 e7
  have h8 := fun w' => has_8 n hn w' w; rw [e8] at h8; have H8 := Lib.hid h8; clear h8 e8
  have h9 := fun w' => has_9 n hn w' w; rw [e9] at h9; have H9 := Lib.hid h9; clear h9 e9
  have h10 := fun w' => has_10 n hn w' w; rw [e10] at h10; have H10 := Lib.hid h10; clear h10 e10
  have h11 := fun w' => has_11 n hn w' w; rw [e11] at h11; have H11 := Lib.hid h11; clear h11 e11
  have HO := Lib.hid ho; have HW := Lib.hid hw; clear ho hw hwd e0 e1
  go_enter Tryd.func7, Tryd.ntmps7
  go_wp2_with fail
  refine (cllives_any A w HE.out).mono ?_
  rintro e w1 ⟨rfl, hb⟩
  go_wp2_with (first
    | (go_at_call 24; ((with_reducible refine (H0.out _ hb).mono ?_); clear hb; rintro e w' ⟨rfl, hb⟩))
    | (go_at_call 24; ((with_reducible refine (H1.out _ hb).mono ?_); clear hb; rintro e w' ⟨rfl, hb⟩))
    | (go_at_call 24; ((with_reducible refine (H2.out _ hb).mono ?_); clear hb; rintro e w' ⟨rfl, hb⟩))
    | (go_at_call 24; ((with_reducible refine (H3.out _ hb).mono ?_); clear hb; rintro e w' ⟨rfl, hb⟩))
    | (go_at_call 24; ((with_reducible refine (H4.out _ hb).mono ?_); clear hb; rintro e w' ⟨rfl, hb⟩))
    | (go_at_call 24; ((with_reducible refine (H5.out _ hb).mono ?_); clear hb; rintro e w' ⟨rfl, hb⟩))
    | (go_at_call 24; ((with_reducible refine (H6.out _ hb).mono ?_); clear hb; rintro e w' ⟨rfl, hb⟩))
    | (go_at_call 24; ((with_reducible refine (H7.out _ hb).mono ?_); clear hb; rintro e w' ⟨rfl, hb⟩))
    | (go_at_call 24; ((with_reducible refine (H8.out _ hb).mono ?_); clear hb; rintro e w' ⟨rfl, hb⟩))
    | (go_at_call 24; ((with_reducible refine (H9.out _ hb).mono ?_); clear hb; rintro e w' ⟨rfl, hb⟩))
    | (go_at_call 24; ((with_reducible refine (H10.out _ hb).mono ?_); clear hb; rintro e w' ⟨rfl, hb⟩))
    | (go_at_call 24; ((with_reducible refine (H11.out _ hb).mono ?_); clear hb; rintro e w' ⟨rfl, hb⟩))
    | (go_at_call 14; refine (HO.out _).mono ?_; rintro e w' ⟨rfl, rfl⟩)
    | (go_at_call 16; refine (HW.out _).mono ?_; rintro e w' ⟨rfl, rfl⟩))
  go_ret
  exact ⟨rfl, hb⟩
set_option maxRecDepth 100000 in
set_option maxHeartbeats 4000000 in
theorem parts_3 (A : Nat → Addr) (n : Nat) (hn : n < 256) (hk : Cl.Kind n [false, false, true, false, false, false, false, true, false, true, false, false, true, true, false]) (w : World) (hE : Errs w A) : Calls Tryd.prog 7 #[.int .u8 n] w fun e w' => e = .returned (.bool true) ∧ Below w.heap.size w w' := by
  have HE := Lib.hid hE; clear hE
  unfold Cl.Kind Cl.marksOf at hk
  simp only [List.cons.injEq, and_true] at hk
  obtain ⟨e0, e1, e2, e3, e4, e5, e6, e7, e8, e9, e10, e11, e12, e13, e14⟩ := hk
  have ho := other_any n hn; have hw := word_any n hn
  have hwd : Cl.wd n = false := by unfold Cl.wd; rw [show Cl.isI n 95 = _ from e14, e0]; rfl
  rw [oth_no e1] at ho
  rw [hwd] at hw
  have h0 := fun w' => has_0 n hn w' w; rw [e0] at h0; have H0 := Lib.hid h0; clear h0
  have h1 := fun w' => has_1 n hn w' w; rw [e1] at h1; have H1 := Lib.hid h1; clear h1
  have h2 := fun w' => has_2 n hn w' w; rw [e2] at h2; have H2 := Lib.hid h2; clear h2 e2
  have h3 := fun w' => has_3 n hn w' w; rw [e3] at h3; have H3 := Lib.hid h3; clear h3 e3
  have h4 := fun w' => has_4 n hn w' w; rw [e4] at h4; have H4 := Lib.hid h4; clear h4 e4
  have h5 := fun w' => has_5 n hn w' w; rw [e5] at h5; have H5 := Lib.hid h5; clear h5 e5
  have h6 := fun w' => has_6 n hn w' w; rw [e6] at h6; have H6 := Lib.hid h6; clear h6 e6
  have h7 := fun w' => has_7 n hn w' w; rw [e7] at h7; have H7 := Lib.hid h7; clear h7 e7
  have h8 := fun w' => has_8 n hn w' w; rw [e8] at h8; have H8 := Lib.hid h8; clear h8 e8
  have h9 := fun w' => has_9 n hn w' w; rw [e9] at h9; have H9 := Lib.hid h9; clear h9 e9
  have h10 := fun w' => has_10 n hn w' w; rw [e10] at h10; have H10 := Lib.hid h10; clear h10 e10
  have h11 := fun w' => has_11 n hn w' w; rw [e11] at h11; have H11 := Lib.hid h11; clear h11 e11
  have HO := Lib.hid ho; have HW := Lib.hid hw; clear ho hw hwd e0 e1
  go_enter Tryd.func7, Tryd.ntmps7
  go_wp2_with fail
  refine (cllives_any A w HE.out).mono ?_
  rintro e w1 ⟨rfl, hb⟩
  go_wp2_with (first
    | (go_at_call 24; ((with_reducible refine (H0.out _ hb).mono ?_); clear hb; rintro e w' ⟨rfl, hb⟩))
    | (go_at_call 24; ((with_reducible refine (H1.out _ hb).mono ?_); clear hb; rintro e w' ⟨rfl, hb⟩))
    | (go_at_call 24; ((with_reducible refine (H2.out _ hb).mono ?_); clear hb; rintro e w' ⟨rfl, hb⟩))
    | (go_at_call 24; ((with_reducible refine (H3.out _ hb).mono ?_); clear hb; rintro e w' ⟨rfl, hb⟩))
    | (go_at_call 24; ((with_reducible refine (H4.out _ hb).mono ?_); clear hb; rintro e w' ⟨rfl, hb⟩))
    | (go_at_call 24; ((with_reducible refine (H5.out _ hb).mono ?_); clear hb; rintro e w' ⟨rfl, hb⟩))
    | (go_at_call 24; ((with_reducible refine (H6.out _ hb).mono ?_); clear hb; rintro e w' ⟨rfl, hb⟩))
    | (go_at_call 24; ((with_reducible refine (H7.out _ hb).mono ?_); clear hb; rintro e w' ⟨rfl, hb⟩))
    | (go_at_call 24; ((with_reducible refine (H8.out _ hb).mono ?_); clear hb; rintro e w' ⟨rfl, hb⟩))
    | (go_at_call 24; ((with_reducible refine (H9.out _ hb).mono ?_); clear hb; rintro e w' ⟨rfl, hb⟩))
    | (go_at_call 24; ((with_reducible refine (H10.out _ hb).mono ?_); clear hb; rintro e w' ⟨rfl, hb⟩))
    | (go_at_call 24; ((with_reducible refine (H11.out _ hb).mono ?_); clear hb; rintro e w' ⟨rfl, hb⟩))
    | (go_at_call 14; refine (HO.out _).mono ?_; rintro e w' ⟨rfl, rfl⟩)
    | (go_at_call 16; refine (HW.out _).mono ?_; rintro e w' ⟨rfl, rfl⟩))
  go_ret
  exact ⟨rfl, hb⟩
set_option maxRecDepth 100000 in
set_option maxHeartbeats 4000000 in
theorem parts_4 (A : Nat → Addr) (n : Nat) (hn : n < 256) (hk : Cl.Kind n [false, false, false, false, false, true, false, true, true, false, false, false, false, true, false]) (w : World) (hE : Errs w A) : Calls Tryd.prog 7 #[.int .u8 n] w fun e w' => e = .returned (.bool true) ∧ Below w.heap.size w w' := by
  have HE := Lib.hid hE; clear hE
  unfold Cl.Kind Cl.marksOf at hk
  simp only [List.cons.injEq, and_true] at hk
  obtain ⟨e0, e1, e2, e3, e4, e5, e6, e7, e8, e9, e10, e11, e12, e13, e14⟩ := hk
  have ho := other_any n hn; have hw := word_any n hn
  have hwd : Cl.wd n = false := by unfold Cl.wd; rw [show Cl.isI n 95 = _ from e14, e0]; rfl
  rw [oth_no e1] at ho
  rw [hwd] at hw
  have h0 := fun w' => has_0 n hn w' w; rw [e0] at h0; have H0 := Lib.hid h0; clear h0
  have h1 := fun w' => has_1 n hn w' w; rw [e1] at h1; have H1 := Lib.hid h1; clear h1
  have h2 := fun w' => has_2 n hn w' w; rw [e2] at h2; have H2 := Lib.hid h2; clear h2 e2
  have h3 := fun w' => has_3 n hn w' w; rw [e3] at h3; have H3 := Lib.hid h3; clear h3 e3
  have h4 := fun w' => has_4 n hn w' w; rw [e4] at h4; have H4 := Lib.hid h4; clear h4 e4
  have h5 := fun w' => has_5 n hn w' w; rw [e5] at h5; have H5 := Lib.hid h5; clear h5 e5
  have h6 := fun w' => has_6 n hn w' w; rw [e6] at h6; have H6 := Lib.hid h6; clear h6 e6
  have h7 := fun w' => has_7 n hn w' w; rw [e7] at h7; have H7 := Lib.hid h7; clear h7 e7
  have h8 := fun w' => has_8 n hn w' w; rw [e8] at h8; have H8 := Lib.hid h8; clear h8 e8
  have h9 := fun w' => has_9 n hn w' w; rw [e9] at h9; have H9 := Lib.hid h9; clear h9 e9
  have h10 := fun w' => has_10 n hn w' w; rw [e10] at h10; have H10 := Lib.hid h10; clear h10 e10
  have h11 := fun w' => has_11 n hn w' w; rw [e11] at h11; have H11 := Lib.hid h11; clear h11 e11
  have HO := Lib.hid ho; have HW := Lib.hid hw; clear ho hw hwd e0 e1
  go_enter Tryd.func7, Tryd.ntmps7
  go_wp2_with fail
  refine (cllives_any A w HE.out).mono ?_
  rintro e w1 ⟨rfl, hb⟩
  go_wp2_with (first
    | (go_at_call 24; ((with_reducible refine (H0.out _ hb).mono ?_); clear hb; rintro e w' ⟨rfl, hb⟩))
    | (go_at_call 24; ((with_reducible refine (H1.out _ hb).mono ?_); clear hb; rintro e w' ⟨rfl, hb⟩))
    | (go_at_call 24; ((with_reducible refine (H2.out _ hb).mono ?_); clear hb; rintro e w' ⟨rfl, hb⟩))
    | (go_at_call 24; ((with_reducible refine (H3.out _ hb).mono ?_); clear hb; rintro e w' ⟨rfl, hb⟩))
    | (go_at_call 24; ((with_reducible refine (H4.out _ hb).mono ?_); clear hb; rintro e w' ⟨rfl, hb⟩))
    | (go_at_call 24; ((with_reducible refine (H5.out _ hb).mono ?_); clear hb; rintro e w' ⟨rfl, hb⟩))
    | (go_at_call 24; ((with_reducible refine (H6.out _ hb).mono ?_); clear hb; rintro e w' ⟨rfl, hb⟩))
    | (go_at_call 24; ((with_reducible refine (H7.out _ hb).mono ?_); clear hb; rintro e w' ⟨rfl, hb⟩))
    | (go_at_call 24; ((with_reducible refine (H8.out _ hb).mono ?_); clear hb; rintro e w' ⟨rfl, hb⟩))
    | (go_at_call 24; ((with_reducible refine (H9.out _ hb).mono ?_); clear hb; rintro e w' ⟨rfl, hb⟩))
    | (go_at_call 24; ((with_reducible refine (H10.out _ hb).mono ?_); clear hb; rintro e w' ⟨rfl, hb⟩))
    | (go_at_call 24; ((with_reducible refine (H11.out _ hb).mono ?_); clear hb; rintro e w' ⟨rfl, hb⟩))
    | (go_at_call 14; refine (HO.out _).mono ?_; rintro e w' ⟨rfl, rfl⟩)
    | (go_at_call 16; refine (HW.out _).mono ?_; rintro e w' ⟨rfl, rfl⟩))
  go_ret
  exact ⟨rfl, hb⟩
set_option maxRecDepth 100000 in
set_option maxHeartbeats 4000000 in
theorem parts_5 (A : Nat → Addr) (n : Nat) (hn : n < 256) (hk : Cl.Kind n [true, false, false, false, true, true, false, true, false, false, false, true, false, true, false]) (w : World) (hE : Errs w A) : Calls Tryd.prog 7 #[.int .u8 n] w fun e w' => e = .returned (.bool true) ∧ Below w.heap.size w w' := by
  have HE := Lib.hid hE; clear hE
  unfold Cl.Kind Cl.marksOf at hk
  simp only [List.cons.injEq, and_true] at hk
  obtain ⟨e0, e1, e2, e3, e4, e5, e6, e7, e8, e9, e10, e11, e12, e13, e14⟩ := hk
  have ho := other_any n hn; have hw := word_any n hn
  have hwd : Cl.wd n = true := by unfold Cl.wd; rw [show Cl.isI n 95 = _ from e14, e0]; rfl
  rw [oth_no e1] at ho
  rw [hwd] at hw
  have h0 := fun w' => has_0 n hn w' w; rw [e0] at h0; have H0 := Lib.hid h0; clear h0
  have h1 := fun w' => has_1 n hn w' w; rw [e1] at h1; have H1 := Lib.hid h1; clear h1
  have h2 := fun w' => has_2 n hn w' w; rw [e2] at h2; have H2 := Lib.hid h2; clear h2 e2
  have h3 := fun w' => has_3 n hn w' w; rw [e3] at h3; have H3 := Lib.hid h3; clear h3 e3
  have h4 := fun w' => has_4 n hn w' w; rw [e4] at h4; have H4 := Lib.hid h4; clear h4 e4
  have h5 := fun w' => has_5 n hn w' w; rw [e5] at h5; have H5 := Lib.hid h5; clear h5 e5
  have h6 := fun w' => has_6 n hn w' w; rw [e6] at h6; have H6 := Lib.hid h6; clear h6 e6
  have h7 := fun w' => has_7 n hn w' w; rw [e7] at h7; have H7 := Lib.hid h7; clear h7 e7
  have h8 := fun w' => has_8 n hn w' w; rw [e8] at h8; have H8 := Lib.hid h8; clear h8 e8
  have h9 := fun w' => has_9 n hn w' w; rw [e9] at h9; have H9 := Lib.hid h9; clear h9 e9
  have h10 := fun w' => has_10 n hn w' w; rw [e10] at h10; have H10 := Lib.hid h10; clear h10 e10
  have h11 := fun w' => has_11 n hn w' w; rw [e11] at h11; have H11 := Lib.hid h11; clear h11 e11
  have HO := Lib.hid ho; have HW := Lib.hid hw; clear ho hw hwd e0 e1
  go_enter Tryd.func7, Tryd.ntmps7
  go_wp2_with fail
  refine (cllives_any A w HE.out).mono ?_
  rintro e w1 ⟨rfl, hb⟩
  go_wp2_with (first
    | (go_at_call 24; ((with_reducible refine (H0.out _ hb).mono ?_); clear hb; rintro e w' ⟨rfl, hb⟩))
    | (go_at_call 24; ((with_reducible refine (H1.out _ hb).mono ?_); clear hb; rintro e w' ⟨rfl, hb⟩))
    | (go_at_call 24; ((with_reducible refine (H2.out _ hb).mono ?_); clear hb; rintro e w' ⟨rfl, hb⟩))
    | (go_at_call 24; ((with_reducible refine (H3.out _ hb).mono ?_); clear hb; rintro e w' ⟨rfl, hb⟩))
    | (go_at_call 24; ((with_reducible refine (H4.out _ hb).mono ?_); clear hb; rintro e w' ⟨rfl, hb⟩))
    | (go_at_call 24; ((with_reducible refine (H5.out _ hb).mono ?_); clear hb; rintro e w' ⟨rfl, hb⟩))
    | (go_at_call 24; ((with_reducible refine (H6.out _ hb).mono ?_); clear hb; rintro e w' ⟨rfl, hb⟩))
    | (go_at_call 24; ((with_reducible refine (H7.out _ hb).mono ?_); clear hb; rintro e w' ⟨rfl, hb⟩))
    | (go_at_call 24; ((with_reducible refine (H8.out _ hb).mono ?_); clear hb; rintro e w' ⟨rfl, hb⟩))
    | (go_at_call 24; ((with_reducible refine (H9.out _ hb).mono ?_); clear hb; rintro e w' ⟨rfl, hb⟩))
    | (go_at_call 24; ((with_reducible refine (H10.out _ hb).mono ?_); clear hb; rintro e w' ⟨rfl, hb⟩))
    | (go_at_call 24; ((with_reducible refine (H11.out _ hb).mono ?_); clear hb; rintro e w' ⟨rfl, hb⟩))
    | (go_at_call 14; refine (HO.out _).mono ?_; rintro e w' ⟨rfl, rfl⟩)
    | (go_at_call 16; refine (HW.out _).mono ?_; rintro e w' ⟨rfl, rfl⟩))
  go_ret
  exact ⟨rfl, hb⟩
set_option maxRecDepth 100000 in
set_option maxHeartbeats 4000000 in
theorem parts_6 (A : Nat → Addr) (n : Nat) (hn : n < 256) (hk : Cl.Kind n [true, true, false, false, false, true, false, true, false, false, true, true, false, true, false]) (w : World) (hE : Errs w A) : Calls Tryd.prog 7 #[.int .u8 n] w fun e w' => e = .returned (.bool true) ∧ Below w.heap.size w w' := by
  have HE := Lib.hid hE; clear hE
  unfold Cl.Kind Cl.marksOf at hk
  simp only [List.cons.injEq, and_true] at hk
  obtain ⟨e0, e1, e2, e3, e4, e5, e6, e7, e8, e9, e10, e11, e12, e13, e14⟩ := hk
  have ho := other_any n hn; have hw := word_any n hn
  have hwd : Cl.wd n = true := by unfold Cl.wd; rw [show Cl.isI n 95 = _ from e14, e0]; rfl
  have hon : ¬ Cl.oth n = n := by
    have := (letter_spec n).1 e1
    unfold Cl.oth; split <;> (try split) <;> omega
  have hon1 : ((Cl.oth n : Int) == (n : Int)) = false := by simpa using (by omega : ¬ (Cl.oth n : Int) = n)
  have hon2 : ((Cl.oth n : Int) != (n : Int)) = true := by simpa using (by omega : ¬ (Cl.oth n : Int) = n)
  rw [hwd] at hw
  have h0 := fun w' => has_0 n hn w' w; rw [e0] at h0; have H0 := Lib.hid h0; clear h0
  have h1 := fun w' => has_1 n hn w' w; rw [e1] at h1; have H1 := Lib.hid h1; clear h1
  have h2 := fun w' => has_2 n hn w' w; rw [e2] at h2; have H2 := Lib.hid h2; clear h2 e2
  have h3 := fun w' => has_3 n hn w' w; rw [e3] at h3; have H3 := Lib.hid h3; clear h3 e3
  have h4 := fun w' => has_4 n hn w' w; rw [e4] at h4; have H4 := Lib.hid h4; clear h4 e4
  have h5 := fun w' => has_5 n hn w' w; rw [e5] at h5; have H5 := Lib.hid h5; clear h5 e5
  have h6 := fun w' => has_6 n hn w' w; rw [e6] at h6; have H6 := Lib.hid h6; clear h6 e6
  have h7 := fun w' => has_7 n hn w' w; rw [e7] at h7; have H7 := Lib.hid h7; clear h7 e7
  have h8 := fun w' => has_8 n hn w' w; rw [e8] at h8; have H8 := Lib.hid h8; clear h8 e8
  have h9 := fun w' => has_9 n hn w' w; rw [e9] at h9; have H9 := Lib.hid h9; clear h9 e9
  have h10 := fun w' => has_10 n hn w' w; rw [e10] at h10; have H10 := Lib.hid h10; clear h10 e10
  have h11 := fun w' => has_11 n hn w' w; rw [e11] at h11; have H11 := Lib.hid h11; clear h11 e11
  have HO := Lib.hid ho; have HW := Lib.hid hw; clear ho hw hwd e0 e1
  go_enter Tryd.func7, Tryd.ntmps7
  go_wp2_with fail
  refine (cllives_any A w HE.out).mono ?_
  rintro e w1 ⟨rfl, hb⟩
  go_wp2_with (first
    | (go_at_call 24; ((with_reducible refine (H0.out _ hb).mono ?_); clear hb; rintro e w' ⟨rfl, hb⟩))
    | (go_at_call 24; ((with_reducible refine (H1.out _ hb).mono ?_); clear hb; rintro e w' ⟨rfl, hb⟩))
    | (go_at_call 24; ((with_reducible refine (H2.out _ hb).mono ?_); clear hb; rintro e w' ⟨rfl, hb⟩))
    | (go_at_call 24; ((with_reducible refine (H3.out _ hb).mono ?_); clear hb; rintro e w' ⟨rfl, hb⟩))
    | (go_at_call 24; ((with_reducible refine (H4.out _ hb).mono ?_); clear hb; rintro e w' ⟨rfl, hb⟩))
    | (go_at_call 24; ((with_reducible refine (H5.out _ hb).mono ?_); clear hb; rintro e w' ⟨rfl, hb⟩))
    | (go_at_call 24; ((with_reducible refine (H6.out _ hb).mono ?_); clear hb; rintro e w' ⟨rfl, hb⟩))
    | (go_at_call 24; ((with_reducible refine (H7.out _ hb).mono ?_); clear hb; rintro e w' ⟨rfl, hb⟩))
    | (go_at_call 24; ((with_reducible refine (H8.out _ hb).mono ?_); clear hb; rintro e w' ⟨rfl, hb⟩))
    | (go_at_call 24; ((with_reducible refine (H9.out _ hb).mono ?_); clear hb; rintro e w' ⟨rfl, hb⟩))
    | (go_at_call 24; ((with_reducible refine (H10.out _ hb).mono ?_); clear hb; rintro e w' ⟨rfl, hb⟩))
    | (go_at_call 24; ((with_reducible refine (H11.out _ hb).mono ?_); clear hb; rintro e w' ⟨rfl, hb⟩))
    | (go_at_call 14; refine (HO.out _).mono ?_; rintro e w' ⟨rfl, rfl⟩)
    | (go_at_call 16; refine (HW.out _).mono ?_; rintro e w' ⟨rfl, rfl⟩))
  go_ret
  exact ⟨rfl, hb⟩
set_option maxRecDepth 100000 in
set_option maxHeartbeats 4000000 in
theorem parts_7 (A : Nat → Addr) (n : Nat) (hn : n < 256) (hk : Cl.Kind n [true, true, false, false, false, true, false, true, false, false, true, false, false, true, false]) (w : World) (hE : Errs w A) : Calls Tryd.prog 7 #[.int .u8 n] w fun e w' => e = .returned (.bool true) ∧ Below w.heap.size w w' := by
  have HE := Lib.hid hE; clear hE
  unfold Cl.Kind Cl.marksOf at hk
  simp only [List.cons.injEq, and_true] at hk
  obtain ⟨e0, e1, e2, e3, e4, e5, e6, e7, e8, e9, e10, e11, e12, e13, e14⟩ := hk
  have ho := other_any n hn; have hw := word_any n hn
  have hwd : Cl.wd n = true := by unfold Cl.wd; rw [show Cl.isI n 95 = _ from e14, e0]; rfl
  have hon : ¬ Cl.oth n = n := by
    have := (letter_spec n).1 e1
    unfold Cl.oth; split <;> (try split) <;> omega
  have hon1 : ((Cl.oth n : Int) == (n : Int)) = false := by simpa using (by omega : ¬ (Cl.oth n : Int) = n)
  have hon2 : ((Cl.oth n : Int) != (n : Int)) = true := by simpa using (by omega : ¬ (Cl.oth n : Int) = n)
  rw [hwd] at hw
  have h0 := fun w' => has_0 n hn w' w; rw [e0] at h0; have H0 := Lib.hid h0; clear h0
  have h1 := fun w' => has_1 n hn w' w; rw [e1] at h1; have H1 := Lib.hid h1; clear h1
  have h2 := fun w' => has_2 n hn w' w; rw [e2] at h2; have H2 := Lib.hid h2; clear h2 e2
  have h3 := fun w' => has_3 n hn w' w; rw [e3] at h3; have H3 := Lib.hid h3; clear h3 e3
  have h4 := fun w' => has_4 n hn w' w; rw [e4] at h4; have H4 := Lib.hid h4; clear h4 e4
  have h5 := fun w' => has_5 n hn w' w; rw [e5] at h5; have H5 := Lib.hid h5; clear h5 e5
  have h6 := fun w' => has_6 n hn w' w; rw [e6] at h6; have H6 := Lib.hid h6; clear h6 e6
  have h7 := fun w' => has_7 n hn w' w; rw [e7] at h7; have H7 := Lib.hid h7; clear h7 e7
  have h8 := fun w' => has_8 n hn w' w; rw [e8] at h8; have H8 := Lib.hid h8; clear h8 e8
  have h9 := fun w' => has_9 n hn w' w; rw [e9] at h9; have H9 := Lib.hid h9; clear h9 e9
  have h10 := fun w' => has_10 n hn w' w; rw [e10] at h10; have H10 := Lib.hid h10; clear h10 e10
  have h11 := fun w' => has_11 n hn w' w; rw [e11] at h11; have H11 := Lib.hid h11; clear h11 e11
  have HO := Lib.hid ho; have HW := Lib.hid hw; clear ho hw hwd e0 e1
  go_enter Tryd.func7, Tryd.ntmps7
  go_wp2_with fail
  refine (cllives_any A w HE.out).mono ?_
  rintro e w1 ⟨rfl, hb⟩
  go_wp2_with (first
    | (go_at_call 24; ((with_reducible refine (H0.out _ hb).mono ?_); clear hb; rintro e w' ⟨rfl, hb⟩))
    | (go_at_call 24; ((with_reducible refine (H1.out _ hb).mono ?_); clear hb; rintro e w' ⟨rfl, hb⟩))
    | (go_at_call 24; ((with_reducible refine (H2.out _ hb).mono ?_); clear hb; rintro e w' ⟨rfl, hb⟩))
    | (go_at_call 24; ((with_reducible refine (H3.out _ hb).mono ?_); clear hb; rintro e w' ⟨rfl, hb⟩))
    | (go_at_call 24; ((with_reducible refine (H4.out _ hb).mono ?_); clear hb; rintro e w' ⟨rfl, hb⟩))
    | (go_at_call 24; ((with_reducible refine (H5.out _ hb).mono ?_); clear hb; rintro e w' ⟨rfl, hb⟩))
    | (go_at_call 24; ((with_reducible refine (H6.out _ hb).mono ?_); clear hb; rintro e w' ⟨rfl, hb⟩))
    | (go_at_call 24; ((with_reducible refine (H7.out _ hb).mono ?_); clear hb; rintro e w' ⟨rfl, hb⟩))
    | (go_at_call 24; ((with_reducible refine (H8.out _ hb).mono ?_); clear hb; rintro e w' ⟨rfl, hb⟩))
    | (go_at_call 24; ((with_reducible refine (H9.out _ hb).mono ?_); clear hb; rintro e w' ⟨rfl, hb⟩))
    | (go_at_call 24; ((with_reducible refine (H10.out _ hb).mono ?_); clear hb; rintro e w' ⟨rfl, hb⟩))
    | (go_at_call 24; ((with_reducible refine (H11.out _ hb).mono ?_); clear hb; rintro e w' ⟨rfl, hb⟩))
    | (go_at_call 14; refine (HO.out _).mono ?_; rintro e w' ⟨rfl, rfl⟩)
    | (go_at_call 16; refine (HW.out _).mono ?_; rintro e w' ⟨rfl, rfl⟩))
  go_ret
  exact ⟨rfl, hb⟩
set_option maxRecDepth 100000 in
set_option maxHeartbeats 4000000 in
theorem parts_8 (A : Nat → Addr) (n : Nat) (hn : n < 256) (hk : Cl.Kind n [false, false, false, false, false, true, false, true, true, false, false, false, false, true, true]) (w : World) (hE : Errs w A) : Calls Tryd.prog 7 #[.int .u8 n] w fun e w' => e = .returned (.bool true) ∧ Below w.heap.size w w' := by
  have HE := Lib.hid hE; clear hE
  unfold Cl.Kind Cl.marksOf at hk
  simp only [List.cons.injEq, and_true] at hk
  obtain ⟨e0, e1, e2, e3, e4, e5, e6, e7, e8, e9, e10, e11, e12, e13, e14⟩ := hk
  have ho := other_any n hn; have hw := word_any n hn
  have hwd : Cl.wd n = true := by unfold Cl.wd; rw [show Cl.isI n 95 = _ from e14, e0]; rfl
  rw [oth_no e1] at ho
  rw [hwd] at hw
  have h0 := fun w' => has_0 n hn w' w; rw [e0] at h0; have H0 := Lib.hid h0; clear h0
  have h1 := fun w' => has_1 n hn w' w; rw [e1] at h1; have H1 := Lib.hid h1; clear h1
  have h2 := fun w' => has_2 n hn w' w; rw [e2] at h2; have H2 := Lib.hid h2; clear h2 e2
  have h3 := fun w' => has_3 n hn w' w; rw [e3] at h3; have H3 := Lib.hid h3; clear h3 e3
  have h4 := fun w' => has_4 n hn w' w; rw [e4] at h4; have H4 := Lib.hid h4; clear h4 e4
  have h5 := fun w' => has_5 n hn w' w; rw [e5] at h5; have H5 := Lib.hid h5; clear h5 e5
  have h6 := fun w' => has_6 n hn w' w; rw [e6] at h6; have H6 := Lib.hid h6; clear h6 e6
  have h7 := fun w' => has_7 n hn w' w; rw [e7] at h7; have H7 := Lib.hid h7; clear h7 e7
  have h8 := fun w' => has_8 n hn w' w; rw [e8] at h8; have H8 := Lib.hid h8; clear h8 e8
  have h9 := fun w' => has_9 n hn w' w; rw [e9] at h9; have H9 := Lib.hid h9; clear h9 e9
  have h10 := fun w' => has_10 n hn w' w; rw [e10] at h10; have H10 := Lib.hid h10; clear h10 e10
  have h11 := fun w' => has_11 n hn w' w; rw [e11] at h11; have H11 := Lib.hid h11; clear h11 e11
  have HO := Lib.hid ho; have HW := Lib.hid hw; clear ho hw hwd e0 e1
  go_enter Tryd.func7, Tryd.ntmps7
  go_wp2_with fail
  refine (cllives_any A w HE.out).mono ?_
  rintro e w1 ⟨rfl, hb⟩
  go_wp2_with (first
    | (go_at_call 24; ((with_reducible refine (H0.out _ hb).mono ?_); clear hb; rintro e w' ⟨rfl, hb⟩))
    | (go_at_call 24; ((with_reducible refine (H1.out _ hb).mono ?_); clear hb; rintro e w' ⟨rfl, hb⟩))
    | (go_at_call 24; ((with_reducible refine (H2.out _ hb).mono ?_); clear hb; rintro e w' ⟨rfl, hb⟩))
    | (go_at_call 24; ((with_reducible refine (H3.out _ hb).mono ?_); clear hb; rintro e w' ⟨rfl, hb⟩))
    | (go_at_call 24; ((with_reducible refine (H4.out _ hb).mono ?_); clear hb; rintro e w' ⟨rfl, hb⟩))
    | (go_at_call 24; ((with_reducible refine (H5.out _ hb).mono ?_); clear hb; rintro e w' ⟨rfl, hb⟩))
    | (go_at_call 24; ((with_reducible refine (H6.out _ hb).mono ?_); clear hb; rintro e w' ⟨rfl, hb⟩))
    | (go_at_call 24; ((with_reducible refine (H7.out _ hb).mono ?_); clear hb; rintro e w' ⟨rfl, hb⟩))
    | (go_at_call 24; ((with_reducible refine (H8.out _ hb).mono ?_); clear hb; rintro e w' ⟨rfl, hb⟩))
    | (go_at_call 24; ((with_reducible refine (H9.out _ hb).mono ?_); clear hb; rintro e w' ⟨rfl, hb⟩))
    | (go_at_call 24; ((with_reducible refine (H10.out _ hb).mono ?_); clear hb; rintro e w' ⟨rfl, hb⟩))
    | (go_at_call 24; ((with_reducible refine (H11.out _ hb).mono ?_); clear hb; rintro e w' ⟨rfl, hb⟩))
    | (go_at_call 14; refine (HO.out _).mono ?_; rintro e w' ⟨rfl, rfl⟩)
    | (go_at_call 16; refine (HW.out _).mono ?_; rintro e w' ⟨rfl, rfl⟩))
  go_ret
  exact ⟨rfl, hb⟩
set_option maxRecDepth 100000 in
set_option maxHeartbeats 4000000 in
theorem parts_9 (A : Nat → Addr) (n : Nat) (hn : n < 256) (hk : Cl.Kind n [true, true, false, false, false, true, true, true, false, false, false, true, false, true, false]) (w : World) (hE : Errs w A) : Calls Tryd.prog 7 #[.int .u8 n] w fun e w' => e = .returned (.bool true) ∧ Below w.heap.size w w' := by
  have HE := Lib.hid hE; clear hE
  unfold Cl.Kind Cl.marksOf at hk
  simp only [List.cons.injEq, and_true] at hk
  obtain ⟨e0, e1, e2, e3, e4, e5, e6, e7, e8, e9, e10, e11, e12, e13, e14⟩ := hk
  have ho := other_any n hn; have hw := word_any n hn
  have hwd : Cl.wd n = true := by unfold Cl.wd; rw [show Cl.isI n 95 = _ from e14, e0]; rfl
  have hon : ¬ Cl.oth n = n := by
    have := (letter_spec n).1 e1
    unfold Cl.oth; split <;> (try split) <;> omega
  have hon1 : ((Cl.oth n : Int) == (n : Int)) = false := by simpa using (by omega : ¬ (Cl.oth n : Int) = n)
  have hon2 : ((Cl.oth n : Int) != (n : Int)) = true := by simpa using (by omega : ¬ (Cl.oth n : Int) = n)
  rw [hwd] at hw
  have h0 := fun w' => has_0 n hn w' w; rw [e0] at h0; have H0 := Lib.hid h0; clear h0
  have h1 := fun w' => has_1 n hn w' w; rw [e1] at h1; have H1 := Lib.hid h1; clear h1
  have h2 := fun w' => has_2 n hn w' w; rw [e2] at h2; have H2 := Lib.hid h2; clear h2 e2
  have h3 := fun w' => has_3 n hn w' w; rw [e3] at h3; have H3 := Lib.hid h3; clear h3 e3
  have h4 := fun w' => has_4 n hn w' w; rw [e4] at h4; have H4 := Lib.hid h4; clear h4 e4
  have h5 := fun w' => has_5 n hn w' w; rw [e5] at h5; have H5 := Lib.hid h5; clear h5 e5
  have h6 := fun w' => has_6 n hn w' w; rw [e6] at h6; have H6 := Lib.hid h6; clear h6 e6
  have h7 := fun w' => has_7 n hn w' w; rw [e7] at h7; have H7 := Lib.hid h7; clear h7 e7
  have h8 := fun w' => has_8 n hn w' w; rw [e8] at h8; have H8 := Lib.hid h8; clear h8 e8
  have h9 := fun w' => has_9 n hn w' w; rw [e9] at h9; have H9 := Lib.hid h9; clear h9 e9
  have h10 := fun w' => has_10 n hn w' w; rw [e10] at h10; have H10 := Lib.hid h10; clear h10 e10
  have h11 := fun w' => has_11 n hn w' w; rw [e11] at h11; have H11 := Lib.hid h11; clear h11 e11
  have HO := Lib.hid ho; have HW := Lib.hid hw; clear ho hw hwd e0 e1
  go_enter Tryd.func7, Tryd.ntmps7
  go_wp2_with fail
  refine (cllives_any A w HE.out).mono ?_
  rintro e w1 ⟨rfl, hb⟩
  go_wp2_with (first
    | (go_at_call 24; ((with_reducible refine (H0.out _ hb).mono ?_); clear hb; rintro e w' ⟨rfl, hb⟩))
    | (go_at_call 24; ((with_reducible refine (H1.out _ hb).mono ?_); clear hb; rintro e w' ⟨rfl, hb⟩))
    | (go_at_call 24; ((with_reducible refine (H2.out _ hb).mono ?_); clear hb; rintro e w' ⟨rfl, hb⟩))
    | (go_at_call 24; ((with_reducible refine (H3.out _ hb).mono ?_); clear hb; rintro e w' ⟨rfl, hb⟩))
    | (go_at_call 24; ((with_reducible refine (H4.out _ hb).mono ?_); clear hb; rintro e w' ⟨rfl, hb⟩))
    | (go_at_call 24; ((with_reducible refine (H5.out _ hb).mono ?_); clear hb; rintro e w' ⟨rfl, hb⟩))
    | (go_at_call 24; ((with_reducible refine (H6.out _ hb).mono ?_); clear hb; rintro e w' ⟨rfl, hb⟩))
    | (go_at_call 24; ((with_reducible refine (H7.out _ hb).mono ?_); clear hb; rintro e w' ⟨rfl, hb⟩))
    | (go_at_call 24; ((with_reducible refine (H8.out _ hb).mono ?_); clear hb; rintro e w' ⟨rfl, hb⟩))
    | (go_at_call 24; ((with_reducible refine (H9.out _ hb).mono ?_); clear hb; rintro e w' ⟨rfl, hb⟩))
    | (go_at_call 24; ((with_reducible refine (H10.out _ hb).mono ?_); clear hb; rintro e w' ⟨rfl, hb⟩))
    | (go_at_call 24; ((with_reducible refine (H11.out _ hb).mono ?_); clear hb; rintro e w' ⟨rfl, hb⟩))
    | (go_at_call 14; refine (HO.out _).mono ?_; rintro e w' ⟨rfl, rfl⟩)
    | (go_at_call 16; refine (HW.out _).mono ?_; rintro e w' ⟨rfl, rfl⟩))
  go_ret
  exact ⟨rfl, hb⟩
set_option maxRecDepth 100000 in
set_option maxHeartbeats 4000000 in
theorem parts_10 (A : Nat → Addr) (n : Nat) (hn : n < 256) (hk : Cl.Kind n [true, true, false, false, false, true, true, true, false, false, false, false, false, true, false]) (w : World) (hE : Errs w A) : Calls Tryd.prog 7 #[.int .u8 n] w fun e w' => e = .returned (.bool true) ∧ Below w.heap.size w w' := by
  have HE := Lib.hid hE; clear hE
  unfold Cl.Kind Cl.marksOf at hk
  simp only [List.cons.injEq, and_true] at hk
  obtain ⟨e0, e1, e2, e3, e4, e5, e6, e7, e8, e9, e10, e11, e12, e13, e14⟩ := hk
  have ho := other_any n hn; have hw := word_any n hn
  have hwd : Cl.wd n = true := by unfold Cl.wd; rw [show Cl.isI n 95 = _ from e14, e0]; rfl
  have hon : ¬ Cl.oth n = n := by
    have := (letter_spec n).1 e1
    unfold Cl.oth; split <;> (try split) <;> omega
  have hon1 : ((Cl.oth n : Int) == (n : Int)) = false := by simpa using (by omega : ¬ (Cl.oth n : Int) = n)
  have hon2 : ((Cl.oth n : Int) != (n : Int)) = true := by simpa using (by omega : ¬ (Cl.oth n : Int) = n)
  rw [hwd] at hw
  have h0 := fun w' => has_0 n hn w' w; rw [e0] at h0; have H0 := Lib.hid h0; clear h0
  have h1 := fun w' => has_1 n hn w' w; rw [e1] at h1; have H1 := Lib.hid h1; clear h1
  have h2 := fun w' => has_2 n hn w' w; rw [e2] at h2; have H2 := Lib.hid h2; clear h2 e2
  have h3 := fun w' => has_3 n hn w' w; rw [e3] at h3; have H3 := Lib.hid h3; clear h3 e3
  have h4 := fun w' => has_4 n hn w' w; rw [e4] at h4; have H4 := Lib.hid h4; clear h4 e4
  have h5 := fun w' => has_5 n hn w' w; rw [e5] at h5; have H5 := Lib.hid h5; clear h5 e5
  have h6 := fun w' => has_6 n hn w' w; rw [e6] at h6; have H6 := Lib.hid h6; clear h6 e6
  have h7 := fun w' => has_7 n hn w' w; rw [e7] at h7; have H7 := Lib.hid h7; clear h7 e7
  have h8 := fun w' => has_8 n hn w' w; rw [e8] at h8; have H8 := Lib.hid h8; clear h8 e8
  have h9 := fun w' => has_9 n hn w' w; rw [e9] at h9; have H9 := Lib.hid h9; clear h9 e9
  have h10 := fun w' => has_10 n hn w' w; rw [e10] at h10; have H10 := Lib.hid h10; clear h10 e10
  have h11 := fun w' => has_11 n hn w' w; rw [e11] at h11; have H11 := Lib.hid h11; clear h11 e11
  have HO := Lib.hid ho; have HW := Lib.hid hw; clear ho hw hwd e0 e1
  go_enter Tryd.func7, Tryd.ntmps7
  go_wp2_with fail
  refine (cllives_any A w HE.out).mono ?_
  rintro e w1 ⟨rfl, hb⟩
  go_wp2_with (first
    | (go_at_call 24; ((with_reducible refine (H0.out _ hb).mono ?_); clear hb; rintro e w' ⟨rfl, hb⟩))
    | (go_at_call 24; ((with_reducible refine (H1.out _ hb).mono ?_); clear hb; rintro e w' ⟨rfl, hb⟩))
    | (go_at_call 24; ((with_reducible refine (H2.out _ hb).mono ?_); clear hb; rintro e w' ⟨rfl, hb⟩))
    | (go_at_call 24; ((with_reducible refine (H3.out _ hb).mono ?_); clear hb; rintro e w' ⟨rfl, hb⟩))
    | (go_at_call 24; ((with_reducible refine (H4.out _ hb).mono ?_); clear hb; rintro e w' ⟨rfl, hb⟩))
    | (go_at_call 24; ((with_reducible refine (H5.out _ hb).mono ?_); clear hb; rintro e w' ⟨rfl, hb⟩))
    | (go_at_call 24; ((with_reducible refine (H6.out _ hb).mono ?_); clear hb; rintro e w' ⟨rfl, hb⟩))
    | (go_at_call 24; ((with_reducible refine (H7.out _ hb).mono ?_); clear hb; rintro e w' ⟨rfl, hb⟩))
    | (go_at_call 24; ((with_reducible refine (H8.out _ hb).mono ?_); clear hb; rintro e w' ⟨rfl, hb⟩))
    | (go_at_call 24; ((with_reducible refine (H9.out _ hb).mono ?_); clear hb; rintro e w' ⟨rfl, hb⟩))
    | (go_at_call 24; ((with_reducible refine (H10.out _ hb).mono ?_); clear hb; rintro e w' ⟨rfl, hb⟩))
    | (go_at_call 24; ((with_reducible refine (H11.out _ hb).mono ?_); clear hb; rintro e w' ⟨rfl, hb⟩))
    | (go_at_call 14; refine (HO.out _).mono ?_; rintro e w' ⟨rfl, rfl⟩)
    | (go_at_call 16; refine (HW.out _).mono ?_; rintro e w' ⟨rfl, rfl⟩))
  go_ret
  exact ⟨rfl, hb⟩
set_option maxRecDepth 100000 in
set_option maxHeartbeats 4000000 in
theorem parts_11 (A : Nat → Addr) (n : Nat) (hn : n < 256) (hk : Cl.Kind n [false, false, false, false, false, false, false, false, false, false, false, false, false, false, false]) (w : World) (hE : Errs w A) : Calls Tryd.prog 7 #[.int .u8 n] w fun e w' => e = .returned (.bool true) ∧ Below w.heap.size w w' := by
  have HE := Lib.hid hE; clear hE
  unfold Cl.Kind Cl.marksOf at hk
  simp only [List.cons.injEq, and_true] at hk
  obtain ⟨e0, e1, e2, e3, e4, e5, e6, e7, e8, e9, e10, e11, e12, e13, e14⟩ := hk
  have ho := other_any n hn; have hw := word_any n hn
  have hwd : Cl.wd n = false := by unfold Cl.wd; rw [show Cl.isI n 95 = _ from e14, e0]; rfl
  rw [oth_no e1] at ho
  rw [hwd] at hw
  have h0 := fun w' => has_0 n hn w' w; rw [e0] at h0; have H0 := Lib.hid h0; clear h0
  have h1 := fun w' => has_1 n hn w' w; rw [e1] at h1; have H1 := Lib.hid h1; clear h1
  have h2 := fun w' => has_2 n hn w' w; rw [e2] at h2; have H2 := Lib.hid h2; clear h2 e2
  have h3 := fun w' => has_3 n hn w' w; rw [e3] at h3; have H3 := Lib.hid h3; clear h3 e3
  have h4 := fun w' => has_4 n hn w' w; rw [e4] at h4; have H4 := Lib.hid h4; clear h4 e4
  have h5 := fun w' => has_5 n hn w' w; rw [e5] at h5; have H5 := Lib.hid h5; clear h5 e5
  have h6 := fun w' => has_6 n hn w' w; rw [e6] at h6; have H6 := Lib.hid h6; clear h6 e6
  have h7 := fun w' => has_7 n hn w' w; rw [e7] at h7; have H7 := Lib.hid h7; clear h7 e7
  have h8 := fun w' => has_8 n hn w' w; rw [e8] at h8; have H8 := Lib.hid h8; clear h8 e8
  have h9 := fun w' => has_9 n hn w' w; rw [e9] at h9; have H9 := Lib.hid h9; clear h9 e9
  have h10 := fun w' => has_10 n hn w' w; rw [e10] at h10; have H10 := Lib.hid h10; clear h10 e10
  have h11 := fun w' => has_11 n hn w' w; rw [e11] at h11; have H11 := Lib.hid h11; clear h11 e11
  have HO := Lib.hid ho; have HW := Lib.hid hw; clear ho hw hwd e0 e1
  go_enter Tryd.func7, Tryd.ntmps7
  go_wp2_with fail
  refine (cllives_any A w HE.out).mono ?_
  rintro e w1 ⟨rfl, hb⟩
  go_wp2_with (first
    | (go_at_call 24; ((with_reducible refine (H0.out _ hb).mono ?_); clear hb; rintro e w' ⟨rfl, hb⟩))
    | (go_at_call 24; ((with_reducible refine (H1.out _ hb).mono ?_); clear hb; rintro e w' ⟨rfl, hb⟩))
    | (go_at_call 24; ((with_reducible refine (H2.out _ hb).mono ?_); clear hb; rintro e w' ⟨rfl, hb⟩))
    | (go_at_call 24; ((with_reducible refine (H3.out _ hb).mono ?_); clear hb; rintro e w' ⟨rfl, hb⟩))
    | (go_at_call 24; ((with_reducible refine (H4.out _ hb).mono ?_); clear hb; rintro e w' ⟨rfl, hb⟩))
    | (go_at_call 24; ((with_reducible refine (H5.out _ hb).mono ?_); clear hb; rintro e w' ⟨rfl, hb⟩))
    | (go_at_call 24; ((with_reducible refine (H6.out _ hb).mono ?_); clear hb; rintro e w' ⟨rfl, hb⟩))
    | (go_at_call 24; ((with_reducible refine (H7.out _ hb).mono ?_); clear hb; rintro e w' ⟨rfl, hb⟩))
    | (go_at_call 24; ((with_reducible refine (H8.out _ hb).mono ?_); clear hb; rintro e w' ⟨rfl, hb⟩))
    | (go_at_call 24; ((with_reducible refine (H9.out _ hb).mono ?_); clear hb; rintro e w' ⟨rfl, hb⟩))
    | (go_at_call 24; ((with_reducible refine (H10.out _ hb).mono ?_); clear hb; rintro e w' ⟨rfl, hb⟩))
    | (go_at_call 24; ((with_reducible refine (H11.out _ hb).mono ?_); clear hb; rintro e w' ⟨rfl, hb⟩))
    | (go_at_call 14; refine (HO.out _).mono ?_; rintro e w' ⟨rfl, rfl⟩)
    | (go_at_call 16; refine (HW.out _).mono ?_; rintro e w' ⟨rfl, rfl⟩))
  go_ret
  exact ⟨rfl, hb⟩
theorem clparts_any (A : Nat → Addr) (n : Nat) (hn : n < 256) (w : World) (hE : Errs w A) : Calls Tryd.prog 7 #[.int .u8 n] w fun e w' => e = .returned (.bool true) ∧ Below w.heap.size w w' := by
  rcases kinds n hn with h | h | h | h | h | h | h | h | h | h | h | h
  · exact parts_0 A n hn h w hE
  · exact parts_1 A n hn h w hE
  · exact parts_2 A n hn h w hE
  · exact parts_3 A n hn h w hE
  · exact parts_4 A n hn h w hE
  · exact parts_5 A n hn h w hE
  · exact parts_6 A n hn h w hE
  · exact parts_7 A n hn h w hE
  · exact parts_8 A n hn h w hE
  · exact parts_9 A n hn h w hE
  · exact parts_10 A n hn h w hE
  · exact parts_11 A n hn h w hE
end Go.Proofs.YtnicijdpcpnbdaaDoor
