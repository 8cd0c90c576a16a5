/- What the reference of bracket does: is, dotted, colon, closing. -/
import Derived.Test.YtlbhbjmobcikfaaGreatDoorBrMath
import Derived.Test.YtlbhbjmobcikfaaGreatDoorOcMore
namespace Go.Proofs.YtlbhbjmobcikfaaGreatDoor
open Go.RowKit
/-- Byte i of a text; 256 behind its end. -/
def bt (s : ByteArray) (i : Nat) : Nat := if i < s.size then byteAt s i else 256
theorem bt_in {s : ByteArray} {i : Nat} (h : i < s.size) : bt s i = byteAt s i := if_pos h
theorem bt_out {s : ByteArray} {i : Nat} (h : s.size ≤ i) : bt s i = 256 := if_neg (by omega)
theorem bt_txt (s : ByteArray) : Br.Txt (bt s) s.size := ⟨fun i h => by rw [bt_in h]; exact byteAt_lt s i, fun i h => bt_out h⟩
theorem bt_at {s : ByteArray} {i : Nat} (h : i < s.size) : s[i].toNat = bt s i := by
  rw [bt_in h]; unfold byteAt; simp [ByteArray.getElem_eq_getElem_data, h]
/-- Does byte c stand at place j? -/
def isB (s : ByteArray) (j : Int) (c : Nat) : Bool := decide (0 ≤ j) && bt s j.toNat == c
theorem isB_nat {s : ByteArray} {j : Int} {i c : Nat} (h : j = i) : isB s j c = (bt s i == c) := by subst h; simp [isB]
theorem ris_any (s : ByteArray) (_hs : s.size ≤ 1152921504606846976) (j : Int) (c : Nat) (hc : c < 256) (w : World) :
    Calls Tryz.prog 126 #[.string s, .int .i64 j, .int .u8 c] w fun e w' => e = .returned (.bool (isB s j c)) ∧ w = w' := by
  by_cases h0 : 0 ≤ j
  · obtain ⟨i, rfl⟩ : ∃ i : Nat, j = i := ⟨j.toNat, by omega⟩
    rw [isB_nat rfl]
    by_cases h1 : i < s.size
    · have he := bt_at h1
      generalize hb : (bt s i == c) = b
      have hd : ((s[i].toNat : Int) == (c : Int)) = b := by
        rw [← hb, Bool.eq_iff_iff]; simp only [beq_iff_eq]; omega
      clear hb he
      cases b
      all_goals
        go_enter Tryz.func126, Tryz.ntmps126
        go_wp2
        go_ret
        exact ⟨rfl, rfl⟩
    · have hb : (bt s i == c) = false := by rw [bt_out (by omega)]; simp; omega
      rw [hb]
      have hd : decide (i < s.size) = false := by simpa using h1
      clear hb
      go_enter Tryz.func126, Tryz.ntmps126
      go_wp2
      go_ret
      exact ⟨rfl, rfl⟩
  · have hd : decide ((0 : Int) ≤ j) = false := by simpa using h0
    have hb : isB s j c = false := by unfold isB; rw [hd]; rfl
    rw [hb]
    clear hb
    go_enter Tryz.func126, Tryz.ntmps126
    go_wp2
    go_ret
    exact ⟨rfl, rfl⟩
/-- The same at a place that is not negative. -/
theorem ris_nat (s : ByteArray) (hs : s.size ≤ 1152921504606846976) (j : Int) (i c : Nat) (hj : j = i) (hc : c < 256) (b : Bool) (hb : (bt s i == c) = b) (w : World) :
    Calls Tryz.prog 126 #[.string s, .int .i64 j, .int .u8 c] w fun e w' => e = .returned (.bool b) ∧ w = w' := by
  have := ris_any s hs j c hc w
  rw [isB_nat hj, hb] at this
  exact this
set_option maxHeartbeats 1000000 in
theorem dotted_any (s : ByteArray) (hs : s.size ≤ 1152921504606846976) (j : Int) (i : Nat) (hj : j = i) (hi : i ≤ s.size + 10) (w : World) :
    Calls Tryz.prog 149 #[.string s, .int .i64 j] w fun e w' => e = .returned (.bool (Br.dotted (bt s) i)) ∧ w = w' := by
  subst hj
  unfold Br.dotted
  have H0 := Lib.hid (fun b hb => ris_nat s hs i i 91 rfl (by omega) b hb)
  have H1 := Lib.hid (fun b hb => ris_nat s hs (i + 1) (i + 1) 46 (by omega) (by omega) b hb)
  have H2 := Lib.hid (fun b hb => ris_nat s hs (i + 1) (i + 1) 61 (by omega) (by omega) b hb)
  have hw : IntKind.i64.wrap ((i : Int) + 1) = (i : Int) + 1 := IntWalk.i64_in _ (by omega)
  have h0 := fun b hb => H0.out b hb; have h1 := fun b hb => H1.out b hb; have h2 := fun b hb => H2.out b hb
  clear H0 H1 H2 hi hs
  generalize (bt s i == 91) = x at *
  generalize (bt s (i + 1) == 46) = y at *
  generalize (bt s (i + 1) == 61) = z at *
  have H0 := Lib.hid (h0 x rfl); have H1 := Lib.hid (h1 y rfl); have H2 := Lib.hid (h2 z rfl)
  clear h0 h1 h2
  go_enter Tryz.func149, Tryz.ntmps149
  cases x
  · go_wp2_with (go_at_call 126; refine (H0.out _).mono ?_; rintro e w' ⟨rfl, rfl⟩)
    go_ret
    exact ⟨rfl, rfl⟩
  · cases y
    · go_wp2_with fail
      refine (H0.out _).mono ?_; rintro e w' ⟨rfl, rfl⟩
      go_wp2_with fail
      refine (H1.out _).mono ?_; rintro e w' ⟨rfl, rfl⟩
      go_wp2_with fail
      refine (H2.out _).mono ?_; rintro e w' ⟨rfl, rfl⟩
      go_wp2
      go_ret
      exact ⟨ret_bool (by simp), rfl⟩
    · go_wp2_with fail
      refine (H0.out _).mono ?_; rintro e w' ⟨rfl, rfl⟩
      go_wp2_with fail
      refine (H1.out _).mono ?_; rintro e w' ⟨rfl, rfl⟩
      go_wp2
      go_ret
      exact ⟨rfl, rfl⟩
theorem colon_any (s : ByteArray) (hs : s.size ≤ 1152921504606846976) (j : Int) (i : Nat) (hj : j = i) (hi : i ≤ s.size + 10) (w : World) :
    Calls Tryz.prog 150 #[.string s, .int .i64 j] w fun e w' => e = .returned (.bool (Br.colon (bt s) i)) ∧ w = w' := by
  subst hj
  unfold Br.colon
  have H0 := Lib.hid (fun b hb => ris_nat s hs i i 91 rfl (by omega) b hb)
  have H1 := Lib.hid (fun b hb => ris_nat s hs (i + 1) (i + 1) 58 (by omega) (by omega) b hb)
  have hw : IntKind.i64.wrap ((i : Int) + 1) = (i : Int) + 1 := IntWalk.i64_in _ (by omega)
  have h0 := fun b hb => H0.out b hb; have h1 := fun b hb => H1.out b hb
  clear H0 H1 hi hs
  generalize (bt s i == 91) = x at *
  generalize (bt s (i + 1) == 58) = y at *
  have H0 := Lib.hid (h0 x rfl); have H1 := Lib.hid (h1 y rfl)
  clear h0 h1
  go_enter Tryz.func150, Tryz.ntmps150
  cases x
  · go_wp2_with (go_at_call 126; refine (H0.out _).mono ?_; rintro e w' ⟨rfl, rfl⟩)
    go_ret
    exact ⟨rfl, rfl⟩
  · go_wp2_with fail
    refine (H0.out _).mono ?_; rintro e w' ⟨rfl, rfl⟩
    go_wp2_with fail
    refine (H1.out _).mono ?_; rintro e w' ⟨rfl, rfl⟩
    go_wp2
    go_ret
    exact ⟨ret_bool (by simp), rfl⟩
/-- A place, or -1. -/
def optI (o : Option Nat) : Int := match o with | some e => e | none => -1
set_option maxHeartbeats 1000000 in
theorem closing_any (s : ByteArray) (hs : s.size ≤ 1152921504606846976) (j : Int) (i : Nat) (hj : j = i) (hi : i ≤ s.size + 10) (w : World) :
    Calls Tryz.prog 151 #[.string s, .int .i64 j] w fun e w' => e = .returned (.int .i64 (optI (Br.clos (bt s) (s.size - (i + 1)) i))) ∧ w = w' := by
  subst hj
  have HR : ∃ R, Br.clos (bt s) (s.size - (i + 1)) i = R := ⟨_, rfl⟩
  obtain ⟨R, hR⟩ := HR
  rw [hR]
  have HR := Lib.hid hR
  clear hR
  go_enter Tryz.func151, Tryz.ntmps151
  go_wp2
  go_loop [1] (fun i' => ∃ k : Nat, i' = .int .i64 k ∧ k ≤ s.size + 10 ∧ Hid (Br.clos (bt s) (s.size - (k + 1)) k = R)) (fun i' => s.size - (intOf i').toNat)
  case atStart => exact ⟨i, rfl, hi, HR⟩
  case round =>
    obtain ⟨k, rfl, hk, hK⟩ := hrel
    have hw : IntKind.i64.wrap ((k : Int) + 1) = (k : Int) + 1 := IntWalk.i64_in _ (by omega)
    by_cases hlt : k + 1 < s.size
    · have h1 := bt_at (show k < s.size by omega)
      have h2 := bt_at hlt
      have hfk : s.size - (k + 1) = s.size - (k + 1 + 1) + 1 := by omega
      have hK' := hK.out
      rw [hfk] at hK'
      unfold Br.clos at hK'
      have hd : decide ((k : Int) + 1 < s.size) = true := by simp; omega
      by_cases c1 : bt s k = 58
      · by_cases c2 : bt s (k + 1) = 93
        · have e1 : ((s[k].toNat : Int) == 58) = true := by rw [h1, c1]; rfl
          have e2 : ((s[k + 1].toNat : Int) == 93) = true := by rw [h2, c2]; rfl
          rw [if_pos (by simp [c1, c2])] at hK'
          subst hK'
          clear h1 h2 hK hfk c1 c2
          go_wp2
          go_ret
          exact ⟨rfl, rfl⟩
        · have e1 : ((s[k].toNat : Int) == 58) = true := by rw [h1, c1]; rfl
          have e2 : ((s[k + 1].toNat : Int) == 93) = false := by rw [h2]; simp; omega
          rw [if_neg (by simp [c2])] at hK'
          have HK := Lib.hid hK'
          clear h1 h2 hK hfk c1 c2 hK'
          go_wp2
          exact ⟨⟨k + 1, by go_num, by omega, HK⟩, by simp [intOf]; omega⟩
      · have e1 : ((s[k].toNat : Int) == 58) = false := by rw [h1]; simp; omega
        rw [if_neg (by simp [c1])] at hK'
        have HK := Lib.hid hK'
        clear h1 h2 hK hfk c1 hK'
        go_wp2
        exact ⟨⟨k + 1, by go_num, by omega, HK⟩, by simp [intOf]; omega⟩
    · have hd : decide ((k : Int) + 1 < s.size) = false := by simp; omega
      have hK' := hK.out
      rw [show s.size - (k + 1) = 0 by omega] at hK'
      have hK2 : none = R := hK'
      subst hK2
      clear hK hK'
      go_wp2
      go_ret
      exact ⟨rfl, rfl⟩
end Go.Proofs.YtlbhbjmobcikfaaGreatDoor
