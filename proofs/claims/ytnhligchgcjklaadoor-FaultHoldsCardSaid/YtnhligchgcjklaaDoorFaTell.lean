/- The reference's Tell. -/
import Derived.Test.YtnhligchgcjklaaDoorFaDec
import Derived.Test.YtnhligchgcjklaaDoorFaWords
import Derived.Test.YtnhligchgcjklaaDoorFaLinks
namespace Go.Proofs.YtnhligchgcjklaaDoor
open Go.RowKit
theorem itoa_len {n : Int} (h0 : -9223372036854775808 ≤ n) (h1 : n ≤ 9223372036854775807) : (Lib.itoa n).length ≤ 20 := by
  unfold Lib.itoa
  split
  · have := dec_len (u := n.natAbs) (by omega); simp; omega
  · have := dec_len (u := n.toNat) (by omega); omega
theorem decimal_any (n : Int) (h0 : -9223372036854775808 ≤ n) (h1 : n ≤ 9223372036854775807) (w : World) : Calls Tryd.prog 31 #[.int .i64 n] w fun e w' => e = .returned (.string (tx (Lib.itoa n))) ∧ Below w.heap.size w w' := by
  by_cases h : n < 0
  · obtain ⟨m, rfl⟩ : ∃ m : Nat, n = -(m : Int) := ⟨n.natAbs, by omega⟩
    exact decimal_neg m (by omega) (by omega) w
  · obtain ⟨m, rfl⟩ : ∃ m : Nat, n = (m : Int) := ⟨n.toNat, by omega⟩
    exact decimal_pos m (by omega) w
def isI64 (n : Int) : Prop := -9223372036854775808 ≤ n ∧ n ≤ 9223372036854775807
/-- What a number adds to the line. -/
def bit (word : List UInt8) (o : Option Int) : List UInt8 := match o with | some x => word ++ Lib.itoa x ++ [58, 32] | none => []
/-- The line of an error. -/
def tellL (i p : Option Int) (c : Int) : List UInt8 :=
  if c = 0 then [] else bit [112, 97, 116, 116, 101, 114, 110, 32] i ++ bit [97, 116, 32] p ++ (if c < 0 then [111, 116, 104, 101, 114] else (wordAt c).data.toList)
theorem lastN_i64 {L : Nat → Bool × Int} (h : ∀ i, isI64 (L i).2) (k : Bool) : ∀ m x, lastN k L m = some x → isI64 x
  | 0, _, hx => by simp [lastN] at hx
  | m + 1, x, hx => by
    simp only [lastN] at hx
    split at hx
    · simp only [Option.some.injEq] at hx; subst hx; exact h m
    · exact lastN_i64 h k m x hx
theorem wordAt_size (n : Int) : (wordAt n).size ≤ 20 := by
  unfold wordAt
  split
  · rename_i h
    have : ∀ k, k < 22 → (wordS k).size ≤ 20 := by decide +kernel
    exact this _ (by omega)
  · exact Nat.zero_le _
set_option maxRecDepth 100000 in
set_option maxHeartbeats 4000000 in
theorem reftell_any (p : Option Addr) (len cap : Nat) (L : Nat → Bool × Int) (c : Int) (hlen : len ≤ 9223372036854775807) (hi64 : ∀ i, isI64 (L i).2) (w : World) (hL : LinksAt w p len L) :
    Calls Tryd.prog 13 #[.slice p len cap, .int .i64 c] w fun e w' => (∃ s, e = .returned (.string s) ∧ s.data.toList = tellL (lastN true L len) (lastN false L len) c) ∧ Below w.heap.size w w' := by
  have la := last_any p len cap L true hlen w hL
  have lb := fun w' hb => last_any p len cap L false hlen w' (hL.later (w := w) hb)
  have k1 := lastN_i64 hi64 true len
  have k2 := lastN_i64 hi64 false len
  unfold tellL
  generalize lastN true L len = o1 at *
  generalize lastN false L len = o2 at *
  have LA := Lib.hid la; have LB := Lib.hid lb
  have hws := wordAt_size c
  clear la lb hL hi64
  by_cases h0 : c = 0
  · subst h0
    go_enter Tryd.func13, Tryd.ntmps13
    go_wp2
    go_ret
    exact ⟨⟨_, rfl, rfl⟩, Below.refl _ _⟩
  · rw [if_neg h0]
    cases o1 with
    | none =>
      cases o2 with
      | none =>
        clear k1 k2
        by_cases hc : c < 0
        · go_enter Tryd.func13, Tryd.ntmps13
          go_wp2_with fail
          refine LA.out.mono ?_
          rintro e w' ⟨rfl, rfl⟩
          go_wp2_with fail
          refine (LB.out _ (Below.refl _ _)).mono ?_
          rintro e w' ⟨rfl, rfl⟩
          go_wp2
          go_ret
          exact ⟨⟨_, rfl, by simp [bit, ByteArray.data_append]⟩, (Below.refl _ _)⟩
        · have hc0 : (0 : Int) ≤ c := by omega
          go_enter Tryd.func13, Tryd.ntmps13
          go_wp2_with fail
          refine LA.out.mono ?_
          rintro e w' ⟨rfl, rfl⟩
          go_wp2_with fail
          refine (LB.out _ (Below.refl _ _)).mono ?_
          rintro e w' ⟨rfl, rfl⟩
          go_wp2_with fail
          refine (refwords_any c _).mono ?_
          rintro e w3 ⟨rfl, hb3⟩
          have HB3 := Lib.hid hb3; clear hb3
          go_wp2
          go_ret
          exact ⟨⟨_, rfl, by simp [bit, ByteArray.data_append]⟩, HB3.out⟩
      | some x2 =>
        have hx2 := k2 x2 rfl
        have hd2 : (tx (Lib.itoa x2)).size ≤ 20 := by rw [tx_size]; exact itoa_len hx2.1 hx2.2
        clear k1 k2
        by_cases hc : c < 0
        · go_enter Tryd.func13, Tryd.ntmps13
          go_wp2_with fail
          refine LA.out.mono ?_
          rintro e w' ⟨rfl, rfl⟩
          go_wp2_with fail
          refine (LB.out _ (Below.refl _ _)).mono ?_
          rintro e w' ⟨rfl, rfl⟩
          go_wp2_with fail
          refine (decimal_any x2 hx2.1 hx2.2 _).mono ?_
          rintro e w2 ⟨rfl, hb2⟩
          have HB2 := Lib.hid hb2; clear hb2
          go_wp2
          go_ret
          exact ⟨⟨_, rfl, by simp [bit, tx, ByteArray.data_append]⟩, HB2.out⟩
        · have hc0 : (0 : Int) ≤ c := by omega
          go_enter Tryd.func13, Tryd.ntmps13
          go_wp2_with fail
          refine LA.out.mono ?_
          rintro e w' ⟨rfl, rfl⟩
          go_wp2_with fail
          refine (LB.out _ (Below.refl _ _)).mono ?_
          rintro e w' ⟨rfl, rfl⟩
          go_wp2_with fail
          refine (decimal_any x2 hx2.1 hx2.2 _).mono ?_
          rintro e w2 ⟨rfl, hb2⟩
          have HB2 := Lib.hid hb2; clear hb2
          go_wp2_with fail
          refine (refwords_any c _).mono ?_
          rintro e w3 ⟨rfl, hb3⟩
          have HB3 := Lib.hid ((HB2.out).trans (hb3.mono (HB2.out).size)); clear hb3
          go_wp2
          go_ret
          exact ⟨⟨_, rfl, by simp [bit, tx, ByteArray.data_append]⟩, HB3.out⟩
    | some x1 =>
      have hx1 := k1 x1 rfl
      have hd1 : (tx (Lib.itoa x1)).size ≤ 20 := by rw [tx_size]; exact itoa_len hx1.1 hx1.2
      cases o2 with
      | none =>
        clear k1 k2
        by_cases hc : c < 0
        · go_enter Tryd.func13, Tryd.ntmps13
          go_wp2_with fail
          refine LA.out.mono ?_
          rintro e w' ⟨rfl, rfl⟩
          go_wp2_with fail
          refine (decimal_any x1 hx1.1 hx1.2 _).mono ?_
          rintro e w1 ⟨rfl, hb1⟩
          have HB1 := Lib.hid hb1; clear hb1
          go_wp2_with fail
          refine (LB.out _ HB1.out).mono ?_
          rintro e w' ⟨rfl, rfl⟩
          go_wp2
          go_ret
          exact ⟨⟨_, rfl, by simp [bit, tx, ByteArray.data_append]⟩, HB1.out⟩
        · have hc0 : (0 : Int) ≤ c := by omega
          go_enter Tryd.func13, Tryd.ntmps13
          go_wp2_with fail
          refine LA.out.mono ?_
          rintro e w' ⟨rfl, rfl⟩
          go_wp2_with fail
          refine (decimal_any x1 hx1.1 hx1.2 _).mono ?_
          rintro e w1 ⟨rfl, hb1⟩
          have HB1 := Lib.hid hb1; clear hb1
          go_wp2_with fail
          refine (LB.out _ HB1.out).mono ?_
          rintro e w' ⟨rfl, rfl⟩
          go_wp2_with fail
          refine (refwords_any c _).mono ?_
          rintro e w3 ⟨rfl, hb3⟩
          have HB3 := Lib.hid ((HB1.out).trans (hb3.mono (HB1.out).size)); clear hb3
          go_wp2
          go_ret
          exact ⟨⟨_, rfl, by simp [bit, tx, ByteArray.data_append]⟩, HB3.out⟩
      | some x2 =>
        have hx2 := k2 x2 rfl
        have hd2 : (tx (Lib.itoa x2)).size ≤ 20 := by rw [tx_size]; exact itoa_len hx2.1 hx2.2
        clear k1 k2
        by_cases hc : c < 0
        · go_enter Tryd.func13, Tryd.ntmps13
          go_wp2_with fail
          refine LA.out.mono ?_
          rintro e w' ⟨rfl, rfl⟩
          go_wp2_with fail
          refine (decimal_any x1 hx1.1 hx1.2 _).mono ?_
          rintro e w1 ⟨rfl, hb1⟩
          have HB1 := Lib.hid hb1; clear hb1
          go_wp2_with fail
          refine (LB.out _ HB1.out).mono ?_
          rintro e w' ⟨rfl, rfl⟩
          go_wp2_with fail
          refine (decimal_any x2 hx2.1 hx2.2 _).mono ?_
          rintro e w2 ⟨rfl, hb2⟩
          have HB2 := Lib.hid (HB1.out.trans (hb2.mono HB1.out.size)); clear hb2
          go_wp2
          go_ret
          exact ⟨⟨_, rfl, by simp [bit, tx, ByteArray.data_append]⟩, HB2.out⟩
        · have hc0 : (0 : Int) ≤ c := by omega
          go_enter Tryd.func13, Tryd.ntmps13
          go_wp2_with fail
          refine LA.out.mono ?_
          rintro e w' ⟨rfl, rfl⟩
          go_wp2_with fail
          refine (decimal_any x1 hx1.1 hx1.2 _).mono ?_
          rintro e w1 ⟨rfl, hb1⟩
          have HB1 := Lib.hid hb1; clear hb1
          go_wp2_with fail
          refine (LB.out _ HB1.out).mono ?_
          rintro e w' ⟨rfl, rfl⟩
          go_wp2_with fail
          refine (decimal_any x2 hx2.1 hx2.2 _).mono ?_
          rintro e w2 ⟨rfl, hb2⟩
          have HB2 := Lib.hid (HB1.out.trans (hb2.mono HB1.out.size)); clear hb2
          go_wp2_with fail
          refine (refwords_any c _).mono ?_
          rintro e w3 ⟨rfl, hb3⟩
          have HB3 := Lib.hid ((HB2.out).trans (hb3.mono (HB2.out).size)); clear hb3
          go_wp2
          go_ret
          exact ⟨⟨_, rfl, by simp [bit, tx, ByteArray.data_append]⟩, HB3.out⟩
end Go.Proofs.YtnhligchgcjklaaDoor
