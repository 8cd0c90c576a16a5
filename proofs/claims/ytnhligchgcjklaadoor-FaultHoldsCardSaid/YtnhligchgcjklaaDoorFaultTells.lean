/- FaultTells, from what the calls of fault do. -/
import Derived.Test.YtnhligchgcjklaaDoorFaSpec
import Derived.WideShapes
namespace Go.Proofs.YtnhligchgcjklaaDoor
open Go.RowKit
theorem text_inj {s t : ByteArray} (h : s.data.toList = t.data.toList) : s = t := by
  cases s; cases t; simp only at h; rw [Array.toList_inj.1 h]
def Lives : Prop := ∀ A w, Errs w A → FaEnv w → Calls Tryd.prog 7 #[] w fun e w' => e = .returned (.bool true) ∧ Below w.heap.size w w'
/-- The law's error, made. -/
theorem made_err {A : Nat → Addr} {n : Int} {a : Addr} {L : Nat → Bool × Int} {len : Nat} {w w1 : World} {v : Value} (hi64 : ∀ i, isI64 (L i).2) (hl : Linked a L len [] w v w1)
    (ha : (∃ k : Nat, k < 21 ∧ n = (k : Int) + 1 ∧ a = A k) ∨ ((n < 0 ∨ 21 < n) ∧ (∀ k, k < 21 → a ≠ A k) ∧ ∃ c t, w.heap[a.block]? = some (.cells c t (0, 0)))) :
    ∃ l, ErrIn A w1 v (codeOf n) l ∧ ∀ k, toldOf k l = lastN k L len := by
  obtain ⟨l, hw, hb, hf⟩ := linked_plain hl
  refine ⟨l, ⟨a, hw, fun k x hx => lastN_i64 hi64 k len x (by rw [← hf k]; exact hx), ?_⟩, hf⟩
  rcases ha with ⟨k, hk, rfl, rfl⟩ | ⟨hn, hne, c, t, hr⟩
  · exact .inl ⟨k, hk, rfl, by unfold codeOf; rw [if_neg (by omega)]⟩
  · exact .inr ⟨by unfold codeOf; rw [if_pos hn], hne, c, t, keep_blk hb hr⟩
set_option maxRecDepth 100000 in
set_option maxHeartbeats 4000000 in
theorem faulttells_big (LV : Lives) (A : Nat → Addr) (n : Int) (p : Option Addr) (len cap : Nat) (hbig : 1000 < len) (w : World) (hE : Errs w A) (hT : FaEnv w) :
    Calls Tryd.prog 3 #[.int .i64 n, .slice p len cap] w fun e w' => e = .returned (.bool true) ∧ Below w.heap.size w w' := by
  have hv := LV A w hE hT
  have HV := Lib.hid hv
  have hb : (1000 : Int) < (len : Int) := by omega
  clear hv hE hT
  go_enter Tryd.func3, Tryd.ntmps3
  go_wp2_with fail
  refine HV.out.mono ?_
  rintro e w1 ⟨rfl, hb1⟩
  go_wp2
  go_ret
  exact ⟨rfl, hb1⟩
set_option maxRecDepth 100000 in
set_option maxHeartbeats 4000000 in
theorem faulttells_any (F : FaultDoes) (LV : Lives) (A : Nat → Addr) (n : Int) (p : Option Addr) (len cap : Nat) (L : Nat → Bool × Int) (hsm : len ≤ 1000) (hi64 : ∀ i, isI64 (L i).2) (w : World) (hE : Errs w A) (hT : FaEnv w) (hL : LinksAt w p len L) :
    Calls Tryd.prog 3 #[.int .i64 n, .slice p len cap] w fun e w' => e = .returned (.bool true) ∧ Below w.heap.size w w' := by
  have HV := Lib.hid (LV A w hE hT)
  have hb : decide ((1000 : Int) < (len : Int)) = false := by simp; omega
  have HE := Lib.hid hE; have HT := Lib.hid hT; have HL := Lib.hid hL; have HI := Lib.hid hi64
  clear hE hT hL hi64
  go_enter Tryd.func3, Tryd.ntmps3
  go_wp2_with fail
  refine HV.out.mono ?_
  rintro e w1 ⟨rfl, hb1⟩
  have HB1 := Lib.hid hb1; clear hb1
  go_wp2_with fail
  refine (sentinel_of A n _ (HE.out.below HB1.out)).mono ?_
  rintro e w2 ⟨he2, hb2⟩
  have HB2 := Lib.hid (HB1.out.trans (hb2.mono HB1.out.size))
  have HLT := Lib.hid (fun k hk => Nat.lt_of_lt_of_le ((HE.out k hk).2.2.1) HB1.out.size : ∀ k, k < 21 → (A k).block < w1.heap.size)
  clear hb2
  rcases he2 with ⟨rfl, rfl⟩ | he2
  · go_wp2_with fail
    refine (wrapped_nil _ _ _ L (by omega) _ (HL.out.later HB2.out)).mono ?_
    rintro e w3 ⟨rfl, hb3⟩
    have HB3 := Lib.hid (HB2.out.trans (hb3.mono HB2.out.size)); clear hb3 HB2
    go_wp2_with fail
    refine (code_any _ _).mono ?_
    rintro e w' ⟨rfl, rfl⟩
    rw [show codeOf 0 = 0 from rfl]
    go_wp2_with fail
    refine (F.codeNil _).mono ?_
    rintro e w4 ⟨rfl, hb4⟩
    have HB4 := Lib.hid (HB3.out.trans (hb4.mono HB3.out.size)); clear hb4 HB3
    go_wp2_with fail
    refine (F.tellNil _).mono ?_
    rintro e w5 ⟨rfl, hb5⟩
    have HB5 := Lib.hid (HB4.out.trans (hb5.mono HB4.out.size)); clear hb5 HB4
    go_wp2_with fail
    refine (reftell_any _ _ _ L _ (by omega) HI.out _ (HL.out.later HB5.out)).mono ?_
    rintro e w6 ⟨⟨s, rfl, hs⟩, hb6⟩
    obtain rfl : s = ⟨#[]⟩ := text_inj hs
    have HB6 := Lib.hid (HB5.out.trans (hb6.mono HB5.out.size)); clear hb6 HB5 hs
    go_wp2_with fail
    refine (F.placeNil _).mono ?_
    rintro e w7 ⟨rfl, hb7⟩
    have HB7 := Lib.hid (HB6.out.trans (hb7.mono HB6.out.size)); clear hb7 HB6
    go_wp2_with fail
    refine (F.indexNil _).mono ?_
    rintro e w8 ⟨rfl, hb8⟩
    have HB8 := Lib.hid (HB7.out.trans (hb8.mono HB7.out.size)); clear hb8 HB7
    go_wp2
    go_ret
    exact ⟨rfl, HB8.out⟩
  · obtain ⟨a, rfl, ha⟩ : ∃ a, e = .returned (.iface 63 (.pointer (some a))) ∧ ((∃ k : Nat, k < 21 ∧ n = (k : Int) + 1 ∧ a = A k) ∨ ((n < 0 ∨ 21 < n) ∧ (∀ k, k < 21 → a ≠ A k) ∧ ∃ c t, w2.heap[a.block]? = some (.cells c t (0, 0)))) := by
      rcases he2 with ⟨k, hk, hn, rfl⟩ | ⟨hn, q, rfl, hq, hr⟩
      · exact ⟨_, rfl, .inl ⟨k, hk, hn, rfl⟩⟩
      · refine ⟨_, rfl, .inr ⟨hn, fun k hk e => ?_, hr⟩⟩
        have := HLT.out k hk
        rw [← e] at this
        exact absurd this (Nat.not_lt.2 hq)
    have HA := Lib.hid ha
    clear he2 ha
    go_wp2_with fail
    refine (wrapped_any a [] _ _ _ _ L (by omega) _ (HL.out.later HB2.out) .base).mono ?_
    rintro e w3 ⟨v, rfl, hl⟩
    have hb3 : Below w2.heap.size w2 w3 := by obtain ⟨_, _, h, _⟩ := hl; exact h
    have HB3 := Lib.hid (HB2.out.trans (hb3.mono HB2.out.size))
    obtain ⟨l, hin, hf⟩ := made_err HI.out hl HA.out
    have HF1 := Lib.hid (hf true); have HF2 := Lib.hid (hf false)
    have hn0 : ¬ n = 0 := by
      rcases HA.out with ⟨k, _, hn, _⟩ | ⟨hn, _⟩ <;> omega
    obtain ⟨t, q, rfl⟩ := hin.iface
    have HIN := Lib.hid hin
    clear hl hb3 HB2 hin hf HA
    go_wp2_with fail
    refine (code_any _ _).mono ?_
    rintro e w' ⟨rfl, rfl⟩
    generalize codeOf n = c at *
    go_wp2_with fail
    refine (F.code A _ _ _ l (HE.out.below HB3.out) HIN.out).mono ?_
    rintro e w4 ⟨rfl, hb4⟩
    have HB4 := Lib.hid (HB3.out.trans (hb4.mono HB3.out.size)); have HIN4 := Lib.hid (HIN.out.later hb4); clear hb4 HB3 HIN
    go_wp2_with fail
    refine (F.tell A _ _ _ l (HE.out.below HB4.out) (HT.out.later HB4.out) HIN4.out).mono ?_
    rintro e w5 ⟨⟨s, rfl, hs⟩, hb5⟩
    have HB5 := Lib.hid (HB4.out.trans (hb5.mono HB4.out.size)); have HIN5 := Lib.hid (HIN4.out.later hb5); clear hb5 HB4 HIN4
    have HS := Lib.hid hs; clear hs
    go_wp2_with fail
    refine (reftell_any _ _ _ L _ (by omega) HI.out _ (HL.out.later HB5.out)).mono ?_
    rintro e w6 ⟨⟨s', rfl, hs'⟩, hb6⟩
    obtain rfl : s' = s := text_inj (by rw [hs', HS.out, HF1.out, HF2.out])
    have HB6 := Lib.hid (HB5.out.trans (hb6.mono HB5.out.size)); have HIN6 := Lib.hid (HIN5.out.later hb6); clear hb6 HB5 HIN5 hs'
    go_wp2_with fail
    refine (F.place A _ _ _ l (HT.out.later HB6.out) HIN6.out).mono ?_
    rintro e w7 ⟨rfl, hb7⟩
    have HB7 := Lib.hid (HB6.out.trans (hb7.mono HB6.out.size)); have HIN7 := Lib.hid (HIN6.out.later hb7); clear hb7 HB6 HIN6
    go_wp2_with fail
    refine (F.index A _ _ _ l (HT.out.later HB7.out) HIN7.out).mono ?_
    rintro e w8 ⟨rfl, hb8⟩
    have HB8 := Lib.hid (HB7.out.trans (hb8.mono HB7.out.size)); clear hb8 HB7 HIN7
    rw [HF1.out, HF2.out]
    go_wp2_with fail
    refine (last_any _ _ _ L false (by omega) _ (HL.out.later HB8.out)).mono ?_
    rintro e w' ⟨rfl, rfl⟩
    go_wp2_with fail
    refine (last_any _ _ _ L true (by omega) _ (HL.out.later HB8.out)).mono ?_
    rintro e w' ⟨rfl, rfl⟩
    generalize numO (lastN false L len) = x1 at *
    generalize numO (lastN true L len) = x2 at *
    generalize hasO (lastN false L len) = y1 at *
    generalize hasO (lastN true L len) = y2 at *
    go_wp2
    go_ret
    exact ⟨rfl, HB8.out⟩
end Go.Proofs.YtnhligchgcjklaaDoor
