/- The fixed fact of the fault laws; FaultWords. -/
import Derived.Test.YtnhligchgcjklaaDoorFaultTells
namespace Go.Proofs.YtnhligchgcjklaaDoor
open Go.RowKit
theorem Errs.paren {A : Nat → Addr} {w : World} (h : Errs w A) : w.cell? ⟨0, 0, none⟩ = some (.iface 63 (.pointer (some (A 1)))) := (h 1 (by omega)).1
theorem lives_text : tellL (some 2) (some 5) 2 = [112, 97, 116, 116, 101, 114, 110, 32, 50, 58, 32, 97, 116, 32, 53, 58, 32, 112, 97, 114, 101, 110, 116, 104, 101, 115, 105, 115] := by
  have h2 : Lib.itoa 2 = [50] := by unfold Lib.itoa; rw [if_neg (by omega)]; exact dec_small (by omega)
  have h5 : Lib.itoa 5 = [53] := by unfold Lib.itoa; rw [if_neg (by omega)]; exact dec_small (by omega)
  unfold tellL bit
  dsimp only
  rw [h2, h5]
  rfl
set_option maxRecDepth 100000 in
set_option maxHeartbeats 4000000 in
theorem falives_any (F : FaultDoes) : Lives := by
  intro A w hE hT
  have hg := hE.paren
  have HE := Lib.hid hE; have HT := Lib.hid hT
  clear hE hT
  go_enter Tryd.func7, Tryd.ntmps7
  go_wp2_with fail
  clear hg
  refine (at_any 5 _ _ _).mono ?_
  intro e w1 he
  obtain ⟨p1, rfl, hb1, hw1⟩ := he.fault (.base (base := .iface 63 (.pointer (some (A 1)))))
  have HB1 := Lib.hid hb1; have HW1 := Lib.hid hw1
  clear he hb1 hw1
  go_wp2_with fail
  refine (in_any 2 _ _ _).mono ?_
  intro e w2 he
  obtain ⟨p2, rfl, hb2, hw2⟩ := he.listed HW1.out
  have HB2 := Lib.hid (HB1.out.trans (hb2.mono HB1.out.size))
  have hin : ErrIn A w2 (.iface 54 (.pointer (some ⟨p2, 0, none⟩))) 2 [(true, 2, p2), (false, 5, p1)] := by
    refine ⟨A 1, hw2, fun k x hx => ?_, .inl ⟨1, by omega, rfl, rfl⟩⟩
    cases k <;> simp [toldOf, firstOf] at hx <;> subst hx <;> unfold isI64 <;> omega
  have HIN := Lib.hid hin
  clear he hb2 hw2 HB1 HW1 hin
  go_wp2_with fail
  refine (F.place A _ _ _ _ (HT.out.later HB2.out) HIN.out).mono ?_
  rintro e w3 ⟨rfl, hb3⟩
  have HB3 := Lib.hid (HB2.out.trans (hb3.mono HB2.out.size)); have HIN3 := Lib.hid (HIN.out.later hb3); clear hb3 HB2 HIN
  rw [show numO (toldOf false [(true, (2 : Int), p2), (false, 5, p1)]) = 5 from rfl, show hasO (toldOf false [(true, (2 : Int), p2), (false, 5, p1)]) = true from rfl]
  go_wp2_with fail
  refine (F.code A _ _ _ _ (HE.out.below HB3.out) HIN3.out).mono ?_
  rintro e w4 ⟨rfl, hb4⟩
  have HB4 := Lib.hid (HB3.out.trans (hb4.mono HB3.out.size)); have HIN4 := Lib.hid (HIN3.out.later hb4); clear hb4 HB3 HIN3
  go_wp2_with fail
  refine (F.tell A _ _ _ _ (HE.out.below HB4.out) (HT.out.later HB4.out) HIN4.out).mono ?_
  rintro e w5 ⟨⟨s, rfl, hs⟩, hb5⟩
  have hs2 : s.data.toList = [112, 97, 116, 116, 101, 114, 110, 32, 50, 58, 32, 97, 116, 32, 53, 58, 32, 112, 97, 114, 101, 110, 116, 104, 101, 115, 105, 115] := hs.trans lives_text
  obtain rfl : s = ⟨#[112, 97, 116, 116, 101, 114, 110, 32, 50, 58, 32, 97, 116, 32, 53, 58, 32, 112, 97, 114, 101, 110, 116, 104, 101, 115, 105, 115]⟩ := text_inj hs2
  have HB5 := Lib.hid (HB4.out.trans (hb5.mono HB4.out.size)); clear hb5 HB4 HIN4 hs hs2
  go_wp2
  go_ret
  exact ⟨rfl, HB5.out⟩
theorem faultwords_any (F : FaultDoes) (LV : Lives) (A : Nat → Addr) (n : Int) (w : World) (hE : Errs w A) (hT : FaEnv w) :
    Calls Tryd.prog 4 #[.int .i64 n] w fun e w' => e = .returned (.bool true) ∧ Below w.heap.size w w' := by
  have HV := Lib.hid (LV A w hE hT); have HT := Lib.hid hT
  clear hE hT
  go_enter Tryd.func4, Tryd.ntmps4
  go_wp2_with fail
  refine HV.out.mono ?_
  rintro e w1 ⟨rfl, hb1⟩
  have HB1 := Lib.hid hb1; clear hb1
  go_wp2_with fail
  refine (F.word _ _ (HT.out.later HB1.out)).mono ?_
  rintro e w2 ⟨rfl, hb2⟩
  have HB2 := Lib.hid (HB1.out.trans (hb2.mono HB1.out.size)); clear hb2 HB1
  go_wp2_with fail
  refine (refwords_any _ _).mono ?_
  rintro e w3 ⟨rfl, hb3⟩
  have HB3 := Lib.hid (HB2.out.trans (hb3.mono HB2.out.size)); clear hb3 HB2
  go_wp2
  go_ret
  exact ⟨rfl, HB3.out⟩
end Go.Proofs.YtnhligchgcjklaaDoor
