/- FaultHolds. -/
import Derived.Test.YtnhligchgcjklaaDoorFaLives
namespace Go.Proofs.YtnhligchgcjklaaDoor
open Go.RowKit Go.Extern.Stop Go.Stop Go.Extern
theorem Tryd.faultComp : (Tryd.prog.info? 49).map (·.comparable) = some true := by kernel_rfl
theorem Tryd.faultInfo : (Tryd.prog.info? 53).isSome = true := by kernel_rfl
theorem Tryd.errComp : (Tryd.prog.info? 63).map (·.comparable) = some true := by kernel_rfl
theorem Tryd.errInfo : (Tryd.prog.info? 65).isSome = true := by kernel_rfl
theorem eq_fault (a : Addr) (w : World) : (binOp .eql 25 (.iface 49 (.pointer (some a))) (.iface 49 (.pointer (some a)))).run Tryd.prog w = .ok (.bool true) w := by
  obtain ⟨i, hi, hc⟩ := Option.map_eq_some_iff.1 Tryd.faultComp
  obtain ⟨j, hj⟩ := Option.isSome_iff_exists.1 Tryd.faultInfo
  exact run_eql_iface_ptr_same (P := Tryd.prog) w a Tryd.underlying25 Tryd.underlying49 hi hc hj
theorem eq_err (a : Addr) (w : World) : (binOp .eql 25 (.iface 63 (.pointer (some a))) (.iface 63 (.pointer (some a)))).run Tryd.prog w = .ok (.bool true) w := by
  obtain ⟨i, hi, hc⟩ := Option.map_eq_some_iff.1 Tryd.errComp
  obtain ⟨j, hj⟩ := Option.isSome_iff_exists.1 Tryd.errInfo
  exact run_eql_iface_ptr_same (P := Tryd.prog) w a Tryd.underlying25 Tryd.underlying63 hi hc hj
set_option maxRecDepth 100000 in
set_option maxHeartbeats 4000000 in
theorem faultholds_any (LV : Lives) (A : Nat → Addr) (n x y : Int) (w : World) (hE : Errs w A) (hT : FaEnv w) :
    Calls Tryd.prog 6 #[.int .i64 n, .int .i64 x, .int .i64 y] w fun e w' => e = .returned (.bool true) ∧ Below w.heap.size w w' := by
  have HV := Lib.hid (LV A w hE hT)
  have HE := Lib.hid hE; have HT := Lib.hid hT
  have qF := eq_fault; have qE := eq_err
  clear hE hT
  go_enter Tryd.func6, Tryd.ntmps6
  go_wp2_with fail
  refine HV.out.mono ?_
  rintro e w1 ⟨rfl, hb1⟩
  have HB1 := Lib.hid hb1; clear hb1
  go_wp2_with fail
  refine (sentinel_of A n _ (HE.out.below HB1.out)).mono ?_
  rintro e w2 ⟨he2, hb2⟩
  have HB2 := Lib.hid (HB1.out.trans (hb2.mono HB1.out.size))
  clear hb2
  rcases he2 with ⟨rfl, rfl⟩ | he2
  · go_wp2_with fail
    refine (at_nil _ _).mono ?_
    rintro e w' ⟨rfl, rfl⟩
    go_wp2_with fail
    refine (in_nil _ _).mono ?_
    rintro e w' ⟨rfl, rfl⟩
    go_wp2
    go_ret
    exact ⟨rfl, HB2.out⟩
  · obtain ⟨a, rfl⟩ : ∃ a, e = .returned (.iface 63 (.pointer (some a))) := by
      rcases he2 with ⟨k, hk, hn, rfl⟩ | ⟨hn, q, rfl, hq, hr⟩
      · exact ⟨_, rfl⟩
      · exact ⟨_, rfl⟩
    clear he2
    go_wp2_with fail
    refine (at_any x _ _ _).mono ?_
    intro e w3 he
    obtain ⟨p1, rfl, hb3, hw3⟩ := he.fault (.base (base := .iface 63 (.pointer (some a))))
    have HB3 := Lib.hid (HB2.out.trans (hb3.mono HB2.out.size)); have HW3 := Lib.hid hw3
    clear he hb3 hw3 HB2
    go_wp2_with fail
    refine (in_any y _ _ _).mono ?_
    intro e w4 he
    obtain ⟨p2, rfl, hb4, hw4⟩ := he.listed HW3.out
    have HB4 := Lib.hid (HB3.out.trans (hb4.mono HB3.out.size)); have HW4 := Lib.hid hw4
    clear he hb4 hw4 HB3 HW3
    go_wp2_with fail
    refine (numplace_any a _ _ _ HW4.out (HT.out.later HB4.out).ty).mono ?_
    rintro e w5 ⟨rfl, hb5⟩
    have HB5 := Lib.hid (HB4.out.trans (hb5.mono HB4.out.size)); have HW5 := Lib.hid (HW4.out.later hb5)
    clear hb5 HB4 HW4
    rw [show numOf (firstOf false [(true, y, p2), (false, x, p1)]) = x from rfl]
    go_wp2_with fail
    refine (numindex_any a _ _ _ HW5.out (HT.out.later HB5.out).ty).mono ?_
    rintro e w6 ⟨rfl, hb6⟩
    have HB6 := Lib.hid (HB5.out.trans (hb6.mono HB5.out.size)); have HW6 := Lib.hid (HW5.out.later hb6)
    clear hb6 HB5 HW5
    rw [show numOf (firstOf true [(true, y, p2), (false, x, p1)]) = y from rfl]
    obtain ⟨h2, h1⟩ : w6.cell? ⟨p2, 1, none⟩ = some (.iface 49 (.pointer (some ⟨p1, 0, none⟩))) ∧ w6.cell? ⟨p1, 1, none⟩ = some (.iface 63 (.pointer (some a))) := by
      cases HW6.out with
      | listed _ _ _ h k => cases k with
        | fault _ _ _ h' k' => cases k' with
          | base => exact ⟨h, h'⟩
    have H2 := Lib.hid h2; have H1 := Lib.hid h1
    clear h1 h2 HW6
    go_wp2_with fail
    refine (unwrap_L _ _ _ H2.out).mono ?_
    rintro e w' ⟨rfl, rfl⟩
    go_wp2_with fail
    refine (unwrap_F _ _ _ H1.out).mono ?_
    rintro e w' ⟨rfl, rfl⟩
    go_wp2
    go_ret
    exact ⟨rfl, HB6.out⟩
end Go.Proofs.YtnhligchgcjklaaDoor
