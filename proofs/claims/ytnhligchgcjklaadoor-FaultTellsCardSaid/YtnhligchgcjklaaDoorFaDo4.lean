/- Tell; what chapter 3 promises of the calls, all of it. -/
import Derived.Test.YtnhligchgcjklaaDoorFaDo3
import Derived.Test.YtnhligchgcjklaaDoorShelf
import Derived.Lib.AppendIntMem
namespace Go.Proofs.YtnhligchgcjklaaDoor
open Go.RowKit
theorem itoa_any (x : Int) (hx : isI64 x) (w : World) (hF : FaEnv w) : Calls Tryd.prog 30 #[.int .i64 x] w fun e w' => e = .returned (.string (tx (Lib.itoa x))) ∧ Below w.heap.size w w' := by
  refine (Tryd.strconv_Itoa x hx.1 hx.2 w hF.pow).mono ?_
  rintro e w' ⟨rfl, k, os, rfl⟩
  exact ⟨rfl, Lib.below_grow _ _ (Nat.le_refl _) _ _⟩
theorem code_in {A : Nat → Addr} {w : World} {v : Value} {c : Int} {l : List (Bool × Int × Nat)} (hE : Errs w A) (h : ErrIn A w v c l) : Calls Tryd.prog 11 #[v] w fun e w' => e = .returned (.int .i64 c) ∧ Below w.heap.size w w' := by
  obtain ⟨a, hw, hi, ⟨k, hk, rfl, rfl⟩ | ⟨rfl, hne, ca, ta, hr⟩⟩ := h
  · exact code_hit A k _ v w hE hk hw.chain
  · exact code_other A a _ v w hE hne ca ta hr hw.chain
theorem place_in {A : Nat → Addr} {w : World} {v : Value} {c : Int} {l : List (Bool × Int × Nat)} (hT : ErrType w) (h : ErrIn A w v c l) : Calls Tryd.prog 14 #[v] w fun e w' => e = .returned (.tuple #[.int .i64 (numO (toldOf false l)), .bool (hasO (toldOf false l))]) ∧ Below w.heap.size w w' := by
  obtain ⟨a, hw, -⟩ := h
  exact place_any a l v w hw hT
theorem index_in {A : Nat → Addr} {w : World} {v : Value} {c : Int} {l : List (Bool × Int × Nat)} (hT : ErrType w) (h : ErrIn A w v c l) : Calls Tryd.prog 15 #[v] w fun e w' => e = .returned (.tuple #[.int .i64 (numO (toldOf true l)), .bool (hasO (toldOf true l))]) ∧ Below w.heap.size w w' := by
  obtain ⟨a, hw, -⟩ := h
  exact index_any a l v w hw hT
theorem tell_nil (w : World) : Calls Tryd.prog 12 #[.nilIface] w fun e w' => e = .returned (.string ⟨#[]⟩) ∧ Below w.heap.size w w' := by
  go_enter Tryd.func12, Tryd.ntmps12
  go_wp2
  go_ret
  exact ⟨rfl, Below.refl _ _⟩
set_option maxRecDepth 100000 in
set_option maxHeartbeats 8000000 in
theorem tell_any (A : Nat → Addr) (w : World) (v : Value) (c : Int) (l : List (Bool × Int × Nat)) (hE : Errs w A) (hT : FaEnv w) (h : ErrIn A w v c l) :
    Calls Tryd.prog 12 #[v] w fun e w' => (∃ s, e = .returned (.string s) ∧ s.data.toList = tellL (toldOf true l) (toldOf false l) c) ∧ Below w.heap.size w w' := by
  have li := index_in hT.ty h
  have lp := fun w' hb => place_in (hT.ty.later (w := w) (w' := w') hb) (h.later hb)
  have lc := fun w' hb => code_in (hE.below (W := w) (W' := w') hb) (h.later hb)
  have lw := fun w' hb => word_any c w' (hT.later (w := w) hb)
  have ls := fun x hx w' hb => itoa_any x hx w' (hT.later (w := w) hb)
  have hc3 := h.code
  have hi64 : (∀ x, toldOf true l = some x → isI64 x) ∧ (∀ x, toldOf false l = some x → isI64 x) := by
    obtain ⟨a, -, hi, -⟩ := h
    exact ⟨hi true, hi false⟩
  obtain ⟨t, q, rfl⟩ := h.iface
  clear h hE hT
  have k1 := hi64.1; have k2 := hi64.2
  clear hi64
  generalize toldOf true l = o1 at *
  generalize toldOf false l = o2 at *
  have LI := Lib.hid li; have LP := Lib.hid lp; have LC := Lib.hid lc; have LW := Lib.hid lw; have LS := Lib.hid ls
  have hws := wordAt_size c
  obtain ⟨hc0, hc1, hc2⟩ := hc3
  clear li lp lc lw ls
  unfold tellL
  rw [if_neg hc0]
  cases o1 with
  | none =>
    dsimp only [numO, hasO] at LI
    cases o2 with
    | none =>
      clear k1 k2
      dsimp only [numO, hasO] at LP
      by_cases hc : c < 0
      · obtain rfl : c = -1 := by omega
        clear hc hc0 hc1 hc2
        go_enter Tryd.func12, Tryd.ntmps12
        go_wp2_with fail
        refine LI.out.mono ?_
        rintro e w1 ⟨rfl, hb⟩
        have B1 := Lib.hid hb; clear hb
        go_wp2_with fail
        refine (LP.out _ B1.out).mono ?_
        rintro e w2 ⟨rfl, hb⟩
        have B2 := Lib.hid (B1.out.trans (hb.mono B1.out.size)); clear hb
        go_wp2_with fail
        refine (LC.out _ B2.out).mono ?_
        rintro e w3 ⟨rfl, hb⟩
        have B3 := Lib.hid (B2.out.trans (hb.mono B2.out.size)); clear hb
        go_wp2
        go_ret
        exact ⟨⟨_, rfl, by simp [bit, ByteArray.data_append]⟩, B3.out⟩
      · have hcn : ¬ c = -1 := by omega
        rw [if_neg hc]
        clear hc hc0 hc1 hc2
        go_enter Tryd.func12, Tryd.ntmps12
        go_wp2_with fail
        refine LI.out.mono ?_
        rintro e w1 ⟨rfl, hb⟩
        have B1 := Lib.hid hb; clear hb
        go_wp2_with fail
        refine (LP.out _ B1.out).mono ?_
        rintro e w2 ⟨rfl, hb⟩
        have B2 := Lib.hid (B1.out.trans (hb.mono B1.out.size)); clear hb
        go_wp2_with fail
        refine (LC.out _ B2.out).mono ?_
        rintro e w3 ⟨rfl, hb⟩
        have B3 := Lib.hid (B2.out.trans (hb.mono B2.out.size)); clear hb
        go_wp2_with fail
        refine (LW.out _ B3.out).mono ?_
        rintro e w4 ⟨rfl, hb⟩
        have B4 := Lib.hid (B3.out.trans (hb.mono B3.out.size)); clear hb
        go_wp2
        go_ret
        exact ⟨⟨_, rfl, by simp [bit, ByteArray.data_append]⟩, B4.out⟩
    | some x2 =>
      have hx2 := k2 x2 rfl
      have hd2 : (tx (Lib.itoa x2)).size ≤ 20 := by rw [tx_size]; exact itoa_len hx2.1 hx2.2
      clear k1 k2
      dsimp only [numO, hasO] at LP
      by_cases hc : c < 0
      · obtain rfl : c = -1 := by omega
        clear hc hc0 hc1 hc2
        go_enter Tryd.func12, Tryd.ntmps12
        go_wp2_with fail
        refine LI.out.mono ?_
        rintro e w1 ⟨rfl, hb⟩
        have B1 := Lib.hid hb; clear hb
        go_wp2_with fail
        refine (LP.out _ B1.out).mono ?_
        rintro e w2 ⟨rfl, hb⟩
        have B2 := Lib.hid (B1.out.trans (hb.mono B1.out.size)); clear hb
        go_wp2_with fail
        refine (LS.out x2 hx2 _ B2.out).mono ?_
        rintro e w3 ⟨rfl, hb⟩
        have B3 := Lib.hid (B2.out.trans (hb.mono B2.out.size)); clear hb
        go_wp2_with fail
        refine (LC.out _ B3.out).mono ?_
        rintro e w4 ⟨rfl, hb⟩
        have B4 := Lib.hid (B3.out.trans (hb.mono B3.out.size)); clear hb
        go_wp2
        go_ret
        exact ⟨⟨_, rfl, by simp [bit, tx, ByteArray.data_append]⟩, B4.out⟩
      · have hcn : ¬ c = -1 := by omega
        rw [if_neg hc]
        clear hc hc0 hc1 hc2
        go_enter Tryd.func12, Tryd.ntmps12
        go_wp2_with fail
        refine LI.out.mono ?_
        rintro e w1 ⟨rfl, hb⟩
        have B1 := Lib.hid hb; clear hb
        go_wp2_with fail
        refine (LP.out _ B1.out).mono ?_
        rintro e w2 ⟨rfl, hb⟩
        have B2 := Lib.hid (B1.out.trans (hb.mono B1.out.size)); clear hb
        go_wp2_with fail
        refine (LS.out x2 hx2 _ B2.out).mono ?_
        rintro e w3 ⟨rfl, hb⟩
        have B3 := Lib.hid (B2.out.trans (hb.mono B2.out.size)); clear hb
        go_wp2_with fail
        refine (LC.out _ B3.out).mono ?_
        rintro e w4 ⟨rfl, hb⟩
        have B4 := Lib.hid (B3.out.trans (hb.mono B3.out.size)); clear hb
        go_wp2_with fail
        refine (LW.out _ B4.out).mono ?_
        rintro e w5 ⟨rfl, hb⟩
        have B5 := Lib.hid (B4.out.trans (hb.mono B4.out.size)); clear hb
        go_wp2
        go_ret
        exact ⟨⟨_, rfl, by simp [bit, tx, ByteArray.data_append]⟩, B5.out⟩
  | some x1 =>
    have hx1 := k1 x1 rfl
    have hd1 : (tx (Lib.itoa x1)).size ≤ 20 := by rw [tx_size]; exact itoa_len hx1.1 hx1.2
    dsimp only [numO, hasO] at LI
    cases o2 with
    | none =>
      clear k1 k2
      dsimp only [numO, hasO] at LP
      by_cases hc : c < 0
      · obtain rfl : c = -1 := by omega
        clear hc hc0 hc1 hc2
        go_enter Tryd.func12, Tryd.ntmps12
        go_wp2_with fail
        refine LI.out.mono ?_
        rintro e w1 ⟨rfl, hb⟩
        have B1 := Lib.hid hb; clear hb
        go_wp2_with fail
        refine (LS.out x1 hx1 _ B1.out).mono ?_
        rintro e w2 ⟨rfl, hb⟩
        have B2 := Lib.hid (B1.out.trans (hb.mono B1.out.size)); clear hb
        go_wp2_with fail
        refine (LP.out _ B2.out).mono ?_
        rintro e w3 ⟨rfl, hb⟩
        have B3 := Lib.hid (B2.out.trans (hb.mono B2.out.size)); clear hb
        go_wp2_with fail
        refine (LC.out _ B3.out).mono ?_
        rintro e w4 ⟨rfl, hb⟩
        have B4 := Lib.hid (B3.out.trans (hb.mono B3.out.size)); clear hb
        go_wp2
        go_ret
        exact ⟨⟨_, rfl, by simp [bit, tx, ByteArray.data_append]⟩, B4.out⟩
      · have hcn : ¬ c = -1 := by omega
        rw [if_neg hc]
        clear hc hc0 hc1 hc2
        go_enter Tryd.func12, Tryd.ntmps12
        go_wp2_with fail
        refine LI.out.mono ?_
        rintro e w1 ⟨rfl, hb⟩
        have B1 := Lib.hid hb; clear hb
        go_wp2_with fail
        refine (LS.out x1 hx1 _ B1.out).mono ?_
        rintro e w2 ⟨rfl, hb⟩
        have B2 := Lib.hid (B1.out.trans (hb.mono B1.out.size)); clear hb
        go_wp2_with fail
        refine (LP.out _ B2.out).mono ?_
        rintro e w3 ⟨rfl, hb⟩
        have B3 := Lib.hid (B2.out.trans (hb.mono B2.out.size)); clear hb
        go_wp2_with fail
        refine (LC.out _ B3.out).mono ?_
        rintro e w4 ⟨rfl, hb⟩
        have B4 := Lib.hid (B3.out.trans (hb.mono B3.out.size)); clear hb
        go_wp2_with fail
        refine (LW.out _ B4.out).mono ?_
        rintro e w5 ⟨rfl, hb⟩
        have B5 := Lib.hid (B4.out.trans (hb.mono B4.out.size)); clear hb
        go_wp2
        go_ret
        exact ⟨⟨_, rfl, by simp [bit, tx, ByteArray.data_append]⟩, B5.out⟩
    | some x2 =>
      have hx2 := k2 x2 rfl
      have hd2 : (tx (Lib.itoa x2)).size ≤ 20 := by rw [tx_size]; exact itoa_len hx2.1 hx2.2
      clear k1 k2
      dsimp only [numO, hasO] at LP
      by_cases hc : c < 0
      · obtain rfl : c = -1 := by omega
        clear hc hc0 hc1 hc2
        go_enter Tryd.func12, Tryd.ntmps12
        go_wp2_with fail
        refine LI.out.mono ?_
        rintro e w1 ⟨rfl, hb⟩
        have B1 := Lib.hid hb; clear hb
        go_wp2_with fail
        refine (LS.out x1 hx1 _ B1.out).mono ?_
        rintro e w2 ⟨rfl, hb⟩
        have B2 := Lib.hid (B1.out.trans (hb.mono B1.out.size)); clear hb
        go_wp2_with fail
        refine (LP.out _ B2.out).mono ?_
        rintro e w3 ⟨rfl, hb⟩
        have B3 := Lib.hid (B2.out.trans (hb.mono B2.out.size)); clear hb
        go_wp2_with fail
        refine (LS.out x2 hx2 _ B3.out).mono ?_
        rintro e w4 ⟨rfl, hb⟩
        have B4 := Lib.hid (B3.out.trans (hb.mono B3.out.size)); clear hb
        go_wp2_with fail
        refine (LC.out _ B4.out).mono ?_
        rintro e w5 ⟨rfl, hb⟩
        have B5 := Lib.hid (B4.out.trans (hb.mono B4.out.size)); clear hb
        go_wp2
        go_ret
        exact ⟨⟨_, rfl, by simp [bit, tx, ByteArray.data_append]⟩, B5.out⟩
      · have hcn : ¬ c = -1 := by omega
        rw [if_neg hc]
        clear hc hc0 hc1 hc2
        go_enter Tryd.func12, Tryd.ntmps12
        go_wp2_with fail
        refine LI.out.mono ?_
        rintro e w1 ⟨rfl, hb⟩
        have B1 := Lib.hid hb; clear hb
        go_wp2_with fail
        refine (LS.out x1 hx1 _ B1.out).mono ?_
        rintro e w2 ⟨rfl, hb⟩
        have B2 := Lib.hid (B1.out.trans (hb.mono B1.out.size)); clear hb
        go_wp2_with fail
        refine (LP.out _ B2.out).mono ?_
        rintro e w3 ⟨rfl, hb⟩
        have B3 := Lib.hid (B2.out.trans (hb.mono B2.out.size)); clear hb
        go_wp2_with fail
        refine (LS.out x2 hx2 _ B3.out).mono ?_
        rintro e w4 ⟨rfl, hb⟩
        have B4 := Lib.hid (B3.out.trans (hb.mono B3.out.size)); clear hb
        go_wp2_with fail
        refine (LC.out _ B4.out).mono ?_
        rintro e w5 ⟨rfl, hb⟩
        have B5 := Lib.hid (B4.out.trans (hb.mono B4.out.size)); clear hb
        go_wp2_with fail
        refine (LW.out _ B5.out).mono ?_
        rintro e w6 ⟨rfl, hb⟩
        have B6 := Lib.hid (B5.out.trans (hb.mono B5.out.size)); clear hb
        go_wp2
        go_ret
        exact ⟨⟨_, rfl, by simp [bit, tx, ByteArray.data_append]⟩, B6.out⟩
theorem faultDoes : FaultDoes where
  word := word_any
  codeNil := code_nil
  code := fun _ _ _ _ _ hE h => code_in hE h
  placeNil := place_nil
  place := fun _ _ _ _ _ hT h => place_in hT.ty h
  indexNil := index_nil
  index := fun _ _ _ _ _ hT h => index_in hT.ty h
  tellNil := tell_nil
  tell := tell_any
end Go.Proofs.YtnhligchgcjklaaDoor
