/- FaultWraps, from what the calls of fault do. -/
import Derived.Test.YtnhligchgcjklaaDoorFaLives
namespace Go.Proofs.YtnhligchgcjklaaDoor
open Go.RowKit
theorem num_in {A : Nat → Addr} {w : World} {v : Value} {c : Int} {l : List (Bool × Int × Nat)} (hE : Errs w A) (h : ErrIn A w v c l) : Calls Tryd.prog 19 #[v] w fun e w' => e = .returned (.int .i64 c) ∧ Below w.heap.size w w' := by
  obtain ⟨a, hw, hi, ⟨k, hk, rfl, rfl⟩ | ⟨rfl, hne, ca, ta, hr⟩⟩ := h
  · exact num_any A k _ v w hE hk hw.chain
  · exact num_other A a _ v w hE hne ca ta hr hw.chain
/-- One wrapping more. -/
theorem errIn_more {A : Nat → Addr} {w w' : World} {v' : Value} {c : Int} {l : List (Bool × Int × Nat)} {mk : Bool} {mn : Int} {a : Addr} (hm : isI64 mn) (hi : ∀ k x, toldOf k l = some x → isI64 x)
    (hc : (∃ k : Nat, k < 21 ∧ a = A k ∧ c = (k : Int) + 1) ∨ (c = -1 ∧ (∀ k, k < 21 → a ≠ A k) ∧ ∃ ca ta, w.heap[a.block]? = some (.cells ca ta (0, 0)))) (hl : Linked a (fun _ => (mk, mn)) 1 l w v' w') :
    ∃ l', ErrIn A w' v' c l' ∧ Below w.heap.size w w' ∧ toldOf mk l' = some mn ∧ toldOf (!mk) l' = toldOf (!mk) l := by
  obtain ⟨l', hw', hb, hf⟩ := hl
  have e1 : toldOf mk l' = some mn := by
    unfold toldOf; rw [hf mk]; simp [lastN, orO]
  have e2 : toldOf (!mk) l' = toldOf (!mk) l := by
    unfold toldOf; rw [hf (!mk)]
    cases mk <;> simp [lastN, orO]
  refine ⟨l', ⟨a, hw', fun k x hx => ?_, ?_⟩, hb, e1, e2⟩
  · by_cases e : k = mk
    · subst e; rw [e1] at hx; cases hx; exact hm
    · have : k = !mk := by cases k <;> cases mk <;> simp at e ⊢
      subst this; rw [e2] at hx; exact hi _ x hx
  · rcases hc with hc | ⟨h1, h2, ca, ta, h3⟩
    · exact .inl hc
    · exact .inr ⟨h1, h2, ca, ta, keep_blk hb h3⟩
theorem link_new (w : World) (mk : Bool) (mn : Int) (t : TypeId) : LinksAt (w.alloc (.cells #[.bool mk, .int .i64 mn] t)) (some ⟨w.heap.size, 0, none⟩) 1 (fun _ => (mk, mn)) := by
  intro i hi
  obtain rfl : i = 0 := by omega
  exact ⟨w.heap.size, 0, rfl, by rw [cell_new]; rfl, by rw [cell_new]; rfl⟩
set_option maxRecDepth 100000 in
set_option maxHeartbeats 4000000 in
theorem faultwraps_any (F : FaultDoes) (LV : Lives) (A : Nat → Addr) (n : Int) (p : Option Addr) (len cap : Nat) (L : Nat → Bool × Int) (mk : Bool) (mn : Int) (hm : isI64 mn) (hsm : len ≤ 1000) (hi64 : ∀ i, isI64 (L i).2) (w : World) (hE : Errs w A) (hT : FaEnv w) (hL : LinksAt w p len L) :
    Calls Tryd.prog 5 #[.int .i64 n, .slice p len cap, .agg #[.bool mk, .int .i64 mn]] w fun e w' => e = .returned (.bool true) ∧ Below w.heap.size w w' := by
  have hbA := (Below.refl w.heap.size w).alloc (Nat.le_refl _) (.cells #[.bool mk, .int .i64 mn] 39)
  have HV := Lib.hid (LV A _ (hE.below hbA) (hT.later hbA))
  have hb : decide ((1000 : Int) < (len : Int)) = false := by simp; omega
  have HE := Lib.hid hE; have HT := Lib.hid hT; have HL := Lib.hid hL; have HI := Lib.hid hi64; have HBA := Lib.hid hbA
  have HZ0 := Lib.hid (heap_alloc_new w (.cells #[.bool mk, .int .i64 mn] 39))
  clear hE hT hL hi64 hbA
  go_enter Tryd.func5, Tryd.ntmps5
  go_wp2_with fail
  refine HV.out.mono ?_
  rintro e w1 ⟨rfl, hb1⟩
  have HB1 := Lib.hid (HBA.out.trans (hb1.mono (by simp))); have HZ1 := Lib.hid (keep_blk hb1 HZ0.out); clear hb1 HZ0
  go_wp2_with fail
  refine (sentinel_of A n _ (HE.out.below HB1.out)).mono ?_
  rintro e w2 ⟨he2, hb2⟩
  have HB2 := Lib.hid (HB1.out.trans (hb2.mono HB1.out.size)); have HZ2 := Lib.hid (keep_blk hb2 HZ1.out)
  have HLT := Lib.hid (fun k hk => Nat.lt_of_lt_of_le ((HE.out k hk).2.2.1) HB1.out.size : ∀ k, k < 21 → (A k).block < w1.heap.size)
  clear hb2 HZ1
  rcases he2 with ⟨rfl, rfl⟩ | he2
  · go_wp2_with fail
    refine (wrapped_nil _ _ _ L (by omega) _ (HL.out.later HB2.out)).mono ?_
    rintro e w3 ⟨rfl, hb3⟩
    have HB3 := Lib.hid (HB2.out.trans (hb3.mono HB2.out.size)); have HZ3 := Lib.hid (keep_blk hb3 HZ2.out); clear hb3 HB2 HZ2
    go_wp2_with fail
    refine (F.tellNil _).mono ?_
    rintro e w5 ⟨rfl, hb5⟩
    have HB5 := Lib.hid (HB3.out.trans (hb5.mono HB3.out.size)); have HZ5 := Lib.hid (keep_blk hb5 HZ3.out); clear hb5 HB3 HZ3
    go_wp2_with fail
    refine (F.placeNil _).mono ?_
    rintro e w7 ⟨rfl, hb7⟩
    have HB7 := Lib.hid (HB5.out.trans (hb7.mono HB5.out.size)); have HZ7 := Lib.hid (keep_blk hb7 HZ5.out); clear hb7 HB5 HZ5
    go_wp2_with fail
    refine (F.indexNil _).mono ?_
    rintro e w8 ⟨rfl, hb8⟩
    have HB8 := Lib.hid (HB7.out.trans (hb8.mono HB7.out.size)); have HZ8 := Lib.hid (keep_blk hb8 HZ7.out); clear hb8 HB7 HZ7
    have c0 : w8.cell? ⟨w.heap.size, 0, none⟩ = some (.bool mk) := by unfold World.cell?; rw [HZ8.out]; rfl
    have c1 : w8.cell? ⟨w.heap.size, 1, none⟩ = some (.int .i64 mn) := by unfold World.cell?; rw [HZ8.out]; rfl
    go_wp2_with fail
    refine (wrapped_nil _ _ _ (fun _ => (mk, mn)) (by omega) _ (link_new w8 mk mn _)).mono ?_
    rintro e w9 ⟨rfl, hb9⟩
    have HB9 := Lib.hid ((HB8.out.alloc HB8.out.size _).trans (hb9.mono (by have := HB8.out.size; simp; omega)))
    clear hb9
    go_wp2
    go_ret
    exact ⟨rfl, HB9.out⟩
  · obtain ⟨a, rfl, ha⟩ : ∃ a, e = .returned (.iface 63 (.pointer (some a))) ∧ ((∃ k : Nat, k < 21 ∧ n = (k : Int) + 1 ∧ a = A k) ∨ ((n < 0 ∨ 21 < n) ∧ (∀ k, k < 21 → a ≠ A k) ∧ ∃ c t, w2.heap[a.block]? = some (.cells c t (0, 0)))) := by
      rcases he2 with ⟨k, hk, hn, rfl⟩ | ⟨hn, q, rfl, hq, hr⟩
      · exact ⟨_, rfl, .inl ⟨k, hk, hn, rfl⟩⟩
      · refine ⟨_, rfl, .inr ⟨hn, fun k hk e => ?_, hr⟩⟩
        have := HLT.out k hk
        rw [← e] at this
        exact absurd this (Nat.not_lt.2 hq)
    have HA := Lib.hid ha
    clear he2 ha
    go_wp2_with fail
    refine (wrapped_any a [] _ _ _ _ L (by omega) _ (HL.out.later HB2.out) .base).mono ?_
    rintro e w3 ⟨v, rfl, hl⟩
    have hb3 : Below w2.heap.size w2 w3 := by obtain ⟨_, _, h, _⟩ := hl; exact h
    have HB3 := Lib.hid (HB2.out.trans (hb3.mono HB2.out.size)); have HZ3 := Lib.hid (keep_blk hb3 HZ2.out)
    obtain ⟨l, hin, hf⟩ := made_err HI.out hl HA.out
    obtain ⟨t, q, rfl⟩ := hin.iface
    have HIN := Lib.hid hin
    clear hl hb3 HB2 hin hf HA HZ2
    go_wp2_with fail
    refine (F.tell A _ _ _ l (HE.out.below HB3.out) (HT.out.later HB3.out) HIN.out).mono ?_
    rintro e w5 ⟨⟨s, rfl, hs⟩, hb5⟩
    have HB5 := Lib.hid (HB3.out.trans (hb5.mono HB3.out.size)); have HIN5 := Lib.hid (HIN.out.later hb5); have HZ5 := Lib.hid (keep_blk hb5 HZ3.out); clear hb5 HB3 HIN HZ3
    have HS := Lib.hid hs; clear hs
    go_wp2_with fail
    refine (F.place A _ _ _ l (HT.out.later HB5.out) HIN5.out).mono ?_
    rintro e w7 ⟨rfl, hb7⟩
    have HB7 := Lib.hid (HB5.out.trans (hb7.mono HB5.out.size)); have HIN7 := Lib.hid (HIN5.out.later hb7); have HZ7 := Lib.hid (keep_blk hb7 HZ5.out); clear hb7 HB5 HIN5 HZ5
    go_wp2_with fail
    refine (F.index A _ _ _ l (HT.out.later HB7.out) HIN7.out).mono ?_
    rintro e w8 ⟨rfl, hb8⟩
    have HB8 := Lib.hid (HB7.out.trans (hb8.mono HB7.out.size)); have HIN8 := Lib.hid (HIN7.out.later hb8); have HZ8 := Lib.hid (keep_blk hb8 HZ7.out); clear hb8 HB7 HIN7 HZ7
    have c0 : w8.cell? ⟨w.heap.size, 0, none⟩ = some (.bool mk) := by unfold World.cell?; rw [HZ8.out]; rfl
    have c1 : w8.cell? ⟨w.heap.size, 1, none⟩ = some (.int .i64 mn) := by unfold World.cell?; rw [HZ8.out]; rfl
    go_wp2_with fail
    clear c0 c1
    have hb8' := (Below.refl w8.heap.size w8).alloc (Nat.le_refl _) (.cells #[.bool mk, .int .i64 mn] 39)
    have HIN8' := Lib.hid (HIN8.out.later hb8')
    obtain ⟨b, hwb, hib, hcb⟩ := HIN8'.out
    refine (wrapped_any b l _ _ _ _ (fun _ => (mk, mn)) (by omega) _ (link_new w8 mk mn _) hwb).mono ?_
    rintro e w9 ⟨v9, rfl, hl9⟩
    obtain ⟨l9, hin9, hb9, ht1, ht2⟩ := errIn_more hm hib hcb hl9
    have HB9 := Lib.hid ((HB8.out.alloc HB8.out.size _).trans (hb9.mono (by have := HB8.out.size; simp; omega)))
    have HIN9 := Lib.hid (HIN8'.out.later hb9); have HZ9 := Lib.hid (keep_blk hb9 (heap_alloc_lt HZ8.out))
    have HO9 := Lib.hid hin9; have T1 := Lib.hid ht1; have T2 := Lib.hid ht2
    obtain ⟨t9, q9, rfl⟩ := hin9.iface
    clear hl9 hin9 hb9 ht1 ht2 HIN8' HIN8 HB8 HZ8 hb8' hwb hib hcb
    have HC := Lib.hid (code_any n)
    generalize codeOf n = c at *
    go_wp2_with fail
    refine (num_in (HE.out.below HB9.out) HO9.out).mono ?_
    rintro e w10 ⟨rfl, hb10⟩
    have HB10 := Lib.hid (HB9.out.trans (hb10.mono HB9.out.size)); have HIN10 := Lib.hid (HIN9.out.later hb10); have HO10 := Lib.hid (HO9.out.later hb10); have HZ10 := Lib.hid (keep_blk hb10 HZ9.out); clear hb10 HB9 HIN9 HO9 HZ9
    go_wp2_with fail
    refine (num_in (HE.out.below HB10.out) HIN10.out).mono ?_
    rintro e w11 ⟨rfl, hb11⟩
    have HB11 := Lib.hid (HB10.out.trans (hb11.mono HB10.out.size)); have HIN11 := Lib.hid (HIN10.out.later hb11); have HO11 := Lib.hid (HO10.out.later hb11); have HZ11 := Lib.hid (keep_blk hb11 HZ10.out); clear hb11 HB10 HIN10 HO10 HZ10
    go_wp2_with fail
    refine (num_in (HE.out.below HB11.out) HIN11.out).mono ?_
    rintro e w12 ⟨rfl, hb12⟩
    have HB12 := Lib.hid (HB11.out.trans (hb12.mono HB11.out.size)); have HIN12 := Lib.hid (HIN11.out.later hb12); have HO12 := Lib.hid (HO11.out.later hb12); have HZ12 := Lib.hid (keep_blk hb12 HZ11.out); clear hb12 HB11 HIN11 HO11 HZ11
    go_wp2_with fail
    refine (HC.out _).mono ?_
    rintro e w' ⟨rfl, rfl⟩
    go_wp2_with fail
    refine (F.tell A _ _ _ l (HE.out.below HB12.out) (HT.out.later HB12.out) HIN12.out).mono ?_
    rintro e w13 ⟨⟨s', rfl, hs'⟩, hb13⟩
    obtain rfl : s' = s := text_inj (by rw [hs', HS.out])
    have HB13 := Lib.hid (HB12.out.trans (hb13.mono HB12.out.size)); have HO13 := Lib.hid (HO12.out.later hb13); have HZ13 := Lib.hid (keep_blk hb13 HZ12.out); clear hb13 HB12 HIN12 HO12 HZ12 hs'
    go_wp2_with fail
    refine (F.place A _ _ _ l9 (HT.out.later HB13.out) HO13.out).mono ?_
    rintro e w14 ⟨rfl, hb14⟩
    have HB14 := Lib.hid (HB13.out.trans (hb14.mono HB13.out.size)); have HO14 := Lib.hid (HO13.out.later hb14); have HZ14 := Lib.hid (keep_blk hb14 HZ13.out); clear hb14 HB13 HO13 HZ13
    go_wp2_with fail
    refine (F.index A _ _ _ l9 (HT.out.later HB14.out) HO14.out).mono ?_
    rintro e w15 ⟨rfl, hb15⟩
    have HB15 := Lib.hid (HB14.out.trans (hb15.mono HB14.out.size)); have HZ15 := Lib.hid (keep_blk hb15 HZ14.out); clear hb15 HB14 HO14 HZ14
    have c0 : w15.cell? ⟨w.heap.size, 0, none⟩ = some (.bool mk) := by unfold World.cell?; rw [HZ15.out]; rfl
    have c1 : w15.cell? ⟨w.heap.size, 1, none⟩ = some (.int .i64 mn) := by unfold World.cell?; rw [HZ15.out]; rfl
    cases mk with
    | true =>
      have e2 : toldOf false l9 = toldOf false l := T2.out
      rw [T1.out, e2]
      clear e2
      generalize numO (toldOf false l) = x1 at *
      generalize hasO (toldOf false l) = y1 at *
      go_wp2
      go_ret
      exact ⟨rfl, HB15.out⟩
    | false =>
      have e2 : toldOf true l9 = toldOf true l := T2.out
      rw [T1.out, e2]
      clear e2
      generalize numO (toldOf true l) = x1 at *
      generalize hasO (toldOf true l) = y1 at *
      go_wp2
      go_ret
      exact ⟨rfl, HB15.out⟩
set_option maxRecDepth 100000 in
set_option maxHeartbeats 4000000 in
theorem faultwraps_big (LV : Lives) (A : Nat → Addr) (n : Int) (p : Option Addr) (len cap : Nat) (mk : Bool) (mn : Int) (hbig : 1000 < len) (w : World) (hE : Errs w A) (hT : FaEnv w) :
    Calls Tryd.prog 5 #[.int .i64 n, .slice p len cap, .agg #[.bool mk, .int .i64 mn]] w fun e w' => e = .returned (.bool true) ∧ Below w.heap.size w w' := by
  have hbA := (Below.refl w.heap.size w).alloc (Nat.le_refl _) (.cells #[.bool mk, .int .i64 mn] 39)
  have HV := Lib.hid (LV A _ (hE.below hbA) (hT.later hbA))
  have HBA := Lib.hid hbA
  have hb : (1000 : Int) < (len : Int) := by omega
  clear hE hT hbA
  go_enter Tryd.func5, Tryd.ntmps5
  go_wp2_with fail
  refine HV.out.mono ?_
  rintro e w1 ⟨rfl, hb1⟩
  have HB1 := Lib.hid (HBA.out.trans (hb1.mono (by simp))); clear hb1
  go_wp2
  go_ret
  exact ⟨rfl, HB1.out⟩
theorem faultwraps_all (F : FaultDoes) (LV : Lives) (A : Nat → Addr) (n : Int) (p : Option Addr) (len cap : Nat) (L : Nat → Bool × Int) (mk : Bool) (mn : Int) (hm : isI64 mn) (hlen : len ≤ maxLen) (hi64 : ∀ i, isI64 (L i).2) (w : World) (hE : Errs w A) (hT : FaEnv w) (hL : LinksAt w p len L) :
    Calls Tryd.prog 5 #[.int .i64 n, .slice p len cap, .agg #[.bool mk, .int .i64 mn]] w fun e w' => e = .returned (.bool true) ∧ Below w.heap.size w w' := by
  have _ := hlen
  by_cases h : len ≤ 1000
  · exact faultwraps_any F LV A n p len cap L mk mn hm h hi64 w hE hT hL
  · exact faultwraps_big LV A n p len cap mk mn (by omega) w hE hT
theorem faulttells_all (F : FaultDoes) (LV : Lives) (A : Nat → Addr) (n : Int) (p : Option Addr) (len cap : Nat) (L : Nat → Bool × Int) (hlen : len ≤ maxLen) (hi64 : ∀ i, isI64 (L i).2) (w : World) (hE : Errs w A) (hT : FaEnv w) (hL : LinksAt w p len L) :
    Calls Tryd.prog 3 #[.int .i64 n, .slice p len cap] w fun e w' => e = .returned (.bool true) ∧ Below w.heap.size w w' := by
  have _ := hlen
  by_cases h : len ≤ 1000
  · exact faulttells_any F LV A n p len cap L h hi64 w hE hT hL
  · exact faulttells_big LV A n p len cap (by omega) w hE hT
end Go.Proofs.YtnhligchgcjklaaDoor
