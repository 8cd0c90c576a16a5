/- ClassNamed: whatever the text, the law returns true. -/
import Derived.Test.YtnicijdpcpnbdaaDoorClLives
import Derived.Test.YtnicijdpcpnbdaaDoorClRef2
namespace Go.Proofs.YtnicijdpcpnbdaaDoor
open Go.RowKit
/-- What both answer of a name: its class. -/
def Known (s : ByteArray) (k : Nat) : Prop := (∀ w, Calls Tryd.prog 9 #[.string s] w fun e w' => e = .returned (.tuple #[(.agg #[.int .u64 (Oc.U (Cl.cw k 0)), .int .u64 (Oc.U (Cl.cw k 1)), .int .u64 (Oc.U (Cl.cw k 2)), .int .u64 (Oc.U (Cl.cw k 3))]), .nilIface]) ∧ Below w.heap.size w w') ∧
  ∀ w, Calls Tryd.prog 10 #[.string s] w fun e w' => e = .returned (.tuple #[(.agg #[.int .u64 (Oc.U (Cl.cw k 0)), .int .u64 (Oc.U (Cl.cw k 1)), .int .u64 (Oc.U (Cl.cw k 2)), .int .u64 (Oc.U (Cl.cw k 3))]), .bool true]) ∧ Below w.heap.size w w'
theorem refnamed_0 (w : World) : Calls Tryd.prog 10 #[.string (Cl.nm 0)] w fun e w' => e = .returned (.tuple #[(.agg #[.int .u64 (Oc.U (Cl.cw 0 0)), .int .u64 (Oc.U (Cl.cw 0 1)), .int .u64 (Oc.U (Cl.cw 0 2)), .int .u64 (Oc.U (Cl.cw 0 3))]), .bool true]) ∧ Below w.heap.size w w' := by
  have h := refnamed_any (Cl.nm 0) (Cl.cls 0) (member_0) w
  rw [show Cl.any (Cl.cls 0) 256 = true by decide +kernel] at h
  exact h
theorem refnamed_1 (w : World) : Calls Tryd.prog 10 #[.string (Cl.nm 1)] w fun e w' => e = .returned (.tuple #[(.agg #[.int .u64 (Oc.U (Cl.cw 1 0)), .int .u64 (Oc.U (Cl.cw 1 1)), .int .u64 (Oc.U (Cl.cw 1 2)), .int .u64 (Oc.U (Cl.cw 1 3))]), .bool true]) ∧ Below w.heap.size w w' := by
  have h := refnamed_any (Cl.nm 1) (Cl.cls 1) (member_1) w
  rw [show Cl.any (Cl.cls 1) 256 = true by decide +kernel] at h
  exact h
theorem refnamed_2 (w : World) : Calls Tryd.prog 10 #[.string (Cl.nm 2)] w fun e w' => e = .returned (.tuple #[(.agg #[.int .u64 (Oc.U (Cl.cw 2 0)), .int .u64 (Oc.U (Cl.cw 2 1)), .int .u64 (Oc.U (Cl.cw 2 2)), .int .u64 (Oc.U (Cl.cw 2 3))]), .bool true]) ∧ Below w.heap.size w w' := by
  have h := refnamed_any (Cl.nm 2) (Cl.cls 2) (member_2) w
  rw [show Cl.any (Cl.cls 2) 256 = true by decide +kernel] at h
  exact h
theorem refnamed_3 (w : World) : Calls Tryd.prog 10 #[.string (Cl.nm 3)] w fun e w' => e = .returned (.tuple #[(.agg #[.int .u64 (Oc.U (Cl.cw 3 0)), .int .u64 (Oc.U (Cl.cw 3 1)), .int .u64 (Oc.U (Cl.cw 3 2)), .int .u64 (Oc.U (Cl.cw 3 3))]), .bool true]) ∧ Below w.heap.size w w' := by
  have h := refnamed_any (Cl.nm 3) (Cl.cls 3) (member_3) w
  rw [show Cl.any (Cl.cls 3) 256 = true by decide +kernel] at h
  exact h
theorem refnamed_4 (w : World) : Calls Tryd.prog 10 #[.string (Cl.nm 4)] w fun e w' => e = .returned (.tuple #[(.agg #[.int .u64 (Oc.U (Cl.cw 4 0)), .int .u64 (Oc.U (Cl.cw 4 1)), .int .u64 (Oc.U (Cl.cw 4 2)), .int .u64 (Oc.U (Cl.cw 4 3))]), .bool true]) ∧ Below w.heap.size w w' := by
  have h := refnamed_any (Cl.nm 4) (Cl.cls 4) (member_4) w
  rw [show Cl.any (Cl.cls 4) 256 = true by decide +kernel] at h
  exact h
theorem refnamed_5 (w : World) : Calls Tryd.prog 10 #[.string (Cl.nm 5)] w fun e w' => e = .returned (.tuple #[(.agg #[.int .u64 (Oc.U (Cl.cw 5 0)), .int .u64 (Oc.U (Cl.cw 5 1)), .int .u64 (Oc.U (Cl.cw 5 2)), .int .u64 (Oc.U (Cl.cw 5 3))]), .bool true]) ∧ Below w.heap.size w w' := by
  have h := refnamed_any (Cl.nm 5) (Cl.cls 5) (member_5) w
  rw [show Cl.any (Cl.cls 5) 256 = true by decide +kernel] at h
  exact h
theorem refnamed_6 (w : World) : Calls Tryd.prog 10 #[.string (Cl.nm 6)] w fun e w' => e = .returned (.tuple #[(.agg #[.int .u64 (Oc.U (Cl.cw 6 0)), .int .u64 (Oc.U (Cl.cw 6 1)), .int .u64 (Oc.U (Cl.cw 6 2)), .int .u64 (Oc.U (Cl.cw 6 3))]), .bool true]) ∧ Below w.heap.size w w' := by
  have h := refnamed_any (Cl.nm 6) (Cl.cls 6) (member_6) w
  rw [show Cl.any (Cl.cls 6) 256 = true by decide +kernel] at h
  exact h
theorem refnamed_7 (w : World) : Calls Tryd.prog 10 #[.string (Cl.nm 7)] w fun e w' => e = .returned (.tuple #[(.agg #[.int .u64 (Oc.U (Cl.cw 7 0)), .int .u64 (Oc.U (Cl.cw 7 1)), .int .u64 (Oc.U (Cl.cw 7 2)), .int .u64 (Oc.U (Cl.cw 7 3))]), .bool true]) ∧ Below w.heap.size w w' := by
  have h := refnamed_any (Cl.nm 7) (Cl.cls 7) (member_7) w
  rw [show Cl.any (Cl.cls 7) 256 = true by decide +kernel] at h
  exact h
theorem refnamed_8 (w : World) : Calls Tryd.prog 10 #[.string (Cl.nm 8)] w fun e w' => e = .returned (.tuple #[(.agg #[.int .u64 (Oc.U (Cl.cw 8 0)), .int .u64 (Oc.U (Cl.cw 8 1)), .int .u64 (Oc.U (Cl.cw 8 2)), .int .u64 (Oc.U (Cl.cw 8 3))]), .bool true]) ∧ Below w.heap.size w w' := by
  have h := refnamed_any (Cl.nm 8) (Cl.cls 8) (member_8) w
  rw [show Cl.any (Cl.cls 8) 256 = true by decide +kernel] at h
  exact h
theorem refnamed_9 (w : World) : Calls Tryd.prog 10 #[.string (Cl.nm 9)] w fun e w' => e = .returned (.tuple #[(.agg #[.int .u64 (Oc.U (Cl.cw 9 0)), .int .u64 (Oc.U (Cl.cw 9 1)), .int .u64 (Oc.U (Cl.cw 9 2)), .int .u64 (Oc.U (Cl.cw 9 3))]), .bool true]) ∧ Below w.heap.size w w' := by
  have h := refnamed_any (Cl.nm 9) (Cl.cls 9) (member_9) w
  rw [show Cl.any (Cl.cls 9) 256 = true by decide +kernel] at h
  exact h
theorem refnamed_10 (w : World) : Calls Tryd.prog 10 #[.string (Cl.nm 10)] w fun e w' => e = .returned (.tuple #[(.agg #[.int .u64 (Oc.U (Cl.cw 10 0)), .int .u64 (Oc.U (Cl.cw 10 1)), .int .u64 (Oc.U (Cl.cw 10 2)), .int .u64 (Oc.U (Cl.cw 10 3))]), .bool true]) ∧ Below w.heap.size w w' := by
  have h := refnamed_any (Cl.nm 10) (Cl.cls 10) (member_10) w
  rw [show Cl.any (Cl.cls 10) 256 = true by decide +kernel] at h
  exact h
theorem refnamed_11 (w : World) : Calls Tryd.prog 10 #[.string (Cl.nm 11)] w fun e w' => e = .returned (.tuple #[(.agg #[.int .u64 (Oc.U (Cl.cw 11 0)), .int .u64 (Oc.U (Cl.cw 11 1)), .int .u64 (Oc.U (Cl.cw 11 2)), .int .u64 (Oc.U (Cl.cw 11 3))]), .bool true]) ∧ Below w.heap.size w w' := by
  have h := refnamed_any (Cl.nm 11) (Cl.cls 11) (member_11) w
  rw [show Cl.any (Cl.cls 11) 256 = true by decide +kernel] at h
  exact h
theorem known : ∀ k, k < 12 → Known (Cl.nm k) k
  | 0, _ => ⟨named_0, refnamed_0⟩
  | 1, _ => ⟨named_1, refnamed_1⟩
  | 2, _ => ⟨named_2, refnamed_2⟩
  | 3, _ => ⟨named_3, refnamed_3⟩
  | 4, _ => ⟨named_4, refnamed_4⟩
  | 5, _ => ⟨named_5, refnamed_5⟩
  | 6, _ => ⟨named_6, refnamed_6⟩
  | 7, _ => ⟨named_7, refnamed_7⟩
  | 8, _ => ⟨named_8, refnamed_8⟩
  | 9, _ => ⟨named_9, refnamed_9⟩
  | 10, _ => ⟨named_10, refnamed_10⟩
  | 11, _ => ⟨named_11, refnamed_11⟩
  | k + 12, h => absurd h (by omega)
theorem toList_loop (s : ByteArray) : ∀ n i r, s.size - i = n → ByteArray.toList.loop s i r = r.reverse ++ s.data.toList.drop i := by
  intro n
  induction n with
  | zero =>
    intro i r h
    unfold ByteArray.toList.loop
    rw [if_neg (by omega), List.drop_eq_nil_of_le (by simp; show s.data.size ≤ i; have : s.data.size = s.size := rfl; omega), List.append_nil]
  | succ n ih =>
    intro i r h
    have hi : i < s.size := by omega
    unfold ByteArray.toList.loop
    rw [if_pos hi, ih (i + 1) _ (by omega)]
    have hl : i < s.data.toList.length := by simpa using hi
    rw [List.drop_eq_getElem_cons hl]
    have : s.get! i = s.data.toList[i] := by
      show s.data[i]! = _
      rw [getElem!_pos s.data i hi]; simp
    rw [this]; simp
theorem toList_eq (s : ByteArray) : s.toList = s.data.toList := by
  show ByteArray.toList.loop s 0 [] = _
  rw [toList_loop s s.size 0 [] (by omega)]; simp
theorem nm_bytes : ∀ k, k < 12 → (Cl.nm k).data.toList = Cl.nl k := by decide +kernel
/-- A text is a name, or none. -/
theorem name_cases (s : ByteArray) : (∃ k, k < 12 ∧ s = Cl.nm k) ∨ Cl.No s := by
  by_cases h : ∃ k, k < 12 ∧ (s.toList == Cl.nl k) = true
  · obtain ⟨k, hk, he⟩ := h
    refine .inl ⟨k, hk, ?_⟩
    rw [beq_iff_eq, toList_eq, ← nm_bytes k hk] at he
    cases s; cases hh : Cl.nm k with
    | mk d => rw [hh] at he; simp only at he; rw [Array.toList_inj.1 he]
  · refine .inr fun k hk => ?_
    cases hb : (s.toList == Cl.nl k) with
    | false => rfl
    | true => exact absurd ⟨k, hk, hb⟩ h
theorem refnamed_no (s : ByteArray) (hs : Cl.No s) (w : World) : Calls Tryd.prog 10 #[.string s] w fun e w' => e = .returned (.tuple #[.agg #[.int .u64 0, .int .u64 0, .int .u64 0, .int .u64 0], .bool false]) ∧ Below w.heap.size w w' := by
  have h := refnamed_any s (fun _ => false) (member_no s hs) w
  rw [show Cl.any (fun _ => false) 256 = false by decide +kernel, Oc.mk_none, Oc.mk_none, Oc.mk_none, Oc.mk_none] at h
  exact h
theorem num_nil_below (w : World) : Calls Tryd.prog 11 #[.nilIface] w fun e w' => e = .returned (.int .i64 0) ∧ Below w.heap.size w w' :=
  (num_nil w).mono fun _ _ h => ⟨h.1, h.2 ▸ Below.refl _ _⟩
set_option maxRecDepth 100000 in
set_option maxHeartbeats 2000000 in
theorem clnamed_known (A : Nat → Addr) (s : ByteArray) (k : Nat) (hk : Known s k) (w : World) (hE : Errs w A) : Calls Tryd.prog 3 #[.string s] w fun e w' => e = .returned (.bool true) ∧ Below w.heap.size w w' := by
  have he := eq4
  have HE := Lib.hid hE; have HK := Lib.hid hk; clear hE hk
  go_enter Tryd.func3, Tryd.ntmps3
  go_wp2_with fail
  refine (cllives_any A w HE.out).mono ?_
  rintro e w1 ⟨rfl, hb1⟩
  have HB1 := Lib.hid hb1; clear hb1
  go_wp2_with fail
  refine (HK.out.1 _).mono ?_
  rintro e w2 ⟨rfl, hb2⟩
  have HB2 := Lib.hid (HB1.out.trans (hb2.mono HB1.out.size)); clear hb2 HB1
  go_wp2_with fail
  refine (HK.out.2 _).mono ?_
  rintro e w3 ⟨rfl, hb3⟩
  have HB3 := Lib.hid ((HB2.out.alloc HB2.out.size _).trans (hb3.mono (by have := HB2.out.size; simp; omega)))
  have Z3 := Lib.hid (keep_blk hb3 (heap_alloc_new w2 _))
  clear hb3 HB2
  have c0 := fun o => (four (heap_alloc_lt (o := o) Z3.out)).1
  have c1 := fun o => (four (heap_alloc_lt (o := o) Z3.out)).2.1
  have c2 := fun o => (four (heap_alloc_lt (o := o) Z3.out)).2.2.1
  have c3 := fun o => (four (heap_alloc_lt (o := o) Z3.out)).2.2.2.1
  go_wp2
  have hb3 := HB3.out
  go_ret
  exact ⟨rfl, hb3.alloc hb3.size _⟩
set_option maxRecDepth 100000 in
set_option maxHeartbeats 2000000 in
theorem clnamed_no (A : Nat → Addr) (s : ByteArray) (hs : Cl.No s) (w : World) (hE : Errs w A) : Calls Tryd.prog 3 #[.string s] w fun e w' => e = .returned (.bool true) ∧ Below w.heap.size w w' := by
  have he := eq4
  have HE := Lib.hid hE; have HS := Lib.hid hs; clear hE hs
  go_enter Tryd.func3, Tryd.ntmps3
  go_wp2_with fail
  refine (cllives_any A w HE.out).mono ?_
  rintro e w1 ⟨rfl, hb1⟩
  have HB1 := Lib.hid hb1; clear hb1
  go_wp2_with fail
  refine (named_no s HS.out _ _ (HE.out.below HB1.out).class).mono ?_
  rintro e w2 ⟨rfl, hb2⟩
  have HB2 := Lib.hid (HB1.out.trans (hb2.mono HB1.out.size)); clear hb2 HB1
  go_wp2_with fail
  refine (refnamed_no s HS.out _).mono ?_
  rintro e w3 ⟨rfl, hb3⟩
  have HB3 := Lib.hid ((HB2.out.alloc HB2.out.size _).trans (hb3.mono (by have := HB2.out.size; simp; omega)))
  have Z3 := Lib.hid (keep_blk hb3 (heap_alloc_new w2 _))
  clear hb3 HB2
  go_wp2_with fail
  have hb4 := HB3.out.alloc HB3.out.size (.cells #[.int .u64 0, .int .u64 0, .int .u64 0, .int .u64 0] 25)
  refine (num_class A _ (HE.out.below hb4)).mono ?_
  rintro e w4 ⟨rfl, hb5⟩
  have HB5 := Lib.hid (hb4.trans (hb5.mono hb4.size))
  obtain ⟨c0, c1, c2, c3, -⟩ := four (keep_blk hb5 (heap_alloc_lt Z3.out))
  clear hb4 hb5 HB3
  go_wp2
  go_ret
  exact ⟨rfl, HB5.out⟩
theorem clnamed_any (A : Nat → Addr) (s : ByteArray) (w : World) (hE : Errs w A) : Calls Tryd.prog 3 #[.string s] w fun e w' => e = .returned (.bool true) ∧ Below w.heap.size w w' := by
  rcases name_cases s with ⟨k, hk, rfl⟩ | hs
  · exact clnamed_known A _ k (known k hk) w hE
  · exact clnamed_no A s hs w hE
end Go.Proofs.YtnicijdpcpnbdaaDoor
