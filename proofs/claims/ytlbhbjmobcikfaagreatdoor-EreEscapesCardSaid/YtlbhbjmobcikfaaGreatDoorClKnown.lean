/- The names of the classes: what Named of class and of its reference answer of each, and of any other text. -/
import Derived.Test.YtlbhbjmobcikfaaGreatDoorClNamed
import Derived.Test.YtlbhbjmobcikfaaGreatDoorClRef2
import Derived.Test.YtlbhbjmobcikfaaGreatDoorBrMath
namespace Go.Proofs.YtlbhbjmobcikfaaGreatDoor
open Go.RowKit
/-- What both answer of a name: its class. -/
def Known (s : ByteArray) (k : Nat) : Prop := (∀ w, Calls Tryz.prog 159 #[.string s] w fun e w' => e = .returned (.tuple #[(.agg #[.int .u64 (Oc.U (Cl.cw k 0)), .int .u64 (Oc.U (Cl.cw k 1)), .int .u64 (Oc.U (Cl.cw k 2)), .int .u64 (Oc.U (Cl.cw k 3))]), .nilIface]) ∧ Below w.heap.size w w') ∧
  ∀ w, Calls Tryz.prog 106 #[.string s] w fun e w' => e = .returned (.tuple #[(.agg #[.int .u64 (Oc.U (Cl.cw k 0)), .int .u64 (Oc.U (Cl.cw k 1)), .int .u64 (Oc.U (Cl.cw k 2)), .int .u64 (Oc.U (Cl.cw k 3))]), .bool true]) ∧ Below w.heap.size w w'
theorem refnamed_0 (w : World) : Calls Tryz.prog 106 #[.string (Cl.nm 0)] w fun e w' => e = .returned (.tuple #[(.agg #[.int .u64 (Oc.U (Cl.cw 0 0)), .int .u64 (Oc.U (Cl.cw 0 1)), .int .u64 (Oc.U (Cl.cw 0 2)), .int .u64 (Oc.U (Cl.cw 0 3))]), .bool true]) ∧ Below w.heap.size w w' := by
  have h := refnamed_any (Cl.nm 0) (Cl.cls 0) (member_0) w
  rw [show Cl.any (Cl.cls 0) 256 = true by decide +kernel] at h
  exact h
theorem refnamed_1 (w : World) : Calls Tryz.prog 106 #[.string (Cl.nm 1)] w fun e w' => e = .returned (.tuple #[(.agg #[.int .u64 (Oc.U (Cl.cw 1 0)), .int .u64 (Oc.U (Cl.cw 1 1)), .int .u64 (Oc.U (Cl.cw 1 2)), .int .u64 (Oc.U (Cl.cw 1 3))]), .bool true]) ∧ Below w.heap.size w w' := by
  have h := refnamed_any (Cl.nm 1) (Cl.cls 1) (member_1) w
  rw [show Cl.any (Cl.cls 1) 256 = true by decide +kernel] at h
  exact h
theorem refnamed_2 (w : World) : Calls Tryz.prog 106 #[.string (Cl.nm 2)] w fun e w' => e = .returned (.tuple #[(.agg #[.int .u64 (Oc.U (Cl.cw 2 0)), .int .u64 (Oc.U (Cl.cw 2 1)), .int .u64 (Oc.U (Cl.cw 2 2)), .int .u64 (Oc.U (Cl.cw 2 3))]), .bool true]) ∧ Below w.heap.size w w' := by
  have h := refnamed_any (Cl.nm 2) (Cl.cls 2) (member_2) w
  rw [show Cl.any (Cl.cls 2) 256 = true by decide +kernel] at h
  exact h
theorem refnamed_3 (w : World) : Calls Tryz.prog 106 #[.string (Cl.nm 3)] w fun e w' => e = .returned (.tuple #[(.agg #[.int .u64 (Oc.U (Cl.cw 3 0)), .int .u64 (Oc.U (Cl.cw 3 1)), .int .u64 (Oc.U (Cl.cw 3 2)), .int .u64 (Oc.U (Cl.cw 3 3))]), .bool true]) ∧ Below w.heap.size w w' := by
  have h := refnamed_any (Cl.nm 3) (Cl.cls 3) (member_3) w
  rw [show Cl.any (Cl.cls 3) 256 = true by decide +kernel] at h
  exact h
theorem refnamed_4 (w : World) : Calls Tryz.prog 106 #[.string (Cl.nm 4)] w fun e w' => e = .returned (.tuple #[(.agg #[.int .u64 (Oc.U (Cl.cw 4 0)), .int .u64 (Oc.U (Cl.cw 4 1)), .int .u64 (Oc.U (Cl.cw 4 2)), .int .u64 (Oc.U (Cl.cw 4 3))]), .bool true]) ∧ Below w.heap.size w w' := by
  have h := refnamed_any (Cl.nm 4) (Cl.cls 4) (member_4) w
  rw [show Cl.any (Cl.cls 4) 256 = true by decide +kernel] at h
  exact h
theorem refnamed_5 (w : World) : Calls Tryz.prog 106 #[.string (Cl.nm 5)] w fun e w' => e = .returned (.tuple #[(.agg #[.int .u64 (Oc.U (Cl.cw 5 0)), .int .u64 (Oc.U (Cl.cw 5 1)), .int .u64 (Oc.U (Cl.cw 5 2)), .int .u64 (Oc.U (Cl.cw 5 3))]), .bool true]) ∧ Below w.heap.size w w' := by
  have h := refnamed_any (Cl.nm 5) (Cl.cls 5) (member_5) w
  rw [show Cl.any (Cl.cls 5) 256 = true by decide +kernel] at h
  exact h
theorem refnamed_6 (w : World) : Calls Tryz.prog 106 #[.string (Cl.nm 6)] w fun e w' => e = .returned (.tuple #[(.agg #[.int .u64 (Oc.U (Cl.cw 6 0)), .int .u64 (Oc.U (Cl.cw 6 1)), .int .u64 (Oc.U (Cl.cw 6 2)), .int .u64 (Oc.U (Cl.cw 6 3))]), .bool true]) ∧ Below w.heap.size w w' := by
  have h := refnamed_any (Cl.nm 6) (Cl.cls 6) (member_6) w
  rw [show Cl.any (Cl.cls 6) 256 = true by decide +kernel] at h
  exact h
theorem refnamed_7 (w : World) : Calls Tryz.prog 106 #[.string (Cl.nm 7)] w fun e w' => e = .returned (.tuple #[(.agg #[.int .u64 (Oc.U (Cl.cw 7 0)), .int .u64 (Oc.U (Cl.cw 7 1)), .int .u64 (Oc.U (Cl.cw 7 2)), .int .u64 (Oc.U (Cl.cw 7 3))]), .bool true]) ∧ Below w.heap.size w w' := by
  have h := refnamed_any (Cl.nm 7) (Cl.cls 7) (member_7) w
  rw [show Cl.any (Cl.cls 7) 256 = true by decide +kernel] at h
  exact h
theorem refnamed_8 (w : World) : Calls Tryz.prog 106 #[.string (Cl.nm 8)] w fun e w' => e = .returned (.tuple #[(.agg #[.int .u64 (Oc.U (Cl.cw 8 0)), .int .u64 (Oc.U (Cl.cw 8 1)), .int .u64 (Oc.U (Cl.cw 8 2)), .int .u64 (Oc.U (Cl.cw 8 3))]), .bool true]) ∧ Below w.heap.size w w' := by
  have h := refnamed_any (Cl.nm 8) (Cl.cls 8) (member_8) w
  rw [show Cl.any (Cl.cls 8) 256 = true by decide +kernel] at h
  exact h
theorem refnamed_9 (w : World) : Calls Tryz.prog 106 #[.string (Cl.nm 9)] w fun e w' => e = .returned (.tuple #[(.agg #[.int .u64 (Oc.U (Cl.cw 9 0)), .int .u64 (Oc.U (Cl.cw 9 1)), .int .u64 (Oc.U (Cl.cw 9 2)), .int .u64 (Oc.U (Cl.cw 9 3))]), .bool true]) ∧ Below w.heap.size w w' := by
  have h := refnamed_any (Cl.nm 9) (Cl.cls 9) (member_9) w
  rw [show Cl.any (Cl.cls 9) 256 = true by decide +kernel] at h
  exact h
theorem refnamed_10 (w : World) : Calls Tryz.prog 106 #[.string (Cl.nm 10)] w fun e w' => e = .returned (.tuple #[(.agg #[.int .u64 (Oc.U (Cl.cw 10 0)), .int .u64 (Oc.U (Cl.cw 10 1)), .int .u64 (Oc.U (Cl.cw 10 2)), .int .u64 (Oc.U (Cl.cw 10 3))]), .bool true]) ∧ Below w.heap.size w w' := by
  have h := refnamed_any (Cl.nm 10) (Cl.cls 10) (member_10) w
  rw [show Cl.any (Cl.cls 10) 256 = true by decide +kernel] at h
  exact h
theorem refnamed_11 (w : World) : Calls Tryz.prog 106 #[.string (Cl.nm 11)] w fun e w' => e = .returned (.tuple #[(.agg #[.int .u64 (Oc.U (Cl.cw 11 0)), .int .u64 (Oc.U (Cl.cw 11 1)), .int .u64 (Oc.U (Cl.cw 11 2)), .int .u64 (Oc.U (Cl.cw 11 3))]), .bool true]) ∧ Below w.heap.size w w' := by
  have h := refnamed_any (Cl.nm 11) (Cl.cls 11) (member_11) w
  rw [show Cl.any (Cl.cls 11) 256 = true by decide +kernel] at h
  exact h
theorem known : ∀ k, k < 12 → Known (Cl.nm k) k
  | 0, _ => ⟨named_0, refnamed_0⟩
  | 1, _ => ⟨named_1, refnamed_1⟩
  | 2, _ => ⟨named_2, refnamed_2⟩
  | 3, _ => ⟨named_3, refnamed_3⟩
  | 4, _ => ⟨named_4, refnamed_4⟩
  | 5, _ => ⟨named_5, refnamed_5⟩
  | 6, _ => ⟨named_6, refnamed_6⟩
  | 7, _ => ⟨named_7, refnamed_7⟩
  | 8, _ => ⟨named_8, refnamed_8⟩
  | 9, _ => ⟨named_9, refnamed_9⟩
  | 10, _ => ⟨named_10, refnamed_10⟩
  | 11, _ => ⟨named_11, refnamed_11⟩
  | k + 12, h => absurd h (by omega)
theorem toList_loop (s : ByteArray) : ∀ n i r, s.size - i = n → ByteArray.toList.loop s i r = r.reverse ++ s.data.toList.drop i := by
  intro n
  induction n with
  | zero =>
    intro i r h
    unfold ByteArray.toList.loop
    rw [if_neg (by omega), List.drop_eq_nil_of_le (by simp; show s.data.size ≤ i; have : s.data.size = s.size := rfl; omega), List.append_nil]
  | succ n ih =>
    intro i r h
    have hi : i < s.size := by omega
    unfold ByteArray.toList.loop
    rw [if_pos hi, ih (i + 1) _ (by omega)]
    have hl : i < s.data.toList.length := by simpa using hi
    rw [List.drop_eq_getElem_cons hl]
    have : s.get! i = s.data.toList[i] := by
      show s.data[i]! = _
      rw [getElem!_pos s.data i hi]; simp
    rw [this]; simp
theorem toList_eq (s : ByteArray) : s.toList = s.data.toList := by
  show ByteArray.toList.loop s 0 [] = _
  rw [toList_loop s s.size 0 [] (by omega)]; simp
theorem nm_bytes : ∀ k, k < 12 → (Cl.nm k).data.toList = Cl.nl k := by decide +kernel
/-- A text is a name, or none. -/
theorem name_cases (s : ByteArray) : (∃ k, k < 12 ∧ s = Cl.nm k) ∨ Cl.No s := by
  by_cases h : ∃ k, k < 12 ∧ (s.toList == Cl.nl k) = true
  · obtain ⟨k, hk, he⟩ := h
    refine .inl ⟨k, hk, ?_⟩
    rw [beq_iff_eq, toList_eq, ← nm_bytes k hk] at he
    cases s; cases hh : Cl.nm k with
    | mk d => rw [hh] at he; simp only at he; rw [Array.toList_inj.1 he]
  · refine .inr fun k hk => ?_
    cases hb : (s.toList == Cl.nl k) with
    | false => rfl
    | true => exact absurd ⟨k, hk, hb⟩ h
theorem refnamed_no (s : ByteArray) (hs : Cl.No s) (w : World) : Calls Tryz.prog 106 #[.string s] w fun e w' => e = .returned (.tuple #[.agg #[.int .u64 0, .int .u64 0, .int .u64 0, .int .u64 0], .bool false]) ∧ Below w.heap.size w w' := by
  have h := refnamed_any s (fun _ => false) (member_no s hs) w
  rw [show Cl.any (fun _ => false) 256 = false by decide +kernel, Oc.mk_none, Oc.mk_none, Oc.mk_none, Oc.mk_none] at h
  exact h
/-- What the names' bytes tell. -/
theorem clsAt_some {t : ByteArray} {k : Nat} (h : Br.clsAt (t.data.toList.map (·.toNat)) = some k) : k < 12 ∧ t = Cl.nm k := by
  unfold Br.clsAt at h
  have hk := List.mem_range.1 (List.mem_of_find?_eq_some h)
  refine ⟨hk, ?_⟩
  have h1 := List.find?_some h
  simp only [beq_iff_eq] at h1
  have h2 : Cl.nl k = t.data.toList := List.map_inj_right (fun x y h => UInt8.toNat_inj.1 h) |>.1 h1
  rw [← nm_bytes k hk] at h2
  cases t; cases hh : Cl.nm k with
  | mk d => rw [hh] at h2; simp only at h2; rw [Array.toList_inj.1 h2]
theorem clsAt_none {t : ByteArray} (h : Br.clsAt (t.data.toList.map (·.toNat)) = none) : Cl.No t := by
  intro k hk
  unfold Br.clsAt at h
  have := List.find?_eq_none.1 h k (List.mem_range.2 hk)
  cases hb : t.toList == Cl.nl k with
  | false => rfl
  | true =>
    rw [beq_iff_eq, toList_eq] at hb
    rw [hb] at this
    simp at this
end Go.Proofs.YtlbhbjmobcikfaaGreatDoor
