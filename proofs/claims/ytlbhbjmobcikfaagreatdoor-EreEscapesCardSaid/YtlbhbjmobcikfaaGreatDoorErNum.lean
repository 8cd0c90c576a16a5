/- trawlnum.Num: the number of a sentinel in any wrappings; 0 of nil. -/
import Derived.Test.YtlbhbjmobcikfaaGreatDoorErCells
import Derived.Test.YtlbhbjmobcikfaaGreatDoorMem
namespace Go.Proofs.YtlbhbjmobcikfaaGreatDoor
open Go.RowKit Go.Extern.Stop Go.Stop Go.Extern
theorem num_nil (w : World) : Calls Tryz.prog 14 #[.nilIface] w fun e w' => e = .returned (.int .i64 0) ∧ w = w' := by
  go_enter Tryz.func14, Tryz.ntmps14
  go_wp2
  go_ret
  exact ⟨rfl, rfl⟩
/-- What has been found behind the first i sentinels. -/
def found (k i : Nat) : Int := if k < i then (k : Int) + 1 else -1
theorem found_no {k i : Nat} (h : i ≤ k) : found k i = -1 := by unfold found; rw [if_neg (by omega)]
theorem found_yes {k i : Nat} (h : k < i) : found k i = (k : Int) + 1 := by unfold found; rw [if_pos h]
set_option maxRecDepth 100000 in
set_option maxHeartbeats 4000000 in
theorem num_any (A : Nat → Addr) (k n : Nat) (v : Value) (w : World) (hA : Errs w A) (hk : k < 21) (hch : Chain w (A k) n v) :
    Calls Tryz.prog 14 #[v] w fun e w' => e = .returned (.int .i64 ((k : Int) + 1)) ∧ Below w.heap.size w w' := by
  have HA := Lib.hid hA
  obtain ⟨t, q, rfl⟩ := hch.iface
  have HC := Lib.hid hch
  clear hch
  have g0 : w.cell? ⟨1, 0, none⟩ = some (.iface 184 (.pointer (some (A 0)))) := (hA 0 (by omega)).1
  have g1 : w.cell? ⟨2, 0, none⟩ = some (.iface 184 (.pointer (some (A 1)))) := (hA 1 (by omega)).1
  have g2 : w.cell? ⟨3, 0, none⟩ = some (.iface 184 (.pointer (some (A 2)))) := (hA 2 (by omega)).1
  have g3 : w.cell? ⟨4, 0, none⟩ = some (.iface 184 (.pointer (some (A 3)))) := (hA 3 (by omega)).1
  have g4 : w.cell? ⟨5, 0, none⟩ = some (.iface 184 (.pointer (some (A 4)))) := (hA 4 (by omega)).1
  have g5 : w.cell? ⟨6, 0, none⟩ = some (.iface 184 (.pointer (some (A 5)))) := (hA 5 (by omega)).1
  have g6 : w.cell? ⟨7, 0, none⟩ = some (.iface 184 (.pointer (some (A 6)))) := (hA 6 (by omega)).1
  have g7 : w.cell? ⟨8, 0, none⟩ = some (.iface 184 (.pointer (some (A 7)))) := (hA 7 (by omega)).1
  have g8 : w.cell? ⟨9, 0, none⟩ = some (.iface 184 (.pointer (some (A 8)))) := (hA 8 (by omega)).1
  have g9 : w.cell? ⟨10, 0, none⟩ = some (.iface 184 (.pointer (some (A 9)))) := (hA 9 (by omega)).1
  have g10 : w.cell? ⟨11, 0, none⟩ = some (.iface 184 (.pointer (some (A 10)))) := (hA 10 (by omega)).1
  have g11 : w.cell? ⟨0, 0, none⟩ = some (.iface 184 (.pointer (some (A 11)))) := (hA 11 (by omega)).1
  have g12 : w.cell? ⟨12, 0, none⟩ = some (.iface 184 (.pointer (some (A 12)))) := (hA 12 (by omega)).1
  have g13 : w.cell? ⟨13, 0, none⟩ = some (.iface 184 (.pointer (some (A 13)))) := (hA 13 (by omega)).1
  have g14 : w.cell? ⟨14, 0, none⟩ = some (.iface 184 (.pointer (some (A 14)))) := (hA 14 (by omega)).1
  have g15 : w.cell? ⟨15, 0, none⟩ = some (.iface 184 (.pointer (some (A 15)))) := (hA 15 (by omega)).1
  have g16 : w.cell? ⟨16, 0, none⟩ = some (.iface 184 (.pointer (some (A 16)))) := (hA 16 (by omega)).1
  have g17 : w.cell? ⟨17, 0, none⟩ = some (.iface 184 (.pointer (some (A 17)))) := (hA 17 (by omega)).1
  have g18 : w.cell? ⟨18, 0, none⟩ = some (.iface 184 (.pointer (some (A 18)))) := (hA 18 (by omega)).1
  have g19 : w.cell? ⟨19, 0, none⟩ = some (.iface 184 (.pointer (some (A 19)))) := (hA 19 (by omega)).1
  have g20 : w.cell? ⟨20, 0, none⟩ = some (.iface 184 (.pointer (some (A 20)))) := (hA 20 (by omega)).1
  clear hA
  go_enter Tryz.func14, Tryz.ntmps14
  go_wp2_with fail
  generalize hW0 : World.alloc w _ = W
  have e0 : W.heap[w.heap.size]? = some (.cells (errCells A) 30) := by rw [← hW0]; exact heap_alloc_new _ _
  have hbW : Below w.heap.size w W := by rw [← hW0]; exact (Below.refl _ _).alloc (Nat.le_refl _) _
  have hszW : W.heap.size = w.heap.size + 1 := by rw [← hW0]; simp
  have E0 := Lib.hid e0
  clear hW0 e0 g0 g1 g2 g3 g4 g5 g6 g7 g8 g9 g10 g11 g12 g13 g14 g15 g16 g17 g18 g19 g20
  have HW := Lib.hid (HA.out.below hbW)
  have HCW := Lib.hid (HC.out.of_cells (w' := W) fun p x hx => (hbW.cell (p := ⟨p, 1, none⟩) (block_lt_of_cell hx)).trans hx)
  clear HA HC
  have HF : Hid (found k 0 = -1) := Lib.hid (found_no (Nat.zero_le _))
  go_loopw [33, 4] (fun i f wr => ∃ m : Nat, i = .int .i64 m ∧ m ≤ 21 ∧ f = .int .i64 (found k m) ∧ wr = W) (fun i _ _ => 21 - (intOf i).toNat)
  case atStart => exact ⟨0, rfl, Nat.zero_le _, by rw [HF.out], rfl⟩
  case round =>
    obtain ⟨m, rfl, hm, rfl, rfl⟩ := hrel
    by_cases hlt : m < 21
    · have hma := HW.out m hlt
      have hka := HW.out k hk
      have l0 : wr.cell? ⟨w.heap.size, m, none⟩ = some (.iface 184 (.pointer (some (A m)))) := by simp only [World.cell?, E0.out]; exact errCells_get A m hlt
      obtain ⟨-, -, -, -, c1, ty1, r1⟩ := hma
      obtain ⟨-, -, -, -, c2, ty2, r2⟩ := hka
      have his := is_any (A k) (A m) n (.iface t q) wr HCW.out c2 c1 ty2 ty1 r2 r1
      have HIS := Lib.hid his
      clear his r1 r2
      have hmm : IntKind.i64.wrap ((m : Int) + 1) = (m : Int) + 1 := IntWalk.i64_in _ (by omega)
      rcases Nat.lt_trichotomy m k with h | h | h
      · have hd : decide (A k = A m) = false := by simpa using Errs.apart HW.out hk hlt (by omega)
        rw [hd] at HIS
        rw [found_no (Nat.le_of_lt h)]
        have HN := Lib.hid (found_no (show m + 1 ≤ k by omega))
        clear hd
        go_wp2_with (go_at_call 33; refine HIS.out.mono ?_; rintro e w' ⟨rfl, rfl⟩)
        exact ⟨⟨m + 1, by go_num, by omega, by rw [HN.out], trivial⟩, by simp [intOf]; omega⟩
      · subst h
        have hd : decide (A m = A m) = true := by simp
        rw [hd] at HIS
        rw [found_no (Nat.le_refl _)]
        have HN := Lib.hid (found_yes (show m < m + 1 by omega))
        clear hd
        go_wp2_with (go_at_call 33; refine HIS.out.mono ?_; rintro e w' ⟨rfl, rfl⟩)
        exact ⟨⟨m + 1, by go_num, by omega, by rw [HN.out], trivial⟩, by simp [intOf]; omega⟩
      · have hd : decide (A k = A m) = false := by simpa using Errs.apart HW.out hk hlt (by omega)
        rw [hd] at HIS
        rw [found_yes h]
        have HN := Lib.hid (found_yes (show k < m + 1 by omega))
        clear hd
        go_wp2_with (go_at_call 33; refine HIS.out.mono ?_; rintro e w' ⟨rfl, rfl⟩)
        exact ⟨⟨m + 1, by go_num, by omega, by rw [HN.out], trivial⟩, by simp [intOf]; omega⟩
    · obtain rfl : m = 21 := by omega
      rw [found_yes hk]
      go_wp2
      go_ret
      exact ⟨rfl, hbW⟩
set_option maxRecDepth 100000 in
set_option maxHeartbeats 4000000 in
theorem num_other (A : Nat → Addr) (a : Addr) (n : Nat) (v : Value) (w : World) (hA : Errs w A) (hne : ∀ k, k < 21 → a ≠ A k) (ca : Array Value) (ta : TypeId) (hrow : w.heap[a.block]? = some (.cells ca ta (0, 0))) (hch : Chain w a n v) :
    Calls Tryz.prog 14 #[v] w fun e w' => e = .returned (.int .i64 (-1)) ∧ Below w.heap.size w w' := by
  have HA := Lib.hid hA
  have HR := Lib.hid hrow
  have HNE := Lib.hid hne
  obtain ⟨t, q, rfl⟩ := hch.iface
  have HC := Lib.hid hch
  clear hch
  have g0 : w.cell? ⟨1, 0, none⟩ = some (.iface 184 (.pointer (some (A 0)))) := (hA 0 (by omega)).1
  have g1 : w.cell? ⟨2, 0, none⟩ = some (.iface 184 (.pointer (some (A 1)))) := (hA 1 (by omega)).1
  have g2 : w.cell? ⟨3, 0, none⟩ = some (.iface 184 (.pointer (some (A 2)))) := (hA 2 (by omega)).1
  have g3 : w.cell? ⟨4, 0, none⟩ = some (.iface 184 (.pointer (some (A 3)))) := (hA 3 (by omega)).1
  have g4 : w.cell? ⟨5, 0, none⟩ = some (.iface 184 (.pointer (some (A 4)))) := (hA 4 (by omega)).1
  have g5 : w.cell? ⟨6, 0, none⟩ = some (.iface 184 (.pointer (some (A 5)))) := (hA 5 (by omega)).1
  have g6 : w.cell? ⟨7, 0, none⟩ = some (.iface 184 (.pointer (some (A 6)))) := (hA 6 (by omega)).1
  have g7 : w.cell? ⟨8, 0, none⟩ = some (.iface 184 (.pointer (some (A 7)))) := (hA 7 (by omega)).1
  have g8 : w.cell? ⟨9, 0, none⟩ = some (.iface 184 (.pointer (some (A 8)))) := (hA 8 (by omega)).1
  have g9 : w.cell? ⟨10, 0, none⟩ = some (.iface 184 (.pointer (some (A 9)))) := (hA 9 (by omega)).1
  have g10 : w.cell? ⟨11, 0, none⟩ = some (.iface 184 (.pointer (some (A 10)))) := (hA 10 (by omega)).1
  have g11 : w.cell? ⟨0, 0, none⟩ = some (.iface 184 (.pointer (some (A 11)))) := (hA 11 (by omega)).1
  have g12 : w.cell? ⟨12, 0, none⟩ = some (.iface 184 (.pointer (some (A 12)))) := (hA 12 (by omega)).1
  have g13 : w.cell? ⟨13, 0, none⟩ = some (.iface 184 (.pointer (some (A 13)))) := (hA 13 (by omega)).1
  have g14 : w.cell? ⟨14, 0, none⟩ = some (.iface 184 (.pointer (some (A 14)))) := (hA 14 (by omega)).1
  have g15 : w.cell? ⟨15, 0, none⟩ = some (.iface 184 (.pointer (some (A 15)))) := (hA 15 (by omega)).1
  have g16 : w.cell? ⟨16, 0, none⟩ = some (.iface 184 (.pointer (some (A 16)))) := (hA 16 (by omega)).1
  have g17 : w.cell? ⟨17, 0, none⟩ = some (.iface 184 (.pointer (some (A 17)))) := (hA 17 (by omega)).1
  have g18 : w.cell? ⟨18, 0, none⟩ = some (.iface 184 (.pointer (some (A 18)))) := (hA 18 (by omega)).1
  have g19 : w.cell? ⟨19, 0, none⟩ = some (.iface 184 (.pointer (some (A 19)))) := (hA 19 (by omega)).1
  have g20 : w.cell? ⟨20, 0, none⟩ = some (.iface 184 (.pointer (some (A 20)))) := (hA 20 (by omega)).1
  clear hA hrow hne
  go_enter Tryz.func14, Tryz.ntmps14
  go_wp2_with fail
  generalize hW0 : World.alloc w _ = W
  have e0 : W.heap[w.heap.size]? = some (.cells (errCells A) 30) := by rw [← hW0]; exact heap_alloc_new _ _
  have hbW : Below w.heap.size w W := by rw [← hW0]; exact (Below.refl _ _).alloc (Nat.le_refl _) _
  have hszW : W.heap.size = w.heap.size + 1 := by rw [← hW0]; simp
  have E0 := Lib.hid e0
  clear hW0 e0 g0 g1 g2 g3 g4 g5 g6 g7 g8 g9 g10 g11 g12 g13 g14 g15 g16 g17 g18 g19 g20
  have HW := Lib.hid (HA.out.below hbW)
  have HRW := Lib.hid ((hbW.block _ (Array.getElem?_eq_some_iff.1 HR.out).1).trans HR.out)
  have HCW := Lib.hid (HC.out.of_cells (w' := W) fun p x hx => (hbW.cell (p := ⟨p, 1, none⟩) (block_lt_of_cell hx)).trans hx)
  clear HA HC
  go_loopw [33, 4] (fun i f wr => ∃ m : Nat, i = .int .i64 m ∧ m ≤ 21 ∧ f = .int .i64 (-1) ∧ wr = W) (fun i _ _ => 21 - (intOf i).toNat)
  case atStart => exact ⟨0, rfl, Nat.zero_le _, rfl, rfl⟩
  case round =>
    obtain ⟨m, rfl, hm, rfl, rfl⟩ := hrel
    by_cases hlt : m < 21
    · have hma := HW.out m hlt
      have l0 : wr.cell? ⟨w.heap.size, m, none⟩ = some (.iface 184 (.pointer (some (A m)))) := by simp only [World.cell?, E0.out]; exact errCells_get A m hlt
      obtain ⟨-, -, -, -, c1, ty1, r1⟩ := hma
      have his := is_any a (A m) n (.iface t q) wr HCW.out ca c1 ta ty1 HRW.out r1
      have hd : decide (a = A m) = false := by simpa using HNE.out m hlt
      rw [hd] at his
      have HIS := Lib.hid his
      clear his r1 hd
      go_wp2_with (go_at_call 33; refine HIS.out.mono ?_; rintro e w' ⟨rfl, rfl⟩)
      exact ⟨⟨m + 1, by go_num, by omega, rfl, trivial⟩, by simp [intOf]; omega⟩
    · obtain rfl : m = 21 := by omega
      go_wp2
      go_ret
      exact ⟨rfl, hbW⟩
end Go.Proofs.YtlbhbjmobcikfaaGreatDoor
