/- The law's sentinel and code; the words of a number. -/
import Derived.Test.YtnhligchgcjklaaDoorErNum
import Derived.Deep.CutBlock
namespace Go.Proofs.YtnhligchgcjklaaDoor
open Go.RowKit Go.Extern.Stop Go.Stop Go.Extern
def sentCells (A : Nat → Addr) : Array Value := #[.nilIface, .iface 63 (.pointer (some (A 0))), .iface 63 (.pointer (some (A 1))), .iface 63 (.pointer (some (A 2))), .iface 63 (.pointer (some (A 3))), .iface 63 (.pointer (some (A 4))), .iface 63 (.pointer (some (A 5))), .iface 63 (.pointer (some (A 6))), .iface 63 (.pointer (some (A 7))), .iface 63 (.pointer (some (A 8))), .iface 63 (.pointer (some (A 9))), .iface 63 (.pointer (some (A 10))), .iface 63 (.pointer (some (A 11))), .iface 63 (.pointer (some (A 12))), .iface 63 (.pointer (some (A 13))), .iface 63 (.pointer (some (A 14))), .iface 63 (.pointer (some (A 15))), .iface 63 (.pointer (some (A 16))), .iface 63 (.pointer (some (A 17))), .iface 63 (.pointer (some (A 18))), .iface 63 (.pointer (some (A 19))), .iface 63 (.pointer (some (A 20)))]
theorem sentCells_zero (A : Nat → Addr) : (sentCells A)[0]? = some .nilIface := rfl
theorem sentCells_succ (A : Nat → Addr) : ∀ k, k < 21 → (sentCells A)[k + 1]? = some (.iface 63 (.pointer (some (A k))))
  | 0, _ => rfl
  | 1, _ => rfl
  | 2, _ => rfl
  | 3, _ => rfl
  | 4, _ => rfl
  | 5, _ => rfl
  | 6, _ => rfl
  | 7, _ => rfl
  | 8, _ => rfl
  | 9, _ => rfl
  | 10, _ => rfl
  | 11, _ => rfl
  | 12, _ => rfl
  | 13, _ => rfl
  | 14, _ => rfl
  | 15, _ => rfl
  | 16, _ => rfl
  | 17, _ => rfl
  | 18, _ => rfl
  | 19, _ => rfl
  | 20, _ => rfl
  | k + 21, hk => absurd hk (by omega)
theorem new_any (s : ByteArray) (w : World) : Calls Tryd.prog 25 #[.string s] w fun e w' => e = .returned (.iface 63 (.pointer (some ⟨w.heap.size, 0, none⟩))) ∧ w' = w.alloc (.cells #[.string s] 65) := by
  go_enter Tryd.func25, Tryd.ntmps25
  go_wp2
  go_ret
  exact ⟨rfl, rfl⟩
set_option maxRecDepth 100000 in
set_option maxHeartbeats 4000000 in
theorem sentinel_of (A : Nat → Addr) (n : Int) (w : World) (hA : Errs w A) : Calls Tryd.prog 9 #[.int .i64 n] w fun e w' =>
    ((n = 0 ∧ e = .returned .nilIface) ∨ (∃ k : Nat, k < 21 ∧ n = (k : Int) + 1 ∧ e = .returned (.iface 63 (.pointer (some (A k))))) ∨
      ((n < 0 ∨ 21 < n) ∧ ∃ p, e = .returned (.iface 63 (.pointer (some ⟨p, 0, none⟩))) ∧ w.heap.size ≤ p ∧ ∃ c t, w'.heap[p]? = some (.cells c t (0, 0)))) ∧ Below w.heap.size w w' := by
  have g0 : w.cell? ⟨1, 0, none⟩ = some (.iface 63 (.pointer (some (A 0)))) := (hA 0 (by omega)).1
  have g1 : w.cell? ⟨0, 0, none⟩ = some (.iface 63 (.pointer (some (A 1)))) := (hA 1 (by omega)).1
  have g2 : w.cell? ⟨2, 0, none⟩ = some (.iface 63 (.pointer (some (A 2)))) := (hA 2 (by omega)).1
  have g3 : w.cell? ⟨3, 0, none⟩ = some (.iface 63 (.pointer (some (A 3)))) := (hA 3 (by omega)).1
  have g4 : w.cell? ⟨4, 0, none⟩ = some (.iface 63 (.pointer (some (A 4)))) := (hA 4 (by omega)).1
  have g5 : w.cell? ⟨5, 0, none⟩ = some (.iface 63 (.pointer (some (A 5)))) := (hA 5 (by omega)).1
  have g6 : w.cell? ⟨6, 0, none⟩ = some (.iface 63 (.pointer (some (A 6)))) := (hA 6 (by omega)).1
  have g7 : w.cell? ⟨7, 0, none⟩ = some (.iface 63 (.pointer (some (A 7)))) := (hA 7 (by omega)).1
  have g8 : w.cell? ⟨8, 0, none⟩ = some (.iface 63 (.pointer (some (A 8)))) := (hA 8 (by omega)).1
  have g9 : w.cell? ⟨9, 0, none⟩ = some (.iface 63 (.pointer (some (A 9)))) := (hA 9 (by omega)).1
  have g10 : w.cell? ⟨10, 0, none⟩ = some (.iface 63 (.pointer (some (A 10)))) := (hA 10 (by omega)).1
  have g11 : w.cell? ⟨11, 0, none⟩ = some (.iface 63 (.pointer (some (A 11)))) := (hA 11 (by omega)).1
  have g12 : w.cell? ⟨12, 0, none⟩ = some (.iface 63 (.pointer (some (A 12)))) := (hA 12 (by omega)).1
  have g13 : w.cell? ⟨13, 0, none⟩ = some (.iface 63 (.pointer (some (A 13)))) := (hA 13 (by omega)).1
  have g14 : w.cell? ⟨14, 0, none⟩ = some (.iface 63 (.pointer (some (A 14)))) := (hA 14 (by omega)).1
  have g15 : w.cell? ⟨15, 0, none⟩ = some (.iface 63 (.pointer (some (A 15)))) := (hA 15 (by omega)).1
  have g16 : w.cell? ⟨16, 0, none⟩ = some (.iface 63 (.pointer (some (A 16)))) := (hA 16 (by omega)).1
  have g17 : w.cell? ⟨17, 0, none⟩ = some (.iface 63 (.pointer (some (A 17)))) := (hA 17 (by omega)).1
  have g18 : w.cell? ⟨18, 0, none⟩ = some (.iface 63 (.pointer (some (A 18)))) := (hA 18 (by omega)).1
  have g19 : w.cell? ⟨19, 0, none⟩ = some (.iface 63 (.pointer (some (A 19)))) := (hA 19 (by omega)).1
  have g20 : w.cell? ⟨20, 0, none⟩ = some (.iface 63 (.pointer (some (A 20)))) := (hA 20 (by omega)).1
  clear hA
  go_enter Tryd.func9, Tryd.ntmps9
  go_upto_region 2 with (fail)
  generalize hW0 : World.alloc w _ = W
  have e0 : W.heap[w.heap.size]? = some (.cells (sentCells A) 25) := by rw [← hW0]; exact heap_alloc_new _ _
  have hbW : Below w.heap.size w W := by rw [← hW0]; exact (Below.refl _ _).alloc (Nat.le_refl _) _
  have HB := Lib.hid hbW; have Z := Lib.hid e0
  clear hW0 e0 hbW g0 g1 g2 g3 g4 g5 g6 g7 g8 g9 g10 g11 g12 g13 g14 g15 g16 g17 g18 g19 g20
  by_cases h0 : n < 0
  · have HN := Lib.hid h0
    go_wp2_with fail
    refine (new_any _ _).mono ?_
    rintro e w' ⟨rfl, hw⟩
    have HW := Lib.hid hw
    clear hw
    go_wp2
    go_ret
    refine ⟨.inr (.inr ⟨.inl HN.out, _, rfl, HB.out.size, ?_⟩), ?_⟩
    · rw [HW.out]; exact ⟨_, _, heap_alloc_new _ _⟩
    · rw [HW.out]; exact HB.out.alloc HB.out.size _
  · by_cases h1 : 21 < n
    · have h2 : (22 : Int) ≤ n := by omega
      have h3 : (0 : Int) ≤ n := by omega
      have HN := Lib.hid h1
      clear h0 h1
      go_wp2_with fail
      refine (new_any _ _).mono ?_
      rintro e w' ⟨rfl, hw⟩
      have HW := Lib.hid hw
      clear hw
      go_wp2
      go_ret
      refine ⟨.inr (.inr ⟨.inr HN.out, _, rfl, HB.out.size, ?_⟩), ?_⟩
      · rw [HW.out]; exact ⟨_, _, heap_alloc_new _ _⟩
      · rw [HW.out]; exact HB.out.alloc HB.out.size _
    · obtain ⟨m, rfl⟩ : ∃ m : Nat, n = (m : Int) := ⟨n.toNat, by omega⟩
      have hm : m < 22 := by omega
      have hm' : decide ((22 : Int) ≤ (m : Int)) = false := by simp; omega
      obtain ⟨v, hv⟩ : ∃ v, W.cell? ⟨w.heap.size, m, none⟩ = some v ∧ ((m = 0 ∧ v = .nilIface) ∨ ∃ k : Nat, k < 21 ∧ m = k + 1 ∧ v = .iface 63 (.pointer (some (A k)))) := by
        unfold World.cell?; rw [Z.out]
        cases m with
        | zero => exact ⟨_, sentCells_zero A, .inl ⟨rfl, rfl⟩⟩
        | succ k => exact ⟨_, sentCells_succ A k (by omega), .inr ⟨k, by omega, rfl, rfl⟩⟩
      have hc := hv.1
      have HV := Lib.hid hv.2
      clear hv h0 h1
      go_wp2
      go_ret
      refine ⟨?_, HB.out⟩
      rcases HV.out with ⟨rfl, rfl⟩ | ⟨k, hk, rfl, rfl⟩
      · exact .inl ⟨rfl, rfl⟩
      · exact .inr (.inl ⟨k, hk, by omega, rfl⟩)
end Go.Proofs.YtnhligchgcjklaaDoor
