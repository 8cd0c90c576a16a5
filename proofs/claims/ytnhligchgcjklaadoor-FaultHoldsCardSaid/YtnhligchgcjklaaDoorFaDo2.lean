/- sentinels, Code. -/
import Derived.Test.YtnhligchgcjklaaDoorFaDo1
import Derived.Test.YtnhligchgcjklaaDoorErNum
import Derived.Shelf.Abstract
namespace Go.Proofs.YtnhligchgcjklaaDoor
open Go.RowKit Go.Extern.Stop Go.Stop Go.Extern Go.Shelf
theorem Tryd.entersCode : ∀ args w, (callFunc 28 args).run Tryd.prog w = .ok (.enter 28 args) w := enters_of Tryd.func28 (by kernel_rfl) rfl
theorem code1_any (pe ps : Addr) (t : TypeId) (q : Value) (t' : TypeId) (q' : Value) (b : Bool) (w : World) (h0 : w.cell? pe = some (.iface t q)) (h1 : w.cell? ps = some (.iface t' q'))
    (his : Calls Tryd.prog 29 #[.iface t q, .iface t' q'] w fun e w' => e = .returned (.bool b) ∧ w = w') :
    Calls Tryd.prog 28 #[.pointer (some pe), .pointer (some ps)] w fun e w' => e = .returned (.bool b) ∧ w = w' := by
  have HIS := Lib.hid his
  clear his
  go_enter Tryd.func28, Tryd.ntmps28
  go_wp2_with fail
  refine HIS.out.mono ?_
  rintro e w' ⟨rfl, rfl⟩
  go_wp2
  go_ret
  exact ⟨rfl, rfl⟩
set_option maxRecDepth 100000 in
set_option maxHeartbeats 4000000 in
theorem sentinels_any (A : Nat → Addr) (w : World) (hA : Errs w A) :
    Calls Tryd.prog 26 #[] w fun e w' => e = .returned (.slice (some ⟨w.heap.size, 0, none⟩) 21 21) ∧ w'.heap.size = w.heap.size + 1 ∧ w'.heap[w.heap.size]? = some (.cells (errCells A) 25) ∧ Below w.heap.size w w' := by
  have g0 : w.cell? ⟨1, 0, none⟩ = some (.iface 63 (.pointer (some (A 0)))) := (hA 0 (by omega)).1
  have g1 : w.cell? ⟨0, 0, none⟩ = some (.iface 63 (.pointer (some (A 1)))) := (hA 1 (by omega)).1
  have g2 : w.cell? ⟨2, 0, none⟩ = some (.iface 63 (.pointer (some (A 2)))) := (hA 2 (by omega)).1
  have g3 : w.cell? ⟨3, 0, none⟩ = some (.iface 63 (.pointer (some (A 3)))) := (hA 3 (by omega)).1
  have g4 : w.cell? ⟨4, 0, none⟩ = some (.iface 63 (.pointer (some (A 4)))) := (hA 4 (by omega)).1
  have g5 : w.cell? ⟨5, 0, none⟩ = some (.iface 63 (.pointer (some (A 5)))) := (hA 5 (by omega)).1
  have g6 : w.cell? ⟨6, 0, none⟩ = some (.iface 63 (.pointer (some (A 6)))) := (hA 6 (by omega)).1
  have g7 : w.cell? ⟨7, 0, none⟩ = some (.iface 63 (.pointer (some (A 7)))) := (hA 7 (by omega)).1
  have g8 : w.cell? ⟨8, 0, none⟩ = some (.iface 63 (.pointer (some (A 8)))) := (hA 8 (by omega)).1
  have g9 : w.cell? ⟨9, 0, none⟩ = some (.iface 63 (.pointer (some (A 9)))) := (hA 9 (by omega)).1
  have g10 : w.cell? ⟨10, 0, none⟩ = some (.iface 63 (.pointer (some (A 10)))) := (hA 10 (by omega)).1
  have g11 : w.cell? ⟨11, 0, none⟩ = some (.iface 63 (.pointer (some (A 11)))) := (hA 11 (by omega)).1
  have g12 : w.cell? ⟨12, 0, none⟩ = some (.iface 63 (.pointer (some (A 12)))) := (hA 12 (by omega)).1
  have g13 : w.cell? ⟨13, 0, none⟩ = some (.iface 63 (.pointer (some (A 13)))) := (hA 13 (by omega)).1
  have g14 : w.cell? ⟨14, 0, none⟩ = some (.iface 63 (.pointer (some (A 14)))) := (hA 14 (by omega)).1
  have g15 : w.cell? ⟨15, 0, none⟩ = some (.iface 63 (.pointer (some (A 15)))) := (hA 15 (by omega)).1
  have g16 : w.cell? ⟨16, 0, none⟩ = some (.iface 63 (.pointer (some (A 16)))) := (hA 16 (by omega)).1
  have g17 : w.cell? ⟨17, 0, none⟩ = some (.iface 63 (.pointer (some (A 17)))) := (hA 17 (by omega)).1
  have g18 : w.cell? ⟨18, 0, none⟩ = some (.iface 63 (.pointer (some (A 18)))) := (hA 18 (by omega)).1
  have g19 : w.cell? ⟨19, 0, none⟩ = some (.iface 63 (.pointer (some (A 19)))) := (hA 19 (by omega)).1
  have g20 : w.cell? ⟨20, 0, none⟩ = some (.iface 63 (.pointer (some (A 20)))) := (hA 20 (by omega)).1
  clear hA
  go_enter Tryd.func26, Tryd.ntmps26
  go_wp2
  generalize hW0 : World.alloc w _ = W
  have e0 : W.heap[w.heap.size]? = some (.cells (errCells A) 25) := by rw [← hW0]; exact heap_alloc_new _ _
  have hbW : Below w.heap.size w W := by rw [← hW0]; exact (Below.refl _ _).alloc (Nat.le_refl _) _
  have hszW : W.heap.size = w.heap.size + 1 := by rw [← hW0]; simp
  clear hW0 g0 g1 g2 g3 g4 g5 g6 g7 g8 g9 g10 g11 g12 g13 g14 g15 g16 g17 g18 g19 g20
  go_ret
  exact ⟨rfl, hszW, e0, hbW⟩
theorem code_nil (w : World) : Calls Tryd.prog 11 #[.nilIface] w fun e w' => e = .returned (.int .i64 0) ∧ Below w.heap.size w w' := by
  go_enter Tryd.func11, Tryd.ntmps11
  go_wp2
  go_ret
  exact ⟨rfl, (Below.refl _ _).alloc (Nat.le_refl _) _⟩
/-- What finds leaves of a search that leaves all as it is. -/
theorem finds_same (K : FuncId) (first caps : Array Value) (b : Bool) (w : World) (hE : ∀ args w, (callFunc K args).run Tryd.prog w = .ok (.enter K args) w)
    (hc : Calls Tryd.prog K (first ++ caps) (w.alloc (.cells #[.bool false] 4)) fun e w' => e = .returned (.bool b) ∧ w.alloc (.cells #[.bool false] 4) = w') :
    Calls Tryd.prog 27 #[.func (.func K) first caps] w fun e w' => e = .returned (.bool b) ∧ Below w.heap.size w w' := by
  refine (finds_of K first caps b w (fun w1 => w.alloc (.cells #[.bool false] 4) = w1) hE (fun w1 h => by rw [← h]; exact heap_alloc_new _ _) hc).mono ?_
  rintro e w' ⟨rfl, w1, rfl, rfl⟩
  exact ⟨rfl, ((Below.refl _ _).alloc (Nat.le_refl _) _).setCell (Nat.le_refl _) _⟩
/-- One look of Code's. -/
theorem code_look {A : Nat → Addr} {a : Addr} {n m : Nat} {t : TypeId} {q : Value} {w : World} {B : Nat} (hE : Errs w A) (hm : m < 21) (hch : Chain w a n (.iface t q)) (ca : Array Value) (ta : TypeId) (ha : w.heap[a.block]? = some (.cells ca ta (0, 0)))
    (hB : w.heap[B]? = some (.cells #[.iface t q] 25)) {ps : Nat} (hps : w.cell? ⟨ps, 0, none⟩ = some (.iface 63 (.pointer (some (A m))))) :
    Calls Tryd.prog 27 #[.func (.func 28) #[] #[.pointer (some ⟨B, 0, none⟩), .pointer (some ⟨ps, 0, none⟩)]] w fun e w' => e = .returned (.bool (decide (a = A m))) ∧ Below w.heap.size w w' := by
  refine finds_same _ _ _ _ w Tryd.entersCode ?_
  have hb := (Below.refl w.heap.size w).alloc (Nat.le_refl _) (.cells #[.bool false] 4)
  obtain ⟨-, -, -, -, c1, ty1, r1⟩ := hE m hm
  have hB0 : w.cell? ⟨B, 0, none⟩ = some (.iface t q) := by unfold World.cell?; rw [hB]; rfl
  exact code1_any _ _ t q _ _ _ _ ((hb.cell (p := ⟨B, 0, none⟩) (block_lt_of_cell hB0)).trans hB0) ((hb.cell (p := ⟨ps, 0, none⟩) (block_lt_of_cell hps)).trans hps)
    (is_any a (A m) n (.iface t q) _ (hch.of_cells fun p x hx => (hb.cell (p := ⟨p, 1, none⟩) (block_lt_of_cell hx)).trans hx) ca c1 ta ty1 (keep_blk hb ha) (keep_blk hb r1))
set_option maxRecDepth 100000 in
set_option maxHeartbeats 4000000 in
theorem code_hit (A : Nat → Addr) (k n : Nat) (v : Value) (w : World) (hA : Errs w A) (hk : k < 21) (hch : Chain w (A k) n v) :
    Calls Tryd.prog 11 #[v] w fun e w' => e = .returned (.int .i64 ((k : Int) + 1)) ∧ Below w.heap.size w w' := by
  obtain ⟨t, q, rfl⟩ := hch.iface
  obtain ⟨-, -, -, -, ca, ta, hrow⟩ := hA k hk
  have hb0 := (Below.refl w.heap.size w).alloc (Nat.le_refl _) (.cells #[.iface t q] 25)
  have z0 := heap_alloc_new w (.cells #[.iface t q] 25)
  have HS := Lib.hid (sentinels_any A _ (hA.below hb0))
  have HA := Lib.hid (hA.below hb0); have HR := Lib.hid (keep_blk hb0 hrow); have HB0 := Lib.hid hb0; have Z0 := Lib.hid z0
  have HC := Lib.hid (hch.of_cells fun p x hx => (hb0.cell (p := ⟨p, 1, none⟩) (block_lt_of_cell hx)).trans hx)
  clear hA hrow hch hb0 z0
  go_enter Tryd.func11, Tryd.ntmps11
  go_wp2_with fail
  refine HS.out.mono ?_
  rintro e W ⟨rfl, hsz, e0, hbW⟩
  have E0 := Lib.hid e0; have HW := Lib.hid (HA.out.below hbW); have HRW := Lib.hid (keep_blk hbW HR.out); have ZW := Lib.hid (keep_blk hbW Z0.out); have HBW := Lib.hid (HB0.out.trans (hbW.mono (by simp)))
  have HCW := Lib.hid (HC.out.of_cells (w' := W) fun p x hx => (hbW.cell (p := ⟨p, 1, none⟩) (block_lt_of_cell hx)).trans hx)
  have HSZ := Lib.hid hsz
  clear HS HA HR Z0 HB0 HC e0 hbW hsz
  have hmf : ∀ (fn : Fn) (first cap : Array Value) (w : World), (Instr.makeFunc fn first cap).run Tryd.prog w = .ok (.func fn first cap) w := fun _ _ _ _ => rfl
  go_wp2_with fail
  go_loopw [9] (fun i wr => ∃ m : Nat, i = .int .i64 m ∧ m ≤ 21 ∧ m ≤ k ∧ Below W.heap.size W wr) (fun i _ => 21 - (intOf i).toNat)
  case atStart => exact ⟨0, rfl, Nat.zero_le _, Nat.zero_le _, Below.refl _ _⟩
  case round =>
    obtain ⟨m, rfl, hm, hmk, hb⟩ := hrel
    have hlt : m < 21 := by omega
    rcases Nat.lt_or_eq_of_le hmk with h | h
    · have hd : decide (A k = A m) = false := by simpa using Errs.apart HW.out hk hlt (by omega)
      have l0 : wr.cell? ⟨w.heap.size + 1, m, none⟩ = some (.iface 63 (.pointer (some (A m)))) := by
        have : W.cell? ⟨w.heap.size + 1, m, none⟩ = some (.iface 63 (.pointer (some (A m)))) := by
          have := E0.out; rw [show (w.alloc (.cells #[.iface t q] 25)).heap.size = w.heap.size + 1 by simp] at this
          simp only [World.cell?, this]; exact errCells_get A m hlt
        exact (hb.cell (p := ⟨w.heap.size + 1, m, none⟩) (block_lt_of_cell this)).trans this
      have hb2 := (Below.refl wr.heap.size wr).alloc (Nat.le_refl _) (.cells #[.iface 63 (.pointer (some (A m)))] 25)
      have hb3 := hb.trans (hb2.mono hb.size)
      have hlk := code_look (HW.out.below hb3) hlt (HCW.out.of_cells (w' := wr.alloc (.cells #[.iface 63 (.pointer (some (A m)))] 25)) fun p x hx => (hb3.cell (p := ⟨p, 1, none⟩) (block_lt_of_cell hx)).trans hx) ca ta (keep_blk hb3 HRW.out) (keep_blk hb3 ZW.out) (ps := wr.heap.size) (by rw [cell_new]; rfl)
      have hmm : IntKind.i64.wrap ((m : Int) + 1) = (m : Int) + 1 := IntWalk.i64_in _ (by omega)
      rw [hd] at hlk
      have HLK := Lib.hid hlk; have HB3 := Lib.hid hb3; have HB := Lib.hid hb
      clear hlk hb3 hb2 hb hd
      go_wp2_with fail
      refine HLK.out.mono ?_
      rintro e w4 ⟨rfl, hb4⟩
      have HB4 := Lib.hid (HB3.out.trans (hb4.mono HB3.out.size))
      clear hb4 HLK
      go_wp2
      exact ⟨⟨m + 1, by go_num, by omega, by omega, HB4.out⟩, by simp [intOf]; omega⟩
    · subst h
      have hd : decide (A m = A m) = true := by simp
      have l0 : wr.cell? ⟨w.heap.size + 1, m, none⟩ = some (.iface 63 (.pointer (some (A m)))) := by
        have : W.cell? ⟨w.heap.size + 1, m, none⟩ = some (.iface 63 (.pointer (some (A m)))) := by
          have := E0.out; rw [show (w.alloc (.cells #[.iface t q] 25)).heap.size = w.heap.size + 1 by simp] at this
          simp only [World.cell?, this]; exact errCells_get A m hlt
        exact (hb.cell (p := ⟨w.heap.size + 1, m, none⟩) (block_lt_of_cell this)).trans this
      have hb2 := (Below.refl wr.heap.size wr).alloc (Nat.le_refl _) (.cells #[.iface 63 (.pointer (some (A m)))] 25)
      have hb3 := hb.trans (hb2.mono hb.size)
      have hlk := code_look (HW.out.below hb3) hlt (HCW.out.of_cells (w' := wr.alloc (.cells #[.iface 63 (.pointer (some (A m)))] 25)) fun p x hx => (hb3.cell (p := ⟨p, 1, none⟩) (block_lt_of_cell hx)).trans hx) ca ta (keep_blk hb3 HRW.out) (keep_blk hb3 ZW.out) (ps := wr.heap.size) (by rw [cell_new]; rfl)
      have hmm : IntKind.i64.wrap ((m : Int) + 1) = (m : Int) + 1 := IntWalk.i64_in _ (by omega)
      rw [hd] at hlk
      have HLK := Lib.hid hlk; have HB3 := Lib.hid hb3; have HB := Lib.hid hb
      clear hlk hb3 hb2 hb hd
      go_wp2_with fail
      refine HLK.out.mono ?_
      rintro e w4 ⟨rfl, hb4⟩
      have HB4 := Lib.hid (HB3.out.trans (hb4.mono HB3.out.size))
      clear hb4 HLK
      go_wp2
      go_ret
      exact ⟨rfl, HBW.out.trans (HB4.out.mono (by have := HBW.out.size; omega))⟩
set_option maxRecDepth 100000 in
set_option maxHeartbeats 4000000 in
theorem code_other (A : Nat → Addr) (a : Addr) (n : Nat) (v : Value) (w : World) (hA : Errs w A) (hne : ∀ k, k < 21 → a ≠ A k) (ca : Array Value) (ta : TypeId) (hrow : w.heap[a.block]? = some (.cells ca ta (0, 0))) (hch : Chain w a n v) :
    Calls Tryd.prog 11 #[v] w fun e w' => e = .returned (.int .i64 (-1)) ∧ Below w.heap.size w w' := by
  have HNE := Lib.hid hne
  obtain ⟨t, q, rfl⟩ := hch.iface
  have hb0 := (Below.refl w.heap.size w).alloc (Nat.le_refl _) (.cells #[.iface t q] 25)
  have z0 := heap_alloc_new w (.cells #[.iface t q] 25)
  have HS := Lib.hid (sentinels_any A _ (hA.below hb0))
  have HA := Lib.hid (hA.below hb0); have HR := Lib.hid (keep_blk hb0 hrow); have HB0 := Lib.hid hb0; have Z0 := Lib.hid z0
  have HC := Lib.hid (hch.of_cells fun p x hx => (hb0.cell (p := ⟨p, 1, none⟩) (block_lt_of_cell hx)).trans hx)
  clear hA hrow hch hb0 z0 hne
  go_enter Tryd.func11, Tryd.ntmps11
  go_wp2_with fail
  refine HS.out.mono ?_
  rintro e W ⟨rfl, hsz, e0, hbW⟩
  have E0 := Lib.hid e0; have HW := Lib.hid (HA.out.below hbW); have HRW := Lib.hid (keep_blk hbW HR.out); have ZW := Lib.hid (keep_blk hbW Z0.out); have HBW := Lib.hid (HB0.out.trans (hbW.mono (by simp)))
  have HCW := Lib.hid (HC.out.of_cells (w' := W) fun p x hx => (hbW.cell (p := ⟨p, 1, none⟩) (block_lt_of_cell hx)).trans hx)
  have HSZ := Lib.hid hsz
  clear HS HA HR Z0 HB0 HC e0 hbW hsz
  have hmf : ∀ (fn : Fn) (first cap : Array Value) (w : World), (Instr.makeFunc fn first cap).run Tryd.prog w = .ok (.func fn first cap) w := fun _ _ _ _ => rfl
  go_wp2_with fail
  go_loopw [9] (fun i wr => ∃ m : Nat, i = .int .i64 m ∧ m ≤ 21 ∧ Below W.heap.size W wr) (fun i _ => 21 - (intOf i).toNat)
  case atStart => exact ⟨0, rfl, Nat.zero_le _, Below.refl _ _⟩
  case round =>
    obtain ⟨m, rfl, hm, hb⟩ := hrel
    by_cases hlt : m < 21
    · have hd : decide (a = A m) = false := by simpa using HNE.out m hlt
      have l0 : wr.cell? ⟨w.heap.size + 1, m, none⟩ = some (.iface 63 (.pointer (some (A m)))) := by
        have : W.cell? ⟨w.heap.size + 1, m, none⟩ = some (.iface 63 (.pointer (some (A m)))) := by
          have := E0.out; rw [show (w.alloc (.cells #[.iface t q] 25)).heap.size = w.heap.size + 1 by simp] at this
          simp only [World.cell?, this]; exact errCells_get A m hlt
        exact (hb.cell (p := ⟨w.heap.size + 1, m, none⟩) (block_lt_of_cell this)).trans this
      have hb2 := (Below.refl wr.heap.size wr).alloc (Nat.le_refl _) (.cells #[.iface 63 (.pointer (some (A m)))] 25)
      have hb3 := hb.trans (hb2.mono hb.size)
      have hlk := code_look (HW.out.below hb3) hlt (HCW.out.of_cells (w' := wr.alloc (.cells #[.iface 63 (.pointer (some (A m)))] 25)) fun p x hx => (hb3.cell (p := ⟨p, 1, none⟩) (block_lt_of_cell hx)).trans hx) ca ta (keep_blk hb3 HRW.out) (keep_blk hb3 ZW.out) (ps := wr.heap.size) (by rw [cell_new]; rfl)
      have hmm : IntKind.i64.wrap ((m : Int) + 1) = (m : Int) + 1 := IntWalk.i64_in _ (by omega)
      rw [hd] at hlk
      have HLK := Lib.hid hlk; have HB3 := Lib.hid hb3; have HB := Lib.hid hb
      clear hlk hb3 hb2 hb hd
      go_wp2_with fail
      refine HLK.out.mono ?_
      rintro e w4 ⟨rfl, hb4⟩
      have HB4 := Lib.hid (HB3.out.trans (hb4.mono HB3.out.size))
      clear hb4 HLK
      go_wp2
      exact ⟨⟨m + 1, by go_num, by omega, HB4.out⟩, by simp [intOf]; omega⟩
    · obtain rfl : m = 21 := by omega
      have HB := Lib.hid hb
      clear hb
      go_wp2
      go_ret
      exact ⟨rfl, HBW.out.trans (HB.out.mono (by have := HBW.out.size; omega))⟩
end Go.Proofs.YtnhligchgcjklaaDoor
