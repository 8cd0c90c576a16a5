/- What each function of octet and of its reference does, as contracts over this translation. -/
import Derived.Test.YtlbhbjmobcikfaaGreatDoorRows
import Derived.Test.YtlbhbjmobcikfaaGreatDoorOcOnes
import Derived.Test.YtlbhbjmobcikfaaGreatDoorMem
import Derived.WalkKit
import Derived.WalkSpells
import Derived.WalkLawsBesides
import Derived.Handy
import Derived.Lib.Hide
namespace Go.Proofs.YtlbhbjmobcikfaaGreatDoor
open Go.RowKit
theorem ret_agg {a b c d a' b' c' d' : Int} (ha : a = a') (hb : b = b') (hc : c = c') (hd : d = d') :
    Ending.returned (.agg #[.int .u64 a, .int .u64 b, .int .u64 c, .int .u64 d]) = .returned (.agg #[.int .u64 a', .int .u64 b', .int .u64 c', .int .u64 d']) := by rw [ha, hb, hc, hd]
theorem cells4 {w : World} {t : TypeId} {o : Obj} {a b c d a' b' c' d' : BitVec 64} (ha : a = a') (hb : b = b') (hc : c = c') (hd : d = d') :
    (w.alloc o).alloc (.cells #[.int .u64 (Oc.U a), .int .u64 (Oc.U b), .int .u64 (Oc.U c), .int .u64 (Oc.U d)] t) = (w.alloc o).alloc (.cells #[.int .u64 (Oc.U a'), .int .u64 (Oc.U b'), .int .u64 (Oc.U c'), .int .u64 (Oc.U d')] t) := by rw [ha, hb, hc, hd]
set_option maxHeartbeats 1000000 in
theorem not_any (a b c d : BitVec 64) (w : World) :
    Calls Tryz.prog 145 #[(.agg #[.int .u64 (Oc.U a), .int .u64 (Oc.U b), .int .u64 (Oc.U c), .int .u64 (Oc.U d)])] w fun e w' => e = .returned (.agg #[.int .u64 (Oc.U (~~~a)), .int .u64 (Oc.U (~~~b)), .int .u64 (Oc.U (~~~c)), .int .u64 (Oc.U (~~~d))]) ∧ Below w.heap.size w w' := by
  go_enter Tryz.func145, Tryz.ntmps145
  go_wp2
  go_rounds 5
  go_returns
  exact ⟨ret_agg (Oc.notU a) (Oc.notU b) (Oc.notU c) (Oc.notU d), by go_grown⟩


theorem at0 (a b c d : Value) (w : World) : (Instr.index 25 (.agg #[a, b, c, d]) (.int .i64 0)).run Tryz.prog w = .ok a w := by kernel_rfl
theorem at1 (a b c d : Value) (w : World) : (Instr.index 25 (.agg #[a, b, c, d]) (.int .i64 1)).run Tryz.prog w = .ok b w := by kernel_rfl
theorem at2 (a b c d : Value) (w : World) : (Instr.index 25 (.agg #[a, b, c, d]) (.int .i64 2)).run Tryz.prog w = .ok c w := by kernel_rfl
theorem at3 (a b c d : Value) (w : World) : (Instr.index 25 (.agg #[a, b, c, d]) (.int .i64 3)).run Tryz.prog w = .ok d w := by kernel_rfl


set_option maxHeartbeats 1000000 in
theorem has_any (a b c d : BitVec 64) (n : Nat) (hn : n < 256) (w : World) :
    Calls Tryz.prog 160 #[(.agg #[.int .u64 (Oc.U a), .int .u64 (Oc.U b), .int .u64 (Oc.U c), .int .u64 (Oc.U d)]), .int .u8 n] w fun e w' => e = .returned (.bool (Oc.mem a b c d n)) ∧ Below w.heap.size w w' := by
  have ha := Oc.U_nonneg a; have hb := Oc.U_nonneg b; have hc := Oc.U_nonneg c; have hd := Oc.U_nonneg d
  have hq : n / 64 = 0 ∨ n / 64 = 1 ∨ n / 64 = 2 ∨ n / 64 = 3 := by omega
  rcases hq with hq | hq | hq | hq
  all_goals
    go_enter Tryz.func160, Tryz.ntmps160
    go_wp2
    go_returns
    refine ⟨ret_bool ?_, by go_grown⟩
    rw [Oc.hasBit]
    unfold Oc.mem Oc.w4
    rw [hq]
    rfl

set_option maxHeartbeats 1000000 in
theorem of_any (p : Option Addr) (len cap : Nat) (bs : Nat → Nat) (hlen : len ≤ 9223372036854775807) (w : World) (hb : ∀ i, i < len → bs i < 256) (hc : ∀ i, i < len → ∃ b o, p = some ⟨b, o, none⟩ ∧ b < w.heap.size ∧ w.cell? ⟨b, o + i, none⟩ = some (.int .u8 (bs i))) :
    Calls Tryz.prog 118 #[.slice p len cap] w fun e w' => e = .returned (.agg #[.int .u64 (Oc.U (Oc.mk (Oc.anyB bs len) 0)), .int .u64 (Oc.U (Oc.mk (Oc.anyB bs len) 1)), .int .u64 (Oc.U (Oc.mk (Oc.anyB bs len) 2)), .int .u64 (Oc.U (Oc.mk (Oc.anyB bs len) 3))]) ∧ Below w.heap.size w w' := by
  go_enter Tryz.func118, Tryz.ntmps118
  go_wp2
  go_loopw [8] (fun i wr => ∃ k : Nat, k ≤ len ∧ i = .int .i64 k ∧ wr = (w.alloc (.cells #[.int .u64 0, .int .u64 0, .int .u64 0, .int .u64 0] 25)).alloc (.cells #[.int .u64 (Oc.U (Oc.mk (Oc.anyB bs k) 0)), .int .u64 (Oc.U (Oc.mk (Oc.anyB bs k) 1)), .int .u64 (Oc.U (Oc.mk (Oc.anyB bs k) 2)), .int .u64 (Oc.U (Oc.mk (Oc.anyB bs k) 3))] 25)) (fun i _ => len - (intOf i).toNat)
  case atStart =>
    exact ⟨0, Nat.zero_le _, rfl, by rw [show Oc.anyB bs 0 = fun _ => false from rfl, Oc.mk_none, Oc.mk_none, Oc.mk_none, Oc.mk_none]; rfl⟩
  case round =>
    obtain ⟨k, hk, rfl, rfl⟩ := hrel
    by_cases hlt : k < len
    · obtain ⟨b, o, rfl, hbs, hcell⟩ := hc k hlt
      have hv := hb k hlt
      generalize hv' : bs k = v at *
      have HV := Lib.hid hv'
      clear hv' hc hb
      have hc1 : ∀ o1 o2, ((w.alloc o1).alloc o2).cell? ⟨b, o + k, none⟩ = some (.int .u8 v) := by
        intro o1 o2
        rw [← hcell]
        exact (((Below.refl w.heap.size w).alloc (Nat.le_refl _) o1).alloc (by simp) o2).cell hbs
      have hq : v / 64 = 0 ∨ v / 64 = 1 ∨ v / 64 = 2 ∨ v / 64 = 3 := by omega
      rcases hq with hq | hq | hq | hq
      all_goals
        go_wp2
        refine ⟨⟨k + 1, by omega, by go_num, ?_⟩, by simp [intOf]; omega⟩
        rw [Oc.shlBit, Oc.orU]
        have ht : ∀ j, Oc.anyB bs (k + 1) j = (Oc.anyB bs k j || j == v) := fun j => by rw [← HV.out]; rfl
        refine cells4 ?_ ?_ ?_ ?_
        all_goals first
          | rw [Oc.mk_turn ht hq]
          | rw [Oc.mk_same ht (by omega)]
    · obtain rfl : k = len := by omega
      go_wp2
      go_returns
      exact ⟨rfl, by go_grown⟩
end Go.Proofs.YtlbhbjmobcikfaaGreatDoor
