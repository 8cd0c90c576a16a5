/- errors.As for a *api.Fault, a *api.Listed: the walks. -/
import Derived.Test.YtlbhbjmobcikfaaGreatDoorErAs0
import Derived.Deep.LoopGhost
namespace Go.Proofs.YtlbhbjmobcikfaaGreatDoor
open Go.RowKit Go.Extern.Stop Go.Stop Go.Extern
set_option maxRecDepth 100000 in
set_option maxHeartbeats 4000000 in
theorem as_in_F {N : Nat} (hN : N = Tryz.prog.globals.size) (b a t : Addr) (l : List (Bool × Int × Nat)) (v : Value) (w : World) (hw : Wrapped w (.iface 184 (.pointer (some b))) l v) (ha : w.cell? a = some (.pointer (some t))) (old : Value) (ht : w.cell? t = some old) (hf : w.frozen? t = false) :
    Calls Tryz.prog 57 #[v, .iface 67 (.pointer (some t)), .agg #[.pointer (some ⟨N, 67, none⟩), .pointer (some a), .int .u64 150], .iface 108 (.agg #[.pointer (some ⟨N, 65, none⟩)])] w (AsEnd false l t w) := by
  have xTypeOf := @run_callFunc_extern Tryz.prog 52 _ ReflectliteType.typeOf Tryz.func52 (by kernel_rfl) (by kernel_rfl) (by kernel_rfl) (by kernel_rfl)
  have xValueOf := @run_callFunc_extern Tryz.prog 54 _ (fun args => ReflectliteValue.unpack (args.getD 0 (.tuple #[]))) Tryz.func54 (by kernel_rfl) (by kernel_rfl) (by kernel_rfl) (by kernel_rfl)
  have xAss := @run_callFunc_extern Tryz.prog 196 _ (ReflectliteType.relation "AssignableTo" ReflectliteType.assignableTo) Tryz.func196 (by kernel_rfl) (by kernel_rfl) (by kernel_rfl) (by kernel_rfl)
  have xElemV := @run_callFunc_extern Tryz.prog 75 _ (ReflectliteValue.method (ReflectliteValue.valueError "reflectlite.Value.Elem" 0) ReflectliteValue.elem) Tryz.func75 (by kernel_rfl) (by kernel_rfl) (by kernel_rfl) (by kernel_rfl)
  have xSet := @run_callFunc_extern Tryz.prog 76 _ ReflectliteValue.set Tryz.func76 (by kernel_rfl) (by kernel_rfl) (by kernel_rfl) (by kernel_rfl)
  have tE := Tryz.asTypeOfE hN; have tF := Tryz.asTypeOfF hN
  have lE := Tryz.asLacksE; have lF := Tryz.asLacksF
  have sE := Tryz.asAssFE hN; have sF := Tryz.asAssFF hN
  have mA := Tryz.asAssM
  have vK := Tryz.asValueF hN
  have uE := Tryz.noUnwrapE; have zE := Tryz.noUnwrapsE; have uF := Tryz.hasUnwrapF
  have mF := Tryz.methodUnwrapF
  have hlt := block_lt_of_cell ha
  have hltt := block_lt_of_cell ht
  obtain ⟨W, hW⟩ : ∃ W, W = w.alloc (.cells #[.pointer (some ⟨N, 67, none⟩), .pointer (some a), .int .u64 150] 90) := ⟨_, rfl⟩
  have hbW : Below w.heap.size w W := by rw [hW]; exact (Below.refl _ _).alloc (Nat.le_refl _) _
  have zW : W.heap[w.heap.size]? = some (.cells #[.pointer (some ⟨N, 67, none⟩), .pointer (some a), .int .u64 150] 90) := by rw [hW]; exact heap_alloc_new w _
  have eV := Tryz.asElemVF hN a t W ((hbW.cell hlt).trans ha)
  have hsW : w.heap.size < W.heap.size := by rw [hW]; simp
  have b0 : W.cell? ⟨w.heap.size, 0, none⟩ = some (.pointer (some ⟨N, 67, none⟩)) := by simp [World.cell?, zW]
  have b1 : W.cell? ⟨w.heap.size, 1, none⟩ = some (.pointer (some a)) := by simp [World.cell?, zW]
  have b2 : W.cell? ⟨w.heap.size, 2, none⟩ = some (.int .u64 150) := by simp [World.cell?, zW]
  have htW := (hbW.cell hltt).trans ht
  have hfW : W.frozen? t = false := (hbW.frozen hltt).trans hf
  have st := fun e : Addr => Tryz.asSetF hN t ⟨W.heap.size, 0, none⟩ e old (W.alloc (.cells #[.pointer (some e)] 65)) (by rw [cell_new]; rfl) (((Below.refl W.heap.size W).alloc (Nat.le_refl _) _).cell (by have := hbW.size; omega) |>.trans htW) (((Below.refl W.heap.size W).alloc (Nat.le_refl _) _).frozen (by have := hbW.size; omega) |>.trans hfW)
  have HW := Lib.hid (hw.later hbW); have HBW := Lib.hid hbW; have HWe := Lib.hid hW
  clear hw ha ht hf hbW zW htW hfW hN hW
  go_enter Tryz.func57, Tryz.ntmps57
  go_wp2_with fail
  rw [← HWe.out]
  go_loopg [0] l.length (fun k x wr => wr = W ∧ ∃ l', l'.length = k ∧ Hid (Wrapped W (.iface 184 (.pointer (some b))) l' x) ∧ Hid (firstOf false l' = firstOf false l))
  case atStart => exact ⟨rfl, l, rfl, HW, Lib.hid rfl⟩
  case round =>
    obtain ⟨rfl, l', hlen, HK, HFi⟩ := hrel
    have HK' := HK.out
    clear HK
    rcases HK' with _ | @⟨l1, v1, n, p, h0, h1, k⟩
    · go_wp2
      go_ret
      exact asEnd_none (HFi.out.symm.trans rfl) HBW.out
    · go_wp2
      go_ret
      exact asEnd_some (x := (n, p)) (HFi.out.symm.trans (by simp [firstOf])) (HBW.out.alloc HBW.out.size _)
end Go.Proofs.YtlbhbjmobcikfaaGreatDoor
