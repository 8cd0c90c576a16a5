/- errors.As for a *api.Fault, a *api.Listed: at the face. -/
import Derived.Test.YtlbhbjmobcikfaaGreatDoorErAs
namespace Go.Proofs.YtlbhbjmobcikfaaGreatDoor
open Go.RowKit Go.Extern.Stop Go.Stop Go.Extern
set_option maxRecDepth 100000 in
set_option maxHeartbeats 4000000 in
/-- errors.As: v wraps the error at b by the links l. -/
theorem as_any_F (b t : Addr) (l : List (Bool × Int × Nat)) (v : Value) (w : World) (hw : Wrapped w (.iface 184 (.pointer (some b))) l v) (hg : w.cell? ⟨21, 0, none⟩ = some (.iface 108 (.agg #[.pointer (some ⟨Tryz.prog.globals.size, 30, none⟩)]))) (old : Value) (ht : w.cell? t = some old) (hf : w.frozen? t = false) :
    Calls Tryz.prog 34 #[v, .iface 67 (.pointer (some t))] w (AsEnd false l t w) := by
  obtain ⟨N, hN⟩ : ∃ N, N = Tryz.prog.globals.size := ⟨_, rfl⟩
  rw [← hN] at hg
  have xValueOf := @run_callFunc_extern Tryz.prog 54 _ (fun args => ReflectliteValue.unpack (args.getD 0 (.tuple #[]))) Tryz.func54 (by kernel_rfl) (by kernel_rfl) (by kernel_rfl) (by kernel_rfl)
  have xType := @run_callFunc_extern Tryz.prog 55 _ (ReflectliteValue.methodAny (ReflectliteValue.valueError "reflectlite.Value.Type" 0) (fun t _ _ _ => ReflectliteType.toType t)) Tryz.func55 (by kernel_rfl) (by kernel_rfl) (by kernel_rfl) (by kernel_rfl)
  have xIsNil := @run_callFunc_extern Tryz.prog 56 _ (ReflectliteValue.method (ReflectliteValue.valueError "reflectlite.Value.IsNil" 0) ReflectliteValue.isNil) Tryz.func56 (by kernel_rfl) (by kernel_rfl) (by kernel_rfl) (by kernel_rfl)
  have xKind := @run_callFunc_extern Tryz.prog 187 _ (ReflectliteType.abiMethod fun t => do pure (.int .u8 (← Rtype.kind t))) Tryz.func187 (by kernel_rfl) (by kernel_rfl) (by kernel_rfl) (by kernel_rfl)
  have xElem := @run_callFunc_extern Tryz.prog 198 _ (ReflectliteType.method ReflectliteType.elem) Tryz.func198 (by kernel_rfl) (by kernel_rfl) (by kernel_rfl) (by kernel_rfl)
  have xImpl := @run_callFunc_extern Tryz.prog 199 _ (ReflectliteType.relation "Implements" ReflectliteType.implements_) Tryz.func199 (by kernel_rfl) (by kernel_rfl) (by kernel_rfl) (by kernel_rfl)
  have fV := Tryz.asValuePF hN
  have fT := Tryz.asTypePF hN
  have mK := Tryz.asKindM; have mE := Tryz.asElemM; have mI := Tryz.asImplM
  have kP := Tryz.asKindPF hN; have kT := Tryz.asKindF hN
  have eP := Tryz.asElemF hN; have iT := Tryz.asImplF hN
  obtain ⟨tv, q, rfl⟩ := hw.iface
  have hlg := block_lt_of_cell hg; have hlt := block_lt_of_cell ht
  have hb1 : Below w.heap.size w ((w.alloc (.cells #[.pointer (some t)] 67)).alloc (.cells #[.pointer (some ⟨N, 67, none⟩), .pointer (some ⟨w.heap.size, 0, none⟩), .int .u64 150] 90)) := ((Below.refl _ _).alloc (Nat.le_refl _) _).alloc (by simp) _
  have z1 := two_new w (.cells #[.pointer (some t)] 67) (.cells #[.pointer (some ⟨N, 67, none⟩), .pointer (some ⟨w.heap.size, 0, none⟩), .int .u64 150] 90)
  have n8 := Tryz.asIsNilF hN ⟨w.heap.size, 0, none⟩ t ((w.alloc (.cells #[.pointer (some t)] 67)).alloc (.cells #[.pointer (some ⟨N, 67, none⟩), .pointer (some ⟨w.heap.size, 0, none⟩), .int .u64 150] 90)) (by unfold World.cell?; rw [z1.1]; rfl)
  have ha1 : ((w.alloc (.cells #[.pointer (some t)] 67)).alloc (.cells #[.pointer (some ⟨N, 67, none⟩), .pointer (some ⟨w.heap.size, 0, none⟩), .int .u64 150] 90)).cell? ⟨w.heap.size, 0, none⟩ = some (.pointer (some t)) := by unfold World.cell?; rw [z1.1]; rfl
  have hg1 := (hb1.cell (p := ⟨21, 0, none⟩) hlg).trans hg
  have hin := as_in_F hN b ⟨w.heap.size, 0, none⟩ t l (.iface tv q) _ (hw.later hb1) ha1 old ((hb1.cell hlt).trans ht) ((hb1.frozen hlt).trans hf)
  have HIN := Lib.hid hin; have HB := Lib.hid hb1
  clear hin hb1 z1 ha1 hw ht hf hN hg
  go_enter Tryz.func34, Tryz.ntmps34
  cases hf : firstOf false l with
  | none =>
    go_wp2_with fail
    refine HIN.out.mono ?_
    intro e w' he
    obtain ⟨rfl, hb⟩ := asEnd_no hf he
    have hb2 := Lib.hid (HB.out.trans (hb.mono HB.out.size))
    clear he hb HIN HB
    go_wp2
    go_ret
    exact asEnd_none hf hb2.out
  | some x =>
    go_wp2_with fail
    refine HIN.out.mono ?_
    intro e w' he
    obtain ⟨rfl, w1, hb, rfl⟩ := asEnd_yes hf he
    have hb2 := Lib.hid (HB.out.trans (hb.mono HB.out.size))
    clear he hb HIN HB
    go_wp2
    go_ret
    exact asEnd_some hf hb2.out
end Go.Proofs.YtlbhbjmobcikfaaGreatDoor
