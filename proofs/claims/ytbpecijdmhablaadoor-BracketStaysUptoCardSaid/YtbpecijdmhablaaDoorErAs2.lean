/- errors.As for a *api.Fault, a *api.Listed: at the face. -/
import Derived.Test.YtbpecijdmhablaaDoorErAs
namespace Go.Proofs.YtbpecijdmhablaaDoor
open Go.RowKit Go.Extern.Stop Go.Stop Go.Extern
set_option maxRecDepth 100000 in
set_option maxHeartbeats 4000000 in
/-- errors.As: v wraps the error at b by the links l. -/
theorem as_any_F (b t : Addr) (l : List (Bool × Int × Nat)) (v : Value) (w : World) (hw : Wrapped w (.iface 115 (.pointer (some b))) l v) (hg : w.cell? ⟨21, 0, none⟩ = some (.iface 89 (.agg #[.pointer (some ⟨Tryd.prog.globals.size, 27, none⟩)]))) (old : Value) (ht : w.cell? t = some old) (hf : w.frozen? t = false) :
    Calls Tryd.prog 29 #[v, .iface 54 (.pointer (some t))] w (AsEnd false l t w) := by
  obtain ⟨N, hN⟩ : ∃ N, N = Tryd.prog.globals.size := ⟨_, rfl⟩
  rw [← hN] at hg
  have xValueOf := @run_callFunc_extern Tryd.prog 46 _ (fun args => ReflectliteValue.unpack (args.getD 0 (.tuple #[]))) Tryd.func46 (by kernel_rfl) (by kernel_rfl) (by kernel_rfl) (by kernel_rfl)
  have xType := @run_callFunc_extern Tryd.prog 47 _ (ReflectliteValue.methodAny (ReflectliteValue.valueError "reflectlite.Value.Type" 0) (fun t _ _ _ => ReflectliteType.toType t)) Tryd.func47 (by kernel_rfl) (by kernel_rfl) (by kernel_rfl) (by kernel_rfl)
  have xIsNil := @run_callFunc_extern Tryd.prog 48 _ (ReflectliteValue.method (ReflectliteValue.valueError "reflectlite.Value.IsNil" 0) ReflectliteValue.isNil) Tryd.func48 (by kernel_rfl) (by kernel_rfl) (by kernel_rfl) (by kernel_rfl)
  have xKind := @run_callFunc_extern Tryd.prog 87 _ (ReflectliteType.abiMethod fun t => do pure (.int .u8 (← Rtype.kind t))) Tryd.func87 (by kernel_rfl) (by kernel_rfl) (by kernel_rfl) (by kernel_rfl)
  have xElem := @run_callFunc_extern Tryd.prog 98 _ (ReflectliteType.method ReflectliteType.elem) Tryd.func98 (by kernel_rfl) (by kernel_rfl) (by kernel_rfl) (by kernel_rfl)
  have xImpl := @run_callFunc_extern Tryd.prog 99 _ (ReflectliteType.relation "Implements" ReflectliteType.implements_) Tryd.func99 (by kernel_rfl) (by kernel_rfl) (by kernel_rfl) (by kernel_rfl)
  have fV := Tryd.asValuePF hN
  have fT := Tryd.asTypePF hN
  have mK := Tryd.asKindM; have mE := Tryd.asElemM; have mI := Tryd.asImplM
  have kP := Tryd.asKindPF hN; have kT := Tryd.asKindF hN
  have eP := Tryd.asElemF hN; have iT := Tryd.asImplF hN
  obtain ⟨tv, q, rfl⟩ := hw.iface
  have hlg := block_lt_of_cell hg; have hlt := block_lt_of_cell ht
  have hb1 : Below w.heap.size w ((w.alloc (.cells #[.pointer (some t)] 54)).alloc (.cells #[.pointer (some ⟨N, 54, none⟩), .pointer (some ⟨w.heap.size, 0, none⟩), .int .u64 150] 76)) := ((Below.refl _ _).alloc (Nat.le_refl _) _).alloc (by simp) _
  have z1 := two_new w (.cells #[.pointer (some t)] 54) (.cells #[.pointer (some ⟨N, 54, none⟩), .pointer (some ⟨w.heap.size, 0, none⟩), .int .u64 150] 76)
  have n8 := Tryd.asIsNilF hN ⟨w.heap.size, 0, none⟩ t ((w.alloc (.cells #[.pointer (some t)] 54)).alloc (.cells #[.pointer (some ⟨N, 54, none⟩), .pointer (some ⟨w.heap.size, 0, none⟩), .int .u64 150] 76)) (by unfold World.cell?; rw [z1.1]; rfl)
  have ha1 : ((w.alloc (.cells #[.pointer (some t)] 54)).alloc (.cells #[.pointer (some ⟨N, 54, none⟩), .pointer (some ⟨w.heap.size, 0, none⟩), .int .u64 150] 76)).cell? ⟨w.heap.size, 0, none⟩ = some (.pointer (some t)) := by unfold World.cell?; rw [z1.1]; rfl
  have hg1 := (hb1.cell (p := ⟨21, 0, none⟩) hlg).trans hg
  have hin := as_in_F hN b ⟨w.heap.size, 0, none⟩ t l (.iface tv q) _ (hw.later hb1) ha1 old ((hb1.cell hlt).trans ht) ((hb1.frozen hlt).trans hf)
  have HIN := Lib.hid hin; have HB := Lib.hid hb1
  clear hin hb1 z1 ha1 hw ht hf hN hg
  go_enter Tryd.func29, Tryd.ntmps29
  cases hf : firstOf false l with
  | none =>
    go_wp2_with fail
    refine HIN.out.mono ?_
    intro e w' he
    obtain ⟨rfl, hb⟩ := asEnd_no hf he
    have hb2 := Lib.hid (HB.out.trans (hb.mono HB.out.size))
    clear he hb HIN HB
    go_wp2
    go_ret
    exact asEnd_none hf hb2.out
  | some x =>
    go_wp2_with fail
    refine HIN.out.mono ?_
    intro e w' he
    obtain ⟨rfl, w1, hb, rfl⟩ := asEnd_yes hf he
    have hb2 := Lib.hid (HB.out.trans (hb.mono HB.out.size))
    clear he hb HIN HB
    go_wp2
    go_ret
    exact asEnd_some hf hb2.out
end Go.Proofs.YtbpecijdmhablaaDoor
