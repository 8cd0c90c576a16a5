/- errors.Is over a sentinel in any number of wrappings (api.Fault, api.Listed). -/
import Derived.Test.YtlbhbjmobcikfaaGreatDoorChecked
import Derived.WalkKit
import Derived.LaidEql
import Derived.Stop.Asserts
import Derived.Stop.IfaceNil
import Derived.RowKitTokens
import Derived.Lib.Hide
import Derived.Deep.LoopGhost
namespace Go.Proofs.YtlbhbjmobcikfaaGreatDoor
open Go.RowKit Go.Extern.Stop Go.Stop Go.Extern
/-- An error that wraps the sentinel at a, n wrappings around it. -/
inductive Chain (w : World) (a : Addr) : Nat → Value → Prop
  | base : Chain w a 0 (.iface 184 (.pointer (some a)))
  | fault {n : Nat} {v : Value} (p : Nat) (h : w.cell? ⟨p, 1, none⟩ = some v) (k : Chain w a n v) : Chain w a (n + 1) (.iface 65 (.pointer (some ⟨p, 0, none⟩)))
theorem Chain.iface {w : World} {a : Addr} {n : Nat} {v : Value} (h : Chain w a n v) : ∃ t p, v = .iface t p := by cases h <;> exact ⟨_, _, rfl⟩
theorem Chain.of_cells {w w' : World} {a : Addr} {n : Nat} {v : Value} (h : Chain w a n v) (hc : ∀ p x, w.cell? ⟨p, 1, none⟩ = some x → w'.cell? ⟨p, 1, none⟩ = some x) : Chain w' a n v := by
  induction h with
  | base => have _ := hc; exact .base
  | fault p h k ih => exact .fault p (hc _ _ h) ih
/-- What Comparable of a type's handle does. -/
def cmpX : Array Value → Sem Value := Extern.ReflectliteType.method fun t => do Extern.Rtype.noPackHeld "Comparable" t; pure (.bool (← typeInfo t).comparable)
theorem Tryz.isTypeOf {N : Nat} (hN : N = Tryz.prog.globals.size) (v : Value) (w : World) : (Extern.ReflectliteType.typeOf #[.iface 184 v]).run Tryz.prog w = .ok (.iface 108 (.agg #[.pointer (some ⟨N, 184, none⟩)])) w := by subst hN; kernel_rfl
theorem Tryz.isComparable {N : Nat} (hN : N = Tryz.prog.globals.size) (w : World) : (cmpX #[.agg #[.pointer (some ⟨N, 184, none⟩)]]).run Tryz.prog w = .ok (.bool true) w := by subst hN; kernel_rfl
theorem Tryz.isMethodComparable (n : Nat) (v : Value) (w : World) : (Go.method (n + 1) 108 v "Comparable").run Tryz.prog w = .ok (197, v) w := by kernel_rfl
theorem Tryz.isComp : (Tryz.prog.info? 184).map (·.comparable) = some true := by kernel_rfl
theorem Tryz.isSize : (Tryz.prog.info? 205).map (·.size) = some 1 := by kernel_rfl
theorem Tryz.noIsE (v : Value) (xT : TypeId) (w : World) : (Instr.typeAssert (.iface 184 v) xT 110 true).run Tryz.prog w = .ok (.tuple #[.nilIface, .bool false]) w := run_typeAssert_lacksB Tryz.underlying110 (by kernel_rfl) (by kernel_rfl) v xT w
theorem Tryz.noUnwrapE (v : Value) (xT : TypeId) (w : World) : (Instr.typeAssert (.iface 184 v) xT 113 true).run Tryz.prog w = .ok (.tuple #[.nilIface, .bool false]) w := run_typeAssert_lacksB Tryz.underlying113 (by kernel_rfl) (by kernel_rfl) v xT w
theorem Tryz.noUnwrapsE (v : Value) (xT : TypeId) (w : World) : (Instr.typeAssert (.iface 184 v) xT 115 true).run Tryz.prog w = .ok (.tuple #[.nilIface, .bool false]) w := run_typeAssert_lacksB Tryz.underlying115 (by kernel_rfl) (by kernel_rfl) v xT w
theorem Tryz.noIsF (v : Value) (xT : TypeId) (w : World) : (Instr.typeAssert (.iface 65 v) xT 110 true).run Tryz.prog w = .ok (.tuple #[.nilIface, .bool false]) w := run_typeAssert_lacksB Tryz.underlying110 (by kernel_rfl) (by kernel_rfl) v xT w
theorem Tryz.hasUnwrapF (v : Value) (xT : TypeId) (w : World) : (Instr.typeAssert (.iface 65 v) xT 113 true).run Tryz.prog w = .ok (.tuple #[.iface 65 v, .bool true]) w := run_typeAssert_hasB Tryz.underlying113 (by kernel_rfl) v xT w
theorem Tryz.methodUnwrapF (n : Nat) (v : Value) (w : World) : (Go.method (n + 1) 65 v "Unwrap").run Tryz.prog w = .ok (191, v) w := by kernel_rfl
theorem unwrap_fault (p : Nat) (x : Value) (w : World) (h : w.cell? ⟨p, 1, none⟩ = some x) :
    Calls Tryz.prog 191 #[.pointer (some ⟨p, 0, none⟩)] w fun e w' => e = .returned x ∧ w = w' := by
  go_enter Tryz.func191, Tryz.ntmps191
  go_wp2
  go_ret
  exact ⟨rfl, rfl⟩
set_option maxHeartbeats 1000000 in
theorem is_in (a b : Addr) (n : Nat) (v : Value) (w : World) (hch : Chain w a n v) (ca cb : Array Value) (ta tb : TypeId) (ha : w.heap[a.block]? = some (.cells ca ta (0, 0))) (hb : w.heap[b.block]? = some (.cells cb tb (0, 0))) :
    Calls Tryz.prog 53 #[v, .iface 184 (.pointer (some b)), .bool true] w fun e w' => e = .returned (.bool (decide (a = b))) ∧ w = w' := by
  obtain ⟨i, hi, hcmp⟩ := Option.map_eq_some_iff.1 Tryz.isComp
  obtain ⟨j, hj, hjs⟩ := Option.map_eq_some_iff.1 Tryz.isSize
  have nE := Tryz.noIsE
  have uE := Tryz.noUnwrapE
  have vE := Tryz.noUnwrapsE
  have nF := Tryz.noIsF
  have uF := Tryz.hasUnwrapF
  have mF := Tryz.methodUnwrapF
  have tyF := fun p => run_eql_iface_types (P := Tryz.prog) 65 184 (.pointer (some ⟨p, 0, none⟩)) (.pointer (some b)) Tryz.underlying30 (by decide) w
  have heq : (binOp .eql 30 (.iface 184 (.pointer (some a))) (.iface 184 (.pointer (some b)))).run Tryz.prog w = .ok (.bool (decide (a = b))) w := by
    by_cases hab : a = b
    · subst hab
      rw [run_eql_iface_ptr_same (P := Tryz.prog) w a Tryz.underlying30 Tryz.underlying184 hi hcmp hj]; simp
    · rw [run_eql_iface_ptr_other (P := Tryz.prog) w Tryz.underlying30 Tryz.underlying184 hi hcmp hj (by rw [hjs]; decide) hab ha hb]; simp [hab]
  generalize decide (a = b) = r at heq ⊢
  clear hi hcmp hj hjs ha hb
  have HCH := Lib.hid hch
  clear hch
  go_enter Tryz.func53, Tryz.ntmps53
  go_wp2_with fail
  go_loopg [0] n (fun k x wr => wr = w ∧ Hid (Chain w a k x))
  case atStart => exact ⟨rfl, HCH.out⟩
  case round =>
    obtain ⟨rfl, HC⟩ := hrel
    rcases HC.out with _ | @⟨m, x, p, h, k⟩
    · cases r with
      | true =>
        go_wp2
        go_ret
        exact ⟨rfl, rfl⟩
      | false =>
        go_wp2
        go_ret
        exact ⟨rfl, rfl⟩
    · obtain ⟨t, q, rfl⟩ := k.iface
      have HK := Lib.hid k
      clear k HC
      go_wp2_with (go_at_call 191; refine (unwrap_fault _ _ _ h).mono ?_; rintro e w' ⟨rfl, rfl⟩)
      go_roundg m
      case measure => omega
      case rel => exact ⟨rfl, HK.out⟩
set_option maxRecDepth 100000 in
set_option maxHeartbeats 400000 in
/-- errors.Is of a sentinel in wrappings and a sentinel: are they one? -/
theorem is_any (a b : Addr) (n : Nat) (v : Value) (w : World) (hch : Chain w a n v) (ca cb : Array Value) (ta tb : TypeId) (ha : w.heap[a.block]? = some (.cells ca ta (0, 0))) (hb : w.heap[b.block]? = some (.cells cb tb (0, 0))) :
    Calls Tryz.prog 33 #[v, .iface 184 (.pointer (some b))] w fun e w' => e = .returned (.bool (decide (a = b))) ∧ w = w' := by
  have h8 := @run_callFunc_extern Tryz.prog 52 _ Extern.ReflectliteType.typeOf Tryz.func52 (by kernel_rfl) (by kernel_rfl) (by kernel_rfl) (by kernel_rfl)
  have h32 := @run_callFunc_extern Tryz.prog 197 _ cmpX Tryz.func197 (by kernel_rfl) (by kernel_rfl) (by kernel_rfl) (by kernel_rfl)
  obtain ⟨N, hN⟩ : ∃ N, N = Tryz.prog.globals.size := ⟨_, rfl⟩
  have tT := Tryz.isTypeOf hN
  have cT := Tryz.isComparable hN
  clear hN
  have mR := Tryz.isMethodComparable
  have hin := is_in a b n v w hch ca cb ta tb ha hb
  obtain ⟨t, q, rfl⟩ := hch.iface
  have HIN := Lib.hid hin
  clear hin ha hb hch
  go_enter Tryz.func33, Tryz.ntmps33
  go_wp2_with (go_at_call 53; refine HIN.out.mono ?_; rintro e w' ⟨rfl, rfl⟩)
  go_ret
  exact ⟨rfl, rfl⟩
/-- errors.Is of nil and a sentinel. -/
theorem is_nil (b : Addr) (w : World) :
    Calls Tryz.prog 33 #[.nilIface, .iface 184 (.pointer (some b))] w fun e w' => e = .returned (.bool false) ∧ w = w' := by
  have hn := run_eql_iface_nil_left (P := Tryz.prog) w 184 (.pointer (some b)) Tryz.underlying30
  go_enter Tryz.func33, Tryz.ntmps33
  go_wp2
  go_ret
  exact ⟨rfl, rfl⟩
end Go.Proofs.YtlbhbjmobcikfaaGreatDoor
