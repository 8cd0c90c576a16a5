/- errors.Is over a sentinel in any number of wrappings (api.Fault, api.Listed). -/
import Derived.Test.YtbpecijdmhablaaDoorChecked
import Derived.WalkKit
import Derived.LaidEql
import Derived.Stop.Asserts
import Derived.Stop.IfaceNil
import Derived.RowKitTokens
import Derived.Lib.Hide
import Derived.Deep.LoopGhost
namespace Go.Proofs.YtbpecijdmhablaaDoor
open Go.RowKit Go.Extern.Stop Go.Stop Go.Extern
/-- An error that wraps the sentinel at a, n wrappings around it. -/
inductive Chain (w : World) (a : Addr) : Nat → Value → Prop
  | base : Chain w a 0 (.iface 115 (.pointer (some a)))
  | fault {n : Nat} {v : Value} (p : Nat) (h : w.cell? ⟨p, 1, none⟩ = some v) (k : Chain w a n v) : Chain w a (n + 1) (.iface 52 (.pointer (some ⟨p, 0, none⟩)))
theorem Chain.iface {w : World} {a : Addr} {n : Nat} {v : Value} (h : Chain w a n v) : ∃ t p, v = .iface t p := by cases h <;> exact ⟨_, _, rfl⟩
theorem Chain.of_cells {w w' : World} {a : Addr} {n : Nat} {v : Value} (h : Chain w a n v) (hc : ∀ p x, w.cell? ⟨p, 1, none⟩ = some x → w'.cell? ⟨p, 1, none⟩ = some x) : Chain w' a n v := by
  induction h with
  | base => have _ := hc; exact .base
  | fault p h k ih => exact .fault p (hc _ _ h) ih
/-- What Comparable of a type's handle does. -/
def cmpX : Array Value → Sem Value := Extern.ReflectliteType.method fun t => do Extern.Rtype.noPackHeld "Comparable" t; pure (.bool (← typeInfo t).comparable)
theorem Tryd.isTypeOf {N : Nat} (hN : N = Tryd.prog.globals.size) (v : Value) (w : World) : (Extern.ReflectliteType.typeOf #[.iface 115 v]).run Tryd.prog w = .ok (.iface 89 (.agg #[.pointer (some ⟨N, 115, none⟩)])) w := by subst hN; kernel_rfl
theorem Tryd.isComparable {N : Nat} (hN : N = Tryd.prog.globals.size) (w : World) : (cmpX #[.agg #[.pointer (some ⟨N, 115, none⟩)]]).run Tryd.prog w = .ok (.bool true) w := by subst hN; kernel_rfl
theorem Tryd.isMethodComparable (n : Nat) (v : Value) (w : World) : (Go.method (n + 1) 89 v "Comparable").run Tryd.prog w = .ok (97, v) w := by kernel_rfl
theorem Tryd.isComp : (Tryd.prog.info? 115).map (·.comparable) = some true := by kernel_rfl
theorem Tryd.isSize : (Tryd.prog.info? 136).map (·.size) = some 1 := by kernel_rfl
theorem Tryd.noIsE (v : Value) (xT : TypeId) (w : World) : (Instr.typeAssert (.iface 115 v) xT 91 true).run Tryd.prog w = .ok (.tuple #[.nilIface, .bool false]) w := run_typeAssert_lacksB Tryd.underlying91 (by kernel_rfl) (by kernel_rfl) v xT w
theorem Tryd.noUnwrapE (v : Value) (xT : TypeId) (w : World) : (Instr.typeAssert (.iface 115 v) xT 94 true).run Tryd.prog w = .ok (.tuple #[.nilIface, .bool false]) w := run_typeAssert_lacksB Tryd.underlying94 (by kernel_rfl) (by kernel_rfl) v xT w
theorem Tryd.noUnwrapsE (v : Value) (xT : TypeId) (w : World) : (Instr.typeAssert (.iface 115 v) xT 96 true).run Tryd.prog w = .ok (.tuple #[.nilIface, .bool false]) w := run_typeAssert_lacksB Tryd.underlying96 (by kernel_rfl) (by kernel_rfl) v xT w
theorem Tryd.noIsF (v : Value) (xT : TypeId) (w : World) : (Instr.typeAssert (.iface 52 v) xT 91 true).run Tryd.prog w = .ok (.tuple #[.nilIface, .bool false]) w := run_typeAssert_lacksB Tryd.underlying91 (by kernel_rfl) (by kernel_rfl) v xT w
theorem Tryd.hasUnwrapF (v : Value) (xT : TypeId) (w : World) : (Instr.typeAssert (.iface 52 v) xT 94 true).run Tryd.prog w = .ok (.tuple #[.iface 52 v, .bool true]) w := run_typeAssert_hasB Tryd.underlying94 (by kernel_rfl) v xT w
theorem Tryd.methodUnwrapF (n : Nat) (v : Value) (w : World) : (Go.method (n + 1) 52 v "Unwrap").run Tryd.prog w = .ok (91, v) w := by kernel_rfl
theorem unwrap_fault (p : Nat) (x : Value) (w : World) (h : w.cell? ⟨p, 1, none⟩ = some x) :
    Calls Tryd.prog 91 #[.pointer (some ⟨p, 0, none⟩)] w fun e w' => e = .returned x ∧ w = w' := by
  go_enter Tryd.func91, Tryd.ntmps91
  go_wp2
  go_ret
  exact ⟨rfl, rfl⟩
set_option maxHeartbeats 1000000 in
theorem is_in (a b : Addr) (n : Nat) (v : Value) (w : World) (hch : Chain w a n v) (ca cb : Array Value) (ta tb : TypeId) (ha : w.heap[a.block]? = some (.cells ca ta (0, 0))) (hb : w.heap[b.block]? = some (.cells cb tb (0, 0))) :
    Calls Tryd.prog 45 #[v, .iface 115 (.pointer (some b)), .bool true] w fun e w' => e = .returned (.bool (decide (a = b))) ∧ w = w' := by
  obtain ⟨i, hi, hcmp⟩ := Option.map_eq_some_iff.1 Tryd.isComp
  obtain ⟨j, hj, hjs⟩ := Option.map_eq_some_iff.1 Tryd.isSize
  have nE := Tryd.noIsE
  have uE := Tryd.noUnwrapE
  have vE := Tryd.noUnwrapsE
  have nF := Tryd.noIsF
  have uF := Tryd.hasUnwrapF
  have mF := Tryd.methodUnwrapF
  have tyF := fun p => run_eql_iface_types (P := Tryd.prog) 52 115 (.pointer (some ⟨p, 0, none⟩)) (.pointer (some b)) Tryd.underlying27 (by decide) w
  have heq : (binOp .eql 27 (.iface 115 (.pointer (some a))) (.iface 115 (.pointer (some b)))).run Tryd.prog w = .ok (.bool (decide (a = b))) w := by
    by_cases hab : a = b
    · subst hab
      rw [run_eql_iface_ptr_same (P := Tryd.prog) w a Tryd.underlying27 Tryd.underlying115 hi hcmp hj]; simp
    · rw [run_eql_iface_ptr_other (P := Tryd.prog) w Tryd.underlying27 Tryd.underlying115 hi hcmp hj (by rw [hjs]; decide) hab ha hb]; simp [hab]
  generalize decide (a = b) = r at heq ⊢
  clear hi hcmp hj hjs ha hb
  have HCH := Lib.hid hch
  clear hch
  go_enter Tryd.func45, Tryd.ntmps45
  go_wp2_with fail
  go_loopg [0] n (fun k x wr => wr = w ∧ Hid (Chain w a k x))
  case atStart => exact ⟨rfl, HCH.out⟩
  case round =>
    obtain ⟨rfl, HC⟩ := hrel
    rcases HC.out with _ | @⟨m, x, p, h, k⟩
    · cases r with
      | true =>
        go_wp2
        go_ret
        exact ⟨rfl, rfl⟩
      | false =>
        go_wp2
        go_ret
        exact ⟨rfl, rfl⟩
    · obtain ⟨t, q, rfl⟩ := k.iface
      have HK := Lib.hid k
      clear k HC
      go_wp2_with (go_at_call 91; refine (unwrap_fault _ _ _ h).mono ?_; rintro e w' ⟨rfl, rfl⟩)
      go_roundg m
      case measure => omega
      case rel => exact ⟨rfl, HK.out⟩
set_option maxRecDepth 100000 in
set_option maxHeartbeats 400000 in
/-- errors.Is of a sentinel in wrappings and a sentinel: are they one? -/
theorem is_any (a b : Addr) (n : Nat) (v : Value) (w : World) (hch : Chain w a n v) (ca cb : Array Value) (ta tb : TypeId) (ha : w.heap[a.block]? = some (.cells ca ta (0, 0))) (hb : w.heap[b.block]? = some (.cells cb tb (0, 0))) :
    Calls Tryd.prog 28 #[v, .iface 115 (.pointer (some b))] w fun e w' => e = .returned (.bool (decide (a = b))) ∧ w = w' := by
  have h8 := @run_callFunc_extern Tryd.prog 44 _ Extern.ReflectliteType.typeOf Tryd.func44 (by kernel_rfl) (by kernel_rfl) (by kernel_rfl) (by kernel_rfl)
  have h32 := @run_callFunc_extern Tryd.prog 97 _ cmpX Tryd.func97 (by kernel_rfl) (by kernel_rfl) (by kernel_rfl) (by kernel_rfl)
  obtain ⟨N, hN⟩ : ∃ N, N = Tryd.prog.globals.size := ⟨_, rfl⟩
  have tT := Tryd.isTypeOf hN
  have cT := Tryd.isComparable hN
  clear hN
  have mR := Tryd.isMethodComparable
  have hin := is_in a b n v w hch ca cb ta tb ha hb
  obtain ⟨t, q, rfl⟩ := hch.iface
  have HIN := Lib.hid hin
  clear hin ha hb hch
  go_enter Tryd.func28, Tryd.ntmps28
  go_wp2_with (go_at_call 45; refine HIN.out.mono ?_; rintro e w' ⟨rfl, rfl⟩)
  go_ret
  exact ⟨rfl, rfl⟩
/-- errors.Is of nil and a sentinel. -/
theorem is_nil (b : Addr) (w : World) :
    Calls Tryd.prog 28 #[.nilIface, .iface 115 (.pointer (some b))] w fun e w' => e = .returned (.bool false) ∧ w = w' := by
  have hn := run_eql_iface_nil_left (P := Tryd.prog) w 115 (.pointer (some b)) Tryd.underlying27
  go_enter Tryd.func28, Tryd.ntmps28
  go_wp2
  go_ret
  exact ⟨rfl, rfl⟩
end Go.Proofs.YtbpecijdmhablaaDoor
