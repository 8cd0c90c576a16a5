/- errors.As for a *api.Fault, a *api.Listed: the outermost one of any number of wrappings. -/
import Derived.Test.YtlbhbjmobcikfaaGreatDoorErIs
import Derived.Test.YtlbhbjmobcikfaaGreatDoorMem
namespace Go.Proofs.YtlbhbjmobcikfaaGreatDoor
open Go.RowKit Go.Extern.Stop Go.Stop Go.Extern
/-- An error that wraps another one, link by link, the outermost first: which kind (Listed?), its number, its block. -/
inductive Wrapped (w : World) (base : Value) : List (Bool × Int × Nat) → Value → Prop
  | base : Wrapped w base [] base
  | fault {l : List (Bool × Int × Nat)} {v : Value} (n : Int) (p : Nat) (h0 : w.cell? ⟨p, 0, none⟩ = some (.int .i64 n)) (h1 : w.cell? ⟨p, 1, none⟩ = some v) (k : Wrapped w base l v) : Wrapped w base ((false, n, p) :: l) (.iface 65 (.pointer (some ⟨p, 0, none⟩)))
theorem Wrapped.later {w w' : World} {base : Value} {l : List (Bool × Int × Nat)} {v : Value} (h : Wrapped w base l v) (hb : Below w.heap.size w w') : Wrapped w' base l v := by
  have key : ∀ (p o : Nat) (x : Value), w.cell? ⟨p, o, none⟩ = some x → w'.cell? ⟨p, o, none⟩ = some x := fun p o x hx => (hb.cell (p := ⟨p, o, none⟩) (block_lt_of_cell hx)).trans hx
  induction h with
  | base => exact .base
  | fault n p h0 h1 k ih => exact .fault n p (key _ _ _ h0) (key _ _ _ h1) ih
theorem Wrapped.chain {w : World} {a : Addr} {l : List (Bool × Int × Nat)} {v : Value} (h : Wrapped w (.iface 184 (.pointer (some a))) l v) : Chain w a l.length v := by
  generalize hb : Value.iface 184 (.pointer (some a)) = b at h
  induction h with
  | base => subst hb; exact .base
  | fault n p h0 h1 k ih => exact .fault p h1 ih
/-- The outermost link of a kind. -/
def firstOf (k : Bool) : List (Bool × Int × Nat) → Option (Int × Nat)
  | [] => none
  | x :: l => if x.1 = k then some x.2 else firstOf k l
/-- How errors.As ends. -/
def AsEnd (k : Bool) (l : List (Bool × Int × Nat)) (t : Addr) (w : World) (e : Ending) (w' : World) : Prop :=
  match firstOf k l with
  | some x => e = .returned (.bool true) ∧ ∃ w1, Below w.heap.size w w1 ∧ w' = w1.setCell t (.pointer (some ⟨x.2, 0, none⟩))
  | none => e = .returned (.bool false) ∧ Below w.heap.size w w'
theorem asEnd_none {k : Bool} {l : List (Bool × Int × Nat)} {t : Addr} {w w' : World} (h : firstOf k l = none) (hb : Below w.heap.size w w') : AsEnd k l t w (.returned (.bool false)) w' := by
  unfold AsEnd; rw [h]; exact ⟨rfl, hb⟩
theorem asEnd_some {k : Bool} {l : List (Bool × Int × Nat)} {t : Addr} {w w1 : World} {x : Int × Nat} (h : firstOf k l = some x) (hb : Below w.heap.size w w1) : AsEnd k l t w (.returned (.bool true)) (w1.setCell t (.pointer (some ⟨x.2, 0, none⟩))) := by
  unfold AsEnd; rw [h]; exact ⟨rfl, w1, hb, rfl⟩
theorem asEnd_no {k : Bool} {l : List (Bool × Int × Nat)} {t : Addr} {w w' : World} {e : Ending} (h : firstOf k l = none) (he : AsEnd k l t w e w') : e = .returned (.bool false) ∧ Below w.heap.size w w' := by
  unfold AsEnd at he; rw [h] at he; exact he
theorem asEnd_yes {k : Bool} {l : List (Bool × Int × Nat)} {t : Addr} {w w' : World} {e : Ending} {x : Int × Nat} (h : firstOf k l = some x) (he : AsEnd k l t w e w') : e = .returned (.bool true) ∧ ∃ w1, Below w.heap.size w w1 ∧ w' = w1.setCell t (.pointer (some ⟨x.2, 0, none⟩)) := by
  unfold AsEnd at he; rw [h] at he; exact he
theorem Wrapped.iface {w : World} {a : Addr} {l : List (Bool × Int × Nat)} {v : Value} (h : Wrapped w (.iface 184 (.pointer (some a))) l v) : ∃ t p, v = .iface t p := by cases h <;> exact ⟨_, _, rfl⟩
theorem Tryz.asKindM (n : Nat) (h : Value) (w : World) : (Go.method (n + 1) 108 (.agg #[h]) "Kind").run Tryz.prog w = .ok (187, h) w := by kernel_rfl
theorem Tryz.asElemM (n : Nat) (h : Value) (w : World) : (Go.method (n + 1) 108 (.agg #[h]) "Elem").run Tryz.prog w = .ok (198, .agg #[h]) w := by kernel_rfl
theorem Tryz.asImplM (n : Nat) (h : Value) (w : World) : (Go.method (n + 1) 108 (.agg #[h]) "Implements").run Tryz.prog w = .ok (199, .agg #[h]) w := by kernel_rfl
theorem Tryz.asAssM (n : Nat) (h : Value) (w : World) : (Go.method (n + 1) 108 (.agg #[h]) "AssignableTo").run Tryz.prog w = .ok (196, .agg #[h]) w := by kernel_rfl
theorem as_nil (t : Value) (w : World) : Calls Tryz.prog 34 #[.nilIface, t] w fun e w' => e = .returned (.bool false) ∧ w = w' := by
  go_enter Tryz.func34, Tryz.ntmps34
  go_wp2
  go_ret
  exact ⟨rfl, rfl⟩
theorem Tryz.asTypeOfE {N : Nat} (hN : N = Tryz.prog.globals.size) (v : Value) (w : World) : (ReflectliteType.typeOf #[.iface 184 v]).run Tryz.prog w = .ok (.iface 108 (.agg #[.pointer (some ⟨N, 184, none⟩)])) w := by subst hN; kernel_rfl
theorem Tryz.asLacksE (v : Value) (xT : TypeId) (w : World) : (Instr.typeAssert (.iface 184 v) xT 119 true).run Tryz.prog w = .ok (.tuple #[.nilIface, .bool false]) w := run_typeAssert_lacksB Tryz.underlying119 (by kernel_rfl) (by kernel_rfl) v xT w
theorem Tryz.asTypeOfF {N : Nat} (hN : N = Tryz.prog.globals.size) (v : Value) (w : World) : (ReflectliteType.typeOf #[.iface 65 v]).run Tryz.prog w = .ok (.iface 108 (.agg #[.pointer (some ⟨N, 65, none⟩)])) w := by subst hN; kernel_rfl
theorem Tryz.asLacksF (v : Value) (xT : TypeId) (w : World) : (Instr.typeAssert (.iface 65 v) xT 119 true).run Tryz.prog w = .ok (.tuple #[.nilIface, .bool false]) w := run_typeAssert_lacksB Tryz.underlying119 (by kernel_rfl) (by kernel_rfl) v xT w
theorem Tryz.asValuePF {N : Nat} (hN : N = Tryz.prog.globals.size) (t : Addr) (w : World) : (ReflectliteValue.unpack (.iface 67 (.pointer (some t)))).run Tryz.prog w = .ok (.agg #[.pointer (some ⟨N, 67, none⟩), .pointer (some ⟨w.heap.size, 0, none⟩), .int .u64 150]) (w.alloc (.cells #[.pointer (some t)] 67)) := by subst hN; kernel_rfl
theorem Tryz.asTypePF {N : Nat} (hN : N = Tryz.prog.globals.size) (a : Addr) (w : World) : (ReflectliteValue.methodAny (ReflectliteValue.valueError "reflectlite.Value.Type" 0) (fun t _ _ _ => ReflectliteType.toType t) #[.agg #[.pointer (some ⟨N, 67, none⟩), .pointer (some a), .int .u64 150]]).run Tryz.prog w = .ok (.iface 108 (.agg #[.pointer (some ⟨N, 67, none⟩)])) w := by subst hN; kernel_rfl
theorem Tryz.asKindPF {N : Nat} (hN : N = Tryz.prog.globals.size) (w : World) : ((ReflectliteType.abiMethod fun t => (fun a : Nat => Value.int IntKind.u8 (a : Int)) <$> Rtype.kind t) #[.pointer (some ⟨N, 67, none⟩)]).run Tryz.prog w = .ok (.int .u8 22) w := by subst hN; kernel_rfl
theorem Tryz.asKindF {N : Nat} (hN : N = Tryz.prog.globals.size) (w : World) : ((ReflectliteType.abiMethod fun t => (fun a : Nat => Value.int IntKind.u8 (a : Int)) <$> Rtype.kind t) #[.pointer (some ⟨N, 65, none⟩)]).run Tryz.prog w = .ok (.int .u8 22) w := by subst hN; kernel_rfl
theorem Tryz.asPartsPF {N : Nat} (hN : N = Tryz.prog.globals.size) (a : Addr) (w : World) : (ReflectliteValue.parts (.agg #[.pointer (some ⟨N, 67, none⟩), .pointer (some a), .int .u64 150])).run Tryz.prog w = .ok (some (67, a, 150)) w := by subst hN; kernel_rfl
theorem Tryz.asIsNilF {N : Nat} (hN : N = Tryz.prog.globals.size) (a p : Addr) (W : World) (ha : W.cell? a = some (.pointer (some p))) :
    (ReflectliteValue.method (ReflectliteValue.valueError "reflectlite.Value.IsNil" 0) ReflectliteValue.isNil #[.agg #[.pointer (some ⟨N, 67, none⟩), .pointer (some a), .int .u64 150]]).run Tryz.prog W = .ok (.bool false) W := by
  delta ReflectliteValue.method ReflectliteValue.method.match_2
  simp only [List.size_toArray, List.length_cons, List.length_nil, Nat.reduceAdd, ↓reduceDIte, Array.getLit, List.getElem_toArray, List.getElem_cons_zero]
  simp only [Sem.run_bind, Tryz.asPartsPF hN, Result.andThen]
  simp [ReflectliteValue.isNil, loadVar, isAgg, underlying, Tryz.underlying67, ha, Result.andThen]
theorem Tryz.asElemF {N : Nat} (hN : N = Tryz.prog.globals.size) (w : World) : (ReflectliteType.method ReflectliteType.elem #[.agg #[.pointer (some ⟨N, 67, none⟩)]]).run Tryz.prog w = .ok (.iface 108 (.agg #[.pointer (some ⟨N, 65, none⟩)])) w := by subst hN; kernel_rfl
theorem Tryz.asImplF {N : Nat} (hN : N = Tryz.prog.globals.size) (w : World) : (ReflectliteType.relation "Implements" ReflectliteType.implements_ #[.agg #[.pointer (some ⟨N, 65, none⟩)], .iface 108 (.agg #[.pointer (some ⟨N, 30, none⟩)])]).run Tryz.prog w = .ok (.bool true) w := by subst hN; kernel_rfl
theorem Tryz.asValueF {N : Nat} (hN : N = Tryz.prog.globals.size) (e : Addr) (w : World) : (ReflectliteValue.unpack (.iface 65 (.pointer (some e)))).run Tryz.prog w = .ok (.agg #[.pointer (some ⟨N, 65, none⟩), .pointer (some ⟨w.heap.size, 0, none⟩), .int .u64 150]) (w.alloc (.cells #[.pointer (some e)] 65)) := by subst hN; kernel_rfl
theorem Tryz.asElemOfF (w : World) : (Rtype.elem? 67).run Tryz.prog w = .ok (some 65) w := by kernel_rfl
theorem Tryz.asMkF {N : Nat} (hN : N = Tryz.prog.globals.size) (p : Addr) (w : World) : (ReflectliteValue.mk 65 p ReflectliteValue.flagAddr).run Tryz.prog w = .ok (.agg #[.pointer (some ⟨N, 65, none⟩), .pointer (some p), .int .u64 406]) w := by subst hN; kernel_rfl
theorem Tryz.asElemVF {N : Nat} (hN : N = Tryz.prog.globals.size) (a p : Addr) (W : World) (ha : W.cell? a = some (.pointer (some p))) :
    (ReflectliteValue.method (ReflectliteValue.valueError "reflectlite.Value.Elem" 0) ReflectliteValue.elem #[.agg #[.pointer (some ⟨N, 67, none⟩), .pointer (some a), .int .u64 150]]).run Tryz.prog W = .ok (.agg #[.pointer (some ⟨N, 65, none⟩), .pointer (some p), .int .u64 406]) W := by
  delta ReflectliteValue.method ReflectliteValue.method.match_2
  simp only [List.size_toArray, List.length_cons, List.length_nil, Nat.reduceAdd, ↓reduceDIte, Array.getLit, List.getElem_toArray, List.getElem_cons_zero]
  simp only [Sem.run_bind, Tryz.asPartsPF hN, Result.andThen]
  simp [ReflectliteValue.elem, loadVar, isAgg, underlying, Tryz.underlying67, ha, Result.andThen, Tryz.asElemOfF, Tryz.asMkF hN]
theorem Tryz.asPartsAF {N : Nat} (hN : N = Tryz.prog.globals.size) (a : Addr) (w : World) : (ReflectliteValue.parts (.agg #[.pointer (some ⟨N, 65, none⟩), .pointer (some a), .int .u64 406])).run Tryz.prog w = .ok (some (65, a, 406)) w := by subst hN; kernel_rfl
theorem Tryz.asPartsF {N : Nat} (hN : N = Tryz.prog.globals.size) (a : Addr) (w : World) : (ReflectliteValue.parts (.agg #[.pointer (some ⟨N, 65, none⟩), .pointer (some a), .int .u64 150])).run Tryz.prog w = .ok (some (65, a, 150)) w := by subst hN; kernel_rfl
theorem Tryz.asDirectF (w : World) : (Rtype.directlyAssignable 65 65).run Tryz.prog w = .ok true w := by kernel_rfl
theorem Tryz.asSetF {N : Nat} (hN : N = Tryz.prog.globals.size) (ta b e : Addr) (old : Value) (W : World) (hb : W.cell? b = some (.pointer (some e))) (ht : W.cell? ta = some old) (hf : W.frozen? ta = false) :
    (ReflectliteValue.set #[.agg #[.pointer (some ⟨N, 65, none⟩), .pointer (some ta), .int .u64 406], .agg #[.pointer (some ⟨N, 65, none⟩), .pointer (some b), .int .u64 150]]).run Tryz.prog W = .ok (.tuple #[]) (W.setCell ta (.pointer (some e))) := by
  delta ReflectliteValue.set ReflectliteValue.set.match_3
  simp only [List.size_toArray, List.length_cons, List.length_nil, Nat.reduceAdd, ↓reduceDIte, Array.getLit, List.getElem_toArray, List.getElem_cons_zero, List.getElem_cons_succ]
  simp only [Sem.run_bind, Tryz.asPartsAF hN, Tryz.asPartsF hN, Result.andThen]
  simp [ReflectliteValue.flagAddr, loadVar, isAgg, underlying, Tryz.underlying65, hb, Result.andThen, Tryz.asDirectF, storeVar, Value.cells, storeCells, Addr.add]
  rw [run_store Tryz.prog W ta _ _ (by rfl)]
  simp [ht, hf]
theorem Tryz.asAssFE {N : Nat} (hN : N = Tryz.prog.globals.size) (w : World) : (ReflectliteType.relation "AssignableTo" ReflectliteType.assignableTo #[.agg #[.pointer (some ⟨N, 184, none⟩)], .iface 108 (.agg #[.pointer (some ⟨N, 65, none⟩)])]).run Tryz.prog w = .ok (.bool false) w := by subst hN; kernel_rfl
theorem Tryz.asAssFF {N : Nat} (hN : N = Tryz.prog.globals.size) (w : World) : (ReflectliteType.relation "AssignableTo" ReflectliteType.assignableTo #[.agg #[.pointer (some ⟨N, 65, none⟩)], .iface 108 (.agg #[.pointer (some ⟨N, 65, none⟩)])]).run Tryz.prog w = .ok (.bool true) w := by subst hN; kernel_rfl
end Go.Proofs.YtlbhbjmobcikfaaGreatDoor
