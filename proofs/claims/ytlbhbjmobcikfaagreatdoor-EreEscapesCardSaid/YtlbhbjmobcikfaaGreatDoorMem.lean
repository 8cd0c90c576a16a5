/- Plain facts on blocks of memory. -/
import Derived.WalkKit
import Derived.WalkSpells
import Derived.WalkLawsBesides
import Derived.Handy
import Derived.Lib.Hide
namespace Go.Proofs.YtlbhbjmobcikfaaGreatDoor
open Go.RowKit
theorem ret_int {k : IntKind} {a b : Int} (h : a = b) : Ending.returned (.int k a) = .returned (.int k b) := by rw [h]
theorem ret_bool {a b : Bool} (h : a = b) : Ending.returned (.bool a) = .returned (.bool b) := by rw [h]

/-- A block of four cells, cell by cell. -/
theorem four {w : World} {b : Nat} {x0 x1 x2 x3 : Value} {t : TypeId} (h : w.heap[b]? = some (.cells #[x0, x1, x2, x3] t)) :
    w.cell? ⟨b, 0, none⟩ = some x0 ∧ w.cell? ⟨b, 1, none⟩ = some x1 ∧ w.cell? ⟨b, 2, none⟩ = some x2 ∧ w.cell? ⟨b, 3, none⟩ = some x3 ∧
    w.frozen? ⟨b, 0, none⟩ = false ∧ w.frozen? ⟨b, 1, none⟩ = false ∧ w.frozen? ⟨b, 2, none⟩ = false ∧ w.frozen? ⟨b, 3, none⟩ = false := by
  simp [World.cell?, World.frozen?, h]
theorem heap_alloc_lt {w : World} {b : Nat} {o x : Obj} (h : w.heap[b]? = some x) : (w.alloc o).heap[b]? = some x := by
  rw [Below.heap_alloc _ _ _ (by have := Array.getElem?_eq_some_iff.1 h; exact this.1)]; exact h
theorem set4 {w : World} {b : Nat} {x0 x1 x2 x3 : Value} {t : TypeId} (v0 v1 v2 v3 : Value) (h : w.heap[b]? = some (.cells #[x0, x1, x2, x3] t)) :
    ((((w.setCell ⟨b, 0, none⟩ v0).setCell ⟨b, 1, none⟩ v1).setCell ⟨b, 2, none⟩ v2).setCell ⟨b, 3, none⟩ v3).heap[b]? = some (.cells #[v0, v1, v2, v3] t) := by
  simp [World.setCell, Array.getElem?_modify, h]
theorem set4_other {w : World} {b b' : Nat} {x : Obj} (v0 v1 v2 v3 : Value) (h : w.heap[b']? = some x) (hb : b' ≠ b) :
    ((((w.setCell ⟨b, 0, none⟩ v0).setCell ⟨b, 1, none⟩ v1).setCell ⟨b, 2, none⟩ v2).setCell ⟨b, 3, none⟩ v3).heap[b']? = some x := by
  rw [Below.heap_setCell _ _ _ _ hb, Below.heap_setCell _ _ _ _ hb, Below.heap_setCell _ _ _ _ hb, Below.heap_setCell _ _ _ _ hb]; exact h
/-- The cells of an older block of four while they are written one behind the other, a new block laid behind it all. -/
theorem four_on {w : World} {b : Nat} {x0 x1 x2 x3 : Value} {t : TypeId} (h : w.heap[b]? = some (.cells #[x0, x1, x2, x3] t)) :
    (∀ o, (w.alloc o).cell? ⟨b, 0, none⟩ = some x0) ∧ (∀ o, (w.alloc o).frozen? ⟨b, 0, none⟩ = false) ∧
    (∀ v o, ((w.setCell ⟨b, 0, none⟩ v).alloc o).cell? ⟨b, 1, none⟩ = some x1) ∧ (∀ v o, ((w.setCell ⟨b, 0, none⟩ v).alloc o).frozen? ⟨b, 1, none⟩ = false) ∧
    (∀ v v' o, (((w.setCell ⟨b, 0, none⟩ v).setCell ⟨b, 1, none⟩ v').alloc o).cell? ⟨b, 2, none⟩ = some x2) ∧ (∀ v v' o, (((w.setCell ⟨b, 0, none⟩ v).setCell ⟨b, 1, none⟩ v').alloc o).frozen? ⟨b, 2, none⟩ = false) ∧
    (∀ v v' v'' o, ((((w.setCell ⟨b, 0, none⟩ v).setCell ⟨b, 1, none⟩ v').setCell ⟨b, 2, none⟩ v'').alloc o).cell? ⟨b, 3, none⟩ = some x3) ∧ (∀ v v' v'' o, ((((w.setCell ⟨b, 0, none⟩ v).setCell ⟨b, 1, none⟩ v').setCell ⟨b, 2, none⟩ v'').alloc o).frozen? ⟨b, 3, none⟩ = false) := by
  have k1 : ∀ v, (w.setCell ⟨b, 0, none⟩ v).heap[b]? = some (.cells #[v, x1, x2, x3] t) := fun v => by simp [World.setCell, Array.getElem?_modify, h]
  have k2 : ∀ v v', ((w.setCell ⟨b, 0, none⟩ v).setCell ⟨b, 1, none⟩ v').heap[b]? = some (.cells #[v, v', x2, x3] t) := fun v v' => by simp [World.setCell, Array.getElem?_modify, h]
  have k3 : ∀ v v' v'', (((w.setCell ⟨b, 0, none⟩ v).setCell ⟨b, 1, none⟩ v').setCell ⟨b, 2, none⟩ v'').heap[b]? = some (.cells #[v, v', v'', x3] t) := fun v v' v'' => by simp [World.setCell, Array.getElem?_modify, h]
  refine ⟨fun o => ?_, fun o => ?_, fun v o => ?_, fun v o => ?_, fun v v' o => ?_, fun v v' o => ?_, fun v v' v'' o => ?_, fun v v' v'' o => ?_⟩
  · exact (four (heap_alloc_lt (o := o) h)).1
  · exact (four (heap_alloc_lt (o := o) h)).2.2.2.2.1
  · exact (four (heap_alloc_lt (o := o) (k1 v))).2.1
  · exact (four (heap_alloc_lt (o := o) (k1 v))).2.2.2.2.2.1
  · exact (four (heap_alloc_lt (o := o) (k2 v v'))).2.2.1
  · exact (four (heap_alloc_lt (o := o) (k2 v v'))).2.2.2.2.2.2.1
  · exact (four (heap_alloc_lt (o := o) (k3 v v' v''))).2.2.2.1
  · exact (four (heap_alloc_lt (o := o) (k3 v v' v''))).2.2.2.2.2.2.2
/-- A block of four cells that is written as a whole, and read again. -/
theorem four_st {w : World} {b : Nat} {x0 x1 x2 x3 : Value} {t : TypeId} (h : w.heap[b]? = some (.cells #[x0, x1, x2, x3] t)) :
    w.cell? ⟨b, 0, none⟩ = some x0 ∧ w.frozen? ⟨b, 0, none⟩ = false ∧
    (∀ v, (w.setCell ⟨b, 0, none⟩ v).cell? ⟨b, 1, none⟩ = some x1) ∧ (∀ v, (w.setCell ⟨b, 0, none⟩ v).frozen? ⟨b, 1, none⟩ = false) ∧
    (∀ v v', ((w.setCell ⟨b, 0, none⟩ v).setCell ⟨b, 1, none⟩ v').cell? ⟨b, 2, none⟩ = some x2) ∧ (∀ v v', ((w.setCell ⟨b, 0, none⟩ v).setCell ⟨b, 1, none⟩ v').frozen? ⟨b, 2, none⟩ = false) ∧
    (∀ v v' v'', (((w.setCell ⟨b, 0, none⟩ v).setCell ⟨b, 1, none⟩ v').setCell ⟨b, 2, none⟩ v'').cell? ⟨b, 3, none⟩ = some x3) ∧ (∀ v v' v'', (((w.setCell ⟨b, 0, none⟩ v).setCell ⟨b, 1, none⟩ v').setCell ⟨b, 2, none⟩ v'').frozen? ⟨b, 3, none⟩ = false) ∧
    (∀ v, (w.setCell ⟨b, 0, none⟩ v).cell? ⟨b, 0, none⟩ = some v) ∧
    (∀ v v', ((w.setCell ⟨b, 0, none⟩ v).setCell ⟨b, 1, none⟩ v').cell? ⟨b, 1, none⟩ = some v') ∧
    (∀ v v' v'', (((w.setCell ⟨b, 0, none⟩ v).setCell ⟨b, 1, none⟩ v').setCell ⟨b, 2, none⟩ v'').cell? ⟨b, 2, none⟩ = some v'') ∧
    (∀ v v' v'' v3, ((((w.setCell ⟨b, 0, none⟩ v).setCell ⟨b, 1, none⟩ v').setCell ⟨b, 2, none⟩ v'').setCell ⟨b, 3, none⟩ v3).cell? ⟨b, 3, none⟩ = some v3) := by
  have k1 : ∀ v, (w.setCell ⟨b, 0, none⟩ v).heap[b]? = some (.cells #[v, x1, x2, x3] t) := fun v => by simp [World.setCell, Array.getElem?_modify, h]
  have k2 : ∀ v v', ((w.setCell ⟨b, 0, none⟩ v).setCell ⟨b, 1, none⟩ v').heap[b]? = some (.cells #[v, v', x2, x3] t) := fun v v' => by simp [World.setCell, Array.getElem?_modify, h]
  have k3 : ∀ v v' v'', (((w.setCell ⟨b, 0, none⟩ v).setCell ⟨b, 1, none⟩ v').setCell ⟨b, 2, none⟩ v'').heap[b]? = some (.cells #[v, v', v'', x3] t) := fun v v' v'' => by simp [World.setCell, Array.getElem?_modify, h]
  have k4 := fun v v' v'' v3 => set4 v v' v'' v3 h
  exact ⟨(four h).1, (four h).2.2.2.2.1, fun v => (four (k1 v)).2.1, fun v => (four (k1 v)).2.2.2.2.2.1, fun v v' => (four (k2 v v')).2.2.1, fun v v' => (four (k2 v v')).2.2.2.2.2.2.1, fun v v' v'' => (four (k3 v v' v'')).2.2.2.1, fun v v' v'' => (four (k3 v v' v'')).2.2.2.2.2.2.2,
    fun v => (four (k1 v)).1, fun v v' => (four (k2 v v')).2.1, fun v v' v'' => (four (k3 v v' v'')).2.2.1, fun v v' v'' v3 => (four (k4 v v' v'' v3)).2.2.2.1⟩
theorem two_new (w : World) (x y : Obj) : ((w.alloc x).alloc y).heap[w.heap.size]? = some x ∧ ((w.alloc x).alloc y).heap[w.heap.size + 1]? = some y := by
  show ((w.heap.push x).push y)[w.heap.size]? = _ ∧ ((w.heap.push x).push y)[w.heap.size + 1]? = _
  constructor
  · simp [Array.getElem?_push]
  · rw [Array.getElem?_push, if_pos (by simp)]

theorem bcell {W w1 : World} (hb : Below W.heap.size W w1) : (∀ b o, b < W.heap.size → w1.cell? ⟨b, o, none⟩ = W.cell? ⟨b, o, none⟩) ∧ (∀ b o, b < W.heap.size → w1.frozen? ⟨b, o, none⟩ = W.frozen? ⟨b, o, none⟩) :=
  ⟨fun b o h => hb.cell (p := ⟨b, o, none⟩) h, fun b o h => hb.frozen (p := ⟨b, o, none⟩) h⟩
theorem cell_new (w : World) (cs : Array Value) (t : TypeId) (j : Nat) : (w.alloc (.cells cs t)).cell? ⟨w.heap.size, j, none⟩ = cs[j]? := by
  have e : (w.alloc (.cells cs t)).heap[w.heap.size]? = some (.cells cs t) := by show (w.heap.push _)[w.heap.size]? = _; simp
  unfold World.cell?; rw [e]; rfl
theorem three_new (w : World) (x y z : Obj) : (((w.alloc x).alloc y).alloc z).heap[w.heap.size]? = some x ∧ (((w.alloc x).alloc y).alloc z).heap[w.heap.size + 1]? = some y ∧ (((w.alloc x).alloc y).alloc z).heap[w.heap.size + 1 + 1]? = some z := by
  show (((w.heap.push x).push y).push z)[w.heap.size]? = _ ∧ (((w.heap.push x).push y).push z)[w.heap.size + 1]? = _ ∧ (((w.heap.push x).push y).push z)[w.heap.size + 1 + 1]? = _
  refine ⟨?_, ?_, ?_⟩
  · simp [Array.getElem?_push]; omega
  · rw [Array.getElem?_push, if_neg (by simp), Array.getElem?_push, if_pos (by simp)]
  · rw [Array.getElem?_push, if_pos (by simp)]
theorem below_setRow {B g : Nat} {a w : World} (h : Below B a w) (hg : B ≤ g) (cs : Array Value) : Below B a (w.setRow g cs) :=
  h.trans ⟨rfl, rfl, rfl, by simp, fun k hk => by simp only [World.setRow, Array.getElem?_modify]; rw [if_neg (by omega)]⟩
theorem heap_setRow {w : World} {g : Nat} {old cs : Array Value} {t : TypeId} (h : w.heap[g]? = some (.cells old t)) : (w.setRow g cs).heap[g]? = some (.cells cs t) := by
  simp [World.setRow, Array.getElem?_modify, h]
theorem keep_blk {w w' : World} {g : Nat} {x : Obj} (hb : Below w.heap.size w w') (h : w.heap[g]? = some x) : w'.heap[g]? = some x :=
  (hb.block g (Array.getElem?_eq_some_iff.1 h).1).trans h
theorem heap_setRow_other (w : World) (g : Nat) (cs : Array Value) {k : Nat} (h : k ≠ g) : (w.setRow g cs).heap[k]? = w.heap[k]? := by
  simp only [World.setRow, Array.getElem?_modify]; rw [if_neg (Ne.symm h)]
theorem keep_new {w w' : World} {g : Nat} {o x : Obj} (hb : Below (w.heap.size + 1) (w.alloc o) w') (h : w.heap[g]? = some x) : w'.heap[g]? = some x :=
  keep_blk (w := w.alloc o) (by simpa using hb) (heap_alloc_lt h)
end Go.Proofs.YtlbhbjmobcikfaaGreatDoor
