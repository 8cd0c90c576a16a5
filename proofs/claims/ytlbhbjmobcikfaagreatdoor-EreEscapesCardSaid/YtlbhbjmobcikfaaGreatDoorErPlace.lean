/- The place and the index that an error tells; errors.Unwrap. -/
import Derived.Test.YtlbhbjmobcikfaaGreatDoorErAs2
import Derived.Test.YtlbhbjmobcikfaaGreatDoorErSent
namespace Go.Proofs.YtlbhbjmobcikfaaGreatDoor
open Go.RowKit Go.Extern.Stop Go.Stop Go.Extern
theorem Wrapped.first {w : World} {base : Value} {l : List (Bool × Int × Nat)} {v : Value} (h : Wrapped w base l v) {k : Bool} {x : Int × Nat} (hf : firstOf k l = some x) : w.cell? ⟨x.2, 0, none⟩ = some (.int .i64 x.1) := by
  induction h with
  | base => simp [firstOf] at hf
  | fault n p h0 h1 _ ih =>
    unfold firstOf at hf
    split at hf
    · simp only [Option.some.injEq] at hf; subst hf; exact h0
    · exact ih hf
/-- The variable of package errors that errors.As reads. -/
def ErrType (w : World) : Prop := w.cell? ⟨21, 0, none⟩ = some (.iface 108 (.agg #[.pointer (some ⟨Tryz.prog.globals.size, 30, none⟩)]))
theorem ErrType.later {w w' : World} (h : ErrType w) (hb : Below w.heap.size w w') : ErrType w' := (hb.cell (p := ⟨21, 0, none⟩) (block_lt_of_cell h)).trans h
def numOf (o : Option (Int × Nat)) : Int := match o with | some x => x.1 | none => -1
set_option maxHeartbeats 2000000 in
theorem numplace_any (b : Addr) (l : List (Bool × Int × Nat)) (v : Value) (w : World) (hw : Wrapped w (.iface 184 (.pointer (some b))) l v) (hg : ErrType w) :
    Calls Tryz.prog 16 #[v] w fun e w' => e = .returned (.int .i64 (numOf (firstOf false l))) ∧ Below w.heap.size w w' := by
  have hb1 : Below w.heap.size w (w.alloc (.cells #[.pointer none] 65)) := (Below.refl _ _).alloc (Nat.le_refl _) _
  have z1 := heap_alloc_new w (.cells #[.pointer none] 65)
  have hAs := as_any_F b ⟨w.heap.size, 0, none⟩ l v _ (hw.later hb1) (hg.later hb1) (.pointer none) (by unfold World.cell?; rw [z1]; rfl) (by unfold World.frozen?; rw [z1]; simp)
  have HAS := Lib.hid hAs; have HB := Lib.hid hb1; have HW := Lib.hid hw
  clear hAs z1 hb1 hw hg
  cases hf : firstOf false l with
  | none =>
    go_enter Tryz.func16, Tryz.ntmps16
    go_wp2_with fail
    refine HAS.out.mono ?_
    intro e w' he
    obtain ⟨rfl, hb⟩ := asEnd_no hf he
    have hb2 := Lib.hid (HB.out.trans (hb.mono HB.out.size))
    clear he hb HAS HB
    go_wp2
    go_ret
    exact ⟨rfl, hb2.out⟩
  | some x =>
    have hx := HW.out.first hf
    have hlt := block_lt_of_cell hx
    obtain ⟨n, p⟩ := x
    go_enter Tryz.func16, Tryz.ntmps16
    go_wp2_with fail
    refine HAS.out.mono ?_
    intro e w' he
    obtain ⟨rfl, w1, hb, rfl⟩ := asEnd_yes hf he
    have hsz : w.heap.size < w1.heap.size := by have := hb.size; simp at this; omega
    have hb2 := HB.out.trans (hb.mono HB.out.size)
    have z1 : w1.heap[w.heap.size]? = some (.cells #[.pointer none] 65) := keep_blk hb (heap_alloc_new w _)
    have c1 : (w1.setCell ⟨w.heap.size, 0, none⟩ (.pointer (some ⟨p, 0, none⟩))).cell? ⟨w.heap.size, 0, none⟩ = some (.pointer (some ⟨p, 0, none⟩)) := by
      simp [World.setCell, World.cell?, Array.getElem?_modify, z1]
    have c2 : (w1.setCell ⟨w.heap.size, 0, none⟩ (.pointer (some ⟨p, 0, none⟩))).cell? ⟨p, 0, none⟩ = some (.int .i64 n) := by
      have hne : p ≠ w.heap.size := by have : p < w.heap.size := hlt; omega
      rw [← hx, ← hb2.cell (p := ⟨p, 0, none⟩) hlt]
      unfold World.cell?; rw [Below.heap_setCell _ _ _ _ hne]
    have hb3 := Lib.hid (hb2.setCell (p := ⟨w.heap.size, 0, none⟩) (Nat.le_refl _) (.pointer (some ⟨p, 0, none⟩)))
    clear he hb HAS HB z1 hb2 hx HW
    generalize w1.setCell _ _ = w2 at *
    go_wp2
    go_ret
    exact ⟨rfl, hb3.out⟩
end Go.Proofs.YtlbhbjmobcikfaaGreatDoor
