/- Lists of nodes that a call has made by append: as rows of cells, and read as trees. -/
import Derived.Test.YtlbhbjmobcikfaaGreatDoorTrDef
import Derived.Laws.AppendOwn
namespace Go.Proofs.YtlbhbjmobcikfaaGreatDoor
open Go.RowKit
/-- The cells of nodes one behind the other, each with the slice value of its list. -/
def rowOf (ps : List (Tr × Value)) : List Value := ps.flatMap fun x => (x.1.cells x.2).toList
theorem rowOf_snoc (ps : List (Tr × Value)) (t : Tr) (s : Value) : rowOf (ps ++ [(t, s)]) = rowOf ps ++ (t.cells s).toList := by
  unfold rowOf; simp
theorem rowOf_length (ps : List (Tr × Value)) : (rowOf ps).length = ps.length * 10 := by
  unfold rowOf
  induction ps with
  | nil => rfl
  | cons x ps ih => rw [List.flatMap_cons, List.length_append, ih]; simp [Tr.cells]; omega
theorem rowOf_get : ∀ (ps : List (Tr × Value)) (i : Nat) (t : Tr) (s : Value), ps[i]? = some (t, s) → ∀ j, j < 10 → (rowOf ps)[i * 10 + j]? = (t.cells s)[j]?
  | [], i, t, s, h, _, _ => by simp at h
  | x :: ps, 0, t, s, h, j, hj => by
    simp only [List.getElem?_cons_zero, Option.some.injEq] at h
    subst h
    unfold rowOf
    rw [List.flatMap_cons, Nat.zero_mul, Nat.zero_add, List.getElem?_append_left (by simp [Tr.cells]; omega)]
    simp
  | x :: ps, i + 1, t, s, h, j, hj => by
    have ih := rowOf_get ps i t s (by simpa using h) j hj
    unfold rowOf at ih ⊢
    rw [List.flatMap_cons, List.getElem?_append_right (by simp [Tr.cells]; omega)]
    rw [← ih]
    congr 1
    simp [Tr.cells]; omega
/-- A row that a call owns reads as its nodes, the lists below lying elsewhere. -/
theorem trees_of_row {w : World} {base : Nat} {B B' : Nat → Prop} {v : Value} {n : Nat} {ps : List (Tr × Value)} (h : w.ownsRow base 28 10 v n (rowOf ps)) (hn : ps.length * 96 ≤ 140737488351232)
    (hs : ∀ (i : Nat) (t : Tr) (s : Value), ps[i]? = some (t, s) → TreesAt w B s t.subs) (hB : ∀ b, B b → B' b) (hg : ∀ g, v.ownBlock = some g → B' g) : TreesAt w B' v (ps.map (·.1)) := by
  have hlen : ps.length = n := by have := h.1; rw [rowOf_length] at this; omega
  have hcells := fun g hv => World.ownsRow.cells h (g := g) hv
  rcases h.2 with ⟨rfl, hn0⟩ | ⟨g, cap, cur, rfl, hbg, hheap, -⟩
  · have : ps = [] := List.length_eq_zero_iff.1 (by omega)
    subst this
    exact TreesAt.nil
  · have hc := hcells g rfl
    have key : ∀ (i : Nat) (t : Tr) (s : Value), ps[i]? = some (t, s) → TenAt w g (0 + i * 10) t s := by
      intro i t s hi
      have get : ∀ j u, j < 10 → (t.cells s)[j]? = some u → w.cell? ⟨g, 0 + i * 10 + j, none⟩ = some u := by
        intro j u hj hu
        have := hc (i * 10 + j) u (by rw [rowOf_get ps i t s hi j hj]; exact hu)
        have ea : (⟨g, 0, none⟩ : Addr).add (i * 10 + j) = ⟨g, 0 + i * 10 + j, none⟩ := by unfold Addr.add; split <;> simp_all <;> omega
        rw [ea] at this; exact this
      exact ⟨get 0 _ (by omega) rfl, get 1 _ (by omega) rfl, get 2 _ (by omega) rfl, get 3 _ (by omega) rfl, get 4 _ (by omega) rfl, get 5 _ (by omega) rfl, get 6 _ (by omega) rfl, get 7 _ (by omega) rfl, get 8 _ (by omega) rfl, get 9 _ (by omega) rfl⟩
    have hl2 : n = (ps.map (·.1)).length := by rw [List.length_map]; omega
    rw [hl2]
    have split : ∀ (i : Nat) (t : Tr), (ps.map (·.1))[i]? = some t → ∃ s, ps[i]? = some (t, s) := by
      intro i t hi
      rw [List.getElem?_map] at hi
      cases hx : ps[i]? with
      | none => rw [hx] at hi; cases hi
      | some x => rw [hx] at hi; cases x with | mk a b => simp only [Option.map_some, Option.some.injEq] at hi; subst hi; exact ⟨b, rfl⟩
    refine .mk (some ⟨g, 0, none⟩) cap (ps.map (·.1)) (fun i => ((ps[i]?).map (·.2)).getD undef) (by rw [List.length_map]; exact hn) (fun i t hi => ?_) (fun i t hi => ?_)
    · obtain ⟨s, hs'⟩ := split i t hi
      exact ⟨g, 0, rfl, hg g rfl, by simp only [hs', Option.map_some, Option.getD_some]; exact key i t s hs'⟩
    · obtain ⟨s, hs'⟩ := split i t hi
      simp only [hs', Option.map_some, Option.getD_some]
      exact (hs i t s hs').mono fun b _ hb => hB b hb
end Go.Proofs.YtlbhbjmobcikfaaGreatDoor
