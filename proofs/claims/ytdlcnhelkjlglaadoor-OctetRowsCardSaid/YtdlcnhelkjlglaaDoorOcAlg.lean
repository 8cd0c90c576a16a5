/- Lists of two and of three sets; what the rows of a set are. -/
import Derived.Test.YtdlcnhelkjlglaaDoorOcRowsFn
import Derived.Test.YtdlcnhelkjlglaaDoorOcRef
import Derived.Great.BuildSlice
namespace Go.Proofs.YtdlcnhelkjlglaaDoor
open Go.RowKit
/-- A list of two sets. -/
def Sl2 (w : World) (v : Value) (a b c d a' b' c' d' : BitVec 64) : Prop := ∃ g, v = .slice (some ⟨g, 0, none⟩) 2 2 ∧ w.heap[g]? = some (.cells #[.int .u64 (Oc.U a), .int .u64 (Oc.U b), .int .u64 (Oc.U c), .int .u64 (Oc.U d), .int .u64 (Oc.U a'), .int .u64 (Oc.U b'), .int .u64 (Oc.U c'), .int .u64 (Oc.U d')] 24)
def Sl3 (w : World) (v : Value) (a b c d a' b' c' d' a2 b2 c2 d2 : BitVec 64) : Prop := ∃ g, v = .slice (some ⟨g, 0, none⟩) 3 3 ∧ w.heap[g]? = some (.cells #[.int .u64 (Oc.U a), .int .u64 (Oc.U b), .int .u64 (Oc.U c), .int .u64 (Oc.U d), .int .u64 (Oc.U a'), .int .u64 (Oc.U b'), .int .u64 (Oc.U c'), .int .u64 (Oc.U d'), .int .u64 (Oc.U a2), .int .u64 (Oc.U b2), .int .u64 (Oc.U c2), .int .u64 (Oc.U d2)] 24)
theorem Sl2.below {w w' : World} {v : Value} {a b c d a' b' c' d' : BitVec 64} (h : Sl2 w v a b c d a' b' c' d') (hb : Below w.heap.size w w') : Sl2 w' v a b c d a' b' c' d' := by
  obtain ⟨g, e, hg⟩ := h; exact ⟨g, e, keep_blk hb hg⟩
theorem Sl3.below {w w' : World} {v : Value} {a b c d a' b' c' d' a2 b2 c2 d2 : BitVec 64} (h : Sl3 w v a b c d a' b' c' d' a2 b2 c2 d2) (hb : Below w.heap.size w w') : Sl3 w' v a b c d a' b' c' d' a2 b2 c2 d2 := by
  obtain ⟨g, e, hg⟩ := h; exact ⟨g, e, keep_blk hb hg⟩
theorem below_new {w : World} (o : Obj) : Below w.heap.size w (w.alloc o) := (Below.refl _ _).alloc (Nat.le_refl _) _
/-- One of two, one of three. -/
def two {T : Type} (x y : T) (i : Nat) : T := if i = 0 then x else y
def three {T : Type} (x y z : T) (i : Nat) : T := if i = 0 then x else if i = 1 then y else z
theorem join2_any {w : World} {v : Value} {a b c d a' b' c' d' : BitVec 64} (h : Sl2 w v a b c d a' b' c' d') : Calls Tryd.prog 21 #[v] w fun e w' => e = .returned (.agg #[.int .u64 (Oc.U (a ||| a')), .int .u64 (Oc.U (b ||| b')), .int .u64 (Oc.U (c ||| c')), .int .u64 (Oc.U (d ||| d'))]) ∧ Below w.heap.size w w' := by
  obtain ⟨g, rfl, hg⟩ := h
  refine (join_any (some ⟨g, 0, none⟩) 2 2 (two a a') (two b b') (two c c') (two d d') (by omega) w ?_).mono ?_
  · intro i hi
    refine ⟨g, 0, rfl, (Array.getElem?_eq_some_iff.1 hg).1, ?_⟩
    rcases (show i = 0 ∨ i = 1 by omega) with rfl | rfl <;> simp [World.cell?, hg, two]
  · rintro e w' ⟨rfl, hb⟩
    exact ⟨by simp [Oc.orAll, two], hb⟩
theorem meet2_any {w : World} {v : Value} {a b c d a' b' c' d' : BitVec 64} (h : Sl2 w v a b c d a' b' c' d') : Calls Tryd.prog 24 #[v] w fun e w' => e = .returned (.agg #[.int .u64 (Oc.U (a &&& a')), .int .u64 (Oc.U (b &&& b')), .int .u64 (Oc.U (c &&& c')), .int .u64 (Oc.U (d &&& d'))]) ∧ Below w.heap.size w w' := by
  obtain ⟨g, rfl, hg⟩ := h
  refine (meet_any (some ⟨g, 0, none⟩) 2 2 (two a a') (two b b') (two c c') (two d d') (by omega) w ?_).mono ?_
  · intro i hi
    refine ⟨g, 0, rfl, (Array.getElem?_eq_some_iff.1 hg).1, ?_⟩
    rcases (show i = 0 ∨ i = 1 by omega) with rfl | rfl <;> simp [World.cell?, hg, two]
  · rintro e w' ⟨rfl, hb⟩
    have key : ∀ x y : BitVec 64, 18446744073709551615#64 &&& x &&& y = x &&& y := fun x y => by rw [show (18446744073709551615#64) = BitVec.allOnes 64 from rfl, BitVec.allOnes_and]
    exact ⟨by simp [Oc.andAll, two, key], hb⟩
theorem join3_any {w : World} {v : Value} {a b c d a' b' c' d' : BitVec 64} (h : Sl3 w v a' b' c' d' a b c d a' b' c' d') : Calls Tryd.prog 21 #[v] w fun e w' => e = .returned (.agg #[.int .u64 (Oc.U (a ||| a')), .int .u64 (Oc.U (b ||| b')), .int .u64 (Oc.U (c ||| c')), .int .u64 (Oc.U (d ||| d'))]) ∧ Below w.heap.size w w' := by
  obtain ⟨g, rfl, hg⟩ := h
  refine (join_any (some ⟨g, 0, none⟩) 3 3 (three a' a a') (three b' b b') (three c' c c') (three d' d d') (by omega) w ?_).mono ?_
  · intro i hi
    refine ⟨g, 0, rfl, (Array.getElem?_eq_some_iff.1 hg).1, ?_⟩
    rcases (show i = 0 ∨ i = 1 ∨ i = 2 by omega) with rfl | rfl | rfl <;> simp [World.cell?, hg, three]
  · rintro e w' ⟨rfl, hb⟩
    have key : ∀ x y : BitVec 64, y ||| x ||| y = x ||| y := fun x y => by rw [BitVec.or_comm y x, BitVec.or_assoc, BitVec.or_self]
    exact ⟨by simp [Oc.orAll, three, key], hb⟩
theorem Tryd.infoSetA : (Tryd.prog.info? 24).map (fun i => (i.zero, i.size, i.bytes)) = some (some (.agg #[.int .u64 0, .int .u64 0, .int .u64 0, .int .u64 0]), 4, 32) := by kernel_rfl
/-- The literal of a list of two sets, of three sets. -/
theorem wp_pair {o : Oper} {x : Act} {w : World} {K : Act → World → Prop} {Q : Exit → Act → World → Prop} (s t : Operand) {a b c d a' b' c' d' : BitVec 64} (ho : o.op = .buildSlice 55 2 #[(0, s), (1, t)])
    (hs : x.eval s = (.agg #[.int .u64 (Oc.U a), .int .u64 (Oc.U b), .int .u64 (Oc.U c), .int .u64 (Oc.U d)])) (ht : x.eval t = (.agg #[.int .u64 (Oc.U a'), .int .u64 (Oc.U b'), .int .u64 (Oc.U c'), .int .u64 (Oc.U d')]))
    (h : K (x.put o.dst (.slice (some ⟨w.heap.size, 0, none⟩) 2 2)) (w.alloc (.cells #[.int .u64 (Oc.U a), .int .u64 (Oc.U b), .int .u64 (Oc.U c), .int .u64 (Oc.U d), .int .u64 (Oc.U a'), .int .u64 (Oc.U b'), .int .u64 (Oc.U c'), .int .u64 (Oc.U d')] 24))) : o.wp Tryd.prog x w K Q := by
  obtain ⟨ie, hi, hz0, hz1, -⟩ := info_parts Tryd.infoSetA
  refine wp_buildSlice 55 24 2 _ ho _ ie _ Tryd.underlying55 hi hz0 (by rw [hz1]; decide) (by rw [hz1]; decide) ?_ h
  rw [hz1]
  simp only [List.map_toArray, List.map_cons, List.map_nil, hs, ht]
  kernel_rfl
theorem wp_triple {o : Oper} {x : Act} {w : World} {K : Act → World → Prop} {Q : Exit → Act → World → Prop} (s t u : Operand) {a b c d a' b' c' d' a2 b2 c2 d2 : BitVec 64} (ho : o.op = .buildSlice 55 3 #[(0, s), (1, t), (2, u)])
    (hs : x.eval s = (.agg #[.int .u64 (Oc.U a), .int .u64 (Oc.U b), .int .u64 (Oc.U c), .int .u64 (Oc.U d)])) (ht : x.eval t = (.agg #[.int .u64 (Oc.U a'), .int .u64 (Oc.U b'), .int .u64 (Oc.U c'), .int .u64 (Oc.U d')])) (hu : x.eval u = (.agg #[.int .u64 (Oc.U a2), .int .u64 (Oc.U b2), .int .u64 (Oc.U c2), .int .u64 (Oc.U d2)]))
    (h : K (x.put o.dst (.slice (some ⟨w.heap.size, 0, none⟩) 3 3)) (w.alloc (.cells #[.int .u64 (Oc.U a), .int .u64 (Oc.U b), .int .u64 (Oc.U c), .int .u64 (Oc.U d), .int .u64 (Oc.U a'), .int .u64 (Oc.U b'), .int .u64 (Oc.U c'), .int .u64 (Oc.U d'), .int .u64 (Oc.U a2), .int .u64 (Oc.U b2), .int .u64 (Oc.U c2), .int .u64 (Oc.U d2)] 24))) : o.wp Tryd.prog x w K Q := by
  obtain ⟨ie, hi, hz0, hz1, -⟩ := info_parts Tryd.infoSetA
  refine wp_buildSlice 55 24 3 _ ho _ ie _ Tryd.underlying55 hi hz0 (by rw [hz1]; decide) (by rw [hz1]; decide) ?_ h
  rw [hz1]
  simp only [List.map_toArray, List.map_cons, List.map_nil, hs, ht, hu]
  kernel_rfl
namespace Oc
/-- What the rows of a set are: each holds a byte at least, they rise with a gap, and they hold just the set's bytes. -/
theorem rowsFrom_spec {p q : Nat → Bool} (hq : ∀ j, q j = !p j) : ∀ k m, m ≤ 256 → 256 < k + m → (m < 256 → p m = true) →
    (∀ x ∈ rowsFrom p q k m, m ≤ x.1 ∧ x.1 < x.2 ∧ x.2 ≤ 256) ∧ (∀ i x y, (rowsFrom p q k m)[i]? = some x → (rowsFrom p q k m)[i + 1]? = some y → x.2 < y.1) ∧
    (∀ j, m ≤ j → j < 256 → ((rowsFrom p q k m).any fun x => decide (x.1 ≤ j) && decide (j < x.2)) = p j)
  | 0, m, h0, h1, _ => by omega
  | k + 1, m, h0, h1, hp => by
    by_cases hlt : m < 256
    · rw [rowsFrom_step p q k m hlt]
      have hs := nx_spec q m h0
      have hg : m < nx q m := by
        rcases Nat.lt_or_ge m (nx q m) with h | h
        · exact h
        · have e : nx q m = m := by omega
          have h2 := hs.2.2.2 (by omega)
          rw [e, hq, hp hlt] at h2; cases h2
      generalize nx q m = g at *
      have ht := nx_spec p g hs.2.1
      obtain ⟨r1, r2, r3⟩ := rowsFrom_spec hq k (nx p g) ht.2.1 (by omega) ht.2.2.2
      have hgap : nx p g < 256 → g < nx p g := by
        intro h
        rcases Nat.lt_or_ge g (nx p g) with h' | h'
        · exact h'
        · have e : nx p g = g := by omega
          have h2 := ht.2.2.2 h
          have h3 := hs.2.2.2 (by omega)
          rw [e] at h2; rw [hq, h2] at h3; cases h3
      refine ⟨?_, ?_, ?_⟩
      · intro x hx
        rcases List.mem_cons.1 hx with rfl | hx
        · exact ⟨Nat.le_refl _, hg, hs.2.1⟩
        · obtain ⟨a1, a2, a3⟩ := r1 x hx
          exact ⟨by omega, a2, a3⟩
      · intro i x y hx hy
        cases i with
        | zero =>
          simp only [List.getElem?_cons_zero, Option.some.injEq] at hx
          simp only [Nat.zero_add, List.getElem?_cons_succ] at hy
          subst hx
          obtain ⟨a1, a2, a3⟩ := r1 y (List.mem_of_getElem? hy)
          have := hgap (by omega)
          show g < y.1
          omega
        | succ i =>
          simp only [List.getElem?_cons_succ] at hx hy
          exact r2 i x y hx hy
      · intro j hj hj2
        rw [List.any_cons]
        by_cases hjg : j < g
        · have : p j = true := by
            have := hs.2.2.1 j hj hjg
            rw [hq] at this
            cases h : p j
            · rw [h] at this; cases this
            · rfl
          rw [this]; simp [hj, hjg]
        · have e1 : (decide (m ≤ j) && decide (j < g)) = false := by simp [hjg]
          rw [show (decide ((m, g).1 ≤ j) && decide (j < (m, g).2)) = false from e1, Bool.false_or]
          by_cases hjn : nx p g ≤ j
          · exact r3 j hjn hj2
          · rw [ht.2.2.1 j (by omega) (by omega), List.any_eq_false]
            intro x hx
            obtain ⟨a1, a2, a3⟩ := r1 x hx
            simp; omega
    · have e : m = 256 := by omega
      subst e
      rw [rowsFrom_end]
      exact ⟨fun x hx => (by cases hx), fun i x y hx => (by simp at hx), fun j h1 h2 => (by omega)⟩
end Oc
end Go.Proofs.YtdlcnhelkjlglaaDoor
