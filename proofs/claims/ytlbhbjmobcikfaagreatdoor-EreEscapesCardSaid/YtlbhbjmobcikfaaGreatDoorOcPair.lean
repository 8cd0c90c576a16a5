/- Lists of two and of three sets. -/
import Derived.Test.YtlbhbjmobcikfaaGreatDoorOcRef
import Derived.Great.BuildSlice
namespace Go.Proofs.YtlbhbjmobcikfaaGreatDoor
open Go.RowKit
/-- A list of two sets. -/
def Sl2 (w : World) (v : Value) (a b c d a' b' c' d' : BitVec 64) : Prop := ∃ g, v = .slice (some ⟨g, 0, none⟩) 2 2 ∧ w.heap[g]? = some (.cells #[.int .u64 (Oc.U a), .int .u64 (Oc.U b), .int .u64 (Oc.U c), .int .u64 (Oc.U d), .int .u64 (Oc.U a'), .int .u64 (Oc.U b'), .int .u64 (Oc.U c'), .int .u64 (Oc.U d')] 25)
def Sl3 (w : World) (v : Value) (a b c d a' b' c' d' a2 b2 c2 d2 : BitVec 64) : Prop := ∃ g, v = .slice (some ⟨g, 0, none⟩) 3 3 ∧ w.heap[g]? = some (.cells #[.int .u64 (Oc.U a), .int .u64 (Oc.U b), .int .u64 (Oc.U c), .int .u64 (Oc.U d), .int .u64 (Oc.U a'), .int .u64 (Oc.U b'), .int .u64 (Oc.U c'), .int .u64 (Oc.U d'), .int .u64 (Oc.U a2), .int .u64 (Oc.U b2), .int .u64 (Oc.U c2), .int .u64 (Oc.U d2)] 25)
theorem Sl2.below {w w' : World} {v : Value} {a b c d a' b' c' d' : BitVec 64} (h : Sl2 w v a b c d a' b' c' d') (hb : Below w.heap.size w w') : Sl2 w' v a b c d a' b' c' d' := by
  obtain ⟨g, e, hg⟩ := h; exact ⟨g, e, keep_blk hb hg⟩
theorem Sl3.below {w w' : World} {v : Value} {a b c d a' b' c' d' a2 b2 c2 d2 : BitVec 64} (h : Sl3 w v a b c d a' b' c' d' a2 b2 c2 d2) (hb : Below w.heap.size w w') : Sl3 w' v a b c d a' b' c' d' a2 b2 c2 d2 := by
  obtain ⟨g, e, hg⟩ := h; exact ⟨g, e, keep_blk hb hg⟩
theorem below_new {w : World} (o : Obj) : Below w.heap.size w (w.alloc o) := (Below.refl _ _).alloc (Nat.le_refl _) _
/-- One of two, one of three. -/
def two {T : Type} (x y : T) (i : Nat) : T := if i = 0 then x else y
def three {T : Type} (x y z : T) (i : Nat) : T := if i = 0 then x else if i = 1 then y else z
theorem join2_any {w : World} {v : Value} {a b c d a' b' c' d' : BitVec 64} (h : Sl2 w v a b c d a' b' c' d') : Calls Tryz.prog 143 #[v] w fun e w' => e = .returned (.agg #[.int .u64 (Oc.U (a ||| a')), .int .u64 (Oc.U (b ||| b')), .int .u64 (Oc.U (c ||| c')), .int .u64 (Oc.U (d ||| d'))]) ∧ Below w.heap.size w w' := by
  obtain ⟨g, rfl, hg⟩ := h
  refine (join_any (some ⟨g, 0, none⟩) 2 2 (two a a') (two b b') (two c c') (two d d') (by omega) w ?_).mono ?_
  · intro i hi
    refine ⟨g, 0, rfl, (Array.getElem?_eq_some_iff.1 hg).1, ?_⟩
    rcases (show i = 0 ∨ i = 1 by omega) with rfl | rfl <;> simp [World.cell?, hg, two]
  · rintro e w' ⟨rfl, hb⟩
    exact ⟨by simp [Oc.orAll, two], hb⟩
theorem meet2_any {w : World} {v : Value} {a b c d a' b' c' d' : BitVec 64} (h : Sl2 w v a b c d a' b' c' d') : Calls Tryz.prog 142 #[v] w fun e w' => e = .returned (.agg #[.int .u64 (Oc.U (a &&& a')), .int .u64 (Oc.U (b &&& b')), .int .u64 (Oc.U (c &&& c')), .int .u64 (Oc.U (d &&& d'))]) ∧ Below w.heap.size w w' := by
  obtain ⟨g, rfl, hg⟩ := h
  refine (meet_any (some ⟨g, 0, none⟩) 2 2 (two a a') (two b b') (two c c') (two d d') (by omega) w ?_).mono ?_
  · intro i hi
    refine ⟨g, 0, rfl, (Array.getElem?_eq_some_iff.1 hg).1, ?_⟩
    rcases (show i = 0 ∨ i = 1 by omega) with rfl | rfl <;> simp [World.cell?, hg, two]
  · rintro e w' ⟨rfl, hb⟩
    have key : ∀ x y : BitVec 64, 18446744073709551615#64 &&& x &&& y = x &&& y := fun x y => by rw [show (18446744073709551615#64) = BitVec.allOnes 64 from rfl, BitVec.allOnes_and]
    exact ⟨by simp [Oc.andAll, two, key], hb⟩
theorem join3_any {w : World} {v : Value} {a b c d a' b' c' d' : BitVec 64} (h : Sl3 w v a' b' c' d' a b c d a' b' c' d') : Calls Tryz.prog 143 #[v] w fun e w' => e = .returned (.agg #[.int .u64 (Oc.U (a ||| a')), .int .u64 (Oc.U (b ||| b')), .int .u64 (Oc.U (c ||| c')), .int .u64 (Oc.U (d ||| d'))]) ∧ Below w.heap.size w w' := by
  obtain ⟨g, rfl, hg⟩ := h
  refine (join_any (some ⟨g, 0, none⟩) 3 3 (three a' a a') (three b' b b') (three c' c c') (three d' d d') (by omega) w ?_).mono ?_
  · intro i hi
    refine ⟨g, 0, rfl, (Array.getElem?_eq_some_iff.1 hg).1, ?_⟩
    rcases (show i = 0 ∨ i = 1 ∨ i = 2 by omega) with rfl | rfl | rfl <;> simp [World.cell?, hg, three]
  · rintro e w' ⟨rfl, hb⟩
    have key : ∀ x y : BitVec 64, y ||| x ||| y = x ||| y := fun x y => by rw [BitVec.or_comm y x, BitVec.or_assoc, BitVec.or_self]
    exact ⟨by simp [Oc.orAll, three, key], hb⟩
theorem Tryz.infoSetA : (Tryz.prog.info? 25).map (fun i => (i.zero, i.size, i.bytes)) = some (some (.agg #[.int .u64 0, .int .u64 0, .int .u64 0, .int .u64 0]), 4, 32) := by kernel_rfl
/-- The literal of a list of two sets, of three sets. -/
theorem wp_pair {o : Oper} {x : Act} {w : World} {K : Act → World → Prop} {Q : Exit → Act → World → Prop} (s t : Operand) {a b c d a' b' c' d' : BitVec 64} (ho : o.op = .buildSlice 170 2 #[(0, s), (1, t)])
    (hs : x.eval s = (.agg #[.int .u64 (Oc.U a), .int .u64 (Oc.U b), .int .u64 (Oc.U c), .int .u64 (Oc.U d)])) (ht : x.eval t = (.agg #[.int .u64 (Oc.U a'), .int .u64 (Oc.U b'), .int .u64 (Oc.U c'), .int .u64 (Oc.U d')]))
    (h : K (x.put o.dst (.slice (some ⟨w.heap.size, 0, none⟩) 2 2)) (w.alloc (.cells #[.int .u64 (Oc.U a), .int .u64 (Oc.U b), .int .u64 (Oc.U c), .int .u64 (Oc.U d), .int .u64 (Oc.U a'), .int .u64 (Oc.U b'), .int .u64 (Oc.U c'), .int .u64 (Oc.U d')] 25))) : o.wp Tryz.prog x w K Q := by
  obtain ⟨ie, hi, hz0, hz1, -⟩ := info_parts Tryz.infoSetA
  refine wp_buildSlice 170 25 2 _ ho _ ie _ Tryz.underlying170 hi hz0 (by rw [hz1]; decide) (by rw [hz1]; decide) ?_ h
  rw [hz1]
  simp only [List.map_toArray, List.map_cons, List.map_nil, hs, ht]
  kernel_rfl
theorem wp_triple {o : Oper} {x : Act} {w : World} {K : Act → World → Prop} {Q : Exit → Act → World → Prop} (s t u : Operand) {a b c d a' b' c' d' a2 b2 c2 d2 : BitVec 64} (ho : o.op = .buildSlice 170 3 #[(0, s), (1, t), (2, u)])
    (hs : x.eval s = (.agg #[.int .u64 (Oc.U a), .int .u64 (Oc.U b), .int .u64 (Oc.U c), .int .u64 (Oc.U d)])) (ht : x.eval t = (.agg #[.int .u64 (Oc.U a'), .int .u64 (Oc.U b'), .int .u64 (Oc.U c'), .int .u64 (Oc.U d')])) (hu : x.eval u = (.agg #[.int .u64 (Oc.U a2), .int .u64 (Oc.U b2), .int .u64 (Oc.U c2), .int .u64 (Oc.U d2)]))
    (h : K (x.put o.dst (.slice (some ⟨w.heap.size, 0, none⟩) 3 3)) (w.alloc (.cells #[.int .u64 (Oc.U a), .int .u64 (Oc.U b), .int .u64 (Oc.U c), .int .u64 (Oc.U d), .int .u64 (Oc.U a'), .int .u64 (Oc.U b'), .int .u64 (Oc.U c'), .int .u64 (Oc.U d'), .int .u64 (Oc.U a2), .int .u64 (Oc.U b2), .int .u64 (Oc.U c2), .int .u64 (Oc.U d2)] 25))) : o.wp Tryz.prog x w K Q := by
  obtain ⟨ie, hi, hz0, hz1, -⟩ := info_parts Tryz.infoSetA
  refine wp_buildSlice 170 25 3 _ ho _ ie _ Tryz.underlying170 hi hz0 (by rw [hz1]; decide) (by rw [hz1]; decide) ?_ h
  rw [hz1]
  simp only [List.map_toArray, List.map_cons, List.map_nil, hs, ht, hu]
  kernel_rfl
end Go.Proofs.YtlbhbjmobcikfaaGreatDoor
