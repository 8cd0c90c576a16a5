/- The sets that class.Named makes its classes of. -/
import Derived.Test.YtlbhbjmobcikfaaGreatDoorClReg
import Derived.Test.YtlbhbjmobcikfaaGreatDoorOcRange
import Derived.Test.YtlbhbjmobcikfaaGreatDoorClDef
namespace Go.Proofs.YtlbhbjmobcikfaaGreatDoor
open Go.RowKit
theorem range_at (lo hi : Nat) (l h : Int) (hl : l = (lo : Int)) (hh : h = (hi : Int)) (h1 : lo < 256) (h2 : hi < 256) (w : World) :
    Calls Tryz.prog 167 #[.int .u8 l, .int .u8 h] w fun e w' => e = .returned (.agg #[.int .u64 (Oc.U (Cl.rg lo hi 0)), .int .u64 (Oc.U (Cl.rg lo hi 1)), .int .u64 (Oc.U (Cl.rg lo hi 2)), .int .u64 (Oc.U (Cl.rg lo hi 3))]) ∧ Below w.heap.size w w' := by
  subst hl hh
  have e : ∀ q, Oc.mk (upto lo (hi + 1)) q = Cl.rg lo hi q := fun q => Oc.mk_eq fun i hi' => by
    unfold Cl.rg; rw [Oc.mk_bit _ _ _ hi']; unfold upto
    congr 1
    rw [decide_eq_decide]; omega
  have := range_any lo hi h1 h2 w
  rw [e, e, e, e] at this
  exact this
def oneOf (x : Nat) : Nat → Nat := fun _ => x
def twoOf (x y : Nat) : Nat → Nat := fun i => if i = 0 then x else y
theorem of_one (x : Nat) (hx : x < 256) (v : Int) (hv : v = (x : Int)) (w : World) (g : Nat) (hg : w.heap.size = g) (t : TypeId) (u0 u1 u2 u3 : BitVec 64) (h0 : Oc.mk (Oc.anyB (oneOf x) 1) 0 = u0) (h1 : Oc.mk (Oc.anyB (oneOf x) 1) 1 = u1) (h2 : Oc.mk (Oc.anyB (oneOf x) 1) 2 = u2) (h3 : Oc.mk (Oc.anyB (oneOf x) 1) 3 = u3) :
    Calls Tryz.prog 118 #[.slice (some ⟨g, 0, none⟩) 1 1] (w.alloc (.cells #[.int .u8 v] t))
      fun e w' => e = .returned (.agg #[.int .u64 (Oc.U u0), .int .u64 (Oc.U u1), .int .u64 (Oc.U u2), .int .u64 (Oc.U u3)]) ∧ Below (w.heap.size + 1) (w.alloc (.cells #[.int .u8 v] t)) w' := by
  subst hv hg
  refine (of_any (some ⟨w.heap.size, 0, none⟩) 1 1 (oneOf x) (by omega) _ (fun i _ => hx) ?_).mono ?_
  · intro i hi
    obtain rfl : i = 0 := by omega
    refine ⟨w.heap.size, 0, rfl, by simp, ?_⟩
    rw [cell_new]; rfl
  · rintro e w' ⟨rfl, hb⟩
    exact ⟨by rw [h0, h1, h2, h3], by simpa using hb⟩
theorem of_two (x y : Nat) (hx : x < 256) (hy : y < 256) (v z : Int) (hv : v = (x : Int)) (hz : z = (y : Int)) (w : World) (t : TypeId) (u0 u1 u2 u3 : BitVec 64) (h0 : Oc.mk (Oc.anyB (twoOf x y) 2) 0 = u0) (h1 : Oc.mk (Oc.anyB (twoOf x y) 2) 1 = u1) (h2 : Oc.mk (Oc.anyB (twoOf x y) 2) 2 = u2) (h3 : Oc.mk (Oc.anyB (twoOf x y) 2) 3 = u3) :
    Calls Tryz.prog 118 #[.slice (some ⟨w.heap.size, 0, none⟩) 2 2] (w.alloc (.cells #[.int .u8 v, .int .u8 z] t))
      fun e w' => e = .returned (.agg #[.int .u64 (Oc.U u0), .int .u64 (Oc.U u1), .int .u64 (Oc.U u2), .int .u64 (Oc.U u3)]) ∧ Below (w.heap.size + 1) (w.alloc (.cells #[.int .u8 v, .int .u8 z] t)) w' := by
  subst hv hz
  refine (of_any (some ⟨w.heap.size, 0, none⟩) 2 2 (twoOf x y) (by omega) _ (fun i _ => by unfold twoOf; split <;> omega) ?_).mono ?_
  · intro i hi
    refine ⟨w.heap.size, 0, rfl, by simp, ?_⟩
    rcases (show i = 0 ∨ i = 1 by omega) with rfl | rfl <;> (rw [cell_new]; rfl)
  · rintro e w' ⟨rfl, hb⟩
    exact ⟨by rw [h0, h1, h2, h3], by simpa using hb⟩
/-- Four sets in a list that was just made. -/
theorem join4_new (a b c d a1 b1 c1 d1 a2 b2 c2 d2 a3 b3 c3 d3 e0 e1 e2 e3 : BitVec 64) (t : TypeId) (w : World) (he0 : a ||| a1 ||| a2 ||| a3 = e0) (he1 : b ||| b1 ||| b2 ||| b3 = e1) (he2 : c ||| c1 ||| c2 ||| c3 = e2) (he3 : d ||| d1 ||| d2 ||| d3 = e3) :
    Calls Tryz.prog 143 #[.slice (some ⟨w.heap.size, 0, none⟩) 4 4]
      (w.alloc (.cells #[.int .u64 (Oc.U a), .int .u64 (Oc.U b), .int .u64 (Oc.U c), .int .u64 (Oc.U d), .int .u64 (Oc.U a1), .int .u64 (Oc.U b1), .int .u64 (Oc.U c1), .int .u64 (Oc.U d1), .int .u64 (Oc.U a2), .int .u64 (Oc.U b2), .int .u64 (Oc.U c2), .int .u64 (Oc.U d2), .int .u64 (Oc.U a3), .int .u64 (Oc.U b3), .int .u64 (Oc.U c3), .int .u64 (Oc.U d3)] t))
      fun e w' => e = .returned (.agg #[.int .u64 (Oc.U e0), .int .u64 (Oc.U e1), .int .u64 (Oc.U e2), .int .u64 (Oc.U e3)]) ∧ Below (w.heap.size + 1) (w.alloc (.cells #[.int .u64 (Oc.U a), .int .u64 (Oc.U b), .int .u64 (Oc.U c), .int .u64 (Oc.U d), .int .u64 (Oc.U a1), .int .u64 (Oc.U b1), .int .u64 (Oc.U c1), .int .u64 (Oc.U d1), .int .u64 (Oc.U a2), .int .u64 (Oc.U b2), .int .u64 (Oc.U c2), .int .u64 (Oc.U d2), .int .u64 (Oc.U a3), .int .u64 (Oc.U b3), .int .u64 (Oc.U c3), .int .u64 (Oc.U d3)] t)) w' := by
  refine (join_any _ 4 4 (fun i => if i = 0 then a else if i = 1 then a1 else if i = 2 then a2 else a3) (fun i => if i = 0 then b else if i = 1 then b1 else if i = 2 then b2 else b3) (fun i => if i = 0 then c else if i = 1 then c1 else if i = 2 then c2 else c3) (fun i => if i = 0 then d else if i = 1 then d1 else if i = 2 then d2 else d3) (by omega) _ ?_).mono ?_
  · intro i hi
    refine ⟨w.heap.size, 0, rfl, by simp, ?_⟩
    rcases (show i = 0 ∨ i = 1 ∨ i = 2 ∨ i = 3 by omega) with rfl | rfl | rfl | rfl <;> simp only [cell_new] <;> exact ⟨rfl, rfl, rfl, rfl⟩
  · rintro e w' ⟨rfl, hb⟩
    refine ⟨?_, by simpa using hb⟩
    rw [← he0, ← he1, ← he2, ← he3]
    simp [Oc.orAll]
/-- Two sets in a list that was just made. -/
theorem join2_new (a b c d a1 b1 c1 d1 e0 e1 e2 e3 : BitVec 64) (w : World) (he0 : a ||| a1 = e0) (he1 : b ||| b1 = e1) (he2 : c ||| c1 = e2) (he3 : d ||| d1 = e3) :
    Calls Tryz.prog 143 #[.slice (some ⟨w.heap.size, 0, none⟩) 2 2]
      (w.alloc (.cells #[.int .u64 (Oc.U a), .int .u64 (Oc.U b), .int .u64 (Oc.U c), .int .u64 (Oc.U d), .int .u64 (Oc.U a1), .int .u64 (Oc.U b1), .int .u64 (Oc.U c1), .int .u64 (Oc.U d1)] 25))
      fun e w' => e = .returned (.agg #[.int .u64 (Oc.U e0), .int .u64 (Oc.U e1), .int .u64 (Oc.U e2), .int .u64 (Oc.U e3)]) ∧ Below (w.heap.size + 1) (w.alloc (.cells #[.int .u64 (Oc.U a), .int .u64 (Oc.U b), .int .u64 (Oc.U c), .int .u64 (Oc.U d), .int .u64 (Oc.U a1), .int .u64 (Oc.U b1), .int .u64 (Oc.U c1), .int .u64 (Oc.U d1)] 25)) w' := by
  refine (join2_any ⟨_, rfl, heap_alloc_new w _⟩).mono ?_
  rintro e w' ⟨rfl, hb⟩
  exact ⟨by rw [he0, he1, he2, he3], by simpa using hb⟩
theorem marks_any (w : World) : Calls Tryz.prog 166 #[] w fun e w' => e = .returned (.agg #[.int .u64 (Oc.U (Cl.cw 8 0)), .int .u64 (Oc.U (Cl.cw 8 1)), .int .u64 (Oc.U (Cl.cw 8 2)), .int .u64 (Oc.U (Cl.cw 8 3))]) ∧ Below w.heap.size w w' := by
  go_enter Tryz.func166, Tryz.ntmps166
  go_wp2_with fail
  refine (range_at 33 47 _ _ rfl rfl (by omega) (by omega) _).mono ?_
  rintro e w1 ⟨rfl, hb1⟩
  have h1 := ((Below.refl w.heap.size w).alloc (Nat.le_refl _) _).trans (hb1.mono (by simp))
  have z1 := keep_blk hb1 (heap_alloc_new _ _)
  have H1 := Lib.hid z1; clear z1 hb1
  go_wp2_with fail
  refine (range_at 58 64 _ _ rfl rfl (by omega) (by omega) _).mono ?_
  rintro e w2 ⟨rfl, hb2⟩
  have h2 := h1.trans (hb2.mono h1.size)
  have H2 := Lib.hid (keep_blk hb2 H1.out); clear hb2 H1
  go_wp2_with fail
  refine (range_at 91 96 _ _ rfl rfl (by omega) (by omega) _).mono ?_
  rintro e w3 ⟨rfl, hb3⟩
  have h3 := h2.trans (hb3.mono h2.size)
  have H3 := Lib.hid (keep_blk hb3 H2.out); clear hb3 H2
  go_wp2_with fail
  refine (range_at 123 126 _ _ rfl rfl (by omega) (by omega) _).mono ?_
  rintro e w4 ⟨rfl, hb4⟩
  have h4 := h3.trans (hb4.mono h3.size)
  have H4 := Lib.hid (keep_blk hb4 H3.out); clear hb4 H3
  go_wp2_with fail
  refine (join4_new _ _ _ _ _ _ _ _ _ _ _ _ _ _ _ _ (Cl.cw 8 0) (Cl.cw 8 1) (Cl.cw 8 2) (Cl.cw 8 3) _ _ (by decide +kernel) (by decide +kernel) (by decide +kernel) (by decide +kernel)).mono ?_
  rintro e w5 ⟨rfl, hb5⟩
  have h5 := (h4.alloc h4.size _).trans (hb5.mono (by have := h4.size; omega))
  have z5 := keep_new hb5 H4.out
  obtain ⟨d0, e0, d1, e1, d2, e2, d3, e3, r0, r1, r2, r3⟩ := four_st z5
  clear z5 hb5 H4
  go_wp2
  refine bodyPost_ret (v := (.agg #[.int .u64 (Oc.U (Cl.cw 8 0)), .int .u64 (Oc.U (Cl.cw 8 1)), .int .u64 (Oc.U (Cl.cw 8 2)), .int .u64 (Oc.U (Cl.cw 8 3))])) (by simp [results, Tryz.results166, go_sem, r0, r1, r2, r3]) rfl ⟨rfl, ?_⟩
  go_grown
end Go.Proofs.YtlbhbjmobcikfaaGreatDoor
