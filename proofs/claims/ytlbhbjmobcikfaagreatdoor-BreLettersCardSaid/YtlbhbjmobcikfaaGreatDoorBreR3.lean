/- Part 3 of what these proofs need. -/
import Derived.Lib.IndexLaws
import Derived.Test.YtlbhbjmobcikfaaGreatDoorBreR2
/- class.Fold. -/
namespace Go.Proofs.YtlbhbjmobcikfaaGreatDoor
open Go.RowKit
namespace Cl
/-- The set p, and the other case of its letters, up to the capital letter m. -/
def capOf (j : Nat) : Nat := if 65 ≤ j ∧ j ≤ 90 then j else if 97 ≤ j ∧ j ≤ 122 then j - 32 else 300
def foldU (p : Nat → Bool) (m : Nat) : Nat → Bool := fun j => p j || (p (oth j) && decide (capOf j < m))
theorem foldU_start (p : Nat → Bool) (j : Nat) : foldU p 65 j = p j := by
  unfold foldU
  have : ¬ capOf j < 65 := by unfold capOf; split <;> (try split) <;> omega
  simp [this]
theorem foldU_end (p : Nat → Bool) (j : Nat) : foldU p 91 j = fold p j := by
  unfold foldU fold
  by_cases h : capOf j < 91
  · simp [h]
  · have : oth j = j := by
      unfold capOf at h; unfold oth
      split at h
      · omega
      · rename_i h1
        split at h
        · omega
        · rename_i h2; rw [if_neg h1, if_neg h2]
    simp [this, h]
theorem foldU_yes {p : Nat → Bool} {m : Nat} (h1 : 65 ≤ m) (h2 : m ≤ 90) (h : (p m || p (m + 32)) = true) (j : Nat) : foldU p (m + 1) j = (foldU p m j || (j == m || j == m + 32)) := by
  by_cases e1 : j = m
  · subst e1
    have : oth j = j + 32 := by unfold oth; rw [if_pos ⟨h1, h2⟩]
    have hc : capOf j = j := by unfold capOf; rw [if_pos ⟨h1, h2⟩]
    unfold foldU; rw [this, hc]; simp only [Nat.lt_succ_self, decide_true, Bool.and_true, h]; simp
  · by_cases e2 : j = m + 32
    · subst e2
      have : oth (m + 32) = m := by unfold oth; rw [if_neg (by omega), if_pos (by omega)]; omega
      have hc : capOf (m + 32) = m := by unfold capOf; rw [if_neg (by omega), if_pos (by omega)]; omega
      unfold foldU; rw [this, hc]; simp only [Nat.lt_succ_self, decide_true, Bool.and_true]; rw [Bool.or_comm, h]; simp
    · have hc : decide (capOf j < m + 1) = decide (capOf j < m) := by
        have : capOf j ≠ m := by unfold capOf; split <;> (try split) <;> omega
        rw [decide_eq_decide]; omega
      unfold foldU; rw [hc]; simp [e1, e2]
theorem foldU_no {p : Nat → Bool} {m : Nat} (h1 : 65 ≤ m) (h2 : m ≤ 90) (h : (p m || p (m + 32)) = false) (j : Nat) : foldU p (m + 1) j = foldU p m j := by
  rw [Bool.or_eq_false_iff] at h
  by_cases e1 : j = m
  · subst e1
    have : oth j = j + 32 := by unfold oth; rw [if_pos ⟨h1, h2⟩]
    unfold foldU; rw [this, h.1, h.2]; simp
  · by_cases e2 : j = m + 32
    · subst e2
      have : oth (m + 32) = m := by unfold oth; rw [if_neg (by omega), if_pos (by omega)]; omega
      unfold foldU; rw [this, h.1, h.2]; simp
    · have hc : decide (capOf j < m + 1) = decide (capOf j < m) := by
        have : capOf j ≠ m := by unfold capOf; split <;> (try split) <;> omega
        rw [decide_eq_decide]; omega
      unfold foldU; rw [hc]
/-- The two cases of a letter. -/
def pair (m q : Nat) : BitVec 64 := Oc.mk (fun j => j == m || j == m + 32) q
theorem mk_or (p q : Nat → Bool) (k : Nat) : Oc.mk p k ||| Oc.mk q k = Oc.mk (fun j => p j || q j) k := by
  apply BitVec.eq_of_getLsbD_eq
  intro i hi
  rw [BitVec.getLsbD_or, Oc.mk_bit _ _ _ hi, Oc.mk_bit _ _ _ hi, Oc.mk_bit _ _ _ hi]
theorem mk_congr {p q : Nat → Bool} (h : ∀ j, p j = q j) (k : Nat) : Oc.mk p k = Oc.mk q k := by rw [funext h]
def fw (p : Nat → Bool) (m q : Nat) : BitVec 64 := Oc.mk (foldU p m) q
theorem fw_yes {p : Nat → Bool} {m : Nat} (h1 : 65 ≤ m) (h2 : m ≤ 90) (h : (p m || p (m + 32)) = true) (q : Nat) : fw p m q ||| pair m q = fw p (m + 1) q := by
  unfold fw pair; rw [mk_or]; exact (mk_congr (foldU_yes h1 h2 h) q).symm
theorem fw_no {p : Nat → Bool} {m : Nat} (h1 : 65 ≤ m) (h2 : m ≤ 90) (h : (p m || p (m + 32)) = false) (q : Nat) : fw p (m + 1) q = fw p m q := mk_congr (foldU_no h1 h2 h) q
theorem fw_start (a b c d : BitVec 64) : fw (Oc.mem a b c d) 65 0 = a ∧ fw (Oc.mem a b c d) 65 1 = b ∧ fw (Oc.mem a b c d) 65 2 = c ∧ fw (Oc.mem a b c d) 65 3 = d := by
  have h := mk_mem a b c d
  unfold fw
  rw [mk_congr (foldU_start _), mk_congr (foldU_start _), mk_congr (foldU_start _), mk_congr (foldU_start _)]
  exact h
theorem fw_end (p : Nat → Bool) (q : Nat) : fw p 91 q = Oc.mk (fold p) q := mk_congr (foldU_end p) q
theorem zero_word {x : BitVec 64} : (Oc.U x == 0) = (x == 0#64) := by
  rw [Bool.eq_iff_iff, beq_iff_eq, beq_iff_eq]
  constructor
  · intro h; exact Oc.U_inj (y := 0#64) (by rw [h]; rfl)
  · rintro rfl; rfl
/-- A set and the two cases of a letter have no byte in common just if the set has neither. -/
theorem meets {a b c d : BitVec 64} {m : Nat} (hm : m + 32 < 256) :
    (Oc.U (a &&& pair m 0) == 0 && (Oc.U (b &&& pair m 1) == 0 && (Oc.U (c &&& pair m 2) == 0 && Oc.U (d &&& pair m 3) == 0))) = !(Oc.mem a b c d m || Oc.mem a b c d (m + 32)) := by
  have key : ∀ i, i < 256 → Oc.mem (a &&& pair m 0) (b &&& pair m 1) (c &&& pair m 2) (d &&& pair m 3) i = (Oc.mem a b c d i && (i == m || i == m + 32)) := fun i hi => by
    rw [Oc.mem_and]; unfold pair; rw [Oc.mem_mk _ _ hi]
  rw [zero_word, zero_word, zero_word, zero_word, Bool.eq_iff_iff]
  simp only [Bool.and_eq_true, beq_iff_eq, Bool.not_eq_true', Bool.or_eq_false_iff]
  constructor
  · rintro ⟨h0, h1, h2, h3⟩
    rw [h0, h1, h2, h3] at key
    have z : ∀ i, Oc.mem 0#64 0#64 0#64 0#64 i = false := fun i => by unfold Oc.mem Oc.w4; split <;> (try split) <;> (try split) <;> simp
    have k1 := key m (by omega)
    have k2 := key (m + 32) hm
    rw [z] at k1 k2
    simp at k1 k2
    exact ⟨k1, k2⟩
  · rintro ⟨h0, h1⟩
    have := Oc.ext4 (a := a &&& pair m 0) (b := b &&& pair m 1) (c := c &&& pair m 2) (d := d &&& pair m 3) (a' := 0#64) (b' := 0#64) (c' := 0#64) (d' := 0#64) (fun i hi => by
      rw [key i hi]
      have z : Oc.mem 0#64 0#64 0#64 0#64 i = false := by unfold Oc.mem Oc.w4; split <;> (try split) <;> (try split) <;> simp
      rw [z]
      by_cases e1 : i = m
      · subst e1; simp [h0]
      · by_cases e2 : i = m + 32
        · subst e2; simp [h1]
        · simp [e1, e2])
    exact this
end Cl
def caseOf (m n : Nat) : Nat → Nat := fun i => if i = 0 then m else n
theorem of_pair (m : Nat) (h1 : m + 32 < 256) (v z : Int) (hv : v = (m : Int)) (hz : z = ((m + 32 : Nat) : Int)) (g : Nat) (w : World) (hg : w.heap.size = g) (t : TypeId) :
    Calls Tryz.prog 118 #[.slice (some ⟨g, 0, none⟩) 2 2] (w.alloc (.cells #[.int .u8 v, .int .u8 z] t))
      fun e w' => e = .returned (.agg #[.int .u64 (Oc.U (Cl.pair m 0)), .int .u64 (Oc.U (Cl.pair m 1)), .int .u64 (Oc.U (Cl.pair m 2)), .int .u64 (Oc.U (Cl.pair m 3))]) ∧ Below (w.heap.size + 1) (w.alloc (.cells #[.int .u8 v, .int .u8 z] t)) w' := by
  subst hv hz hg
  refine (of_any (some ⟨w.heap.size, 0, none⟩) 2 2 (caseOf m (m + 32)) (by omega) _ (fun i _ => by unfold caseOf; split <;> omega) ?_).mono ?_
  · intro i hi
    refine ⟨w.heap.size, 0, rfl, by simp, ?_⟩
    rcases (show i = 0 ∨ i = 1 by omega) with rfl | rfl <;> (rw [cell_new]; rfl)
  · rintro e w' ⟨rfl, hb⟩
    have key : ∀ q, Oc.mk (Oc.anyB (caseOf m (m + 32)) 2) q = Cl.pair m q := fun q => Cl.mk_congr (fun j => by simp [Oc.anyB, caseOf]) q
    exact ⟨by rw [key, key, key, key], by simpa using hb⟩
theorem meet2_new (a b c d a1 b1 c1 d1 : BitVec 64) (g : Nat) (w : World) (hg : w.heap.size = g) :
    Calls Tryz.prog 142 #[.slice (some ⟨g, 0, none⟩) 2 2]
      (w.alloc (.cells #[.int .u64 (Oc.U a), .int .u64 (Oc.U b), .int .u64 (Oc.U c), .int .u64 (Oc.U d), .int .u64 (Oc.U a1), .int .u64 (Oc.U b1), .int .u64 (Oc.U c1), .int .u64 (Oc.U d1)] 25))
      fun e w' => e = .returned (.agg #[.int .u64 (Oc.U (a &&& a1)), .int .u64 (Oc.U (b &&& b1)), .int .u64 (Oc.U (c &&& c1)), .int .u64 (Oc.U (d &&& d1))]) ∧ Below (w.heap.size + 1) (w.alloc (.cells #[.int .u64 (Oc.U a), .int .u64 (Oc.U b), .int .u64 (Oc.U c), .int .u64 (Oc.U d), .int .u64 (Oc.U a1), .int .u64 (Oc.U b1), .int .u64 (Oc.U c1), .int .u64 (Oc.U d1)] 25)) w' := by
  subst hg
  refine (meet2_any ⟨_, rfl, heap_alloc_new w _⟩).mono ?_
  rintro e w' ⟨rfl, hb⟩
  exact ⟨rfl, by simpa using hb⟩
theorem join2_at (a b c d a1 b1 c1 d1 e0 e1 e2 e3 : BitVec 64) (g : Nat) (w : World) (hg : w.heap.size = g) (he0 : a ||| a1 = e0) (he1 : b ||| b1 = e1) (he2 : c ||| c1 = e2) (he3 : d ||| d1 = e3) :
    Calls Tryz.prog 143 #[.slice (some ⟨g, 0, none⟩) 2 2]
      (w.alloc (.cells #[.int .u64 (Oc.U a), .int .u64 (Oc.U b), .int .u64 (Oc.U c), .int .u64 (Oc.U d), .int .u64 (Oc.U a1), .int .u64 (Oc.U b1), .int .u64 (Oc.U c1), .int .u64 (Oc.U d1)] 25))
      fun e w' => e = .returned (.agg #[.int .u64 (Oc.U e0), .int .u64 (Oc.U e1), .int .u64 (Oc.U e2), .int .u64 (Oc.U e3)]) ∧ Below (w.heap.size + 1) (w.alloc (.cells #[.int .u64 (Oc.U a), .int .u64 (Oc.U b), .int .u64 (Oc.U c), .int .u64 (Oc.U d), .int .u64 (Oc.U a1), .int .u64 (Oc.U b1), .int .u64 (Oc.U c1), .int .u64 (Oc.U d1)] 25)) w' := by
  subst hg
  refine (join2_any ⟨_, rfl, heap_alloc_new w _⟩).mono ?_
  rintro e w' ⟨rfl, hb⟩
  exact ⟨by rw [he0, he1, he2, he3], by simpa using hb⟩
set_option maxRecDepth 100000 in
set_option maxHeartbeats 2000000 in
theorem fold_any (a b c d : BitVec 64) (w : World) :
    Calls Tryz.prog 119 #[(.agg #[.int .u64 (Oc.U a), .int .u64 (Oc.U b), .int .u64 (Oc.U c), .int .u64 (Oc.U d)])] w fun e w' => e = .returned (.agg #[.int .u64 (Oc.U (Oc.mk (Cl.fold (Oc.mem a b c d)) 0)), .int .u64 (Oc.U (Oc.mk (Cl.fold (Oc.mem a b c d)) 1)), .int .u64 (Oc.U (Oc.mk (Cl.fold (Oc.mem a b c d)) 2)), .int .u64 (Oc.U (Oc.mk (Cl.fold (Oc.mem a b c d)) 3))]) ∧ Below w.heap.size w w' := by
  have he := eq4
  have hst := Cl.fw_start a b c d
  have HST := Lib.hid hst; clear hst
  go_enter Tryz.func119, Tryz.ntmps119
  go_wp2
  go_loopw [4] (fun i wr => ∃ m : Nat, 65 ≤ m ∧ m ≤ 91 ∧ i = .int .u8 m ∧ Below w.heap.size w wr ∧ w.heap.size + 2 < wr.heap.size ∧ wr.heap[w.heap.size]? = some (.cells #[.int .u64 (Oc.U a), .int .u64 (Oc.U b), .int .u64 (Oc.U c), .int .u64 (Oc.U d)] 25) ∧ wr.heap[w.heap.size + 1]? = some (.cells #[.int .u64 0, .int .u64 0, .int .u64 0, .int .u64 0] 25) ∧
    wr.heap[w.heap.size + 1 + 1]? = some (.cells #[.int .u64 (Oc.U (Cl.fw (Oc.mem a b c d) m 0)), .int .u64 (Oc.U (Cl.fw (Oc.mem a b c d) m 1)), .int .u64 (Oc.U (Cl.fw (Oc.mem a b c d) m 2)), .int .u64 (Oc.U (Cl.fw (Oc.mem a b c d) m 3))] 25)) (fun i _ => 91 - (intOf i).toNat)
  case atStart => exact ⟨65, Nat.le_refl _, by omega, rfl, by go_grown, by simp, (three_new _ _ _ _).1, (three_new _ _ _ _).2.1, by rw [HST.out.1, HST.out.2.1, HST.out.2.2.1, HST.out.2.2.2]; exact (three_new _ _ _ _).2.2⟩
  case round =>
    obtain ⟨m, h65, h91, rfl, hbel, hsz, hz0, hz1, hz2⟩ := hrel
    by_cases hlt : m ≤ 90
    · have hi : (m : Int) ≤ 90 := by omega
      have ho : Cl.oth m = m + 32 := by unfold Cl.oth; rw [if_pos ⟨h65, hlt⟩]
      have hm0 := Cl.meets (a := a) (b := b) (c := c) (d := d) (m := m) (by omega)
      have HO := Lib.hid ho; have HM := Lib.hid hm0
      have HB := Lib.hid hbel; have Z0 := Lib.hid hz0; have Z1 := Lib.hid hz1; have Z2 := Lib.hid hz2
      clear ho hm0 hbel hz0 hz1 hz2
      go_wp2_with fail
      refine (other_any m (by omega) _).mono ?_
      rintro e w' ⟨rfl, rfl⟩
      rw [HO.out]
      go_wp2_with fail
      refine (of_pair m (by omega) _ _ rfl rfl _ _ rfl _).mono ?_
      rintro e w1 ⟨rfl, hb1⟩
      have hsz1 : w.heap.size + 2 < w1.heap.size := by have := hb1.size; simp at this; omega
      have B1 := Lib.hid ((HB.out.alloc HB.out.size _).trans (hb1.mono (by have := HB.out.size; omega)))
      have Y0 := Lib.hid (keep_new hb1 Z0.out); have Y1 := Lib.hid (keep_new hb1 Z1.out); have Y2 := Lib.hid (keep_new hb1 Z2.out)
      clear hb1 HB Z0 Z1 Z2
      have s0 := fun o => (four (heap_alloc_lt (o := o) Y0.out)).1
      have s1 := fun o => (four (heap_alloc_lt (o := o) Y0.out)).2.1
      have s2 := fun o => (four (heap_alloc_lt (o := o) Y0.out)).2.2.1
      have s3 := fun o => (four (heap_alloc_lt (o := o) Y0.out)).2.2.2.1
      go_wp2_with fail
      clear s0 s1 s2 s3
      refine (meet2_new _ _ _ _ _ _ _ _ (w1.heap.size + 1) _ (by simp)).mono ?_
      rintro e w2 ⟨rfl, hb2⟩
      have hsz2 : w.heap.size + 2 < w2.heap.size := by have := hb2.size; simp at this; omega
      have hsz3 : w1.heap.size < w2.heap.size := by have := hb2.size; simp at this; omega
      have B2 := Lib.hid (((B1.out.alloc B1.out.size _).alloc (by have := B1.out.size; simp; omega) _).trans (hb2.mono (by have := B1.out.size; simp; omega)))
      have X0 := Lib.hid (keep_new hb2 (heap_alloc_lt Y0.out)); have X1 := Lib.hid (keep_new hb2 (heap_alloc_lt Y1.out)); have X2 := Lib.hid (keep_new hb2 (heap_alloc_lt Y2.out))
      have X3 := Lib.hid (keep_new hb2 (heap_alloc_new w1 _))
      clear hb2 B1 Y0 Y1 Y2
      cases hp : (Oc.mem a b c d m || Oc.mem a b c d (m + 32)) with
      | false =>
        have hm := HM.out
        rw [hp] at hm
        simp only [Bool.not_false] at hm
        have hn := Cl.fw_no (p := Oc.mem a b c d) h65 hlt hp
        have HN := Lib.hid hn
        clear hn hp HM
        go_wp2
        refine ⟨⟨m + 1, by omega, by omega, by go_num, B2.out, hsz2, X0.out, X1.out, ?_⟩, by simp [intOf]; omega⟩
        rw [HN.out, HN.out, HN.out, HN.out]
        exact X2.out
      | true =>
        have hm := HM.out
        rw [hp] at hm
        simp only [Bool.not_true] at hm
        have hn := Cl.fw_yes (p := Oc.mem a b c d) h65 hlt hp
        have HN := Lib.hid hn
        clear hn hp HM
        obtain ⟨c0, c1, c2, c3, -⟩ := four X3.out
        obtain ⟨f0, f1, f2, f3, -⟩ := four X2.out
        go_wp2_with fail
        clear c0 c1 c2 c3 f0 f1 f2 f3
        refine (join2_at _ _ _ _ _ _ _ _ _ _ _ _ _ _ rfl (HN.out 0) (HN.out 1) (HN.out 2) (HN.out 3)).mono ?_
        rintro e w3 ⟨rfl, hb3⟩
        have hsz4 : w.heap.size + 2 < w3.heap.size := by have := hb3.size; simp at this; omega
        have B3 := Lib.hid ((B2.out.alloc B2.out.size _).trans (hb3.mono (by have := B2.out.size; omega)))
        have V0 := Lib.hid (keep_new hb3 X0.out); have V1 := Lib.hid (keep_new hb3 X1.out); have V2 := Lib.hid (keep_new hb3 X2.out)
        clear hb3 B2 X0 X1 X2 X3
        obtain ⟨f0, g0, f1, g1, f2, g2, f3, g3, -⟩ := four_st V2.out
        go_wp2
        refine ⟨⟨m + 1, by omega, by omega, by go_num, ?_, by simpa using hsz4, ?_, ?_, ?_⟩, by simp [intOf]; omega⟩
        · have hb := B3.out
          go_grown
        · exact set4_other _ _ _ _ V0.out (by omega)
        · exact set4_other _ _ _ _ V1.out (by omega)
        · exact set4 _ _ _ _ V2.out
    · obtain rfl : m = 91 := by omega
      have HB := Lib.hid hbel
      rw [Cl.fw_end, Cl.fw_end, Cl.fw_end, Cl.fw_end] at hz2
      obtain ⟨c0, c1, c2, c3, -⟩ := four hz2
      obtain ⟨d0, e0, d1, e1, d2, e2, d3, e3, r0, r1, r2, r3⟩ := four_st hz1
      clear hbel hz0 hz1 hz2
      go_wp2
      have hb := HB.out
      refine bodyPost_ret (v := (.agg #[.int .u64 (Oc.U (Oc.mk (Cl.fold (Oc.mem a b c d)) 0)), .int .u64 (Oc.U (Oc.mk (Cl.fold (Oc.mem a b c d)) 1)), .int .u64 (Oc.U (Oc.mk (Cl.fold (Oc.mem a b c d)) 2)), .int .u64 (Oc.U (Oc.mk (Cl.fold (Oc.mem a b c d)) 3))])) (by simp [results, Tryz.results119, go_sem, r0, r1, r2, r3]) rfl ⟨rfl, ?_⟩
      go_grown
end Go.Proofs.YtlbhbjmobcikfaaGreatDoor
/- What Read of bracket answers: what chapter 5 promises. -/
namespace Go.Proofs.YtlbhbjmobcikfaaGreatDoor
open Go.RowKit
theorem wrap_pow : ∀ k, k < 64 → IntKind.i64.wrap ((2 ^ k : Nat) : Int) ≠ 0 := by decide +kernel
/-- The flag that is looked at, as the walk asks for it. -/
theorem and_bit (fl : Int) (k : Nat) (hk : k < 64) : (bits .and .i64 fl ((2 ^ k : Nat) : Int) != 0) = (BitVec.ofInt 64 fl).getLsbD k := by
  show (IntKind.i64.wrap ((BitVec.ofInt 64 fl &&& BitVec.ofInt 64 ((2 ^ k : Nat) : Int)).toNat : Int) != 0) = _
  generalize BitVec.ofInt 64 fl = x
  have e : BitVec.ofInt 64 ((2 ^ k : Nat) : Int) = BitVec.twoPow 64 k := by
    apply BitVec.eq_of_toNat_eq
    rw [BitVec.toNat_ofInt, BitVec.toNat_twoPow]
    have : (((2 ^ k : Nat) : Int) % ((2 ^ 64 : Nat) : Int)).toNat = 2 ^ k % 2 ^ 64 := by omega
    exact this
  rw [e, BitVec.and_twoPow]
  cases hb : x.getLsbD k with
  | false => simp; decide
  | true =>
    simp only [if_true, BitVec.toNat_twoPow, bne_iff_ne]
    have h1 : 2 ^ k % 2 ^ 64 = 2 ^ k := Nat.mod_eq_of_lt (Nat.pow_lt_pow_right (by omega) hk)
    rw [h1]
    intro h0
    have h2 : IntKind.i64.wrap ((2 ^ k : Nat) : Int) = 0 := h0
    exact wrap_pow k hk h2
theorem bit2 (fl : Int) : (bits .and .i64 fl 2 != 0) = icB fl := and_bit fl 1 (by omega)
theorem bit4 (fl : Int) : (bits .and .i64 fl 4 != 0) = nlB fl := and_bit fl 2 (by omega)
theorem fold_p (P : Nat → Bool) (w : World) : Calls Tryz.prog 119 #[(.agg #[.int .u64 (Oc.U (Oc.mk P 0)), .int .u64 (Oc.U (Oc.mk P 1)), .int .u64 (Oc.U (Oc.mk P 2)), .int .u64 (Oc.U (Oc.mk P 3))])] w fun e w' =>
    e = .returned (.agg #[.int .u64 (Oc.U (Oc.mk (Cl.fold P) 0)), .int .u64 (Oc.U (Oc.mk (Cl.fold P) 1)), .int .u64 (Oc.U (Oc.mk (Cl.fold P) 2)), .int .u64 (Oc.U (Oc.mk (Cl.fold P) 3))]) ∧ Below w.heap.size w w' := by
  have h := fold_any (Oc.mk P 0) (Oc.mk P 1) (Oc.mk P 2) (Oc.mk P 3) w
  rw [Br.mk_fold P 0 (by omega), Br.mk_fold P 1 (by omega), Br.mk_fold P 2 (by omega), Br.mk_fold P 3 (by omega)] at h
  exact h
set_option maxRecDepth 100000 in
set_option maxHeartbeats 4000000 in
theorem others_no (P : Nat → Bool) (fl : Int) (hfl : nlB fl = false) (w : World) : Calls Tryz.prog 158 #[.agg #[.int .u64 (Oc.U (Oc.mk (P) 0)), .int .u64 (Oc.U (Oc.mk (P) 1)), .int .u64 (Oc.U (Oc.mk (P) 2)), .int .u64 (Oc.U (Oc.mk (P) 3))], .int .i64 fl] w fun e w' =>
    e = .returned (.agg #[.int .u64 (Oc.U (Oc.mk (fun x => !P x) 0)), .int .u64 (Oc.U (Oc.mk (fun x => !P x) 1)), .int .u64 (Oc.U (Oc.mk (fun x => !P x) 2)), .int .u64 (Oc.U (Oc.mk (fun x => !P x) 3))]) ∧ Below w.heap.size w w' := by
  have hb4 := bit4 fl
  rw [hfl] at hb4
  clear hfl
  have eN : (fun x => !(P x || x == 10)) = fun x => !P x && !(x == 10) := by funext x; simp
  have hn := fun w => not_p (fun x => P x || x == 10) w
  rw [show (fun x => !(fun x => P x || x == 10) x) = fun x => !P x && !(x == 10) from eN] at hn
  have HN := Lib.hid hn
  clear eN hn
  go_enter Tryz.func158, Tryz.ntmps158
  go_wp2_with fail
  have hb0 : Below w.heap.size w ((w.alloc (.cells #[.int .u64 (Oc.U (Oc.mk (P) 0)), .int .u64 (Oc.U (Oc.mk (P) 1)), .int .u64 (Oc.U (Oc.mk (P) 2)), .int .u64 (Oc.U (Oc.mk (P) 3))] 25)).alloc (.cells noSet 25)) := by go_grown
  obtain ⟨z0, z1⟩ := two_new w (.cells #[.int .u64 (Oc.U (Oc.mk (P) 0)), .int .u64 (Oc.U (Oc.mk (P) 1)), .int .u64 (Oc.U (Oc.mk (P) 2)), .int .u64 (Oc.U (Oc.mk (P) 3))] 25) (.cells noSet 25)
  have Z0 := Lib.hid z0; have Z1 := Lib.hid z1; have HB0 := Lib.hid hb0
  clear z0 z1 hb0
  generalize World.alloc (World.alloc _ _) _ = W at *
  go_wp2_with (first
    | (refine wpList_load_row rfl 25 (.tmp 2) rfl w.heap.size rfl 25 _ (0, 0) _ Z0.out Tryz.underlying25 rfl (by kernel_rfl) ?_)
    | fail)
  refine (not_p P _).mono ?_
  rintro e w1 ⟨rfl, hb⟩
  have Y1 := Lib.hid (keep_blk hb Z1.out)
  have HB := Lib.hid (HB0.out.trans (hb.mono HB0.out.size))
  clear hb
  go_wp2_with (first
    | (refine wpList_store_row rfl 25 (.tmp 4) (.tmp 14) rfl (w.heap.size + 1) #[.int .u64 (Oc.U (Oc.mk (fun x => !P x) 0)), .int .u64 (Oc.U (Oc.mk (fun x => !P x) 1)), .int .u64 (Oc.U (Oc.mk (fun x => !P x) 2)), .int .u64 (Oc.U (Oc.mk (fun x => !P x) 3))] rfl rfl 25 _ Y1.out (by kernel_rfl) rfl setC_one ?_)
    | fail)
  exact bodyPost_ret (results_cell_row rfl _ _ (w.heap.size + 1) 25 #[.int .u64 (Oc.U (Oc.mk (fun x => !P x) 0)), .int .u64 (Oc.U (Oc.mk (fun x => !P x) 1)), .int .u64 (Oc.U (Oc.mk (fun x => !P x) 2)), .int .u64 (Oc.U (Oc.mk (fun x => !P x) 3))] (0, 0) _ rfl (heap_setRow Y1.out) Tryz.underlying25 rfl (by kernel_rfl)) rfl ⟨rfl, by exact below_setRow HB.out (Nat.le_succ _) _⟩
set_option maxRecDepth 100000 in
set_option maxHeartbeats 4000000 in
theorem others_nl (P : Nat → Bool) (fl : Int) (hfl : nlB fl = true) (w : World) : Calls Tryz.prog 158 #[.agg #[.int .u64 (Oc.U (Oc.mk (P) 0)), .int .u64 (Oc.U (Oc.mk (P) 1)), .int .u64 (Oc.U (Oc.mk (P) 2)), .int .u64 (Oc.U (Oc.mk (P) 3))], .int .i64 fl] w fun e w' =>
    e = .returned (.agg #[.int .u64 (Oc.U (Oc.mk (fun x => !P x && !(x == 10)) 0)), .int .u64 (Oc.U (Oc.mk (fun x => !P x && !(x == 10)) 1)), .int .u64 (Oc.U (Oc.mk (fun x => !P x && !(x == 10)) 2)), .int .u64 (Oc.U (Oc.mk (fun x => !P x && !(x == 10)) 3))]) ∧ Below w.heap.size w w' := by
  have hb4 := bit4 fl
  rw [hfl] at hb4
  clear hfl
  have eN : (fun x => !(P x || x == 10)) = fun x => !P x && !(x == 10) := by funext x; simp
  have hn := fun w => not_p (fun x => P x || x == 10) w
  rw [show (fun x => !(fun x => P x || x == 10) x) = fun x => !P x && !(x == 10) from eN] at hn
  have HN := Lib.hid hn
  clear eN hn
  go_enter Tryz.func158, Tryz.ntmps158
  go_wp2_with fail
  have hb0 : Below w.heap.size w ((w.alloc (.cells #[.int .u64 (Oc.U (Oc.mk (P) 0)), .int .u64 (Oc.U (Oc.mk (P) 1)), .int .u64 (Oc.U (Oc.mk (P) 2)), .int .u64 (Oc.U (Oc.mk (P) 3))] 25)).alloc (.cells noSet 25)) := by go_grown
  obtain ⟨z0, z1⟩ := two_new w (.cells #[.int .u64 (Oc.U (Oc.mk (P) 0)), .int .u64 (Oc.U (Oc.mk (P) 1)), .int .u64 (Oc.U (Oc.mk (P) 2)), .int .u64 (Oc.U (Oc.mk (P) 3))] 25) (.cells noSet 25)
  have Z0 := Lib.hid z0; have Z1 := Lib.hid z1; have HB0 := Lib.hid hb0
  clear z0 z1 hb0
  generalize World.alloc (World.alloc _ _) _ = W at *
  refine Ri.wp_region_frame (by kernel_rfl) (by kernel_rfl) (by kernel_rfl) (by kernel_rfl)
    (fun L v w' => Below w.heap.size w w' ∧ W.heap.size ≤ w'.heap.size ∧ (L 5 = true → w'.heap[w.heap.size]? = some (.cells #[.int .u64 (Oc.U (Oc.mk (fun x => P x || x == 10) 0)), .int .u64 (Oc.U (Oc.mk (fun x => P x || x == 10) 1)), .int .u64 (Oc.U (Oc.mk (fun x => P x || x == 10) 2)), .int .u64 (Oc.U (Oc.mk (fun x => P x || x == 10) 3))] 25)) ∧ (L 5 = false → w'.heap[w.heap.size]? = some (.cells #[.int .u64 (Oc.U (Oc.mk (P) 0)), .int .u64 (Oc.U (Oc.mk (P) 1)), .int .u64 (Oc.U (Oc.mk (P) 2)), .int .u64 (Oc.U (Oc.mk (P) 3))] 25)) ∧ (L 5 = true → L 0 = true) ∧ w'.heap[(w.heap.size + 1)]? = some (.cells noSet 25) ∧ (L 0 = true → v 0 = (.agg #[.int .u64 (Oc.U (Oc.mk (P) 0)), .int .u64 (Oc.U (Oc.mk (P) 1)), .int .u64 (Oc.U (Oc.mk (P) 2)), .int .u64 (Oc.U (Oc.mk (P) 3))])) ∧ (L 1 = true → OneN W.heap.size w' (v 1) 10) ∧ (L 2 = true → v 2 = (.agg #[.int .u64 (Oc.U (Oc.mk (fun b => b == 10) 0)), .int .u64 (Oc.U (Oc.mk (fun b => b == 10) 1)), .int .u64 (Oc.U (Oc.mk (fun b => b == 10) 2)), .int .u64 (Oc.U (Oc.mk (fun b => b == 10) 3))])) ∧ (L 3 = true → Sl2N W.heap.size w' (v 3) (Oc.mk (P) 0) (Oc.mk (P) 1) (Oc.mk (P) 2) (Oc.mk (P) 3) (Oc.mk (fun b => b == 10) 0) (Oc.mk (fun b => b == 10) 1) (Oc.mk (fun b => b == 10) 2) (Oc.mk (fun b => b == 10) 3)) ∧ (L 4 = true → v 4 = (.agg #[.int .u64 (Oc.U (Oc.mk (fun x => P x || x == 10) 0)), .int .u64 (Oc.U (Oc.mk (fun x => P x || x == 10) 1)), .int .u64 (Oc.U (Oc.mk (fun x => P x || x == 10) 2)), .int .u64 (Oc.U (Oc.mk (fun x => P x || x == 10) 3))])))
    ?_ ?_ ?_
  · exact ⟨HB0.out.drew, Nat.le_refl _, (by simp), (fun _ => Z0.out), by simp, Z1.out, by simp, by simp, by simp, by simp, by simp⟩
  · intro i hi9 L v w9 xa hI hL hd hv ho
    have hi' : i = 0 ∨ i = 1 ∨ i = 2 ∨ i = 3 ∨ i = 4 ∨ i = 5 := by simp at hi9; omega
    obtain ⟨hb, hz, qn, qo, qm0, k0, q0, q1, q2, q3, q4⟩ := hI
    rcases hi' with rfl | rfl | rfl | rfl | rfl | rfl
    · have e2 : xa.tmps.getD 2 undef = .pointer (some ⟨w.heap.size, 0, none⟩) := ho 2 (by kernel_rfl)
      refine Ri.step_plain rfl rfl (fun K' hK => ?_)
      have hl9 : L 5 = false := by cases h : L 5 with | false => rfl | true => rw [qm0 h] at hL; cases hL
      refine wp_load_row _ _ rfl _ e2 _ _ _ _ (qo hl9) Tryz.underlying25 rfl (by kernel_rfl) ?_
      exact hK _ _ ⟨_, _, rfl, rfl, hb, hz, qn, qo, (fun _ => rfl), k0, fun _ => rfl, q1, q2, q3, q4⟩
    · refine Ri.step_plain rfl rfl (fun K' hK => ?_)
      refine wp_bytes1 _ rfl ?_
      exact hK _ _ ⟨_, _, rfl, rfl, hb.alloc hb.size _, Nat.le_trans hz (by simp), (fun l => heap_alloc_lt (qn l)), (fun l => heap_alloc_lt (qo l)), qm0, (heap_alloc_lt k0), q0, fun _ => ⟨_, hz, rfl, heap_alloc_new _ _⟩, q2, fun l => (q3 l).below ((Below.refl _ _).alloc (Nat.le_refl _) _), q4⟩
    · have l0 : L 1 = true := by have := hd _ rfl; simp [Region.binds] at this; simp [this]
      have f1 := hv 1 9 rfl l0
      refine Ri.step_plain rfl rfl (fun K' hK => ?_)
      go_simp
      refine (one_any (by omega) (q1 l0).plain).mono ?_
      rintro e w8 ⟨rfl, hb8⟩
      exact hK _ _ ⟨_, _, rfl, rfl, hb.trans (hb8.mono hb.size), Nat.le_trans hz hb8.size, (fun l => keep_blk hb8 (qn l)), (fun l => keep_blk hb8 (qo l)), qm0, (keep_blk hb8 k0), q0, fun l => (q1 l).below hb8, fun _ => rfl, fun l => (q3 l).below hb8, q4⟩
    · have l0 : L 0 = true ∧ L 2 = true := by have := hd _ rfl; simp [Region.binds] at this; simp [this]
      have f0 := (hv 0 8 rfl l0.1).trans (q0 l0.1)
      have f2 := (hv 2 10 rfl l0.2).trans (q2 l0.2)
      refine Ri.step_plain rfl rfl (fun K' hK => ?_)
      refine wp_pair _ _ rfl f0 f2 ?_
      exact hK _ _ ⟨_, _, rfl, rfl, hb.alloc hb.size _, Nat.le_trans hz (by simp), (fun l => heap_alloc_lt (qn l)), (fun l => heap_alloc_lt (qo l)), qm0, (heap_alloc_lt k0), q0, fun l => (q1 l).below ((Below.refl _ _).alloc (Nat.le_refl _) _), q2, fun _ => ⟨_, hz, rfl, heap_alloc_new _ _⟩, q4⟩
    · have l0 : L 3 = true := by have := hd _ rfl; simp [Region.binds] at this; simp [this]
      have f3 := hv 3 11 rfl l0
      refine Ri.step_plain rfl rfl (fun K' hK => ?_)
      go_simp
      refine (join_p (q3 l0).plain).mono ?_
      rintro e w8 ⟨rfl, hb8⟩
      exact hK _ _ ⟨_, _, rfl, rfl, hb.trans (hb8.mono hb.size), Nat.le_trans hz hb8.size, (fun l => keep_blk hb8 (qn l)), (fun l => keep_blk hb8 (qo l)), qm0, (keep_blk hb8 k0), q0, fun l => (q1 l).below hb8, q2, fun l => (q3 l).below hb8, fun _ => rfl⟩
    · have l0 : L 4 = true := by have := hd _ rfl; simp [Region.binds] at this; simp [this]
      have f4 := (hv 4 12 rfl l0).trans (q4 l0)
      have e2 : xa.tmps.getD 2 undef = .pointer (some ⟨w.heap.size, 0, none⟩) := ho 2 (by kernel_rfl)
      refine Ri.step_plain rfl rfl (fun K' hK => ?_)
      have h0 : L 0 = true := by have := hd _ rfl; simp [Region.binds] at this; simp [this]
      refine wp_store_row _ _ _ rfl w.heap.size #[.int .u64 (Oc.U (Oc.mk (fun x => P x || x == 10) 0)), .int .u64 (Oc.U (Oc.mk (fun x => P x || x == 10) 1)), .int .u64 (Oc.U (Oc.mk (fun x => P x || x == 10) 2)), .int .u64 (Oc.U (Oc.mk (fun x => P x || x == 10) 3))] e2 f4 25 _ (qo hL) (by kernel_rfl) (by kernel_rfl) setC_one ?_
      exact hK _ _ ⟨_, undef, rfl, rfl, below_setRow hb (Nat.le_refl _) _, by simpa using hz, (fun _ => heap_setRow (qo hL)), (fun h => by cases h), (fun _ => h0), (heap_setRow_other _ _ _ (by omega)).trans k0, q0, fun l => (q1 l).setRow (block_lt Z0.out) _, q2, fun l => (q3 l).setRow (block_lt Z0.out) _, q4⟩
  · rintro v w9 ⟨hb, hz, qn, -, -, k0, -, -, -, -, -⟩
    have zN := qn rfl; clear qn
    simp only [Ri.frame, List.zipIdx, List.foldl_cons, List.foldl_nil, if_true, List.setIfInBounds_toArray, List.set_cons_zero, List.set_cons_succ, Nat.reduceAdd]
    generalize v 0 = y0; generalize v 1 = y1; generalize v 2 = y2; generalize v 3 = y3; generalize v 4 = y4
    go_wp2_with (first
      | (refine wpList_load_row rfl 25 (.tmp 2) rfl w.heap.size rfl 25 _ (0, 0) _ zN Tryz.underlying25 rfl (by kernel_rfl) ?_)
      | fail)
    refine (HN.out _).mono ?_
    rintro e w1 ⟨rfl, hb1⟩
    have Y1 := Lib.hid (keep_blk hb1 k0)
    have HB := Lib.hid (hb.trans (hb1.mono hb.size))
    clear hb1
    go_wp2_with (first
      | (refine wpList_store_row rfl 25 (.tmp 4) (.tmp 14) rfl (w.heap.size + 1) #[.int .u64 (Oc.U (Oc.mk (fun x => !P x && !(x == 10)) 0)), .int .u64 (Oc.U (Oc.mk (fun x => !P x && !(x == 10)) 1)), .int .u64 (Oc.U (Oc.mk (fun x => !P x && !(x == 10)) 2)), .int .u64 (Oc.U (Oc.mk (fun x => !P x && !(x == 10)) 3))] rfl rfl 25 _ Y1.out (by kernel_rfl) rfl setC_one ?_)
      | fail)
    exact bodyPost_ret (results_cell_row rfl _ _ (w.heap.size + 1) 25 #[.int .u64 (Oc.U (Oc.mk (fun x => !P x && !(x == 10)) 0)), .int .u64 (Oc.U (Oc.mk (fun x => !P x && !(x == 10)) 1)), .int .u64 (Oc.U (Oc.mk (fun x => !P x && !(x == 10)) 2)), .int .u64 (Oc.U (Oc.mk (fun x => !P x && !(x == 10)) 3))] (0, 0) _ rfl (heap_setRow Y1.out) Tryz.underlying25 rfl (by kernel_rfl)) rfl ⟨rfl, by exact below_setRow HB.out (Nat.le_succ _) _⟩
theorem one_prefix (l : List UInt8) (x : UInt8) : [x].isPrefixOf l = ((l[0]?).elim 256 UInt8.toNat == x.toNat) := by
  have hx := UInt8.toNat_lt x
  match l with
  | [] => simp; omega
  | a :: r =>
    simp only [List.isPrefixOf, Bool.and_true, List.getElem?_cons_zero, Option.elim_some, u8_beq]
    exact Bool.beq_comm
theorem caret_at (s : ByteArray) (i : Nat) (b : Bool) (hb : (bt s i == 94) = b) (w : World) :
    Calls Tryz.prog 97 #[.string (s.extract i s.size), .string ⟨#[94]⟩] w fun e w' => e = .returned (.bool b) ∧ w = w' := by
  refine (Tryz.strings_HasPrefix (s.extract i s.size) ⟨#[94]⟩ w).mono ?_
  rintro e w' ⟨rfl, rfl⟩
  refine ⟨?_, rfl⟩
  rw [← hb]
  have := bt_ext s i 0
  rw [bt_list, Nat.add_zero] at this
  rw [← this]
  exact ret_bool (one_prefix _ 94)
set_option maxRecDepth 100000 in
set_option maxHeartbeats 4000000 in
theorem read_err_false (A : Nat → Addr) (s : ByteArray) (hs : s.size ≤ 4294967280) (a : Nat) (ha : bt s a = 91) (ht : (bt s (a + 1) == 94) = false) (c : Nat) (q : Int) (hR : Br.items (bt s) s.size a (s.size + 1) (a + 1) (fun _ => false) false = .err c q) (fl : Int) (w : World) (hE : BrEnv w A) :
    Calls Tryz.prog 146 #[.string s, .int .i64 a, .int .i64 fl] w (ItEnd A (.err c q) w) := by
  have hal := (bt_txt s).lt ha (by omega)
  have h0 : (0 : Int) ≤ a := by omega
  have h1 : decide (s.size ≤ a) = false := by simp; omega
  have e1 : ((s[a].toNat : Int) != 91) = false := by rw [bt_at hal, ha]; rfl
  have hw1 : IntKind.i64.wrap ((a : Int) + 1) = (a : Int) + 1 := IntWalk.i64_in _ (by omega)
  have hw2 : IntKind.i64.wrap ((a : Int) + 1 + 1) = (a : Int) + 1 + 1 := IntWalk.i64_in _ (by omega)
  have h3 : (0 : Int) ≤ (a : Int) + 1 := by omega
  have h4 : (a : Int) + 1 ≤ s.size := by omega
  have HC := Lib.hid (caret_at s (a + 1) _ ht)
  have hit := fun w hE => britems_any A s hs a (a + 1) (by omega) _ hR w hE
  rw [show ((a + 1 : Nat) : Int) = (a : Int) + 1 by omega] at hit
  have HI := Lib.hid hit; have HE := Lib.hid hE
  clear hit hE ha ht hR
  go_enter Tryz.func146, Tryz.ntmps146
  go_wp2_with fail
  refine (HC.out _).mono ?_; rintro e w' ⟨rfl, rfl⟩
  go_wp2_with fail
  have hb0 : Below w.heap.size w ((w.alloc (.cells noSet 25)).alloc (.cells #[.string s, .int .i64 a] 172)) := by go_grown
  obtain ⟨z0, z1⟩ := two_new w (.cells noSet 25) (.cells #[.string s, .int .i64 a] 172)
  have hsz : ((w.alloc (.cells noSet 25)).alloc (.cells #[.string s, .int .i64 a] 172)).heap.size = w.heap.size + 2 := by simp
  generalize World.alloc (World.alloc _ _) _ = W at *
  have HB0 := Lib.hid hb0; have Z0 := Lib.hid z0; have HSZ := Lib.hid hsz
  clear hb0 z0 z1 hsz
  refine (HI.out _ (HE.out.below HB0.out)).mono ?_
  intro e w1 he
  obtain ⟨v, rfl, hv, hb⟩ := he.err rfl
  obtain ⟨q', rfl⟩ := hv.iface
  have hbA : Below W.heap.size W (w1.alloc (.cells noSet 25)) := hb.alloc hb.size _
  have Y0 := Lib.hid (keep_blk hbA Z0.out)
  have HB := Lib.hid (HB0.out.trans (hbA.mono HB0.out.size))
  have HV := Lib.hid (hv.later ((Below.refl w1.heap.size w1).alloc (Nat.le_refl _) (.cells noSet 25)))
  clear hb hbA hv he
  go_wp2_with (first
    | (refine wpList_store_row rfl 25 (.tmp 6) (.tmp 52) rfl (w.heap.size) noSet rfl rfl 25 _ Y0.out (by kernel_rfl) rfl setC_one ?_)
    | fail)
  exact bodyPost_ret (results_row_two rfl _ _ w.heap.size 25 noSet (0, 0) _ _ _ rfl rfl rfl (heap_setRow Y0.out) Tryz.underlying25 rfl (by kernel_rfl)) rfl ⟨⟨_, rfl, (HV.out.setRow (by rw [HSZ.out]; omega) noSet).down (by rw [HSZ.out]; omega)⟩, by exact below_setRow HB.out (Nat.le_refl _) _⟩
set_option maxRecDepth 100000 in
set_option maxHeartbeats 4000000 in
theorem read_ok_false (A : Nat → Addr) (s : ByteArray) (hs : s.size ≤ 4294967280) (a : Nat) (ha : bt s a = 91) (ht : (bt s (a + 1) == 94) = false) (P : Nat → Bool) (j : Nat) (hR : Br.items (bt s) s.size a (s.size + 1) (a + 1) (fun _ => false) false = .ok P j) (fl : Int) (hic : icB fl = false) (nl : Bool) (w : World) (hE : BrEnv w A) :
    Calls Tryz.prog 146 #[.string s, .int .i64 a, .int .i64 fl] w (ItEnd A (.ok (Br.fin false nl false P) (j + 1)) w) := by
  have hjn := (Br.items_ok (bt_txt s) (by have := (bt_txt s).lt ha (by omega); omega) hR).2.1
  have hwj : IntKind.i64.wrap ((j : Int) + 1) = (j : Int) + 1 := IntWalk.i64_in _ (by omega)
  have hb2 := bit2 fl
  rw [hic] at hb2
  have hal := (bt_txt s).lt ha (by omega)
  have h0 : (0 : Int) ≤ a := by omega
  have h1 : decide (s.size ≤ a) = false := by simp; omega
  have e1 : ((s[a].toNat : Int) != 91) = false := by rw [bt_at hal, ha]; rfl
  have hw1 : IntKind.i64.wrap ((a : Int) + 1) = (a : Int) + 1 := IntWalk.i64_in _ (by omega)
  have hw2 : IntKind.i64.wrap ((a : Int) + 1 + 1) = (a : Int) + 1 + 1 := IntWalk.i64_in _ (by omega)
  have h3 : (0 : Int) ≤ (a : Int) + 1 := by omega
  have h4 : (a : Int) + 1 ≤ s.size := by omega
  have HC := Lib.hid (caret_at s (a + 1) _ ht)
  have hit := fun w hE => britems_any A s hs a (a + 1) (by omega) _ hR w hE
  rw [show ((a + 1 : Nat) : Int) = (a : Int) + 1 by omega] at hit
  have HI := Lib.hid hit; have HE := Lib.hid hE
  clear hit hE ha ht hR
  clear hic
  go_enter Tryz.func146, Tryz.ntmps146
  go_wp2_with fail
  refine (HC.out _).mono ?_; rintro e w' ⟨rfl, rfl⟩
  go_wp2_with fail
  have hb0 : Below w.heap.size w ((w.alloc (.cells noSet 25)).alloc (.cells #[.string s, .int .i64 a] 172)) := by go_grown
  obtain ⟨z0, z1⟩ := two_new w (.cells noSet 25) (.cells #[.string s, .int .i64 a] 172)
  have hsz : ((w.alloc (.cells noSet 25)).alloc (.cells #[.string s, .int .i64 a] 172)).heap.size = w.heap.size + 2 := by simp
  generalize World.alloc (World.alloc _ _) _ = W at *
  have HB0 := Lib.hid hb0; have Z0 := Lib.hid z0; have HSZ := Lib.hid hsz
  clear hb0 z0 z1 hsz
  refine (HI.out _ (HE.out.below HB0.out)).mono ?_
  intro e w1 he
  obtain ⟨rfl, hb⟩ := he.ok rfl
  have hbA : Below W.heap.size W (w1.alloc (.cells #[.int .u64 (Oc.U (Oc.mk (P) 0)), .int .u64 (Oc.U (Oc.mk (P) 1)), .int .u64 (Oc.U (Oc.mk (P) 2)), .int .u64 (Oc.U (Oc.mk (P) 3))] 25)) := hb.alloc hb.size _
  have Y0 := Lib.hid (keep_blk hbA Z0.out)
  have Y1 := Lib.hid (heap_alloc_new w1 (.cells #[.int .u64 (Oc.U (Oc.mk (P) 0)), .int .u64 (Oc.U (Oc.mk (P) 1)), .int .u64 (Oc.U (Oc.mk (P) 2)), .int .u64 (Oc.U (Oc.mk (P) 3))] 25))
  have HB := Lib.hid (HB0.out.trans (hbA.mono HB0.out.size))
  have hlt : w.heap.size < w1.heap.size := by have := hb.size; have := HSZ.out; omega
  clear hb hbA he
  go_wp2_with (first
    | (refine wpList_load_row rfl 25 (.tmp 12) rfl (w1.heap.size) rfl 25 _ (0, 0) _ Y1.out Tryz.underlying25 rfl (by kernel_rfl) ?_)
    | (refine wpList_store_row rfl 25 (.tmp 6) (.tmp 63) rfl (w.heap.size) #[.int .u64 (Oc.U (Oc.mk (P) 0)), .int .u64 (Oc.U (Oc.mk (P) 1)), .int .u64 (Oc.U (Oc.mk (P) 2)), .int .u64 (Oc.U (Oc.mk (P) 3))] rfl rfl 25 _ Y0.out (by kernel_rfl) rfl setC_one ?_)
    | fail)
  exact bodyPost_ret (results_row_two rfl _ _ w.heap.size 25 #[.int .u64 (Oc.U (Oc.mk (P) 0)), .int .u64 (Oc.U (Oc.mk (P) 1)), .int .u64 (Oc.U (Oc.mk (P) 2)), .int .u64 (Oc.U (Oc.mk (P) 3))] (0, 0) _ _ _ rfl rfl rfl (heap_setRow Y0.out) Tryz.underlying25 rfl (by kernel_rfl)) rfl ⟨by exact rfl, by exact below_setRow HB.out (Nat.le_refl _) _⟩
set_option maxRecDepth 100000 in
set_option maxHeartbeats 4000000 in
theorem read_ok_false_ic (A : Nat → Addr) (s : ByteArray) (hs : s.size ≤ 4294967280) (a : Nat) (ha : bt s a = 91) (ht : (bt s (a + 1) == 94) = false) (P : Nat → Bool) (j : Nat) (hR : Br.items (bt s) s.size a (s.size + 1) (a + 1) (fun _ => false) false = .ok P j) (fl : Int) (hic : icB fl = true) (nl : Bool) (w : World) (hE : BrEnv w A) :
    Calls Tryz.prog 146 #[.string s, .int .i64 a, .int .i64 fl] w (ItEnd A (.ok (Br.fin true nl false P) (j + 1)) w) := by
  have hjn := (Br.items_ok (bt_txt s) (by have := (bt_txt s).lt ha (by omega); omega) hR).2.1
  have hwj : IntKind.i64.wrap ((j : Int) + 1) = (j : Int) + 1 := IntWalk.i64_in _ (by omega)
  have hb2 := bit2 fl
  rw [hic] at hb2
  have hal := (bt_txt s).lt ha (by omega)
  have h0 : (0 : Int) ≤ a := by omega
  have h1 : decide (s.size ≤ a) = false := by simp; omega
  have e1 : ((s[a].toNat : Int) != 91) = false := by rw [bt_at hal, ha]; rfl
  have hw1 : IntKind.i64.wrap ((a : Int) + 1) = (a : Int) + 1 := IntWalk.i64_in _ (by omega)
  have hw2 : IntKind.i64.wrap ((a : Int) + 1 + 1) = (a : Int) + 1 + 1 := IntWalk.i64_in _ (by omega)
  have h3 : (0 : Int) ≤ (a : Int) + 1 := by omega
  have h4 : (a : Int) + 1 ≤ s.size := by omega
  have HC := Lib.hid (caret_at s (a + 1) _ ht)
  have hit := fun w hE => britems_any A s hs a (a + 1) (by omega) _ hR w hE
  rw [show ((a + 1 : Nat) : Int) = (a : Int) + 1 by omega] at hit
  have HI := Lib.hid hit; have HE := Lib.hid hE
  clear hit hE ha ht hR
  clear hic
  go_enter Tryz.func146, Tryz.ntmps146
  go_wp2_with fail
  refine (HC.out _).mono ?_; rintro e w' ⟨rfl, rfl⟩
  go_wp2_with fail
  have hb0 : Below w.heap.size w ((w.alloc (.cells noSet 25)).alloc (.cells #[.string s, .int .i64 a] 172)) := by go_grown
  obtain ⟨z0, z1⟩ := two_new w (.cells noSet 25) (.cells #[.string s, .int .i64 a] 172)
  have hsz : ((w.alloc (.cells noSet 25)).alloc (.cells #[.string s, .int .i64 a] 172)).heap.size = w.heap.size + 2 := by simp
  generalize World.alloc (World.alloc _ _) _ = W at *
  have HB0 := Lib.hid hb0; have Z0 := Lib.hid z0; have HSZ := Lib.hid hsz
  clear hb0 z0 z1 hsz
  refine (HI.out _ (HE.out.below HB0.out)).mono ?_
  intro e w1 he
  obtain ⟨rfl, hb⟩ := he.ok rfl
  have hbA : Below W.heap.size W (w1.alloc (.cells #[.int .u64 (Oc.U (Oc.mk (P) 0)), .int .u64 (Oc.U (Oc.mk (P) 1)), .int .u64 (Oc.U (Oc.mk (P) 2)), .int .u64 (Oc.U (Oc.mk (P) 3))] 25)) := hb.alloc hb.size _
  have Y0 := Lib.hid (keep_blk hbA Z0.out)
  have Y1 := Lib.hid (heap_alloc_new w1 (.cells #[.int .u64 (Oc.U (Oc.mk (P) 0)), .int .u64 (Oc.U (Oc.mk (P) 1)), .int .u64 (Oc.U (Oc.mk (P) 2)), .int .u64 (Oc.U (Oc.mk (P) 3))] 25))
  have HB := Lib.hid (HB0.out.trans (hbA.mono HB0.out.size))
  have hlt : w.heap.size < w1.heap.size := by have := hb.size; have := HSZ.out; omega
  clear hb hbA he
  go_wp2_with (first
    | (refine wpList_load_row rfl 25 (.tmp 12) rfl (w1.heap.size) rfl 25 _ (0, 0) _ Y1.out Tryz.underlying25 rfl (by kernel_rfl) ?_)
    | fail)
  refine (fold_p P _).mono ?_
  rintro e w2 ⟨rfl, hb⟩
  have Y0a := Lib.hid (keep_blk hb Y0.out)
  have Y1a := Lib.hid (keep_blk hb Y1.out)
  have HBa := Lib.hid (HB.out.trans (hb.mono HB.out.size))
  have Y0b : Hid ((w2.setRow w1.heap.size #[.int .u64 (Oc.U (Oc.mk (Cl.fold P) 0)), .int .u64 (Oc.U (Oc.mk (Cl.fold P) 1)), .int .u64 (Oc.U (Oc.mk (Cl.fold P) 2)), .int .u64 (Oc.U (Oc.mk (Cl.fold P) 3))]).heap[w.heap.size]? = some (.cells noSet 25)) := Lib.hid ((heap_setRow_other _ _ _ (by omega)).trans Y0a.out)
  have Y1b : Hid ((w2.setRow w1.heap.size #[.int .u64 (Oc.U (Oc.mk (Cl.fold P) 0)), .int .u64 (Oc.U (Oc.mk (Cl.fold P) 1)), .int .u64 (Oc.U (Oc.mk (Cl.fold P) 2)), .int .u64 (Oc.U (Oc.mk (Cl.fold P) 3))]).heap[w1.heap.size]? = some (.cells #[.int .u64 (Oc.U (Oc.mk (Cl.fold P) 0)), .int .u64 (Oc.U (Oc.mk (Cl.fold P) 1)), .int .u64 (Oc.U (Oc.mk (Cl.fold P) 2)), .int .u64 (Oc.U (Oc.mk (Cl.fold P) 3))] 25)) := Lib.hid (heap_setRow Y1a.out)
  have HBb : Hid (Below w.heap.size w (w2.setRow w1.heap.size #[.int .u64 (Oc.U (Oc.mk (Cl.fold P) 0)), .int .u64 (Oc.U (Oc.mk (Cl.fold P) 1)), .int .u64 (Oc.U (Oc.mk (Cl.fold P) 2)), .int .u64 (Oc.U (Oc.mk (Cl.fold P) 3))])) := Lib.hid (below_setRow HBa.out (Nat.le_of_lt hlt) _)
  clear hb
  go_wp2_with (first
    | (refine wpList_load_row rfl 25 (.tmp 12) rfl (w1.heap.size) rfl 25 _ (0, 0) _ Y1b.out Tryz.underlying25 rfl (by kernel_rfl) ?_)
    | (refine wpList_store_row rfl 25 (.tmp 12) (.tmp 58) rfl (w1.heap.size) #[.int .u64 (Oc.U (Oc.mk (Cl.fold P) 0)), .int .u64 (Oc.U (Oc.mk (Cl.fold P) 1)), .int .u64 (Oc.U (Oc.mk (Cl.fold P) 2)), .int .u64 (Oc.U (Oc.mk (Cl.fold P) 3))] rfl rfl 25 _ Y1a.out (by kernel_rfl) rfl setC_one ?_)
    | (refine wpList_store_row rfl 25 (.tmp 6) (.tmp 63) rfl (w.heap.size) #[.int .u64 (Oc.U (Oc.mk (Cl.fold P) 0)), .int .u64 (Oc.U (Oc.mk (Cl.fold P) 1)), .int .u64 (Oc.U (Oc.mk (Cl.fold P) 2)), .int .u64 (Oc.U (Oc.mk (Cl.fold P) 3))] rfl rfl 25 _ Y0b.out (by kernel_rfl) rfl setC_one ?_)
    | fail)
  exact bodyPost_ret (results_row_two rfl _ _ w.heap.size 25 #[.int .u64 (Oc.U (Oc.mk (Cl.fold P) 0)), .int .u64 (Oc.U (Oc.mk (Cl.fold P) 1)), .int .u64 (Oc.U (Oc.mk (Cl.fold P) 2)), .int .u64 (Oc.U (Oc.mk (Cl.fold P) 3))] (0, 0) _ _ _ rfl rfl rfl (heap_setRow Y0b.out) Tryz.underlying25 rfl (by kernel_rfl)) rfl ⟨by exact rfl, by exact below_setRow HBb.out (Nat.le_refl _) _⟩
set_option maxRecDepth 100000 in
set_option maxHeartbeats 4000000 in
theorem read_err_true (A : Nat → Addr) (s : ByteArray) (hs : s.size ≤ 4294967280) (a : Nat) (ha : bt s a = 91) (ht : (bt s (a + 1) == 94) = true) (c : Nat) (q : Int) (hR : Br.items (bt s) s.size a (s.size + 1) (a + 2) (fun _ => false) false = .err c q) (fl : Int) (w : World) (hE : BrEnv w A) :
    Calls Tryz.prog 146 #[.string s, .int .i64 a, .int .i64 fl] w (ItEnd A (.err c q) w) := by
  have hal := (bt_txt s).lt ha (by omega)
  have h0 : (0 : Int) ≤ a := by omega
  have h1 : decide (s.size ≤ a) = false := by simp; omega
  have e1 : ((s[a].toNat : Int) != 91) = false := by rw [bt_at hal, ha]; rfl
  have hw1 : IntKind.i64.wrap ((a : Int) + 1) = (a : Int) + 1 := IntWalk.i64_in _ (by omega)
  have hw2 : IntKind.i64.wrap ((a : Int) + 1 + 1) = (a : Int) + 1 + 1 := IntWalk.i64_in _ (by omega)
  have h3 : (0 : Int) ≤ (a : Int) + 1 := by omega
  have h4 : (a : Int) + 1 ≤ s.size := by omega
  have HC := Lib.hid (caret_at s (a + 1) _ ht)
  have hal2 := (bt_txt s).lt (beq_iff_eq.1 ht) (by omega)
  have hit := fun w hE => britems_any A s hs a (a + 2) (by omega) _ hR w hE
  rw [show ((a + 2 : Nat) : Int) = (a : Int) + 1 + 1 by omega] at hit
  have HI := Lib.hid hit; have HE := Lib.hid hE
  clear hit hE ha ht hR
  go_enter Tryz.func146, Tryz.ntmps146
  go_wp2_with fail
  refine (HC.out _).mono ?_; rintro e w' ⟨rfl, rfl⟩
  go_wp2_with fail
  have hb0 : Below w.heap.size w ((w.alloc (.cells noSet 25)).alloc (.cells #[.string s, .int .i64 a] 172)) := by go_grown
  obtain ⟨z0, z1⟩ := two_new w (.cells noSet 25) (.cells #[.string s, .int .i64 a] 172)
  have hsz : ((w.alloc (.cells noSet 25)).alloc (.cells #[.string s, .int .i64 a] 172)).heap.size = w.heap.size + 2 := by simp
  generalize World.alloc (World.alloc _ _) _ = W at *
  have HB0 := Lib.hid hb0; have Z0 := Lib.hid z0; have HSZ := Lib.hid hsz
  clear hb0 z0 z1 hsz
  refine (HI.out _ (HE.out.below HB0.out)).mono ?_
  intro e w1 he
  obtain ⟨v, rfl, hv, hb⟩ := he.err rfl
  obtain ⟨q', rfl⟩ := hv.iface
  have hbA : Below W.heap.size W (w1.alloc (.cells noSet 25)) := hb.alloc hb.size _
  have Y0 := Lib.hid (keep_blk hbA Z0.out)
  have HB := Lib.hid (HB0.out.trans (hbA.mono HB0.out.size))
  have HV := Lib.hid (hv.later ((Below.refl w1.heap.size w1).alloc (Nat.le_refl _) (.cells noSet 25)))
  clear hb hbA hv he
  go_wp2_with (first
    | (refine wpList_store_row rfl 25 (.tmp 6) (.tmp 52) rfl (w.heap.size) noSet rfl rfl 25 _ Y0.out (by kernel_rfl) rfl setC_one ?_)
    | fail)
  exact bodyPost_ret (results_row_two rfl _ _ w.heap.size 25 noSet (0, 0) _ _ _ rfl rfl rfl (heap_setRow Y0.out) Tryz.underlying25 rfl (by kernel_rfl)) rfl ⟨⟨_, rfl, (HV.out.setRow (by rw [HSZ.out]; omega) noSet).down (by rw [HSZ.out]; omega)⟩, by exact below_setRow HB.out (Nat.le_refl _) _⟩
set_option maxRecDepth 100000 in
set_option maxHeartbeats 4000000 in
theorem read_ok_true_no (A : Nat → Addr) (s : ByteArray) (hs : s.size ≤ 4294967280) (a : Nat) (ha : bt s a = 91) (ht : (bt s (a + 1) == 94) = true) (P : Nat → Bool) (j : Nat) (hR : Br.items (bt s) s.size a (s.size + 1) (a + 2) (fun _ => false) false = .ok P j) (fl : Int) (hic : icB fl = false) (hnl : nlB fl = false) (w : World) (hE : BrEnv w A) :
    Calls Tryz.prog 146 #[.string s, .int .i64 a, .int .i64 fl] w (ItEnd A (.ok (Br.fin false false true P) (j + 1)) w) := by
  have hjn := (Br.items_ok (bt_txt s) (by have := (bt_txt s).lt ha (by omega); have := (bt_txt s).lt (beq_iff_eq.1 ht) (by omega); omega) hR).2.1
  have hwj : IntKind.i64.wrap ((j : Int) + 1) = (j : Int) + 1 := IntWalk.i64_in _ (by omega)
  have hb2 := bit2 fl
  rw [hic] at hb2
  have hal := (bt_txt s).lt ha (by omega)
  have h0 : (0 : Int) ≤ a := by omega
  have h1 : decide (s.size ≤ a) = false := by simp; omega
  have e1 : ((s[a].toNat : Int) != 91) = false := by rw [bt_at hal, ha]; rfl
  have hw1 : IntKind.i64.wrap ((a : Int) + 1) = (a : Int) + 1 := IntWalk.i64_in _ (by omega)
  have hw2 : IntKind.i64.wrap ((a : Int) + 1 + 1) = (a : Int) + 1 + 1 := IntWalk.i64_in _ (by omega)
  have h3 : (0 : Int) ≤ (a : Int) + 1 := by omega
  have h4 : (a : Int) + 1 ≤ s.size := by omega
  have HC := Lib.hid (caret_at s (a + 1) _ ht)
  have hal2 := (bt_txt s).lt (beq_iff_eq.1 ht) (by omega)
  have hit := fun w hE => britems_any A s hs a (a + 2) (by omega) _ hR w hE
  rw [show ((a + 2 : Nat) : Int) = (a : Int) + 1 + 1 by omega] at hit
  have HI := Lib.hid hit; have HE := Lib.hid hE
  clear hit hE ha ht hR
  have HO := Lib.hid (others_no (P) fl hnl)
  clear hnl
  clear hic
  go_enter Tryz.func146, Tryz.ntmps146
  go_wp2_with fail
  refine (HC.out _).mono ?_; rintro e w' ⟨rfl, rfl⟩
  go_wp2_with fail
  have hb0 : Below w.heap.size w ((w.alloc (.cells noSet 25)).alloc (.cells #[.string s, .int .i64 a] 172)) := by go_grown
  obtain ⟨z0, z1⟩ := two_new w (.cells noSet 25) (.cells #[.string s, .int .i64 a] 172)
  have hsz : ((w.alloc (.cells noSet 25)).alloc (.cells #[.string s, .int .i64 a] 172)).heap.size = w.heap.size + 2 := by simp
  generalize World.alloc (World.alloc _ _) _ = W at *
  have HB0 := Lib.hid hb0; have Z0 := Lib.hid z0; have HSZ := Lib.hid hsz
  clear hb0 z0 z1 hsz
  refine (HI.out _ (HE.out.below HB0.out)).mono ?_
  intro e w1 he
  obtain ⟨rfl, hb⟩ := he.ok rfl
  have hbA : Below W.heap.size W (w1.alloc (.cells #[.int .u64 (Oc.U (Oc.mk (P) 0)), .int .u64 (Oc.U (Oc.mk (P) 1)), .int .u64 (Oc.U (Oc.mk (P) 2)), .int .u64 (Oc.U (Oc.mk (P) 3))] 25)) := hb.alloc hb.size _
  have Y0 := Lib.hid (keep_blk hbA Z0.out)
  have Y1 := Lib.hid (heap_alloc_new w1 (.cells #[.int .u64 (Oc.U (Oc.mk (P) 0)), .int .u64 (Oc.U (Oc.mk (P) 1)), .int .u64 (Oc.U (Oc.mk (P) 2)), .int .u64 (Oc.U (Oc.mk (P) 3))] 25))
  have HB := Lib.hid (HB0.out.trans (hbA.mono HB0.out.size))
  have hlt : w.heap.size < w1.heap.size := by have := hb.size; have := HSZ.out; omega
  clear hb hbA he
  go_wp2_with (first
    | (refine wpList_load_row rfl 25 (.tmp 12) rfl (w1.heap.size) rfl 25 _ (0, 0) _ Y1.out Tryz.underlying25 rfl (by kernel_rfl) ?_)
    | fail)
  refine (HO.out _).mono ?_
  rintro e w3 ⟨rfl, hb⟩
  have Y0a := Lib.hid (keep_blk hb Y0.out)
  have Y1a := Lib.hid (keep_blk hb Y1.out)
  have HBa := Lib.hid (HB.out.trans (hb.mono HB.out.size))
  have Y0b : Hid ((w3.setRow w1.heap.size #[.int .u64 (Oc.U (Oc.mk (fun b => !(P) b) 0)), .int .u64 (Oc.U (Oc.mk (fun b => !(P) b) 1)), .int .u64 (Oc.U (Oc.mk (fun b => !(P) b) 2)), .int .u64 (Oc.U (Oc.mk (fun b => !(P) b) 3))]).heap[w.heap.size]? = some (.cells noSet 25)) := Lib.hid ((heap_setRow_other _ _ _ (by omega)).trans Y0a.out)
  have Y1b : Hid ((w3.setRow w1.heap.size #[.int .u64 (Oc.U (Oc.mk (fun b => !(P) b) 0)), .int .u64 (Oc.U (Oc.mk (fun b => !(P) b) 1)), .int .u64 (Oc.U (Oc.mk (fun b => !(P) b) 2)), .int .u64 (Oc.U (Oc.mk (fun b => !(P) b) 3))]).heap[w1.heap.size]? = some (.cells #[.int .u64 (Oc.U (Oc.mk (fun b => !(P) b) 0)), .int .u64 (Oc.U (Oc.mk (fun b => !(P) b) 1)), .int .u64 (Oc.U (Oc.mk (fun b => !(P) b) 2)), .int .u64 (Oc.U (Oc.mk (fun b => !(P) b) 3))] 25)) := Lib.hid (heap_setRow Y1a.out)
  have HBb : Hid (Below w.heap.size w (w3.setRow w1.heap.size #[.int .u64 (Oc.U (Oc.mk (fun b => !(P) b) 0)), .int .u64 (Oc.U (Oc.mk (fun b => !(P) b) 1)), .int .u64 (Oc.U (Oc.mk (fun b => !(P) b) 2)), .int .u64 (Oc.U (Oc.mk (fun b => !(P) b) 3))])) := Lib.hid (below_setRow HBa.out (Nat.le_of_lt hlt) _)
  clear hb
  go_wp2_with (first
    | (refine wpList_load_row rfl 25 (.tmp 12) rfl (w1.heap.size) rfl 25 _ (0, 0) _ Y1b.out Tryz.underlying25 rfl (by kernel_rfl) ?_)
    | (refine wpList_store_row rfl 25 (.tmp 12) (.tmp 62) rfl (w1.heap.size) #[.int .u64 (Oc.U (Oc.mk (fun b => !(P) b) 0)), .int .u64 (Oc.U (Oc.mk (fun b => !(P) b) 1)), .int .u64 (Oc.U (Oc.mk (fun b => !(P) b) 2)), .int .u64 (Oc.U (Oc.mk (fun b => !(P) b) 3))] rfl rfl 25 _ Y1a.out (by kernel_rfl) rfl setC_one ?_)
    | (refine wpList_store_row rfl 25 (.tmp 6) (.tmp 63) rfl (w.heap.size) #[.int .u64 (Oc.U (Oc.mk (fun b => !(P) b) 0)), .int .u64 (Oc.U (Oc.mk (fun b => !(P) b) 1)), .int .u64 (Oc.U (Oc.mk (fun b => !(P) b) 2)), .int .u64 (Oc.U (Oc.mk (fun b => !(P) b) 3))] rfl rfl 25 _ Y0b.out (by kernel_rfl) rfl setC_one ?_)
    | fail)
  exact bodyPost_ret (results_row_two rfl _ _ w.heap.size 25 #[.int .u64 (Oc.U (Oc.mk (fun b => !(P) b) 0)), .int .u64 (Oc.U (Oc.mk (fun b => !(P) b) 1)), .int .u64 (Oc.U (Oc.mk (fun b => !(P) b) 2)), .int .u64 (Oc.U (Oc.mk (fun b => !(P) b) 3))] (0, 0) _ _ _ rfl rfl rfl (heap_setRow Y0b.out) Tryz.underlying25 rfl (by kernel_rfl)) rfl ⟨by exact rfl, by exact below_setRow HBb.out (Nat.le_refl _) _⟩
set_option maxRecDepth 100000 in
set_option maxHeartbeats 4000000 in
theorem read_ok_true_nl (A : Nat → Addr) (s : ByteArray) (hs : s.size ≤ 4294967280) (a : Nat) (ha : bt s a = 91) (ht : (bt s (a + 1) == 94) = true) (P : Nat → Bool) (j : Nat) (hR : Br.items (bt s) s.size a (s.size + 1) (a + 2) (fun _ => false) false = .ok P j) (fl : Int) (hic : icB fl = false) (hnl : nlB fl = true) (w : World) (hE : BrEnv w A) :
    Calls Tryz.prog 146 #[.string s, .int .i64 a, .int .i64 fl] w (ItEnd A (.ok (Br.fin false true true P) (j + 1)) w) := by
  have hjn := (Br.items_ok (bt_txt s) (by have := (bt_txt s).lt ha (by omega); have := (bt_txt s).lt (beq_iff_eq.1 ht) (by omega); omega) hR).2.1
  have hwj : IntKind.i64.wrap ((j : Int) + 1) = (j : Int) + 1 := IntWalk.i64_in _ (by omega)
  have hb2 := bit2 fl
  rw [hic] at hb2
  have hal := (bt_txt s).lt ha (by omega)
  have h0 : (0 : Int) ≤ a := by omega
  have h1 : decide (s.size ≤ a) = false := by simp; omega
  have e1 : ((s[a].toNat : Int) != 91) = false := by rw [bt_at hal, ha]; rfl
  have hw1 : IntKind.i64.wrap ((a : Int) + 1) = (a : Int) + 1 := IntWalk.i64_in _ (by omega)
  have hw2 : IntKind.i64.wrap ((a : Int) + 1 + 1) = (a : Int) + 1 + 1 := IntWalk.i64_in _ (by omega)
  have h3 : (0 : Int) ≤ (a : Int) + 1 := by omega
  have h4 : (a : Int) + 1 ≤ s.size := by omega
  have HC := Lib.hid (caret_at s (a + 1) _ ht)
  have hal2 := (bt_txt s).lt (beq_iff_eq.1 ht) (by omega)
  have hit := fun w hE => britems_any A s hs a (a + 2) (by omega) _ hR w hE
  rw [show ((a + 2 : Nat) : Int) = (a : Int) + 1 + 1 by omega] at hit
  have HI := Lib.hid hit; have HE := Lib.hid hE
  clear hit hE ha ht hR
  have HO := Lib.hid (others_nl (P) fl hnl)
  clear hnl
  clear hic
  go_enter Tryz.func146, Tryz.ntmps146
  go_wp2_with fail
  refine (HC.out _).mono ?_; rintro e w' ⟨rfl, rfl⟩
  go_wp2_with fail
  have hb0 : Below w.heap.size w ((w.alloc (.cells noSet 25)).alloc (.cells #[.string s, .int .i64 a] 172)) := by go_grown
  obtain ⟨z0, z1⟩ := two_new w (.cells noSet 25) (.cells #[.string s, .int .i64 a] 172)
  have hsz : ((w.alloc (.cells noSet 25)).alloc (.cells #[.string s, .int .i64 a] 172)).heap.size = w.heap.size + 2 := by simp
  generalize World.alloc (World.alloc _ _) _ = W at *
  have HB0 := Lib.hid hb0; have Z0 := Lib.hid z0; have HSZ := Lib.hid hsz
  clear hb0 z0 z1 hsz
  refine (HI.out _ (HE.out.below HB0.out)).mono ?_
  intro e w1 he
  obtain ⟨rfl, hb⟩ := he.ok rfl
  have hbA : Below W.heap.size W (w1.alloc (.cells #[.int .u64 (Oc.U (Oc.mk (P) 0)), .int .u64 (Oc.U (Oc.mk (P) 1)), .int .u64 (Oc.U (Oc.mk (P) 2)), .int .u64 (Oc.U (Oc.mk (P) 3))] 25)) := hb.alloc hb.size _
  have Y0 := Lib.hid (keep_blk hbA Z0.out)
  have Y1 := Lib.hid (heap_alloc_new w1 (.cells #[.int .u64 (Oc.U (Oc.mk (P) 0)), .int .u64 (Oc.U (Oc.mk (P) 1)), .int .u64 (Oc.U (Oc.mk (P) 2)), .int .u64 (Oc.U (Oc.mk (P) 3))] 25))
  have HB := Lib.hid (HB0.out.trans (hbA.mono HB0.out.size))
  have hlt : w.heap.size < w1.heap.size := by have := hb.size; have := HSZ.out; omega
  clear hb hbA he
  go_wp2_with (first
    | (refine wpList_load_row rfl 25 (.tmp 12) rfl (w1.heap.size) rfl 25 _ (0, 0) _ Y1.out Tryz.underlying25 rfl (by kernel_rfl) ?_)
    | fail)
  refine (HO.out _).mono ?_
  rintro e w3 ⟨rfl, hb⟩
  have Y0a := Lib.hid (keep_blk hb Y0.out)
  have Y1a := Lib.hid (keep_blk hb Y1.out)
  have HBa := Lib.hid (HB.out.trans (hb.mono HB.out.size))
  have Y0b : Hid ((w3.setRow w1.heap.size #[.int .u64 (Oc.U (Oc.mk (fun b => !(P) b && !(b == 10)) 0)), .int .u64 (Oc.U (Oc.mk (fun b => !(P) b && !(b == 10)) 1)), .int .u64 (Oc.U (Oc.mk (fun b => !(P) b && !(b == 10)) 2)), .int .u64 (Oc.U (Oc.mk (fun b => !(P) b && !(b == 10)) 3))]).heap[w.heap.size]? = some (.cells noSet 25)) := Lib.hid ((heap_setRow_other _ _ _ (by omega)).trans Y0a.out)
  have Y1b : Hid ((w3.setRow w1.heap.size #[.int .u64 (Oc.U (Oc.mk (fun b => !(P) b && !(b == 10)) 0)), .int .u64 (Oc.U (Oc.mk (fun b => !(P) b && !(b == 10)) 1)), .int .u64 (Oc.U (Oc.mk (fun b => !(P) b && !(b == 10)) 2)), .int .u64 (Oc.U (Oc.mk (fun b => !(P) b && !(b == 10)) 3))]).heap[w1.heap.size]? = some (.cells #[.int .u64 (Oc.U (Oc.mk (fun b => !(P) b && !(b == 10)) 0)), .int .u64 (Oc.U (Oc.mk (fun b => !(P) b && !(b == 10)) 1)), .int .u64 (Oc.U (Oc.mk (fun b => !(P) b && !(b == 10)) 2)), .int .u64 (Oc.U (Oc.mk (fun b => !(P) b && !(b == 10)) 3))] 25)) := Lib.hid (heap_setRow Y1a.out)
  have HBb : Hid (Below w.heap.size w (w3.setRow w1.heap.size #[.int .u64 (Oc.U (Oc.mk (fun b => !(P) b && !(b == 10)) 0)), .int .u64 (Oc.U (Oc.mk (fun b => !(P) b && !(b == 10)) 1)), .int .u64 (Oc.U (Oc.mk (fun b => !(P) b && !(b == 10)) 2)), .int .u64 (Oc.U (Oc.mk (fun b => !(P) b && !(b == 10)) 3))])) := Lib.hid (below_setRow HBa.out (Nat.le_of_lt hlt) _)
  clear hb
  go_wp2_with (first
    | (refine wpList_load_row rfl 25 (.tmp 12) rfl (w1.heap.size) rfl 25 _ (0, 0) _ Y1b.out Tryz.underlying25 rfl (by kernel_rfl) ?_)
    | (refine wpList_store_row rfl 25 (.tmp 12) (.tmp 62) rfl (w1.heap.size) #[.int .u64 (Oc.U (Oc.mk (fun b => !(P) b && !(b == 10)) 0)), .int .u64 (Oc.U (Oc.mk (fun b => !(P) b && !(b == 10)) 1)), .int .u64 (Oc.U (Oc.mk (fun b => !(P) b && !(b == 10)) 2)), .int .u64 (Oc.U (Oc.mk (fun b => !(P) b && !(b == 10)) 3))] rfl rfl 25 _ Y1a.out (by kernel_rfl) rfl setC_one ?_)
    | (refine wpList_store_row rfl 25 (.tmp 6) (.tmp 63) rfl (w.heap.size) #[.int .u64 (Oc.U (Oc.mk (fun b => !(P) b && !(b == 10)) 0)), .int .u64 (Oc.U (Oc.mk (fun b => !(P) b && !(b == 10)) 1)), .int .u64 (Oc.U (Oc.mk (fun b => !(P) b && !(b == 10)) 2)), .int .u64 (Oc.U (Oc.mk (fun b => !(P) b && !(b == 10)) 3))] rfl rfl 25 _ Y0b.out (by kernel_rfl) rfl setC_one ?_)
    | fail)
  exact bodyPost_ret (results_row_two rfl _ _ w.heap.size 25 #[.int .u64 (Oc.U (Oc.mk (fun b => !(P) b && !(b == 10)) 0)), .int .u64 (Oc.U (Oc.mk (fun b => !(P) b && !(b == 10)) 1)), .int .u64 (Oc.U (Oc.mk (fun b => !(P) b && !(b == 10)) 2)), .int .u64 (Oc.U (Oc.mk (fun b => !(P) b && !(b == 10)) 3))] (0, 0) _ _ _ rfl rfl rfl (heap_setRow Y0b.out) Tryz.underlying25 rfl (by kernel_rfl)) rfl ⟨by exact rfl, by exact below_setRow HBb.out (Nat.le_refl _) _⟩
set_option maxRecDepth 100000 in
set_option maxHeartbeats 4000000 in
theorem read_ok_true_ic_no (A : Nat → Addr) (s : ByteArray) (hs : s.size ≤ 4294967280) (a : Nat) (ha : bt s a = 91) (ht : (bt s (a + 1) == 94) = true) (P : Nat → Bool) (j : Nat) (hR : Br.items (bt s) s.size a (s.size + 1) (a + 2) (fun _ => false) false = .ok P j) (fl : Int) (hic : icB fl = true) (hnl : nlB fl = false) (w : World) (hE : BrEnv w A) :
    Calls Tryz.prog 146 #[.string s, .int .i64 a, .int .i64 fl] w (ItEnd A (.ok (Br.fin true false true P) (j + 1)) w) := by
  have hjn := (Br.items_ok (bt_txt s) (by have := (bt_txt s).lt ha (by omega); have := (bt_txt s).lt (beq_iff_eq.1 ht) (by omega); omega) hR).2.1
  have hwj : IntKind.i64.wrap ((j : Int) + 1) = (j : Int) + 1 := IntWalk.i64_in _ (by omega)
  have hb2 := bit2 fl
  rw [hic] at hb2
  have hal := (bt_txt s).lt ha (by omega)
  have h0 : (0 : Int) ≤ a := by omega
  have h1 : decide (s.size ≤ a) = false := by simp; omega
  have e1 : ((s[a].toNat : Int) != 91) = false := by rw [bt_at hal, ha]; rfl
  have hw1 : IntKind.i64.wrap ((a : Int) + 1) = (a : Int) + 1 := IntWalk.i64_in _ (by omega)
  have hw2 : IntKind.i64.wrap ((a : Int) + 1 + 1) = (a : Int) + 1 + 1 := IntWalk.i64_in _ (by omega)
  have h3 : (0 : Int) ≤ (a : Int) + 1 := by omega
  have h4 : (a : Int) + 1 ≤ s.size := by omega
  have HC := Lib.hid (caret_at s (a + 1) _ ht)
  have hal2 := (bt_txt s).lt (beq_iff_eq.1 ht) (by omega)
  have hit := fun w hE => britems_any A s hs a (a + 2) (by omega) _ hR w hE
  rw [show ((a + 2 : Nat) : Int) = (a : Int) + 1 + 1 by omega] at hit
  have HI := Lib.hid hit; have HE := Lib.hid hE
  clear hit hE ha ht hR
  have HO := Lib.hid (others_no (Cl.fold P) fl hnl)
  clear hnl
  clear hic
  go_enter Tryz.func146, Tryz.ntmps146
  go_wp2_with fail
  refine (HC.out _).mono ?_; rintro e w' ⟨rfl, rfl⟩
  go_wp2_with fail
  have hb0 : Below w.heap.size w ((w.alloc (.cells noSet 25)).alloc (.cells #[.string s, .int .i64 a] 172)) := by go_grown
  obtain ⟨z0, z1⟩ := two_new w (.cells noSet 25) (.cells #[.string s, .int .i64 a] 172)
  have hsz : ((w.alloc (.cells noSet 25)).alloc (.cells #[.string s, .int .i64 a] 172)).heap.size = w.heap.size + 2 := by simp
  generalize World.alloc (World.alloc _ _) _ = W at *
  have HB0 := Lib.hid hb0; have Z0 := Lib.hid z0; have HSZ := Lib.hid hsz
  clear hb0 z0 z1 hsz
  refine (HI.out _ (HE.out.below HB0.out)).mono ?_
  intro e w1 he
  obtain ⟨rfl, hb⟩ := he.ok rfl
  have hbA : Below W.heap.size W (w1.alloc (.cells #[.int .u64 (Oc.U (Oc.mk (P) 0)), .int .u64 (Oc.U (Oc.mk (P) 1)), .int .u64 (Oc.U (Oc.mk (P) 2)), .int .u64 (Oc.U (Oc.mk (P) 3))] 25)) := hb.alloc hb.size _
  have Y0 := Lib.hid (keep_blk hbA Z0.out)
  have Y1 := Lib.hid (heap_alloc_new w1 (.cells #[.int .u64 (Oc.U (Oc.mk (P) 0)), .int .u64 (Oc.U (Oc.mk (P) 1)), .int .u64 (Oc.U (Oc.mk (P) 2)), .int .u64 (Oc.U (Oc.mk (P) 3))] 25))
  have HB := Lib.hid (HB0.out.trans (hbA.mono HB0.out.size))
  have hlt : w.heap.size < w1.heap.size := by have := hb.size; have := HSZ.out; omega
  clear hb hbA he
  go_wp2_with (first
    | (refine wpList_load_row rfl 25 (.tmp 12) rfl (w1.heap.size) rfl 25 _ (0, 0) _ Y1.out Tryz.underlying25 rfl (by kernel_rfl) ?_)
    | fail)
  refine (fold_p P _).mono ?_
  rintro e w2 ⟨rfl, hb⟩
  have Y0a := Lib.hid (keep_blk hb Y0.out)
  have Y1a := Lib.hid (keep_blk hb Y1.out)
  have HBa := Lib.hid (HB.out.trans (hb.mono HB.out.size))
  have Y0b : Hid ((w2.setRow w1.heap.size #[.int .u64 (Oc.U (Oc.mk (Cl.fold P) 0)), .int .u64 (Oc.U (Oc.mk (Cl.fold P) 1)), .int .u64 (Oc.U (Oc.mk (Cl.fold P) 2)), .int .u64 (Oc.U (Oc.mk (Cl.fold P) 3))]).heap[w.heap.size]? = some (.cells noSet 25)) := Lib.hid ((heap_setRow_other _ _ _ (by omega)).trans Y0a.out)
  have Y1b : Hid ((w2.setRow w1.heap.size #[.int .u64 (Oc.U (Oc.mk (Cl.fold P) 0)), .int .u64 (Oc.U (Oc.mk (Cl.fold P) 1)), .int .u64 (Oc.U (Oc.mk (Cl.fold P) 2)), .int .u64 (Oc.U (Oc.mk (Cl.fold P) 3))]).heap[w1.heap.size]? = some (.cells #[.int .u64 (Oc.U (Oc.mk (Cl.fold P) 0)), .int .u64 (Oc.U (Oc.mk (Cl.fold P) 1)), .int .u64 (Oc.U (Oc.mk (Cl.fold P) 2)), .int .u64 (Oc.U (Oc.mk (Cl.fold P) 3))] 25)) := Lib.hid (heap_setRow Y1a.out)
  have HBb : Hid (Below w.heap.size w (w2.setRow w1.heap.size #[.int .u64 (Oc.U (Oc.mk (Cl.fold P) 0)), .int .u64 (Oc.U (Oc.mk (Cl.fold P) 1)), .int .u64 (Oc.U (Oc.mk (Cl.fold P) 2)), .int .u64 (Oc.U (Oc.mk (Cl.fold P) 3))])) := Lib.hid (below_setRow HBa.out (Nat.le_of_lt hlt) _)
  clear hb
  go_wp2_with (first
    | (refine wpList_load_row rfl 25 (.tmp 12) rfl (w1.heap.size) rfl 25 _ (0, 0) _ Y1b.out Tryz.underlying25 rfl (by kernel_rfl) ?_)
    | (refine wpList_store_row rfl 25 (.tmp 12) (.tmp 58) rfl (w1.heap.size) #[.int .u64 (Oc.U (Oc.mk (Cl.fold P) 0)), .int .u64 (Oc.U (Oc.mk (Cl.fold P) 1)), .int .u64 (Oc.U (Oc.mk (Cl.fold P) 2)), .int .u64 (Oc.U (Oc.mk (Cl.fold P) 3))] rfl rfl 25 _ Y1a.out (by kernel_rfl) rfl setC_one ?_)
    | fail)
  refine (HO.out _).mono ?_
  rintro e w3 ⟨rfl, hb⟩
  have Y0ba := Lib.hid (keep_blk hb Y0b.out)
  have Y1ba := Lib.hid (keep_blk hb Y1b.out)
  have HBba := Lib.hid (HBb.out.trans (hb.mono HBb.out.size))
  have Y0bb : Hid ((w3.setRow w1.heap.size #[.int .u64 (Oc.U (Oc.mk (fun b => !(Cl.fold P) b) 0)), .int .u64 (Oc.U (Oc.mk (fun b => !(Cl.fold P) b) 1)), .int .u64 (Oc.U (Oc.mk (fun b => !(Cl.fold P) b) 2)), .int .u64 (Oc.U (Oc.mk (fun b => !(Cl.fold P) b) 3))]).heap[w.heap.size]? = some (.cells noSet 25)) := Lib.hid ((heap_setRow_other _ _ _ (by omega)).trans Y0ba.out)
  have Y1bb : Hid ((w3.setRow w1.heap.size #[.int .u64 (Oc.U (Oc.mk (fun b => !(Cl.fold P) b) 0)), .int .u64 (Oc.U (Oc.mk (fun b => !(Cl.fold P) b) 1)), .int .u64 (Oc.U (Oc.mk (fun b => !(Cl.fold P) b) 2)), .int .u64 (Oc.U (Oc.mk (fun b => !(Cl.fold P) b) 3))]).heap[w1.heap.size]? = some (.cells #[.int .u64 (Oc.U (Oc.mk (fun b => !(Cl.fold P) b) 0)), .int .u64 (Oc.U (Oc.mk (fun b => !(Cl.fold P) b) 1)), .int .u64 (Oc.U (Oc.mk (fun b => !(Cl.fold P) b) 2)), .int .u64 (Oc.U (Oc.mk (fun b => !(Cl.fold P) b) 3))] 25)) := Lib.hid (heap_setRow Y1ba.out)
  have HBbb : Hid (Below w.heap.size w (w3.setRow w1.heap.size #[.int .u64 (Oc.U (Oc.mk (fun b => !(Cl.fold P) b) 0)), .int .u64 (Oc.U (Oc.mk (fun b => !(Cl.fold P) b) 1)), .int .u64 (Oc.U (Oc.mk (fun b => !(Cl.fold P) b) 2)), .int .u64 (Oc.U (Oc.mk (fun b => !(Cl.fold P) b) 3))])) := Lib.hid (below_setRow HBba.out (Nat.le_of_lt hlt) _)
  clear hb
  go_wp2_with (first
    | (refine wpList_load_row rfl 25 (.tmp 12) rfl (w1.heap.size) rfl 25 _ (0, 0) _ Y1bb.out Tryz.underlying25 rfl (by kernel_rfl) ?_)
    | (refine wpList_store_row rfl 25 (.tmp 12) (.tmp 62) rfl (w1.heap.size) #[.int .u64 (Oc.U (Oc.mk (fun b => !(Cl.fold P) b) 0)), .int .u64 (Oc.U (Oc.mk (fun b => !(Cl.fold P) b) 1)), .int .u64 (Oc.U (Oc.mk (fun b => !(Cl.fold P) b) 2)), .int .u64 (Oc.U (Oc.mk (fun b => !(Cl.fold P) b) 3))] rfl rfl 25 _ Y1ba.out (by kernel_rfl) rfl setC_one ?_)
    | (refine wpList_store_row rfl 25 (.tmp 6) (.tmp 63) rfl (w.heap.size) #[.int .u64 (Oc.U (Oc.mk (fun b => !(Cl.fold P) b) 0)), .int .u64 (Oc.U (Oc.mk (fun b => !(Cl.fold P) b) 1)), .int .u64 (Oc.U (Oc.mk (fun b => !(Cl.fold P) b) 2)), .int .u64 (Oc.U (Oc.mk (fun b => !(Cl.fold P) b) 3))] rfl rfl 25 _ Y0bb.out (by kernel_rfl) rfl setC_one ?_)
    | fail)
  exact bodyPost_ret (results_row_two rfl _ _ w.heap.size 25 #[.int .u64 (Oc.U (Oc.mk (fun b => !(Cl.fold P) b) 0)), .int .u64 (Oc.U (Oc.mk (fun b => !(Cl.fold P) b) 1)), .int .u64 (Oc.U (Oc.mk (fun b => !(Cl.fold P) b) 2)), .int .u64 (Oc.U (Oc.mk (fun b => !(Cl.fold P) b) 3))] (0, 0) _ _ _ rfl rfl rfl (heap_setRow Y0bb.out) Tryz.underlying25 rfl (by kernel_rfl)) rfl ⟨by exact rfl, by exact below_setRow HBbb.out (Nat.le_refl _) _⟩
set_option maxRecDepth 100000 in
set_option maxHeartbeats 4000000 in
theorem read_ok_true_ic_nl (A : Nat → Addr) (s : ByteArray) (hs : s.size ≤ 4294967280) (a : Nat) (ha : bt s a = 91) (ht : (bt s (a + 1) == 94) = true) (P : Nat → Bool) (j : Nat) (hR : Br.items (bt s) s.size a (s.size + 1) (a + 2) (fun _ => false) false = .ok P j) (fl : Int) (hic : icB fl = true) (hnl : nlB fl = true) (w : World) (hE : BrEnv w A) :
    Calls Tryz.prog 146 #[.string s, .int .i64 a, .int .i64 fl] w (ItEnd A (.ok (Br.fin true true true P) (j + 1)) w) := by
  have hjn := (Br.items_ok (bt_txt s) (by have := (bt_txt s).lt ha (by omega); have := (bt_txt s).lt (beq_iff_eq.1 ht) (by omega); omega) hR).2.1
  have hwj : IntKind.i64.wrap ((j : Int) + 1) = (j : Int) + 1 := IntWalk.i64_in _ (by omega)
  have hb2 := bit2 fl
  rw [hic] at hb2
  have hal := (bt_txt s).lt ha (by omega)
  have h0 : (0 : Int) ≤ a := by omega
  have h1 : decide (s.size ≤ a) = false := by simp; omega
  have e1 : ((s[a].toNat : Int) != 91) = false := by rw [bt_at hal, ha]; rfl
  have hw1 : IntKind.i64.wrap ((a : Int) + 1) = (a : Int) + 1 := IntWalk.i64_in _ (by omega)
  have hw2 : IntKind.i64.wrap ((a : Int) + 1 + 1) = (a : Int) + 1 + 1 := IntWalk.i64_in _ (by omega)
  have h3 : (0 : Int) ≤ (a : Int) + 1 := by omega
  have h4 : (a : Int) + 1 ≤ s.size := by omega
  have HC := Lib.hid (caret_at s (a + 1) _ ht)
  have hal2 := (bt_txt s).lt (beq_iff_eq.1 ht) (by omega)
  have hit := fun w hE => britems_any A s hs a (a + 2) (by omega) _ hR w hE
  rw [show ((a + 2 : Nat) : Int) = (a : Int) + 1 + 1 by omega] at hit
  have HI := Lib.hid hit; have HE := Lib.hid hE
  clear hit hE ha ht hR
  have HO := Lib.hid (others_nl (Cl.fold P) fl hnl)
  clear hnl
  clear hic
  go_enter Tryz.func146, Tryz.ntmps146
  go_wp2_with fail
  refine (HC.out _).mono ?_; rintro e w' ⟨rfl, rfl⟩
  go_wp2_with fail
  have hb0 : Below w.heap.size w ((w.alloc (.cells noSet 25)).alloc (.cells #[.string s, .int .i64 a] 172)) := by go_grown
  obtain ⟨z0, z1⟩ := two_new w (.cells noSet 25) (.cells #[.string s, .int .i64 a] 172)
  have hsz : ((w.alloc (.cells noSet 25)).alloc (.cells #[.string s, .int .i64 a] 172)).heap.size = w.heap.size + 2 := by simp
  generalize World.alloc (World.alloc _ _) _ = W at *
  have HB0 := Lib.hid hb0; have Z0 := Lib.hid z0; have HSZ := Lib.hid hsz
  clear hb0 z0 z1 hsz
  refine (HI.out _ (HE.out.below HB0.out)).mono ?_
  intro e w1 he
  obtain ⟨rfl, hb⟩ := he.ok rfl
  have hbA : Below W.heap.size W (w1.alloc (.cells #[.int .u64 (Oc.U (Oc.mk (P) 0)), .int .u64 (Oc.U (Oc.mk (P) 1)), .int .u64 (Oc.U (Oc.mk (P) 2)), .int .u64 (Oc.U (Oc.mk (P) 3))] 25)) := hb.alloc hb.size _
  have Y0 := Lib.hid (keep_blk hbA Z0.out)
  have Y1 := Lib.hid (heap_alloc_new w1 (.cells #[.int .u64 (Oc.U (Oc.mk (P) 0)), .int .u64 (Oc.U (Oc.mk (P) 1)), .int .u64 (Oc.U (Oc.mk (P) 2)), .int .u64 (Oc.U (Oc.mk (P) 3))] 25))
  have HB := Lib.hid (HB0.out.trans (hbA.mono HB0.out.size))
  have hlt : w.heap.size < w1.heap.size := by have := hb.size; have := HSZ.out; omega
  clear hb hbA he
  go_wp2_with (first
    | (refine wpList_load_row rfl 25 (.tmp 12) rfl (w1.heap.size) rfl 25 _ (0, 0) _ Y1.out Tryz.underlying25 rfl (by kernel_rfl) ?_)
    | fail)
  refine (fold_p P _).mono ?_
  rintro e w2 ⟨rfl, hb⟩
  have Y0a := Lib.hid (keep_blk hb Y0.out)
  have Y1a := Lib.hid (keep_blk hb Y1.out)
  have HBa := Lib.hid (HB.out.trans (hb.mono HB.out.size))
  have Y0b : Hid ((w2.setRow w1.heap.size #[.int .u64 (Oc.U (Oc.mk (Cl.fold P) 0)), .int .u64 (Oc.U (Oc.mk (Cl.fold P) 1)), .int .u64 (Oc.U (Oc.mk (Cl.fold P) 2)), .int .u64 (Oc.U (Oc.mk (Cl.fold P) 3))]).heap[w.heap.size]? = some (.cells noSet 25)) := Lib.hid ((heap_setRow_other _ _ _ (by omega)).trans Y0a.out)
  have Y1b : Hid ((w2.setRow w1.heap.size #[.int .u64 (Oc.U (Oc.mk (Cl.fold P) 0)), .int .u64 (Oc.U (Oc.mk (Cl.fold P) 1)), .int .u64 (Oc.U (Oc.mk (Cl.fold P) 2)), .int .u64 (Oc.U (Oc.mk (Cl.fold P) 3))]).heap[w1.heap.size]? = some (.cells #[.int .u64 (Oc.U (Oc.mk (Cl.fold P) 0)), .int .u64 (Oc.U (Oc.mk (Cl.fold P) 1)), .int .u64 (Oc.U (Oc.mk (Cl.fold P) 2)), .int .u64 (Oc.U (Oc.mk (Cl.fold P) 3))] 25)) := Lib.hid (heap_setRow Y1a.out)
  have HBb : Hid (Below w.heap.size w (w2.setRow w1.heap.size #[.int .u64 (Oc.U (Oc.mk (Cl.fold P) 0)), .int .u64 (Oc.U (Oc.mk (Cl.fold P) 1)), .int .u64 (Oc.U (Oc.mk (Cl.fold P) 2)), .int .u64 (Oc.U (Oc.mk (Cl.fold P) 3))])) := Lib.hid (below_setRow HBa.out (Nat.le_of_lt hlt) _)
  clear hb
  go_wp2_with (first
    | (refine wpList_load_row rfl 25 (.tmp 12) rfl (w1.heap.size) rfl 25 _ (0, 0) _ Y1b.out Tryz.underlying25 rfl (by kernel_rfl) ?_)
    | (refine wpList_store_row rfl 25 (.tmp 12) (.tmp 58) rfl (w1.heap.size) #[.int .u64 (Oc.U (Oc.mk (Cl.fold P) 0)), .int .u64 (Oc.U (Oc.mk (Cl.fold P) 1)), .int .u64 (Oc.U (Oc.mk (Cl.fold P) 2)), .int .u64 (Oc.U (Oc.mk (Cl.fold P) 3))] rfl rfl 25 _ Y1a.out (by kernel_rfl) rfl setC_one ?_)
    | fail)
  refine (HO.out _).mono ?_
  rintro e w3 ⟨rfl, hb⟩
  have Y0ba := Lib.hid (keep_blk hb Y0b.out)
  have Y1ba := Lib.hid (keep_blk hb Y1b.out)
  have HBba := Lib.hid (HBb.out.trans (hb.mono HBb.out.size))
  have Y0bb : Hid ((w3.setRow w1.heap.size #[.int .u64 (Oc.U (Oc.mk (fun b => !(Cl.fold P) b && !(b == 10)) 0)), .int .u64 (Oc.U (Oc.mk (fun b => !(Cl.fold P) b && !(b == 10)) 1)), .int .u64 (Oc.U (Oc.mk (fun b => !(Cl.fold P) b && !(b == 10)) 2)), .int .u64 (Oc.U (Oc.mk (fun b => !(Cl.fold P) b && !(b == 10)) 3))]).heap[w.heap.size]? = some (.cells noSet 25)) := Lib.hid ((heap_setRow_other _ _ _ (by omega)).trans Y0ba.out)
  have Y1bb : Hid ((w3.setRow w1.heap.size #[.int .u64 (Oc.U (Oc.mk (fun b => !(Cl.fold P) b && !(b == 10)) 0)), .int .u64 (Oc.U (Oc.mk (fun b => !(Cl.fold P) b && !(b == 10)) 1)), .int .u64 (Oc.U (Oc.mk (fun b => !(Cl.fold P) b && !(b == 10)) 2)), .int .u64 (Oc.U (Oc.mk (fun b => !(Cl.fold P) b && !(b == 10)) 3))]).heap[w1.heap.size]? = some (.cells #[.int .u64 (Oc.U (Oc.mk (fun b => !(Cl.fold P) b && !(b == 10)) 0)), .int .u64 (Oc.U (Oc.mk (fun b => !(Cl.fold P) b && !(b == 10)) 1)), .int .u64 (Oc.U (Oc.mk (fun b => !(Cl.fold P) b && !(b == 10)) 2)), .int .u64 (Oc.U (Oc.mk (fun b => !(Cl.fold P) b && !(b == 10)) 3))] 25)) := Lib.hid (heap_setRow Y1ba.out)
  have HBbb : Hid (Below w.heap.size w (w3.setRow w1.heap.size #[.int .u64 (Oc.U (Oc.mk (fun b => !(Cl.fold P) b && !(b == 10)) 0)), .int .u64 (Oc.U (Oc.mk (fun b => !(Cl.fold P) b && !(b == 10)) 1)), .int .u64 (Oc.U (Oc.mk (fun b => !(Cl.fold P) b && !(b == 10)) 2)), .int .u64 (Oc.U (Oc.mk (fun b => !(Cl.fold P) b && !(b == 10)) 3))])) := Lib.hid (below_setRow HBba.out (Nat.le_of_lt hlt) _)
  clear hb
  go_wp2_with (first
    | (refine wpList_load_row rfl 25 (.tmp 12) rfl (w1.heap.size) rfl 25 _ (0, 0) _ Y1bb.out Tryz.underlying25 rfl (by kernel_rfl) ?_)
    | (refine wpList_store_row rfl 25 (.tmp 12) (.tmp 62) rfl (w1.heap.size) #[.int .u64 (Oc.U (Oc.mk (fun b => !(Cl.fold P) b && !(b == 10)) 0)), .int .u64 (Oc.U (Oc.mk (fun b => !(Cl.fold P) b && !(b == 10)) 1)), .int .u64 (Oc.U (Oc.mk (fun b => !(Cl.fold P) b && !(b == 10)) 2)), .int .u64 (Oc.U (Oc.mk (fun b => !(Cl.fold P) b && !(b == 10)) 3))] rfl rfl 25 _ Y1ba.out (by kernel_rfl) rfl setC_one ?_)
    | (refine wpList_store_row rfl 25 (.tmp 6) (.tmp 63) rfl (w.heap.size) #[.int .u64 (Oc.U (Oc.mk (fun b => !(Cl.fold P) b && !(b == 10)) 0)), .int .u64 (Oc.U (Oc.mk (fun b => !(Cl.fold P) b && !(b == 10)) 1)), .int .u64 (Oc.U (Oc.mk (fun b => !(Cl.fold P) b && !(b == 10)) 2)), .int .u64 (Oc.U (Oc.mk (fun b => !(Cl.fold P) b && !(b == 10)) 3))] rfl rfl 25 _ Y0bb.out (by kernel_rfl) rfl setC_one ?_)
    | fail)
  exact bodyPost_ret (results_row_two rfl _ _ w.heap.size 25 #[.int .u64 (Oc.U (Oc.mk (fun b => !(Cl.fold P) b && !(b == 10)) 0)), .int .u64 (Oc.U (Oc.mk (fun b => !(Cl.fold P) b && !(b == 10)) 1)), .int .u64 (Oc.U (Oc.mk (fun b => !(Cl.fold P) b && !(b == 10)) 2)), .int .u64 (Oc.U (Oc.mk (fun b => !(Cl.fold P) b && !(b == 10)) 3))] (0, 0) _ _ _ rfl rfl rfl (heap_setRow Y0bb.out) Tryz.underlying25 rfl (by kernel_rfl)) rfl ⟨by exact rfl, by exact below_setRow HBbb.out (Nat.le_refl _) _⟩
/-- What Read answers at a '['; an error lies in a new block. -/
theorem whole_does (A : Nat → Addr) (s : ByteArray) (hs : s.size ≤ 4294967280) (a : Nat) (ha : bt s a = 91) (fl : Int) (w : World) (hE : BrEnv w A) :
    Calls Tryz.prog 146 #[.string s, .int .i64 a, .int .i64 fl] w (ItEnd A (Br.whole (bt s) s.size a (icB fl) (nlB fl)) w) := by
  unfold Br.whole
  cases ht : (bt s (a + 1) == 94) with
  | true =>
    simp only [if_true]
    cases hR : Br.items (bt s) s.size a (s.size + 1) (a + 2) (fun _ => false) false with
    | err c q => exact read_err_true A s hs a ha ht c q hR fl w hE
    | ok P j =>
      show Calls _ _ _ _ (ItEnd A (.ok (Br.fin (icB fl) (nlB fl) true P) (j + 1)) w)
      cases hic : icB fl <;> cases hnl : nlB fl
      · exact read_ok_true_no A s hs a ha ht P j hR fl hic hnl w hE
      · exact read_ok_true_nl A s hs a ha ht P j hR fl hic hnl w hE
      · exact read_ok_true_ic_no A s hs a ha ht P j hR fl hic hnl w hE
      · exact read_ok_true_ic_nl A s hs a ha ht P j hR fl hic hnl w hE
  | false =>
    simp only [Bool.false_eq_true, if_false]
    cases hR : Br.items (bt s) s.size a (s.size + 1) (a + 1) (fun _ => false) false with
    | err c q => exact read_err_false A s hs a ha ht c q hR fl w hE
    | ok P j =>
      show Calls _ _ _ _ (ItEnd A (.ok (Br.fin (icB fl) (nlB fl) false P) (j + 1)) w)
      cases hic : icB fl
      · exact read_ok_false A s hs a ha ht P j hR fl hic _ w hE
      · exact read_ok_false_ic A s hs a ha ht P j hR fl hic _ w hE
end Go.Proofs.YtlbhbjmobcikfaaGreatDoor
/- The reader of extended patterns, as memory holds it; what its small calls answer. -/
namespace Go.Proofs.YtlbhbjmobcikfaaGreatDoor
open Go.RowKit
theorem ErrOne.below {A : Nat → Addr} {B : Nat} {w w' : World} {v : Value} {c : Nat} {n : Int} (h : ErrOne A B w v c n) (hb : Below w.heap.size w w') : ErrOne A B w' v c n := h.later hb
/-- The reader's five cells. -/
abbrev rdC (s : ByteArray) (fl : Int) (i g d : Nat) : Array Value := #[.string s, .int .i64 fl, .int .i64 i, .int .i64 g, .int .i64 d]
/-- The reader lies at block R, which is newer than the world w0; nothing of w0 has changed. -/
structure RdAt (w0 : World) (A : Nat → Addr) (w : World) (R : Nat) (s : ByteArray) (fl : Int) (i g d : Nat) : Prop where
  env : BrEnv w0 A
  old : w0.heap.size ≤ R
  bel : Below w0.heap.size w0 w
  cell : w.heap[R]? = some (.cells (rdC s fl i g d) 54)
theorem RdAt.lt {w0 : World} {A : Nat → Addr} {w : World} {R : Nat} {s : ByteArray} {fl : Int} {i g d : Nat} (h : RdAt w0 A w R s fl i g d) : R < w.heap.size := (Array.getElem?_eq_some_iff.1 h.cell).1
theorem RdAt.now {w0 : World} {A : Nat → Addr} {w : World} {R : Nat} {s : ByteArray} {fl : Int} {i g d : Nat} (h : RdAt w0 A w R s fl i g d) : BrEnv w A := h.env.below h.bel
theorem RdAt.next {w0 : World} {A : Nat → Addr} {w w' : World} {R : Nat} {s : ByteArray} {fl : Int} {i g d i' g' d' : Nat} (h : RdAt w0 A w R s fl i g d) (ht : Touch [R] w w') (hc : w'.heap[R]? = some (.cells (rdC s fl i' g' d') 54)) : RdAt w0 A w' R s fl i' g' d' :=
  ⟨h.env, h.old, h.bel.trans (ht.below (fun k hk => by rw [List.mem_singleton.1 hk]; exact h.old) h.bel.size), hc⟩
theorem RdAt.later {w0 : World} {A : Nat → Addr} {w w' : World} {R : Nat} {s : ByteArray} {fl : Int} {i g d : Nat} (h : RdAt w0 A w R s fl i g d) (hb : Below w.heap.size w w') : RdAt w0 A w' R s fl i g d :=
  h.next (Touch.of_below _ hb) (keep_blk hb h.cell)
theorem rd5 {w : World} {R : Nat} {s : ByteArray} {fl : Int} {i g d : Nat} (h : w.heap[R]? = some (.cells (rdC s fl i g d) 54)) :
    w.cell? ⟨R, 0, none⟩ = some (.string s) ∧ w.cell? ⟨R, 1, none⟩ = some (.int .i64 fl) ∧ w.cell? ⟨R, 2, none⟩ = some (.int .i64 i) ∧ w.cell? ⟨R, 3, none⟩ = some (.int .i64 g) ∧ w.cell? ⟨R, 4, none⟩ = some (.int .i64 d) := by
  simp [World.cell?, h]
theorem rdf {w : World} {R : Nat} {s : ByteArray} {fl : Int} {i g d : Nat} (h : w.heap[R]? = some (.cells (rdC s fl i g d) 54)) : w.frozen? ⟨R, 2, none⟩ = false ∧ w.frozen? ⟨R, 3, none⟩ = false ∧ w.frozen? ⟨R, 4, none⟩ = false := by
  simp [World.frozen?, h]
theorem rd_place {w : World} {R : Nat} {s : ByteArray} {fl : Int} {i g d : Nat} (h : w.heap[R]? = some (.cells (rdC s fl i g d) 54)) (j : Nat) {v : Int} (hv : v = (j : Int)) : (w.setCell ⟨R, 2, none⟩ (.int .i64 v)).heap[R]? = some (.cells (rdC s fl j g d) 54) := by
  subst hv; simp [World.setCell, Array.getElem?_modify, h]
theorem rd_groups {w : World} {R : Nat} {s : ByteArray} {fl : Int} {i g d : Nat} (h : w.heap[R]? = some (.cells (rdC s fl i g d) 54)) (j : Nat) {v : Int} (hv : v = (j : Int)) : (w.setCell ⟨R, 3, none⟩ (.int .i64 v)).heap[R]? = some (.cells (rdC s fl i j d) 54) := by
  subst hv; simp [World.setCell, Array.getElem?_modify, h]
theorem rd_open {w : World} {R : Nat} {s : ByteArray} {fl : Int} {i g d : Nat} (h : w.heap[R]? = some (.cells (rdC s fl i g d) 54)) (j : Nat) {v : Int} (hv : v = (j : Int)) : (w.setCell ⟨R, 4, none⟩ (.int .i64 v)).heap[R]? = some (.cells (rdC s fl i g j) 54) := by
  subst hv; simp [World.setCell, Array.getElem?_modify, h]
theorem Touch.setCell {F : List Nat} {a w : World} {b : Nat} (h : Touch F a w) (hb : b ∈ F) (o : Nat) (v : Value) : Touch F a (w.setCell ⟨b, o, none⟩ v) :=
  h.setCells hb o [v]
theorem Touch.refl (F : List Nat) (w : World) : Touch F w w := ⟨rfl, rfl, rfl, Nat.le_refl _, fun _ _ _ => rfl⟩
theorem Touch.later {F : List Nat} {a w w' : World} (h : Touch F a w) (hb : Below w.heap.size w w') : Touch F a w' := h.trans (Touch.of_below F hb)
theorem Touch.drewN {F : List Nat} {a w : World} (h : Touch F a w) (n : Nat) : Touch F a (w.drewN n) := h.trans ⟨rfl, rfl, rfl, Nat.le_refl _, fun _ _ _ => rfl⟩
/-- What a call that reads a part ends with. -/
def NdEnd (A : Nat → Addr) (R : Nat) (s : ByteArray) (fl : Int) (d : Nat) (O : Ep.Out) (w : World) (e : Ending) (w' : World) : Prop :=
  (match O with
  | .ok t j g => ∃ v F, e = .returned (.tuple #[.agg (t.cells v), .nilIface]) ∧ Owned w' v t.subs F ∧ (∀ b, b ∈ F → w.heap.size ≤ b) ∧ w'.heap[R]? = some (.cells (rdC s fl j g d) 54)
  | .err c p => ∃ v, e = .returned (.tuple #[.agg noNode, v]) ∧ ErrOne A w.heap.size w' v c p) ∧ Touch [R] w w'
theorem NdEnd.ok {A : Nat → Addr} {R : Nat} {s : ByteArray} {fl : Int} {d : Nat} {O : Ep.Out} {w : World} {e : Ending} {w' : World} (h : NdEnd A R s fl d O w e w') {t : Tr} {j g : Nat} (hO : O = .ok t j g) :
    ∃ v F, e = .returned (.tuple #[.agg (t.cells v), .nilIface]) ∧ Owned w' v t.subs F ∧ (∀ b, b ∈ F → w.heap.size ≤ b) ∧ w'.heap[R]? = some (.cells (rdC s fl j g d) 54) ∧ Touch [R] w w' := by
  subst hO; obtain ⟨⟨v, F, h1, h2, h3, h4⟩, h5⟩ := h; exact ⟨v, F, h1, h2, h3, h4, h5⟩
theorem NdEnd.err {A : Nat → Addr} {R : Nat} {s : ByteArray} {fl : Int} {d : Nat} {O : Ep.Out} {w : World} {e : Ending} {w' : World} (h : NdEnd A R s fl d O w e w') {c : Nat} {p : Int} (hO : O = .err c p) :
    ∃ v, e = .returned (.tuple #[.agg noNode, v]) ∧ ErrOne A w.heap.size w' v c p ∧ Touch [R] w w' := by
  subst hO; obtain ⟨⟨v, h1, h2⟩, h5⟩ := h; exact ⟨v, h1, h2, h5⟩
/-- Two results, of which the first is a struct's variable. -/
theorem results_row_1 {P : Program} {fn : Func} {p q : Tmp} {ty : TypeId} (h : fn.results = #[.cell p ty, .tmp q]) (tmps : Array Value) (w : World) (g : Nat) (t : TypeId) (cs : Array Value) (fr : Nat × Nat) (d : TypeDesc) (y : Value)
    (hp : tmps.getD p undef = .pointer (some ⟨g, 0, none⟩)) (hy : tmps.getD q undef = y) (hg : w.heap[g]? = some (.cells cs t fr))
    (hu : P.underlying ty = some d) (hd : (match d with | .struct _ | .array _ _ => true | _ => false) = true) (hi : (P.info? ty).map (·.size) = some cs.size) :
    (results fn tmps).run P w = .ok (.tuple #[.agg cs, y]) w := by
  have hp' : tmps[p]?.getD undef = .pointer (some ⟨g, 0, none⟩) := by simpa using hp
  have hy' : tmps[q]?.getD undef = y := by simpa using hy
  simp [results, h, hp', hy', asAddr, run_loadVar_row w g t ty cs fr d hg hu hd hi]
theorem idx_any (l : List UInt8) (c : UInt8) : decide (0 ≤ Lib.indexByte l c) = l.any (fun x => x == c) := by
  rw [Bool.eq_iff_iff, decide_eq_true_eq, List.any_eq_true]
  constructor
  · intro h
    obtain ⟨o, ho⟩ : ∃ o : Nat, Lib.indexByte l c = o := ⟨(Lib.indexByte l c).toNat, by omega⟩
    obtain ⟨h1, -⟩ := Lib.indexByte_some ho
    exact ⟨c, List.mem_of_getElem? h1, by simp⟩
  · rintro ⟨x, hx, hc⟩
    obtain rfl := beq_iff_eq.1 hc
    by_cases h : 0 ≤ Lib.indexByte l x
    · exact h
    · have h1 := Lib.indexByte_ge l x
      obtain ⟨k, hk⟩ := List.mem_iff_getElem?.1 hx
      exact absurd hk (Lib.indexByte_none (by omega) k)
/-- Does one of these bytes stand at the place? -/
theorem stands_any (cs : List UInt8) (b : Bool) (w0 : World) (A : Nat → Addr) (w : World) (R : Nat) (s : ByteArray) (fl : Int) (i g d : Nat) (hR : RdAt w0 A w R s fl i g d) (hb : cs.any (fun c => c.toNat == bt s i) = b) :
    Calls Tryz.prog 69 #[.pointer (some ⟨R, 0, none⟩), .string ⟨cs.toArray⟩] w fun e w' => e = .returned (.bool b) ∧ ∃ n, w' = w.drewN n := by
  obtain ⟨c0, c1, c2, -, -⟩ := rd5 hR.cell
  clear hR
  by_cases hi : i < s.size
  · have hd : decide ((i : Int) < s.size) = true := by simpa using hi
    have hd' : decide (i < s.size) = true := by simpa using hi
    have hx : decide (0 ≤ Lib.indexByte cs s[i]) = b := by
      rw [idx_any, ← hb]
      congr 1; funext c
      rw [u8_beq, bt_at hi]
    have hib := fun w => Tryz.strings_IndexByte ⟨cs.toArray⟩ (s[i].toNat : Int) w
    rw [show ((s[i].toNat : Int)).toNat.toUInt8 = s[i] by simp] at hib
    generalize hN : Lib.indexByte cs s[i] = N at *
    have HI := Lib.hid hib
    have hi0 : (0 : Int) ≤ i := by omega
    have hi1 : (i : Int) < s.size := by omega
    clear hb hN hib
    go_enter Tryz.func69, Tryz.ntmps69
    go_wp2
    go_quiet ((go_at_call 91; exact Calls.quiet_of_same (HI.out _)))
    go_wp2
    go_ret
    exact ⟨rfl, _, rfl⟩
  · have hd : decide ((i : Int) < s.size) = false := by simpa using hi
    have hd' : decide (i < s.size) = false := by simpa using hi
    have hbf : b = false := by
      rw [← hb, bt_out (by omega), List.any_eq_false]
      intro c _
      have := UInt8.toNat_lt c
      simp; omega
    subst hbf
    clear hb hi
    go_enter Tryz.func69, Tryz.ntmps69
    go_wp2
    go_quiet (fail)
    go_wp2
    go_ret
    exact ⟨rfl, _, rfl⟩
/-- A fault at the place. -/
theorem fails_any (w0 : World) (A : Nat → Addr) (k : Nat) (hk : k < 21) (w : World) (R : Nat) (s : ByteArray) (fl : Int) (i g d : Nat) (hR : RdAt w0 A w R s fl i g d) :
    Calls Tryz.prog 45 #[.pointer (some ⟨R, 0, none⟩), .iface 184 (.pointer (some (A k)))] w (NdEnd A R s fl d (.err (k + 1) i) w) := by
  have hlt := hR.lt
  obtain ⟨c0, c1, c2, -, -⟩ := rd5 (hR.later ((Below.refl w.heap.size w).alloc (Nat.le_refl _) (.cells noNode 28))).cell
  have z0 := heap_alloc_new w (.cells noNode 28)
  have Z0 := Lib.hid z0
  clear hR z0
  go_enter Tryz.func45, Tryz.ntmps45
  go_wp2_with fail
  refine (at_err A k hk i _).mono ?_
  rintro e w1 ⟨v, rfl, hv, hb⟩
  have Z1 := Lib.hid (keep_blk hb Z0.out)
  have HB := Lib.hid (((Below.refl w.heap.size w).alloc (Nat.le_refl _) (.cells noNode 28)).trans (hb.mono (by simp)))
  have HV := Lib.hid hv
  clear hb hv Z0 c0 c1 c2
  go_wp2_with (first
    | (refine wpList_store_row rfl 28 (.tmp 4) (.tmp 6) rfl w.heap.size noNode rfl rfl 28 _ Z1.out (by kernel_rfl) rfl (by simp [Value.oneCell']) ?_)
    | fail)
  exact bodyPost_ret (results_row_1 rfl _ _ w.heap.size 28 noNode (0, 0) _ _ rfl rfl (heap_setRow Z1.out) Tryz.underlying28 rfl (by kernel_rfl)) rfl ⟨⟨v, rfl, (HV.out.setRow (by simp) noNode).down (by simp)⟩, Touch.of_below _ (below_setRow HB.out (Nat.le_refl _) _)⟩
end Go.Proofs.YtlbhbjmobcikfaaGreatDoor
/- What the reader of extended patterns answers of counts and repeats. -/
namespace Go.Proofs.YtlbhbjmobcikfaaGreatDoor
open Go.RowKit
/-- A count, or none. -/
def cntV : Option Nat → Value
  | some m => .tuple #[.int .i64 m, .bool true]
  | none => .tuple #[.int .i64 0, .bool false]
theorem toList_len (s : ByteArray) : s.toList.length = s.size := by rw [toList_eq]; simp
theorem empty_yes {s : ByteArray} (h : s.size = 0) : s.toList = [] ∧ (!s.toList.isEmpty) = false := by
  have : s.toList = [] := List.eq_nil_of_length_eq_zero (by rw [toList_len]; exact h)
  rw [this]; exact ⟨rfl, rfl⟩
theorem empty_no {s : ByteArray} (h : 0 < s.size) : s.toList.isEmpty = false := by
  cases hl : s.toList with
  | nil => have := toList_len s; rw [hl] at this; simp at this; omega
  | cons a r => rfl
/-- The digits so far: few. -/
def few (k a : Nat) : Prop := (k = 0 ∧ a = 0) ∨ (k = 1 ∧ a ≤ 9) ∨ (k = 2 ∧ a ≤ 99) ∨ (k = 3 ∧ a ≤ 999)
set_option maxRecDepth 100000 in
set_option maxHeartbeats 4000000 in
theorem erecount_any (t : ByteArray) (O : Option Nat) (hO : Ep.num (bt t) 0 t.size = O) (w : World) :
    Calls Tryz.prog 140 #[.string t] w fun e w' => e = .returned (cntV O) ∧ w = w' := by
  unfold Ep.num at hO
  by_cases h0 : t.size = 0
  · rw [if_pos (by omega)] at hO
    subst hO
    obtain ⟨e1, e2⟩ := empty_yes h0
    clear h0
    go_enter Tryz.func140, Tryz.ntmps140
    go_wp2
    go_ret2
    exact ⟨rfl, rfl⟩
  · have e1 := empty_no (s := t) (by omega)
    by_cases h3 : 3 < t.size
    · rw [if_pos (by omega)] at hO
      subst hO
      have d3 : decide ((3 : Int) < t.size) = true := by simp; omega
      have d3' : decide (3 < t.size) = true := by simp; omega
      clear h0 h3
      go_enter Tryz.func140, Tryz.ntmps140
      go_wp2
      go_ret2
      exact ⟨rfl, rfl⟩
    · rw [if_neg (by omega)] at hO
      have hsz : t.size ≤ 3 := by omega
      have d3 : decide ((3 : Int) < t.size) = false := by simp; omega
      have d3' : decide (3 < t.size) = false := by simp; omega
      generalize hD : Ep.digs (bt t) (t.size - 0) 0 0 = D at *
      have HO := Lib.hid hO; have HD := Lib.hid hD
      clear hO hD h3 h0
      go_enter Tryz.func140, Tryz.ntmps140
      go_wp2
      clear e1 d3 d3'
      go_loop [4, 15] (fun nv iv => ∃ k a : Nat, iv = .int .i64 k ∧ nv = .int .i64 a ∧ k ≤ t.size ∧ Hid (few k a) ∧ Hid (Ep.digs (bt t) (t.size - k) k a = D)) (fun _ iv => t.size - (intOf iv).toNat)
      case atStart => exact ⟨0, 0, rfl, rfl, Nat.zero_le _, Lib.hid (.inl ⟨rfl, rfl⟩), HD⟩
      case round =>
        obtain ⟨k, a, rfl, rfl, hk, HF, HD2⟩ := hrel
        have hk3 : k ≤ 3 := by omega
        have hfew := HF.out
        unfold few at hfew
        have ha : a ≤ 999 := by omega
        by_cases hlt : k < t.size
        · have wm : IntKind.i64.wrap ((k : Int) + 1) = (k : Int) + 1 := IntWalk.i64_in _ (by omega)
          have w10 : IntKind.i64.wrap (10 * (a : Int)) = 10 * (a : Int) := IntWalk.i64_in _ (by omega)
          have hd2 := HD2.out
          rw [show t.size - k = t.size - (k + 1) + 1 by omega, Ep.digs] at hd2
          have hbt := bt_at hlt
          have hx := UInt8.toNat_lt t[k]
          by_cases hdig : 48 ≤ bt t k ∧ bt t k ≤ 57
          · rw [if_pos hdig, ← hbt] at hd2
            rw [← hbt] at hdig
            have g1 : decide ((t[k].toNat : Int) < 48) = false := by simp; omega
            have g2 : decide ((57 : Int) < t[k].toNat) = false := by simp; omega
            have g1' : decide (t[k].toNat < 48) = false := by simp; omega
            have g2' : decide (57 < t[k].toNat) = false := by simp; omega
            generalize hc : t[k].toNat = c at *
            have w48 : IntKind.u8.wrap ((c : Int) - 48) = (c : Int) - 48 := by rw [IntKind.wrap_u8]; omega
            have w49 : IntKind.i64.wrap ((c : Int) - 48) = (c : Int) - 48 := IntWalk.i64_in _ (by omega)
            have wsum : IntKind.i64.wrap (10 * (a : Int) + ((c : Int) - 48)) = 10 * (a : Int) + ((c : Int) - 48) := IntWalk.i64_in _ (by omega)
            have HD3 := Lib.hid hd2
            have HC := Lib.hid hdig; have HCC := Lib.hid hc; have HBT := Lib.hid hbt
            have HF2 := Lib.hid hfew
            clear hd2 hdig hbt hfew
            go_wp2
            have hdg := HC.out
            have hfw := HF2.out
            refine ⟨⟨k + 1, 10 * a + (c - 48), by go_num, by congr 1; omega, by omega, Lib.hid (by unfold few; omega), HD3⟩, by simp [intOf]; omega⟩
          · rw [if_neg hdig] at hd2
            subst hd2
            rw [← hbt] at hdig
            have HO2 : Hid (O = none) := Lib.hid HO.out.symm
            by_cases hlow : t[k].toNat < 48
            · have g1 : decide ((t[k].toNat : Int) < 48) = true := by simp; omega
              have g1' : decide (t[k].toNat < 48) = true := by simp; omega
              clear hdig hlow hbt hfew HD HD2
              go_wp2
              go_ret2
              exact ⟨by rw [HO2.out]; rfl, rfl⟩
            · have g1 : decide ((t[k].toNat : Int) < 48) = false := by simp; omega
              have g1' : decide (t[k].toNat < 48) = false := by simp; omega
              have g2 : decide ((57 : Int) < t[k].toNat) = true := by simp; omega
              have g2' : decide (57 < t[k].toNat) = true := by simp; omega
              clear hdig hlow hbt hfew HD HD2
              go_wp2
              go_ret2
              exact ⟨by rw [HO2.out]; rfl, rfl⟩
        · obtain rfl : k = t.size := by omega
          have hd2 := HD2.out
          rw [Nat.sub_self, Ep.digs] at hd2
          subst hd2
          have hO := HO.out
          simp only at hO
          by_cases h255 : a ≤ 255
          · rw [if_pos h255] at hO
            have HO2 := Lib.hid hO
            have g1 : decide ((255 : Int) < a) = false := by simp; omega
            have g1' : decide (255 < a) = false := by simp; omega
            clear hO HO h255 HD HD2 hfew
            go_wp2
            go_ret2
            exact ⟨by rw [← HO2.out]; rfl, rfl⟩
          · rw [if_neg h255] at hO
            have HO2 := Lib.hid hO
            have g1 : decide ((255 : Int) < a) = true := by simp; omega
            have g1' : decide (255 < a) = true := by simp; omega
            clear hO HO h255 HD HD2 hfew
            go_wp2
            go_ret2
            exact ⟨by rw [← HO2.out]; rfl, rfl⟩
end Go.Proofs.YtlbhbjmobcikfaaGreatDoor
/- What the reader of extended patterns answers of a repeat. -/
namespace Go.Proofs.YtlbhbjmobcikfaaGreatDoor
open Go.RowKit
theorem bt_mid (s : ByteArray) (a b i : Nat) (hb : b ≤ s.size) (hi : i < b - a) : bt (s.extract a b) i = bt s (a + i) := by
  have hz : (s.extract a b).size = b - a := by simp; omega
  have h1 : i < (s.extract a b).size := by omega
  have h2 : a + i < s.size := by omega
  rw [← bt_at h1, ← bt_at h2, ByteArray.getElem_extract]
theorem digs_mid (s : ByteArray) (a b : Nat) (hb : b ≤ s.size) : ∀ k i x, i + k ≤ b - a → Ep.digs (bt (s.extract a b)) k i x = Ep.digs (bt s) k (a + i) x
  | 0, _, _, _ => rfl
  | k + 1, i, x, h => by
    rw [Ep.digs, Ep.digs, bt_mid s a b i hb (by omega), digs_mid s a b hb k (i + 1) _ (by omega), show a + i + 1 = a + (i + 1) by omega]
theorem num_mid (s : ByteArray) (a b : Nat) (hab : a ≤ b) (hb : b ≤ s.size) : Ep.num (bt (s.extract a b)) 0 (s.extract a b).size = Ep.num (bt s) a b := by
  have hz : (s.extract a b).size = b - a := by simp; omega
  unfold Ep.num
  rw [hz, Nat.sub_zero, digs_mid s a b hb (b - a) 0 0 (by omega), Nat.add_zero]
  by_cases h : b ≤ a ∨ a + 3 < b
  · rw [if_pos h, if_pos (by omega)]
  · rw [if_neg h, if_neg (by omega)]; rfl
theorem find_mid (s : ByteArray) (a b c : Nat) (hb : b ≤ s.size) : ∀ k i, i + k ≤ b - a → Ep.find (bt (s.extract a b)) c k i = (Ep.find (bt s) c k (a + i)).map (· - a)
  | 0, _, _ => rfl
  | k + 1, i, h => by
    rw [Ep.find, Ep.find, bt_mid s a b i hb (by omega), find_mid s a b c hb k (i + 1) (by omega), show a + i + 1 = a + (i + 1) by omega]
    split
    · simp
    · rfl
theorem occ_one (t : ByteArray) (c : UInt8) (j : Nat) : Lib.occAt t.data.toList [c] j = (bt t j == c.toNat) := by
  unfold Lib.occAt
  rw [one_prefix, bt_list, List.getElem?_drop]; rfl
theorem cut1_none {A : Nat → Addr} (t : ByteArray) (ht : t.size ≤ 4294967280) (c : UInt8) (hc : Ep.find (bt t) c.toNat t.size 0 = none) (w : World) (hE : BrEnv w A) :
    Calls Tryz.prog 116 #[.string t, .string ⟨#[c]⟩] w fun e w' => e = .returned (.tuple #[.string t, .string ByteArray.empty, .bool false]) ∧ ∃ n, w' = w.drewN n := by
  obtain ⟨m, hm⟩ := hE.idx
  have h := Tryz.strings_Cut t ⟨#[c]⟩ m w (by omega) hm
  have hi : Lib.indexB t ⟨#[c]⟩ = -1 := Lib.index_none fun j hj => by
    show Lib.occAt t.data.toList [c] j = false
    rw [occ_one]
    by_cases hl : j < t.size
    · have := Ep.find_none hc j (by omega) (by omega)
      simpa using this
    · rw [bt_out (by omega)]; have := UInt8.toNat_lt c; simp; omega
  obtain ⟨e1, e2, e3⟩ := Lib.cutB_miss _ _ hi
  rw [e1, e2, e3] at h; exact h
theorem cut1_some {A : Nat → Addr} (t : ByteArray) (ht : t.size ≤ 4294967280) (c : UInt8) (k : Nat) (hc : Ep.find (bt t) c.toNat t.size 0 = some k) (w : World) (hE : BrEnv w A) :
    Calls Tryz.prog 116 #[.string t, .string ⟨#[c]⟩] w fun e w' => e = .returned (.tuple #[.string (t.extract 0 k), .string (t.extract (k + 1) t.size), .bool true]) ∧ ∃ n, w' = w.drewN n := by
  obtain ⟨m, hm⟩ := hE.idx
  have h := Tryz.strings_Cut t ⟨#[c]⟩ m w (by omega) hm
  obtain ⟨h1, h2, h3, h4⟩ := Ep.find_some hc
  have hi : Lib.indexB t ⟨#[c]⟩ = (k : Int) := Lib.index_first (by simp; show k ≤ t.size; omega) (by show Lib.occAt t.data.toList [c] k = true; rw [occ_one, h3]; simp) (fun j hj => by
    show Lib.occAt t.data.toList [c] j = false
    rw [occ_one]
    have := h4 j (by omega) hj
    simpa using this)
  obtain ⟨e1, e2, e3⟩ := Lib.cutB_hit _ _ k hi
  rw [e1, e2, e3] at h; exact h
/-- The counts, or none. -/
def cntsV : Option (Int × Int) → Value
  | some (a, b) => .tuple #[.agg #[.int .i64 a, .int .i64 b], .bool true]
  | none => .tuple #[.agg #[.int .i64 0, .int .i64 0], .bool false]
theorem two_one {a b : Int} : (#[.int .i64 a, .int .i64 b] : Array Value).all (·.oneCell') = true := by simp [Value.oneCell']
set_option maxRecDepth 100000 in
set_option maxHeartbeats 4000000 in
theorem counts_one_no (A : Nat → Addr) (t : ByteArray) (ht : t.size ≤ 4294967280) (hf : Ep.find (bt t) 44 t.size 0 = none) (hn : Ep.num (bt t) 0 t.size = none) (w : World) (hE : BrEnv w A) :
    Calls Tryz.prog 117 #[.string t] w fun e w' => e = .returned (cntsV none) ∧ Below w.heap.size w w' := by
  have HCUT := Lib.hid (fun w hE => cut1_none (A := A) t ht 44 hf w hE)
  have HNA := Lib.hid (fun w => erecount_any t _ hn w)
  clear hf hn
  have z0 := heap_alloc_new w (.cells #[.int .i64 0, .int .i64 0] 134)
  have hb0 : Below w.heap.size w (w.alloc (.cells #[.int .i64 0, .int .i64 0] 134)) := (Below.refl _ _).alloc (Nat.le_refl _) _
  have Z0 := Lib.hid z0; have HB0 := Lib.hid hb0; have HE := Lib.hid hE
  clear z0 hb0 hE
  go_enter Tryz.func117, Tryz.ntmps117
  go_wp2_with fail
  refine (HCUT.out _ (HE.out.below HB0.out)).mono ?_
  rintro e w1 ⟨rfl, n, rfl⟩
  have Z : Hid (((w.alloc (.cells #[.int .i64 0, .int .i64 0] 134)).drewN n).heap[w.heap.size]? = some (.cells #[.int .i64 0, .int .i64 0] 134)) := Lib.hid Z0.out
  have HB := Lib.hid (drewN_below HB0.out n)
  clear Z0 HB0
  generalize World.drewN _ _ = W at *
  go_wp2_with fail
  refine (HNA.out _).mono ?_
  rintro e w2 ⟨rfl, rfl⟩
  unfold cntV
  go_wp2_with (first
    | (refine wpList_store_row rfl 134 (.tmp 2) (.tmp 23) rfl w.heap.size #[.int .i64 0, .int .i64 0] rfl rfl 134 _ Z.out (by kernel_rfl) rfl two_one ?_)
    | fail)
  exact bodyPost_ret (results_row_1 rfl _ _ w.heap.size 134 #[.int .i64 0, .int .i64 0] (0, 0) _ _ rfl rfl (heap_setRow Z.out) Tryz.underlying134 rfl (by kernel_rfl)) rfl ⟨by first | rfl | (rw [← HC.out]; rfl), below_setRow HB.out (Nat.le_refl _) _⟩
set_option maxRecDepth 100000 in
set_option maxHeartbeats 4000000 in
theorem counts_one (A : Nat → Addr) (t : ByteArray) (ht : t.size ≤ 4294967280) (hf : Ep.find (bt t) 44 t.size 0 = none) (m : Nat) (hn : Ep.num (bt t) 0 t.size = some m) (w : World) (hE : BrEnv w A) :
    Calls Tryz.prog 117 #[.string t] w fun e w' => e = .returned (cntsV (some (m, m))) ∧ Below w.heap.size w w' := by
  have HCUT := Lib.hid (fun w hE => cut1_none (A := A) t ht 44 hf w hE)
  have HNA := Lib.hid (fun w => erecount_any t _ hn w)
  clear hf hn
  have z0 := heap_alloc_new w (.cells #[.int .i64 0, .int .i64 0] 134)
  have hb0 : Below w.heap.size w (w.alloc (.cells #[.int .i64 0, .int .i64 0] 134)) := (Below.refl _ _).alloc (Nat.le_refl _) _
  have Z0 := Lib.hid z0; have HB0 := Lib.hid hb0; have HE := Lib.hid hE
  clear z0 hb0 hE
  go_enter Tryz.func117, Tryz.ntmps117
  go_wp2_with fail
  refine (HCUT.out _ (HE.out.below HB0.out)).mono ?_
  rintro e w1 ⟨rfl, n, rfl⟩
  have Z : Hid (((w.alloc (.cells #[.int .i64 0, .int .i64 0] 134)).drewN n).heap[w.heap.size]? = some (.cells #[.int .i64 0, .int .i64 0] 134)) := Lib.hid Z0.out
  have HB := Lib.hid (drewN_below HB0.out n)
  clear Z0 HB0
  generalize World.drewN _ _ = W at *
  go_wp2_with fail
  refine (HNA.out _).mono ?_
  rintro e w2 ⟨rfl, rfl⟩
  unfold cntV
  go_wp2_with (first
    | (refine wpList_store_row rfl 134 (.tmp 2) (.tmp 28) rfl w.heap.size #[.int .i64 m, .int .i64 m] rfl rfl 134 _ Z.out (by kernel_rfl) rfl two_one ?_)
    | fail)
  exact bodyPost_ret (results_row_1 rfl _ _ w.heap.size 134 #[.int .i64 m, .int .i64 m] (0, 0) _ _ rfl rfl (heap_setRow Z.out) Tryz.underlying134 rfl (by kernel_rfl)) rfl ⟨by first | rfl | (rw [← HC.out]; rfl), below_setRow HB.out (Nat.le_refl _) _⟩
set_option maxRecDepth 100000 in
set_option maxHeartbeats 4000000 in
theorem counts_two_no (A : Nat → Addr) (t : ByteArray) (ht : t.size ≤ 4294967280) (k : Nat) (hf : Ep.find (bt t) 44 t.size 0 = some k) (hn : Ep.num (bt t) 0 k = none) (w : World) (hE : BrEnv w A) :
    Calls Tryz.prog 117 #[.string t] w fun e w' => e = .returned (cntsV none) ∧ Below w.heap.size w w' := by
  have hk := (Ep.find_some hf).2.1
  have HCUT := Lib.hid (fun w hE => cut1_some (A := A) t ht 44 k hf w hE)
  have HNA := Lib.hid (fun w => erecount_any (t.extract 0 k) _ ((num_mid t 0 k (by omega) (by omega)).trans hn) w)
  clear hf hn
  generalize t.extract 0 k = ta at *
  generalize t.extract (k + 1) t.size = tb at *
  have z0 := heap_alloc_new w (.cells #[.int .i64 0, .int .i64 0] 134)
  have hb0 : Below w.heap.size w (w.alloc (.cells #[.int .i64 0, .int .i64 0] 134)) := (Below.refl _ _).alloc (Nat.le_refl _) _
  have Z0 := Lib.hid z0; have HB0 := Lib.hid hb0; have HE := Lib.hid hE
  clear z0 hb0 hE
  go_enter Tryz.func117, Tryz.ntmps117
  go_wp2_with fail
  refine (HCUT.out _ (HE.out.below HB0.out)).mono ?_
  rintro e w1 ⟨rfl, n, rfl⟩
  have Z : Hid (((w.alloc (.cells #[.int .i64 0, .int .i64 0] 134)).drewN n).heap[w.heap.size]? = some (.cells #[.int .i64 0, .int .i64 0] 134)) := Lib.hid Z0.out
  have HB := Lib.hid (drewN_below HB0.out n)
  clear Z0 HB0
  generalize World.drewN _ _ = W at *
  go_wp2_with fail
  refine (HNA.out _).mono ?_
  rintro e w2 ⟨rfl, rfl⟩
  unfold cntV
  go_wp2_with (first
    | (refine wpList_store_row rfl 134 (.tmp 2) (.tmp 23) rfl w.heap.size #[.int .i64 0, .int .i64 0] rfl rfl 134 _ Z.out (by kernel_rfl) rfl two_one ?_)
    | fail)
  exact bodyPost_ret (results_row_1 rfl _ _ w.heap.size 134 #[.int .i64 0, .int .i64 0] (0, 0) _ _ rfl rfl (heap_setRow Z.out) Tryz.underlying134 rfl (by kernel_rfl)) rfl ⟨by first | rfl | (rw [← HC.out]; rfl), below_setRow HB.out (Nat.le_refl _) _⟩
set_option maxRecDepth 100000 in
set_option maxHeartbeats 4000000 in
theorem counts_two_end (A : Nat → Addr) (t : ByteArray) (ht : t.size ≤ 4294967280) (k : Nat) (hf : Ep.find (bt t) 44 t.size 0 = some k) (m : Nat) (hn : Ep.num (bt t) 0 k = some m) (he : k + 1 = t.size) (w : World) (hE : BrEnv w A) :
    Calls Tryz.prog 117 #[.string t] w fun e w' => e = .returned (cntsV (some (m, -1))) ∧ Below w.heap.size w w' := by
  have hk := (Ep.find_some hf).2.1
  have HCUT := Lib.hid (fun w hE => cut1_some (A := A) t ht 44 k hf w hE)
  have HNA := Lib.hid (fun w => erecount_any (t.extract 0 k) _ ((num_mid t 0 k (by omega) (by omega)).trans hn) w)
  obtain ⟨e1, e2⟩ := empty_yes (s := t.extract (k + 1) t.size) (by simp; omega)
  clear hf hn
  clear he
  generalize t.extract 0 k = ta at *
  generalize t.extract (k + 1) t.size = tb at *
  have z0 := heap_alloc_new w (.cells #[.int .i64 0, .int .i64 0] 134)
  have hb0 : Below w.heap.size w (w.alloc (.cells #[.int .i64 0, .int .i64 0] 134)) := (Below.refl _ _).alloc (Nat.le_refl _) _
  have Z0 := Lib.hid z0; have HB0 := Lib.hid hb0; have HE := Lib.hid hE
  clear z0 hb0 hE
  go_enter Tryz.func117, Tryz.ntmps117
  go_wp2_with fail
  refine (HCUT.out _ (HE.out.below HB0.out)).mono ?_
  rintro e w1 ⟨rfl, n, rfl⟩
  have Z : Hid (((w.alloc (.cells #[.int .i64 0, .int .i64 0] 134)).drewN n).heap[w.heap.size]? = some (.cells #[.int .i64 0, .int .i64 0] 134)) := Lib.hid Z0.out
  have HB := Lib.hid (drewN_below HB0.out n)
  clear Z0 HB0
  generalize World.drewN _ _ = W at *
  go_wp2_with fail
  refine (HNA.out _).mono ?_
  rintro e w2 ⟨rfl, rfl⟩
  unfold cntV
  go_wp2_with (first
    | (refine wpList_store_row rfl 134 (.tmp 2) (.tmp 32) rfl w.heap.size #[.int .i64 m, .int .i64 (-1)] rfl rfl 134 _ Z.out (by kernel_rfl) rfl two_one ?_)
    | fail)
  exact bodyPost_ret (results_row_1 rfl _ _ w.heap.size 134 #[.int .i64 m, .int .i64 (-1)] (0, 0) _ _ rfl rfl (heap_setRow Z.out) Tryz.underlying134 rfl (by kernel_rfl)) rfl ⟨by first | rfl | (rw [← HC.out]; rfl), below_setRow HB.out (Nat.le_refl _) _⟩
set_option maxRecDepth 100000 in
set_option maxHeartbeats 4000000 in
theorem counts_two_bad (A : Nat → Addr) (t : ByteArray) (ht : t.size ≤ 4294967280) (k : Nat) (hf : Ep.find (bt t) 44 t.size 0 = some k) (m : Nat) (hn : Ep.num (bt t) 0 k = some m) (he : k + 1 < t.size) (hn2 : Ep.num (bt t) (k + 1) t.size = none) (w : World) (hE : BrEnv w A) :
    Calls Tryz.prog 117 #[.string t] w fun e w' => e = .returned (cntsV none) ∧ Below w.heap.size w w' := by
  have hk := (Ep.find_some hf).2.1
  have HCUT := Lib.hid (fun w hE => cut1_some (A := A) t ht 44 k hf w hE)
  have HNA := Lib.hid (fun w => erecount_any (t.extract 0 k) _ ((num_mid t 0 k (by omega) (by omega)).trans hn) w)
  have HNB := Lib.hid (fun w => erecount_any (t.extract (k + 1) t.size) _ ((num_mid t (k + 1) t.size (by omega) (Nat.le_refl _)).trans hn2) w)
  have e1 := empty_no (s := t.extract (k + 1) t.size) (by simp; omega)
  clear hn2
  clear hf hn
  clear he
  generalize t.extract 0 k = ta at *
  generalize t.extract (k + 1) t.size = tb at *
  have z0 := heap_alloc_new w (.cells #[.int .i64 0, .int .i64 0] 134)
  have hb0 : Below w.heap.size w (w.alloc (.cells #[.int .i64 0, .int .i64 0] 134)) := (Below.refl _ _).alloc (Nat.le_refl _) _
  have Z0 := Lib.hid z0; have HB0 := Lib.hid hb0; have HE := Lib.hid hE
  clear z0 hb0 hE
  go_enter Tryz.func117, Tryz.ntmps117
  go_wp2_with fail
  refine (HCUT.out _ (HE.out.below HB0.out)).mono ?_
  rintro e w1 ⟨rfl, n, rfl⟩
  have Z : Hid (((w.alloc (.cells #[.int .i64 0, .int .i64 0] 134)).drewN n).heap[w.heap.size]? = some (.cells #[.int .i64 0, .int .i64 0] 134)) := Lib.hid Z0.out
  have HB := Lib.hid (drewN_below HB0.out n)
  clear Z0 HB0
  generalize World.drewN _ _ = W at *
  go_wp2_with fail
  refine (HNA.out _).mono ?_
  rintro e w2 ⟨rfl, rfl⟩
  unfold cntV
  go_wp2_with fail
  refine (HNB.out _).mono ?_
  rintro e w2 ⟨rfl, rfl⟩
  unfold cntV
  go_wp2_with (first
    | (refine wpList_store_row rfl 134 (.tmp 2) (.tmp 45) rfl w.heap.size #[.int .i64 0, .int .i64 0] rfl rfl 134 _ Z.out (by kernel_rfl) rfl two_one ?_)
    | fail)
  exact bodyPost_ret (results_row_1 rfl _ _ w.heap.size 134 #[.int .i64 0, .int .i64 0] (0, 0) _ _ rfl rfl (heap_setRow Z.out) Tryz.underlying134 rfl (by kernel_rfl)) rfl ⟨by first | rfl | (rw [← HC.out]; rfl), below_setRow HB.out (Nat.le_refl _) _⟩
set_option maxRecDepth 100000 in
set_option maxHeartbeats 4000000 in
theorem counts_two_less (A : Nat → Addr) (t : ByteArray) (ht : t.size ≤ 4294967280) (k : Nat) (hf : Ep.find (bt t) 44 t.size 0 = some k) (m : Nat) (hn : Ep.num (bt t) 0 k = some m) (he : k + 1 < t.size) (x : Nat) (hn2 : Ep.num (bt t) (k + 1) t.size = some x) (hl : x < m) (w : World) (hE : BrEnv w A) :
    Calls Tryz.prog 117 #[.string t] w fun e w' => e = .returned (cntsV none) ∧ Below w.heap.size w w' := by
  have hk := (Ep.find_some hf).2.1
  have HCUT := Lib.hid (fun w hE => cut1_some (A := A) t ht 44 k hf w hE)
  have HNA := Lib.hid (fun w => erecount_any (t.extract 0 k) _ ((num_mid t 0 k (by omega) (by omega)).trans hn) w)
  have HNB := Lib.hid (fun w => erecount_any (t.extract (k + 1) t.size) _ ((num_mid t (k + 1) t.size (by omega) (Nat.le_refl _)).trans hn2) w)
  have e1 := empty_no (s := t.extract (k + 1) t.size) (by simp; omega)
  clear hn2
  have g1 : decide ((x : Int) < m) = true := by simp; omega
  have g1' : decide (x < m) = true := by simp; omega
  clear hf hn
  clear he
  clear hl
  generalize t.extract 0 k = ta at *
  generalize t.extract (k + 1) t.size = tb at *
  have z0 := heap_alloc_new w (.cells #[.int .i64 0, .int .i64 0] 134)
  have hb0 : Below w.heap.size w (w.alloc (.cells #[.int .i64 0, .int .i64 0] 134)) := (Below.refl _ _).alloc (Nat.le_refl _) _
  have Z0 := Lib.hid z0; have HB0 := Lib.hid hb0; have HE := Lib.hid hE
  clear z0 hb0 hE
  go_enter Tryz.func117, Tryz.ntmps117
  go_wp2_with fail
  refine (HCUT.out _ (HE.out.below HB0.out)).mono ?_
  rintro e w1 ⟨rfl, n, rfl⟩
  have Z : Hid (((w.alloc (.cells #[.int .i64 0, .int .i64 0] 134)).drewN n).heap[w.heap.size]? = some (.cells #[.int .i64 0, .int .i64 0] 134)) := Lib.hid Z0.out
  have HB := Lib.hid (drewN_below HB0.out n)
  clear Z0 HB0
  generalize World.drewN _ _ = W at *
  go_wp2_with fail
  refine (HNA.out _).mono ?_
  rintro e w2 ⟨rfl, rfl⟩
  unfold cntV
  go_wp2_with fail
  refine (HNB.out _).mono ?_
  rintro e w2 ⟨rfl, rfl⟩
  unfold cntV
  go_wp2_with (first
    | (refine wpList_store_row rfl 134 (.tmp 2) (.tmp 45) rfl w.heap.size #[.int .i64 0, .int .i64 0] rfl rfl 134 _ Z.out (by kernel_rfl) rfl two_one ?_)
    | fail)
  exact bodyPost_ret (results_row_1 rfl _ _ w.heap.size 134 #[.int .i64 0, .int .i64 0] (0, 0) _ _ rfl rfl (heap_setRow Z.out) Tryz.underlying134 rfl (by kernel_rfl)) rfl ⟨by first | rfl | (rw [← HC.out]; rfl), below_setRow HB.out (Nat.le_refl _) _⟩
set_option maxRecDepth 100000 in
set_option maxHeartbeats 4000000 in
theorem counts_two (A : Nat → Addr) (t : ByteArray) (ht : t.size ≤ 4294967280) (k : Nat) (hf : Ep.find (bt t) 44 t.size 0 = some k) (m : Nat) (hn : Ep.num (bt t) 0 k = some m) (he : k + 1 < t.size) (x : Nat) (hn2 : Ep.num (bt t) (k + 1) t.size = some x) (hl : m ≤ x) (w : World) (hE : BrEnv w A) :
    Calls Tryz.prog 117 #[.string t] w fun e w' => e = .returned (cntsV (some (m, x))) ∧ Below w.heap.size w w' := by
  have hk := (Ep.find_some hf).2.1
  have HCUT := Lib.hid (fun w hE => cut1_some (A := A) t ht 44 k hf w hE)
  have HNA := Lib.hid (fun w => erecount_any (t.extract 0 k) _ ((num_mid t 0 k (by omega) (by omega)).trans hn) w)
  have HNB := Lib.hid (fun w => erecount_any (t.extract (k + 1) t.size) _ ((num_mid t (k + 1) t.size (by omega) (Nat.le_refl _)).trans hn2) w)
  have e1 := empty_no (s := t.extract (k + 1) t.size) (by simp; omega)
  clear hn2
  have g1 : decide ((x : Int) < m) = false := by simp; omega
  have g1' : decide (x < m) = false := by simp; omega
  clear hf hn
  clear he
  clear hl
  generalize t.extract 0 k = ta at *
  generalize t.extract (k + 1) t.size = tb at *
  have z0 := heap_alloc_new w (.cells #[.int .i64 0, .int .i64 0] 134)
  have hb0 : Below w.heap.size w (w.alloc (.cells #[.int .i64 0, .int .i64 0] 134)) := (Below.refl _ _).alloc (Nat.le_refl _) _
  have Z0 := Lib.hid z0; have HB0 := Lib.hid hb0; have HE := Lib.hid hE
  clear z0 hb0 hE
  go_enter Tryz.func117, Tryz.ntmps117
  go_wp2_with fail
  refine (HCUT.out _ (HE.out.below HB0.out)).mono ?_
  rintro e w1 ⟨rfl, n, rfl⟩
  have Z : Hid (((w.alloc (.cells #[.int .i64 0, .int .i64 0] 134)).drewN n).heap[w.heap.size]? = some (.cells #[.int .i64 0, .int .i64 0] 134)) := Lib.hid Z0.out
  have HB := Lib.hid (drewN_below HB0.out n)
  clear Z0 HB0
  generalize World.drewN _ _ = W at *
  go_wp2_with fail
  refine (HNA.out _).mono ?_
  rintro e w2 ⟨rfl, rfl⟩
  unfold cntV
  go_wp2_with fail
  refine (HNB.out _).mono ?_
  rintro e w2 ⟨rfl, rfl⟩
  unfold cntV
  go_wp2_with (first
    | (refine wpList_store_row rfl 134 (.tmp 2) (.tmp 48) rfl w.heap.size #[.int .i64 m, .int .i64 x] rfl rfl 134 _ Z.out (by kernel_rfl) rfl two_one ?_)
    | fail)
  exact bodyPost_ret (results_row_1 rfl _ _ w.heap.size 134 #[.int .i64 m, .int .i64 x] (0, 0) _ _ rfl rfl (heap_setRow Z.out) Tryz.underlying134 rfl (by kernel_rfl)) rfl ⟨by first | rfl | (rw [← HC.out]; rfl), below_setRow HB.out (Nat.le_refl _) _⟩
/-- The counts of a repeat. -/
theorem erecounts_any (A : Nat → Addr) (t : ByteArray) (ht : t.size ≤ 4294967280) (O : Option (Int × Int)) (hO : Ep.counts (bt t) 0 t.size = O) (w : World) (hE : BrEnv w A) :
    Calls Tryz.prog 117 #[.string t] w fun e w' => e = .returned (cntsV O) ∧ Below w.heap.size w w' := by
  unfold Ep.counts at hO
  rw [Nat.sub_zero] at hO
  cases hf : Ep.find (bt t) 44 t.size 0 with
  | none =>
    rw [hf] at hO
    cases hn : Ep.num (bt t) 0 t.size with
    | none => rw [hn] at hO; subst hO; exact counts_one_no A t ht hf hn w hE
    | some m => rw [hn] at hO; subst hO; exact counts_one A t ht hf m hn w hE
  | some k =>
    have hk := (Ep.find_some hf).2.1
    rw [hf] at hO
    cases hn : Ep.num (bt t) 0 k with
    | none => simp only [hn] at hO; subst hO; exact counts_two_no A t ht k hf hn w hE
    | some m =>
      simp only [hn] at hO
      by_cases he : k + 1 = t.size
      · rw [if_pos he] at hO; subst hO; exact counts_two_end A t ht k hf m hn he w hE
      · rw [if_neg he] at hO
        cases hn2 : Ep.num (bt t) (k + 1) t.size with
        | none => simp only [hn2] at hO; subst hO; exact counts_two_bad A t ht k hf m hn (by omega) hn2 w hE
        | some x =>
          simp only [hn2] at hO
          by_cases hl : m ≤ x
          · rw [if_pos hl] at hO; subst hO; exact counts_two A t ht k hf m hn (by omega) x hn2 hl w hE
          · rw [if_neg hl] at hO; subst hO; exact counts_two_less A t ht k hf m hn (by omega) x hn2 (by omega) w hE
end Go.Proofs.YtlbhbjmobcikfaaGreatDoor
/- What the reader of extended patterns answers of a repeat's counts. -/
namespace Go.Proofs.YtlbhbjmobcikfaaGreatDoor
open Go.RowKit
/-- What a call that reads a repeat's counts ends with. -/
def TmEnd (A : Nat → Addr) (R : Nat) (s : ByteArray) (fl : Int) (i g d : Nat) (O : Option (Int × Int × Nat)) (c : Nat) (w : World) (e : Ending) (w' : World) : Prop :=
  (match O with
  | some (a, b, j) => e = .returned (.tuple #[.agg #[.int .i64 a, .int .i64 b], .nilIface]) ∧ w'.heap[R]? = some (.cells (rdC s fl j g d) 54)
  | none => ∃ v, e = .returned (.tuple #[.agg #[.int .i64 0, .int .i64 0], v]) ∧ ErrOne A w.heap.size w' v c i) ∧ Touch [R] w w'
theorem TmEnd.ok {A : Nat → Addr} {R : Nat} {s : ByteArray} {fl : Int} {i g d c : Nat} {O : Option (Int × Int × Nat)} {w : World} {e : Ending} {w' : World} (h : TmEnd A R s fl i g d O c w e w') {a b : Int} {j : Nat} (hO : O = some (a, b, j)) :
    e = .returned (.tuple #[.agg #[.int .i64 a, .int .i64 b], .nilIface]) ∧ w'.heap[R]? = some (.cells (rdC s fl j g d) 54) ∧ Touch [R] w w' := by subst hO; exact ⟨h.1.1, h.1.2, h.2⟩
theorem TmEnd.err {A : Nat → Addr} {R : Nat} {s : ByteArray} {fl : Int} {i g d c : Nat} {O : Option (Int × Int × Nat)} {w : World} {e : Ending} {w' : World} (h : TmEnd A R s fl i g d O c w e w') (hO : O = none) :
    ∃ v, e = .returned (.tuple #[.agg #[.int .i64 0, .int .i64 0], v]) ∧ ErrOne A w.heap.size w' v c i ∧ Touch [R] w w' := by
  subst hO; obtain ⟨⟨v, h1, h2⟩, h3⟩ := h; exact ⟨v, h1, h2, h3⟩
theorem cell_keep {w w' : World} {b o : Nat} {v : Value} (hb : Below w.heap.size w w') (h : w.cell? ⟨b, o, none⟩ = some v) : w'.cell? ⟨b, o, none⟩ = some v := (hb.cell (p := ⟨b, o, none⟩) (block_lt_of_cell h)).trans h
theorem Touch.setRow_new {F : List Nat} {a w : World} {g : Nat} (h : Touch F a w) (hg : a.heap.size ≤ g) (cs : Array Value) : Touch F a (w.setRow g cs) :=
  ⟨h.os, h.tape, h.output, by simpa using h.size, fun k hk hn => (heap_setRow_other _ _ _ (by omega)).trans (h.block k hk hn)⟩
theorem num_in (s : ByteArray) (a b x y : Nat) (hb : b ≤ s.size) (hy : y ≤ b - a) : Ep.num (bt (s.extract a b)) x y = Ep.num (bt s) (a + x) (a + y) := by
  unfold Ep.num
  by_cases h : y ≤ x ∨ x + 3 < y
  · rw [if_pos h, if_pos (by omega)]
  · rw [if_neg h, if_neg (by omega), digs_mid s a b hb (y - x) x 0 (by omega), show a + y - (a + x) = y - x by omega]
theorem counts_mid (s : ByteArray) (a b : Nat) (hab : a ≤ b) (hb : b ≤ s.size) : Ep.counts (bt (s.extract a b)) 0 (s.extract a b).size = Ep.counts (bt s) a b := by
  have hz : (s.extract a b).size = b - a := by simp; omega
  unfold Ep.counts
  rw [hz, Nat.sub_zero, find_mid s a b 44 hb _ _ (by omega), Nat.add_zero]
  cases hf : Ep.find (bt s) 44 (b - a) a with
  | none =>
    simp only [Option.map_none]
    rw [num_in s a b 0 (b - a) hb (by omega), Nat.add_zero, show a + (b - a) = b by omega]
  | some m =>
    obtain ⟨h1, h2, -, -⟩ := Ep.find_some hf
    simp only [Option.map_some]
    rw [num_in s a b 0 (m - a) hb (by omega), Nat.add_zero, show a + (m - a) = m by omega, num_in s a b (m - a + 1) (b - a) hb (by omega), show a + (m - a + 1) = m + 1 by omega, show a + (b - a) = b by omega]
    by_cases he : m + 1 = b
    · simp only [he, if_true, show m - a + 1 = b - a by omega]
    · simp only [he, if_false, show ¬ m - a + 1 = b - a by omega]
set_option maxRecDepth 100000 in
set_option maxHeartbeats 4000000 in
theorem braced_open (w0 : World) (A : Nat → Addr) (w : World) (R : Nat) (s : ByteArray) (hs : s.size ≤ 4294967280) (fl : Int) (i g d : Nat) (hR : RdAt w0 A w R s fl i g d) (hi : i < s.size) (hf : Ep.find (bt s) 125 (s.size - (i + 1)) (i + 1) = none) :
    Calls Tryz.prog 154 #[.pointer (some ⟨R, 0, none⟩)] w (TmEnd A R s fl i g d none 3 w) := by
  have hlt := hR.lt
  have HRW := Lib.hid hR.cell
  have HCE : Hid (w.cell? ⟨3, 0, none⟩ = some (.iface 184 (.pointer (some (A 2))))) := Lib.hid (hR.now.errs 2 (by omega)).1
  have hz : (s.extract (i + 1) s.size).size = s.size - (i + 1) := by simp
  have hb0 : Below w.heap.size w (w.alloc (.cells #[.int .i64 0, .int .i64 0] 134)) := (Below.refl _ _).alloc (Nat.le_refl _) _
  have hR1 := hR.later hb0
  have hff : Ep.find (bt (s.extract (i + 1) s.size)) 125 (s.extract (i + 1) s.size).size 0 = (Ep.find (bt s) 125 (s.size - (i + 1)) (i + 1)).map (· - (i + 1)) := by
    rw [hz, find_mid s (i + 1) s.size 125 (Nat.le_refl _) _ _ (by omega), Nat.add_zero]
  rw [hf] at hff
  have hcut := fun n => cut1_none (A := A) (s.extract (i + 1) s.size) (by rw [hz]; omega) 125 hff _ (hR1.now.below (drewN_below (Below.refl _ _) n))
  obtain ⟨c0, c1, c2, -, -⟩ := rd5 hR1.cell
  have hw : IntKind.i64.wrap ((i : Int) + 1) = (i : Int) + 1 := IntWalk.i64_in _ (by omega)
  have h1 : (0 : Int) ≤ (i : Int) + 1 := by omega
  have h2 : (i : Int) + 1 ≤ s.size := by omega
  have h3 : ((i : Int) + 1).toNat = i + 1 := by omega
  have HCUT := Lib.hid hcut; have HR1 := Lib.hid hR1
  clear hff hcut hf hR hR1 hz
  go_enter Tryz.func154, Tryz.ntmps154
  go_wp2
  go_quiet ((go_at_call 116; exact Calls.quiet_of (HCUT.out _)))
  have Z0 := Lib.hid (heap_alloc_new w (.cells #[.int .i64 0, .int .i64 0] 134))
  have HR := Lib.hid (HR1.out.later (drewN_below (Below.refl _ _) nq))
  have HB0 : Hid (Below w.heap.size w ((w.alloc (.cells #[.int .i64 0, .int .i64 0] 134)).drewN nq)) := Lib.hid (drewN_below (by go_grown) nq)
  have Z1 : Hid (((w.alloc (.cells #[.int .i64 0, .int .i64 0] 134)).drewN nq).heap[w.heap.size]? = some (.cells #[.int .i64 0, .int .i64 0] 134)) := Lib.hid Z0.out
  have hsW : w.heap.size < ((w.alloc (.cells #[.int .i64 0, .int .i64 0] 134)).drewN nq).heap.size := by simp
  clear c0 c1 c2 HR1 HCUT Z0
  go_wp2
  generalize World.drewN _ _ = W at *
  refine Ri.wp_region_frame (by kernel_rfl) (by kernel_rfl) (by kernel_rfl) (by kernel_rfl)
    (fun L v w' => Below w.heap.size w w' ∧ W.heap.size ≤ w'.heap.size ∧ (L 7 = true → w'.heap[w.heap.size]? = some (.cells #[.int .i64 0, .int .i64 0] 134)) ∧ (L 7 = false → w'.heap[w.heap.size]? = some (.cells #[.int .i64 0, .int .i64 0] 134)) ∧ (L 0 = true → v 0 = .agg #[.int .i64 0, .int .i64 0]) ∧ (L 1 = true → v 1 = .pointer (some ⟨R, 0, none⟩)) ∧ (L 2 = true → v 2 = .pointer (some ⟨R, 0, none⟩)) ∧ (L 3 = true → v 3 = .pointer (some ⟨R, 2, none⟩)) ∧ (L 4 = true → v 4 = .int .i64 i) ∧ (L 5 = true → v 5 = .iface 184 (.pointer (some (A 2)))) ∧ (L 6 = true → ErrOne A W.heap.size w' (v 6) 3 i) ∧ (L 8 = true → ErrOne A W.heap.size w' (v 8) 3 i))
    ?_ ?_ ?_
  · exact ⟨HB0.out.drew, Nat.le_refl _, (by simp), (fun _ => Z1.out), by simp, by simp, by simp, by simp, by simp, by simp, by simp, by simp⟩
  · intro i hi9 L v w9 xa hI hL hd hv ho
    have hi' : i = 0 ∨ i = 1 ∨ i = 2 ∨ i = 3 ∨ i = 4 ∨ i = 5 ∨ i = 6 ∨ i = 7 ∨ i = 8 := by simp at hi9; omega
    obtain ⟨hb, hz, qn, qo, q0, q1, q2, q3, q4, q5, q6, q8⟩ := hI
    rcases hi' with rfl | rfl | rfl | rfl | rfl | rfl | rfl | rfl | rfl
    · refine Ri.step_plain rfl rfl (fun K' hK => ?_)
      go_simp
      exact hK _ _ ⟨_, _, rfl, rfl, hb, hz, qn, qo, fun _ => rfl, q1, q2, q3, q4, q5, q6, q8⟩
    · have e0 : xa.tmps.getD 0 undef = .pointer (some ⟨R, 0, none⟩) := ho 0 (by kernel_rfl)
      refine Ri.step_plain rfl rfl (fun K' hK => ?_)
      go_simp
      exact hK _ _ ⟨_, _, rfl, rfl, hb, hz, qn, qo, q0, fun _ => rfl, q2, q3, q4, q5, q6, q8⟩
    · have l0 : L 1 = true := by have := hd _ rfl; simp [Region.binds] at this; simp [this]
      have f1 := (hv 1 27 rfl l0).trans (q1 l0)
      refine Ri.step_plain rfl rfl (fun K' hK => ?_)
      go_simp
      exact hK _ _ ⟨_, _, rfl, rfl, hb, hz, qn, qo, q0, q1, fun _ => rfl, q3, q4, q5, q6, q8⟩
    · have l0 : L 2 = true := by have := hd _ rfl; simp [Region.binds] at this; simp [this]
      have f2 := (hv 2 28 rfl l0).trans (q2 l0)
      refine Ri.step_plain rfl rfl (fun K' hK => ?_)
      go_simp
      exact hK _ _ ⟨_, _, rfl, rfl, hb, hz, qn, qo, q0, q1, q2, fun _ => rfl, q4, q5, q6, q8⟩
    · have l0 : L 3 = true := by have := hd _ rfl; simp [Region.binds] at this; simp [this]
      have f3 := (hv 3 29 rfl l0).trans (q3 l0)
      refine Ri.step_plain rfl rfl (fun K' hK => ?_)
      obtain ⟨_, _, k2, _, _⟩ := rd5 (keep_blk hb HRW.out)
      go_simp
      exact hK _ _ ⟨_, _, rfl, rfl, hb, hz, qn, qo, q0, q1, q2, q3, fun _ => rfl, q5, q6, q8⟩
    · refine Ri.step_plain rfl rfl (fun K' hK => ?_)
      obtain ⟨k5, _⟩ := And.intro (cell_keep hb HCE.out) trivial
      go_simp
      exact hK _ _ ⟨_, _, rfl, rfl, hb, hz, qn, qo, q0, q1, q2, q3, q4, fun _ => rfl, q6, q8⟩
    · have l0 : L 4 = true ∧ L 5 = true := by have := hd _ rfl; simp [Region.binds] at this; simp [this]
      have f4 := (hv 4 30 rfl l0.1).trans (q4 l0.1)
      have f5 := (hv 5 31 rfl l0.2).trans (q5 l0.2)
      refine Ri.step_plain rfl rfl (fun K' hK => ?_)
      go_simp
      refine (at_err A 2 (by omega) i _).mono ?_
      rintro e w8 ⟨v8, rfl, hv8, hb8⟩
      exact hK _ _ ⟨_, _, rfl, rfl, hb.trans (hb8.mono hb.size), Nat.le_trans hz hb8.size, (fun l => keep_blk hb8 (qn l)), (fun l => keep_blk hb8 (qo l)), q0, q1, q2, q3, q4, q5, fun _ => hv8.down hz, fun l => (q8 l).below hb8⟩
    · have l0 : L 0 = true := by have := hd _ rfl; simp [Region.binds] at this; simp [this]
      have f0 := (hv 0 26 rfl l0).trans (q0 l0)
      have e2 : xa.tmps.getD 2 undef = .pointer (some ⟨w.heap.size, 0, none⟩) := ho 2 (by kernel_rfl)
      refine Ri.step_plain rfl rfl (fun K' hK => ?_)
      refine wp_store_row _ _ _ rfl w.heap.size #[.int .i64 0, .int .i64 0] e2 f0 134 _ (qo hL) (by kernel_rfl) (by kernel_rfl) two_one ?_
      exact hK _ _ ⟨_, undef, rfl, rfl, below_setRow hb (Nat.le_refl _) _, by simpa using hz, (fun _ => heap_setRow (qo hL)), (fun h => by cases h), q0, q1, q2, q3, q4, q5, fun l => (q6 l).setRow hsW _, fun l => (q8 l).setRow hsW _⟩
    · have l0 : L 6 = true := by have := hd _ rfl; simp [Region.binds] at this; simp [this]
      have f6 := hv 6 32 rfl l0
      refine Ri.step_plain rfl rfl (fun K' hK => ?_)
      go_simp
      exact hK _ _ ⟨_, _, rfl, rfl, hb, hz, qn, qo, q0, q1, q2, q3, q4, q5, q6, fun _ => q6 l0⟩
  · rintro v w9 ⟨hb, hz, qn, -, -, -, -, -, -, -, -, q8⟩
    have zN := qn rfl; clear qn
    have E8 := Lib.hid (q8 rfl)
    simp only [Ri.frame, List.zipIdx, List.foldl_cons, List.foldl_nil, if_true, List.setIfInBounds_toArray, List.set_cons_zero, List.set_cons_succ, Nat.reduceAdd]
    clear q8
    generalize v 0 = y0; generalize v 1 = y1; generalize v 2 = y2; generalize v 3 = y3; generalize v 4 = y4; generalize v 5 = y5; generalize v 6 = y6; generalize v 8 = y8 at *
    clear hw h1 h2 h3 hi
    go_wp2
    exact bodyPost_ret (results_row_1 rfl _ _ w.heap.size 134 #[.int .i64 0, .int .i64 0] (0, 0) _ _ rfl rfl zN Tryz.underlying134 rfl (by kernel_rfl)) rfl ⟨⟨_, rfl, by exact E8.out.down (Nat.le_of_lt hsW)⟩, by exact Touch.of_below _ hb⟩
set_option maxRecDepth 100000 in
set_option maxHeartbeats 4000000 in
theorem braced_bad (w0 : World) (A : Nat → Addr) (w : World) (R : Nat) (s : ByteArray) (hs : s.size ≤ 4294967280) (fl : Int) (i g d : Nat) (hR : RdAt w0 A w R s fl i g d) (hi : i < s.size) (k : Nat) (hf : Ep.find (bt s) 125 (s.size - (i + 1)) (i + 1) = some (i + 1 + k)) (hn : Ep.counts (bt s) (i + 1) (i + 1 + k) = none) :
    Calls Tryz.prog 154 #[.pointer (some ⟨R, 0, none⟩)] w (TmEnd A R s fl i g d none 4 w) := by
  have hlt := hR.lt
  have HRW := Lib.hid hR.cell
  have HCE : Hid (w.cell? ⟨4, 0, none⟩ = some (.iface 184 (.pointer (some (A 3))))) := Lib.hid (hR.now.errs 3 (by omega)).1
  have hz : (s.extract (i + 1) s.size).size = s.size - (i + 1) := by simp
  have hb0 : Below w.heap.size w (w.alloc (.cells #[.int .i64 0, .int .i64 0] 134)) := (Below.refl _ _).alloc (Nat.le_refl _) _
  have hR1 := hR.later hb0
  have hff : Ep.find (bt (s.extract (i + 1) s.size)) 125 (s.extract (i + 1) s.size).size 0 = (Ep.find (bt s) 125 (s.size - (i + 1)) (i + 1)).map (· - (i + 1)) := by
    rw [hz, find_mid s (i + 1) s.size 125 (Nat.le_refl _) _ _ (by omega), Nat.add_zero]
  rw [hf] at hff
  rw [show (some (i + 1 + k)).map (· - (i + 1)) = some k by simp] at hff
  have hk := (Ep.find_some hf).2.1
  have hcut := fun n => cut1_some (A := A) (s.extract (i + 1) s.size) (by rw [hz]; omega) 125 k hff _ (hR1.now.below (drewN_below (Below.refl _ _) n))
  have hcnt := fun w hE => erecounts_any A (s.extract (i + 1) (i + 1 + k)) (by simp; omega) _ ((counts_mid s (i + 1) (i + 1 + k) (by omega) (by omega)).trans hn) w hE
  have hl : (s.extract (i + 1) (i + 1 + k)).size = k := by simp; omega
  rw [ext_ext s (i + 1) k (by omega)] at hcut
  generalize s.extract (i + 1) (i + 1 + k) = ta at *
  have HCNT := Lib.hid hcnt
  obtain ⟨c0, c1, c2, -, -⟩ := rd5 hR1.cell
  have hw : IntKind.i64.wrap ((i : Int) + 1) = (i : Int) + 1 := IntWalk.i64_in _ (by omega)
  have h1 : (0 : Int) ≤ (i : Int) + 1 := by omega
  have h2 : (i : Int) + 1 ≤ s.size := by omega
  have h3 : ((i : Int) + 1).toNat = i + 1 := by omega
  have HCUT := Lib.hid hcut; have HR1 := Lib.hid hR1
  clear hff hcut hf hR hR1 hz hcnt hn
  go_enter Tryz.func154, Tryz.ntmps154
  go_wp2
  go_quiet ((go_at_call 116; exact Calls.quiet_of (HCUT.out _)))
  have Z0 := Lib.hid (heap_alloc_new w (.cells #[.int .i64 0, .int .i64 0] 134))
  have HR := Lib.hid (HR1.out.later (drewN_below (Below.refl _ _) nq))
  have HB0 : Hid (Below w.heap.size w ((w.alloc (.cells #[.int .i64 0, .int .i64 0] 134)).drewN nq)) := Lib.hid (drewN_below (by go_grown) nq)
  have Z1 : Hid (((w.alloc (.cells #[.int .i64 0, .int .i64 0] 134)).drewN nq).heap[w.heap.size]? = some (.cells #[.int .i64 0, .int .i64 0] 134)) := Lib.hid Z0.out
  have hsW : w.heap.size < ((w.alloc (.cells #[.int .i64 0, .int .i64 0] 134)).drewN nq).heap.size := by simp
  clear c0 c1 c2 HR1 HCUT Z0
  go_wp2_with fail
  generalize World.drewN _ _ = W at *
  refine (HCNT.out _ HR.out.now).mono ?_
  rintro e w2 ⟨rfl, hb2⟩
  unfold cntsV
  have hbA : Below W.heap.size W (w2.alloc (.cells #[.int .i64 0, .int .i64 0] 134)) := hb2.alloc hb2.size _
  have Z2 := Lib.hid (keep_blk hbA Z1.out)
  have HR2 := Lib.hid (HR.out.later hbA)
  have HB2 := Lib.hid (HB0.out.trans (hbA.mono HB0.out.size))
  have Y2 := Lib.hid (heap_alloc_new w2 (.cells #[.int .i64 0, .int .i64 0] 134))
  have hs2 : w.heap.size < w2.heap.size := Nat.lt_of_lt_of_le hsW hb2.size
  have hsA : w.heap.size < (w2.alloc (.cells #[.int .i64 0, .int .i64 0] 134)).heap.size := by simp; omega
  clear hb2 hbA Z1 HB0 HR hsW
  clear hl HCNT
  go_wp2
  generalize World.alloc w2 _ = W at *
  have hsW := hsA
  refine Ri.wp_region_frame (by kernel_rfl) (by kernel_rfl) (by kernel_rfl) (by kernel_rfl)
    (fun L v w' => Below w.heap.size w w' ∧ W.heap.size ≤ w'.heap.size ∧ (L 7 = true → w'.heap[w.heap.size]? = some (.cells #[.int .i64 0, .int .i64 0] 134)) ∧ (L 7 = false → w'.heap[w.heap.size]? = some (.cells #[.int .i64 0, .int .i64 0] 134)) ∧ (L 0 = true → v 0 = .agg #[.int .i64 0, .int .i64 0]) ∧ (L 1 = true → v 1 = .pointer (some ⟨R, 0, none⟩)) ∧ (L 2 = true → v 2 = .pointer (some ⟨R, 0, none⟩)) ∧ (L 3 = true → v 3 = .pointer (some ⟨R, 2, none⟩)) ∧ (L 4 = true → v 4 = .int .i64 i) ∧ (L 5 = true → v 5 = .iface 184 (.pointer (some (A 3)))) ∧ (L 6 = true → ErrOne A W.heap.size w' (v 6) 4 i) ∧ (L 8 = true → ErrOne A W.heap.size w' (v 8) 4 i))
    ?_ ?_ ?_
  · exact ⟨HB2.out.drew, Nat.le_refl _, (by simp), (fun _ => Z2.out), by simp, by simp, by simp, by simp, by simp, by simp, by simp, by simp⟩
  · intro i hi9 L v w9 xa hI hL hd hv ho
    have hi' : i = 0 ∨ i = 1 ∨ i = 2 ∨ i = 3 ∨ i = 4 ∨ i = 5 ∨ i = 6 ∨ i = 7 ∨ i = 8 := by simp at hi9; omega
    obtain ⟨hb, hz, qn, qo, q0, q1, q2, q3, q4, q5, q6, q8⟩ := hI
    rcases hi' with rfl | rfl | rfl | rfl | rfl | rfl | rfl | rfl | rfl
    · refine Ri.step_plain rfl rfl (fun K' hK => ?_)
      go_simp
      exact hK _ _ ⟨_, _, rfl, rfl, hb, hz, qn, qo, fun _ => rfl, q1, q2, q3, q4, q5, q6, q8⟩
    · have e0 : xa.tmps.getD 0 undef = .pointer (some ⟨R, 0, none⟩) := ho 0 (by kernel_rfl)
      refine Ri.step_plain rfl rfl (fun K' hK => ?_)
      go_simp
      exact hK _ _ ⟨_, _, rfl, rfl, hb, hz, qn, qo, q0, fun _ => rfl, q2, q3, q4, q5, q6, q8⟩
    · have l0 : L 1 = true := by have := hd _ rfl; simp [Region.binds] at this; simp [this]
      have f1 := (hv 1 41 rfl l0).trans (q1 l0)
      refine Ri.step_plain rfl rfl (fun K' hK => ?_)
      go_simp
      exact hK _ _ ⟨_, _, rfl, rfl, hb, hz, qn, qo, q0, q1, fun _ => rfl, q3, q4, q5, q6, q8⟩
    · have l0 : L 2 = true := by have := hd _ rfl; simp [Region.binds] at this; simp [this]
      have f2 := (hv 2 42 rfl l0).trans (q2 l0)
      refine Ri.step_plain rfl rfl (fun K' hK => ?_)
      go_simp
      exact hK _ _ ⟨_, _, rfl, rfl, hb, hz, qn, qo, q0, q1, q2, fun _ => rfl, q4, q5, q6, q8⟩
    · have l0 : L 3 = true := by have := hd _ rfl; simp [Region.binds] at this; simp [this]
      have f3 := (hv 3 43 rfl l0).trans (q3 l0)
      refine Ri.step_plain rfl rfl (fun K' hK => ?_)
      obtain ⟨_, _, k2, _, _⟩ := rd5 (keep_blk hb HRW.out)
      go_simp
      exact hK _ _ ⟨_, _, rfl, rfl, hb, hz, qn, qo, q0, q1, q2, q3, fun _ => rfl, q5, q6, q8⟩
    · refine Ri.step_plain rfl rfl (fun K' hK => ?_)
      obtain ⟨k5, _⟩ := And.intro (cell_keep hb HCE.out) trivial
      go_simp
      exact hK _ _ ⟨_, _, rfl, rfl, hb, hz, qn, qo, q0, q1, q2, q3, q4, fun _ => rfl, q6, q8⟩
    · have l0 : L 4 = true ∧ L 5 = true := by have := hd _ rfl; simp [Region.binds] at this; simp [this]
      have f4 := (hv 4 44 rfl l0.1).trans (q4 l0.1)
      have f5 := (hv 5 45 rfl l0.2).trans (q5 l0.2)
      refine Ri.step_plain rfl rfl (fun K' hK => ?_)
      go_simp
      refine (at_err A 3 (by omega) i _).mono ?_
      rintro e w8 ⟨v8, rfl, hv8, hb8⟩
      exact hK _ _ ⟨_, _, rfl, rfl, hb.trans (hb8.mono hb.size), Nat.le_trans hz hb8.size, (fun l => keep_blk hb8 (qn l)), (fun l => keep_blk hb8 (qo l)), q0, q1, q2, q3, q4, q5, fun _ => hv8.down hz, fun l => (q8 l).below hb8⟩
    · have l0 : L 0 = true := by have := hd _ rfl; simp [Region.binds] at this; simp [this]
      have f0 := (hv 0 40 rfl l0).trans (q0 l0)
      have e2 : xa.tmps.getD 2 undef = .pointer (some ⟨w.heap.size, 0, none⟩) := ho 2 (by kernel_rfl)
      refine Ri.step_plain rfl rfl (fun K' hK => ?_)
      refine wp_store_row _ _ _ rfl w.heap.size #[.int .i64 0, .int .i64 0] e2 f0 134 _ (qo hL) (by kernel_rfl) (by kernel_rfl) two_one ?_
      exact hK _ _ ⟨_, undef, rfl, rfl, below_setRow hb (Nat.le_refl _) _, by simpa using hz, (fun _ => heap_setRow (qo hL)), (fun h => by cases h), q0, q1, q2, q3, q4, q5, fun l => (q6 l).setRow hsW _, fun l => (q8 l).setRow hsW _⟩
    · have l0 : L 6 = true := by have := hd _ rfl; simp [Region.binds] at this; simp [this]
      have f6 := hv 6 46 rfl l0
      refine Ri.step_plain rfl rfl (fun K' hK => ?_)
      go_simp
      exact hK _ _ ⟨_, _, rfl, rfl, hb, hz, qn, qo, q0, q1, q2, q3, q4, q5, q6, fun _ => q6 l0⟩
  · rintro v w9 ⟨hb, hz, qn, -, -, -, -, -, -, -, -, q8⟩
    have zN := qn rfl; clear qn
    have E8 := Lib.hid (q8 rfl)
    simp only [Ri.frame, List.zipIdx, List.foldl_cons, List.foldl_nil, if_true, List.setIfInBounds_toArray, List.set_cons_zero, List.set_cons_succ, Nat.reduceAdd]
    clear q8
    generalize v 0 = y0; generalize v 1 = y1; generalize v 2 = y2; generalize v 3 = y3; generalize v 4 = y4; generalize v 5 = y5; generalize v 6 = y6; generalize v 8 = y8 at *
    clear hw h1 h2 h3 hi
    go_wp2
    exact bodyPost_ret (results_row_1 rfl _ _ w.heap.size 134 #[.int .i64 0, .int .i64 0] (0, 0) _ _ rfl rfl zN Tryz.underlying134 rfl (by kernel_rfl)) rfl ⟨⟨_, rfl, by exact E8.out.down (Nat.le_of_lt hsW)⟩, by exact Touch.of_below _ hb⟩
set_option maxRecDepth 100000 in
set_option maxHeartbeats 4000000 in
theorem braced_ok (w0 : World) (A : Nat → Addr) (w : World) (R : Nat) (s : ByteArray) (hs : s.size ≤ 4294967280) (fl : Int) (i g d : Nat) (hR : RdAt w0 A w R s fl i g d) (hi : i < s.size) (k : Nat) (hf : Ep.find (bt s) 125 (s.size - (i + 1)) (i + 1) = some (i + 1 + k)) (a b : Int) (hn : Ep.counts (bt s) (i + 1) (i + 1 + k) = some (a, b)) :
    Calls Tryz.prog 154 #[.pointer (some ⟨R, 0, none⟩)] w (TmEnd A R s fl i g d (some (a, b, i + 1 + k + 1)) 0 w) := by
  have hlt := hR.lt
  have HRW := Lib.hid hR.cell
  have HCE : Hid (w.cell? ⟨4, 0, none⟩ = some (.iface 184 (.pointer (some (A 3))))) := Lib.hid (hR.now.errs 3 (by omega)).1
  have hz : (s.extract (i + 1) s.size).size = s.size - (i + 1) := by simp
  have hb0 : Below w.heap.size w (w.alloc (.cells #[.int .i64 0, .int .i64 0] 134)) := (Below.refl _ _).alloc (Nat.le_refl _) _
  have hR1 := hR.later hb0
  have hff : Ep.find (bt (s.extract (i + 1) s.size)) 125 (s.extract (i + 1) s.size).size 0 = (Ep.find (bt s) 125 (s.size - (i + 1)) (i + 1)).map (· - (i + 1)) := by
    rw [hz, find_mid s (i + 1) s.size 125 (Nat.le_refl _) _ _ (by omega), Nat.add_zero]
  rw [hf] at hff
  rw [show (some (i + 1 + k)).map (· - (i + 1)) = some k by simp] at hff
  have hk := (Ep.find_some hf).2.1
  have hcut := fun n => cut1_some (A := A) (s.extract (i + 1) s.size) (by rw [hz]; omega) 125 k hff _ (hR1.now.below (drewN_below (Below.refl _ _) n))
  have hcnt := fun w hE => erecounts_any A (s.extract (i + 1) (i + 1 + k)) (by simp; omega) _ ((counts_mid s (i + 1) (i + 1 + k) (by omega) (by omega)).trans hn) w hE
  have hl : (s.extract (i + 1) (i + 1 + k)).size = k := by simp; omega
  rw [ext_ext s (i + 1) k (by omega)] at hcut
  generalize s.extract (i + 1) (i + 1 + k) = ta at *
  have HCNT := Lib.hid hcnt
  obtain ⟨c0, c1, c2, -, -⟩ := rd5 hR1.cell
  have hw : IntKind.i64.wrap ((i : Int) + 1) = (i : Int) + 1 := IntWalk.i64_in _ (by omega)
  have h1 : (0 : Int) ≤ (i : Int) + 1 := by omega
  have h2 : (i : Int) + 1 ≤ s.size := by omega
  have h3 : ((i : Int) + 1).toNat = i + 1 := by omega
  have HCUT := Lib.hid hcut; have HR1 := Lib.hid hR1
  clear hff hcut hf hR hR1 hz hcnt hn
  go_enter Tryz.func154, Tryz.ntmps154
  go_wp2
  go_quiet ((go_at_call 116; exact Calls.quiet_of (HCUT.out _)))
  have Z0 := Lib.hid (heap_alloc_new w (.cells #[.int .i64 0, .int .i64 0] 134))
  have HR := Lib.hid (HR1.out.later (drewN_below (Below.refl _ _) nq))
  have HB0 : Hid (Below w.heap.size w ((w.alloc (.cells #[.int .i64 0, .int .i64 0] 134)).drewN nq)) := Lib.hid (drewN_below (by go_grown) nq)
  have Z1 : Hid (((w.alloc (.cells #[.int .i64 0, .int .i64 0] 134)).drewN nq).heap[w.heap.size]? = some (.cells #[.int .i64 0, .int .i64 0] 134)) := Lib.hid Z0.out
  have hsW : w.heap.size < ((w.alloc (.cells #[.int .i64 0, .int .i64 0] 134)).drewN nq).heap.size := by simp
  clear c0 c1 c2 HR1 HCUT Z0
  go_wp2_with fail
  generalize World.drewN _ _ = W at *
  refine (HCNT.out _ HR.out.now).mono ?_
  rintro e w2 ⟨rfl, hb2⟩
  unfold cntsV
  have hbA : Below W.heap.size W (w2.alloc (.cells #[.int .i64 a, .int .i64 b] 134)) := hb2.alloc hb2.size _
  have Z2 := Lib.hid (keep_blk hbA Z1.out)
  have HR2 := Lib.hid (HR.out.later hbA)
  have HB2 := Lib.hid (HB0.out.trans (hbA.mono HB0.out.size))
  have Y2 := Lib.hid (heap_alloc_new w2 (.cells #[.int .i64 a, .int .i64 b] 134))
  have hs2 : w.heap.size < w2.heap.size := Nat.lt_of_lt_of_le hsW hb2.size
  have hsA : w.heap.size < (w2.alloc (.cells #[.int .i64 a, .int .i64 b] 134)).heap.size := by simp; omega
  clear hb2 hbA Z1 HB0 HR hsW
  clear HCNT HCE
  have w1 : IntKind.i64.wrap (1 + (ta.size : Int)) = 1 + (ta.size : Int) := IntWalk.i64_in _ (by omega)
  have w2' : IntKind.i64.wrap (1 + (ta.size : Int) + 1) = 1 + (ta.size : Int) + 1 := IntWalk.i64_in _ (by omega)
  have w3 : IntKind.i64.wrap ((i : Int) + (1 + (ta.size : Int) + 1)) = (i : Int) + (1 + (ta.size : Int) + 1) := IntWalk.i64_in _ (by omega)
  obtain ⟨-, -, c2, -, -⟩ := rd5 HR2.out.cell
  obtain ⟨g2, -, -⟩ := rdf HR2.out.cell
  have Y2s := Lib.hid (fun v => (Below.heap_setCell (w2.alloc (.cells #[.int .i64 a, .int .i64 b] 134)) ⟨R, 2, none⟩ v w2.heap.size (by simp; omega)).trans Y2.out)
  have Z2s := Lib.hid (fun v => (Below.heap_setCell (w2.alloc (.cells #[.int .i64 a, .int .i64 b] 134)) ⟨R, 2, none⟩ v w.heap.size (by simp; omega)).trans Z2.out)
  have HP := Lib.hid (rd_place HR2.out.cell (i + 1 + k + 1) (v := (i : Int) + (1 + (ta.size : Int) + 1)) (by omega))
  have HT := Lib.hid (((Touch.of_below [R] HB2.out).setCell List.mem_cons_self 2 (.int .i64 ((i : Int) + (1 + (ta.size : Int) + 1)))))
  have hRne : R ≠ w.heap.size := by omega
  clear hw h1 h2 h3 hi hl hk hb0 Y2 Z2 HB2 HR2
  go_wp2_with (first
    | (refine wpList_load_row rfl 134 (.tmp 7) rfl w2.heap.size rfl 134 _ (0, 0) _ (Y2s.out _) Tryz.underlying134 rfl (by kernel_rfl) ?_)
    | (refine wpList_store_row rfl 134 (.tmp 2) (.tmp 58) rfl w.heap.size #[.int .i64 a, .int .i64 b] rfl rfl 134 _ (Z2s.out _) (by kernel_rfl) rfl two_one ?_)
    | fail)
  exact bodyPost_ret (results_row_1 rfl _ _ w.heap.size 134 #[.int .i64 a, .int .i64 b] (0, 0) _ _ rfl rfl (heap_setRow (Z2s.out _)) Tryz.underlying134 rfl (by kernel_rfl)) rfl ⟨⟨rfl, (heap_setRow_other _ _ _ hRne).trans HP.out⟩, HT.out.setRow_new (Nat.le_refl _) _⟩
end Go.Proofs.YtlbhbjmobcikfaaGreatDoor
/- What the reader of extended patterns answers of a repeat. -/
namespace Go.Proofs.YtlbhbjmobcikfaaGreatDoor
open Go.RowKit
set_option maxRecDepth 100000 in
set_option maxHeartbeats 4000000 in
theorem times_star (w0 : World) (A : Nat → Addr) (w : World) (R : Nat) (s : ByteArray) (fl : Int) (i g d : Nat) (hR : RdAt w0 A w R s fl i g d) (hi : i < s.size) (hs : s.size ≤ 4294967280) (hc : bt s i = 42) :
    Calls Tryz.prog 137 #[.pointer (some ⟨R, 0, none⟩)] w (TmEnd A R s fl i g d (some (0, (-1), i + 1)) 0 w) := by
  have hlt := hR.lt
  have hb0 : Below w.heap.size w (w.alloc (.cells #[.int .i64 0, .int .i64 0] 134)) := (Below.refl _ _).alloc (Nat.le_refl _) _
  have hR1 := hR.later hb0
  obtain ⟨c0, c1, c2, -, -⟩ := rd5 hR1.cell
  have hi0 : (0 : Int) ≤ i := by omega
  have hi1 : (i : Int) < s.size := by omega
  have hx : (s[i].toNat : Int) = 42 := by rw [bt_at hi, hc]; rfl
  have HX := Lib.hid hx
  have HR1 := Lib.hid hR1
  clear hR hR1 hx hc
  go_enter Tryz.func137, Tryz.ntmps137
  go_wp2
  go_quiet (fail)
  have Z0 := Lib.hid (heap_alloc_new w (.cells #[.int .i64 0, .int .i64 0] 134))
  have HR := Lib.hid (HR1.out.later (drewN_below (Below.refl _ _) nq))
  have HB0 : Hid (Below w.heap.size w ((w.alloc (.cells #[.int .i64 0, .int .i64 0] 134)).drewN nq)) := Lib.hid (drewN_below (by go_grown) nq)
  have Z1 : Hid (((w.alloc (.cells #[.int .i64 0, .int .i64 0] 134)).drewN nq).heap[w.heap.size]? = some (.cells #[.int .i64 0, .int .i64 0] 134)) := Lib.hid Z0.out
  have hsW : w.heap.size < ((w.alloc (.cells #[.int .i64 0, .int .i64 0] 134)).drewN nq).heap.size := by simp
  clear c0 c1 c2 HR1 Z0
  rw [HX.out]
  clear HX
  generalize World.drewN _ _ = W at *
  obtain ⟨-, -, c2, -, -⟩ := rd5 HR.out.cell
  obtain ⟨g2, -, -⟩ := rdf HR.out.cell
  have hRne : R ≠ w.heap.size := by omega
  have hw : IntKind.i64.wrap ((i : Int) + 1) = (i : Int) + 1 := IntWalk.i64_in _ (by omega)
  have Z2s := Lib.hid (fun v => (Below.heap_setCell W ⟨R, 2, none⟩ v w.heap.size (Ne.symm hRne)).trans Z1.out)
  have HP := Lib.hid (rd_place HR.out.cell (i + 1) (v := (i : Int) + 1) (by omega))
  have HT := Lib.hid (((Touch.of_below [R] HB0.out).setCell List.mem_cons_self 2 (.int .i64 ((i : Int) + 1))))
  clear Z1 HR HB0 hi0 hi1 hi
  go_wp2_with (first
    | (refine wpList_store_row rfl 134 (.tmp 2) (.tmp 30) rfl w.heap.size #[.int .i64 0, .int .i64 (-1)] rfl rfl 134 _ (Z2s.out _) (by kernel_rfl) rfl two_one ?_)
    | fail)
  exact bodyPost_ret (results_row_1 rfl _ _ w.heap.size 134 #[.int .i64 0, .int .i64 (-1)] (0, 0) _ _ rfl rfl (heap_setRow (Z2s.out _)) Tryz.underlying134 rfl (by kernel_rfl)) rfl ⟨⟨rfl, (heap_setRow_other _ _ _ hRne).trans HP.out⟩, HT.out.setRow_new (Nat.le_refl _) _⟩
set_option maxRecDepth 100000 in
set_option maxHeartbeats 4000000 in
theorem times_plus (w0 : World) (A : Nat → Addr) (w : World) (R : Nat) (s : ByteArray) (fl : Int) (i g d : Nat) (hR : RdAt w0 A w R s fl i g d) (hi : i < s.size) (hs : s.size ≤ 4294967280) (hc : bt s i = 43) :
    Calls Tryz.prog 137 #[.pointer (some ⟨R, 0, none⟩)] w (TmEnd A R s fl i g d (some (1, (-1), i + 1)) 0 w) := by
  have hlt := hR.lt
  have hb0 : Below w.heap.size w (w.alloc (.cells #[.int .i64 0, .int .i64 0] 134)) := (Below.refl _ _).alloc (Nat.le_refl _) _
  have hR1 := hR.later hb0
  obtain ⟨c0, c1, c2, -, -⟩ := rd5 hR1.cell
  have hi0 : (0 : Int) ≤ i := by omega
  have hi1 : (i : Int) < s.size := by omega
  have hx : (s[i].toNat : Int) = 43 := by rw [bt_at hi, hc]; rfl
  have HX := Lib.hid hx
  have HR1 := Lib.hid hR1
  clear hR hR1 hx hc
  go_enter Tryz.func137, Tryz.ntmps137
  go_wp2
  go_quiet (fail)
  have Z0 := Lib.hid (heap_alloc_new w (.cells #[.int .i64 0, .int .i64 0] 134))
  have HR := Lib.hid (HR1.out.later (drewN_below (Below.refl _ _) nq))
  have HB0 : Hid (Below w.heap.size w ((w.alloc (.cells #[.int .i64 0, .int .i64 0] 134)).drewN nq)) := Lib.hid (drewN_below (by go_grown) nq)
  have Z1 : Hid (((w.alloc (.cells #[.int .i64 0, .int .i64 0] 134)).drewN nq).heap[w.heap.size]? = some (.cells #[.int .i64 0, .int .i64 0] 134)) := Lib.hid Z0.out
  have hsW : w.heap.size < ((w.alloc (.cells #[.int .i64 0, .int .i64 0] 134)).drewN nq).heap.size := by simp
  clear c0 c1 c2 HR1 Z0
  rw [HX.out]
  clear HX
  generalize World.drewN _ _ = W at *
  obtain ⟨-, -, c2, -, -⟩ := rd5 HR.out.cell
  obtain ⟨g2, -, -⟩ := rdf HR.out.cell
  have hRne : R ≠ w.heap.size := by omega
  have hw : IntKind.i64.wrap ((i : Int) + 1) = (i : Int) + 1 := IntWalk.i64_in _ (by omega)
  have Z2s := Lib.hid (fun v => (Below.heap_setCell W ⟨R, 2, none⟩ v w.heap.size (Ne.symm hRne)).trans Z1.out)
  have HP := Lib.hid (rd_place HR.out.cell (i + 1) (v := (i : Int) + 1) (by omega))
  have HT := Lib.hid (((Touch.of_below [R] HB0.out).setCell List.mem_cons_self 2 (.int .i64 ((i : Int) + 1))))
  clear Z1 HR HB0 hi0 hi1 hi
  go_wp2_with (first
    | (refine wpList_store_row rfl 134 (.tmp 2) (.tmp 33) rfl w.heap.size #[.int .i64 1, .int .i64 (-1)] rfl rfl 134 _ (Z2s.out _) (by kernel_rfl) rfl two_one ?_)
    | fail)
  exact bodyPost_ret (results_row_1 rfl _ _ w.heap.size 134 #[.int .i64 1, .int .i64 (-1)] (0, 0) _ _ rfl rfl (heap_setRow (Z2s.out _)) Tryz.underlying134 rfl (by kernel_rfl)) rfl ⟨⟨rfl, (heap_setRow_other _ _ _ hRne).trans HP.out⟩, HT.out.setRow_new (Nat.le_refl _) _⟩
set_option maxRecDepth 100000 in
set_option maxHeartbeats 4000000 in
theorem times_maybe (w0 : World) (A : Nat → Addr) (w : World) (R : Nat) (s : ByteArray) (fl : Int) (i g d : Nat) (hR : RdAt w0 A w R s fl i g d) (hi : i < s.size) (hs : s.size ≤ 4294967280) (hc : bt s i = 63) :
    Calls Tryz.prog 137 #[.pointer (some ⟨R, 0, none⟩)] w (TmEnd A R s fl i g d (some (0, 1, i + 1)) 0 w) := by
  have hlt := hR.lt
  have hb0 : Below w.heap.size w (w.alloc (.cells #[.int .i64 0, .int .i64 0] 134)) := (Below.refl _ _).alloc (Nat.le_refl _) _
  have hR1 := hR.later hb0
  obtain ⟨c0, c1, c2, -, -⟩ := rd5 hR1.cell
  have hi0 : (0 : Int) ≤ i := by omega
  have hi1 : (i : Int) < s.size := by omega
  have hx : (s[i].toNat : Int) = 63 := by rw [bt_at hi, hc]; rfl
  have HX := Lib.hid hx
  have HR1 := Lib.hid hR1
  clear hR hR1 hx hc
  go_enter Tryz.func137, Tryz.ntmps137
  go_wp2
  go_quiet (fail)
  have Z0 := Lib.hid (heap_alloc_new w (.cells #[.int .i64 0, .int .i64 0] 134))
  have HR := Lib.hid (HR1.out.later (drewN_below (Below.refl _ _) nq))
  have HB0 : Hid (Below w.heap.size w ((w.alloc (.cells #[.int .i64 0, .int .i64 0] 134)).drewN nq)) := Lib.hid (drewN_below (by go_grown) nq)
  have Z1 : Hid (((w.alloc (.cells #[.int .i64 0, .int .i64 0] 134)).drewN nq).heap[w.heap.size]? = some (.cells #[.int .i64 0, .int .i64 0] 134)) := Lib.hid Z0.out
  have hsW : w.heap.size < ((w.alloc (.cells #[.int .i64 0, .int .i64 0] 134)).drewN nq).heap.size := by simp
  clear c0 c1 c2 HR1 Z0
  rw [HX.out]
  clear HX
  generalize World.drewN _ _ = W at *
  obtain ⟨-, -, c2, -, -⟩ := rd5 HR.out.cell
  obtain ⟨g2, -, -⟩ := rdf HR.out.cell
  have hRne : R ≠ w.heap.size := by omega
  have hw : IntKind.i64.wrap ((i : Int) + 1) = (i : Int) + 1 := IntWalk.i64_in _ (by omega)
  have Z2s := Lib.hid (fun v => (Below.heap_setCell W ⟨R, 2, none⟩ v w.heap.size (Ne.symm hRne)).trans Z1.out)
  have HP := Lib.hid (rd_place HR.out.cell (i + 1) (v := (i : Int) + 1) (by omega))
  have HT := Lib.hid (((Touch.of_below [R] HB0.out).setCell List.mem_cons_self 2 (.int .i64 ((i : Int) + 1))))
  clear Z1 HR HB0 hi0 hi1 hi
  go_wp2_with (first
    | (refine wpList_store_row rfl 134 (.tmp 2) (.tmp 34) rfl w.heap.size #[.int .i64 0, .int .i64 1] rfl rfl 134 _ (Z2s.out _) (by kernel_rfl) rfl two_one ?_)
    | fail)
  exact bodyPost_ret (results_row_1 rfl _ _ w.heap.size 134 #[.int .i64 0, .int .i64 1] (0, 0) _ _ rfl rfl (heap_setRow (Z2s.out _)) Tryz.underlying134 rfl (by kernel_rfl)) rfl ⟨⟨rfl, (heap_setRow_other _ _ _ hRne).trans HP.out⟩, HT.out.setRow_new (Nat.le_refl _) _⟩
set_option maxRecDepth 100000 in
set_option maxHeartbeats 4000000 in
theorem times_brace_ok (w0 : World) (A : Nat → Addr) (w : World) (R : Nat) (s : ByteArray) (fl : Int) (i g d : Nat) (hR : RdAt w0 A w R s fl i g d) (hi : i < s.size) (hc : bt s i = 123) (a b : Int) (j : Nat) (HC : ∀ w, RdAt w0 A w R s fl i g d → Calls Tryz.prog 154 #[.pointer (some ⟨R, 0, none⟩)] w (TmEnd A R s fl i g d (some (a, b, j)) 0 w)) :
    Calls Tryz.prog 137 #[.pointer (some ⟨R, 0, none⟩)] w (TmEnd A R s fl i g d (some (a, b, j)) 0 w) := by
  have HC := Lib.hid HC
  have hlt := hR.lt
  have hb0 : Below w.heap.size w (w.alloc (.cells #[.int .i64 0, .int .i64 0] 134)) := (Below.refl _ _).alloc (Nat.le_refl _) _
  have hR1 := hR.later hb0
  obtain ⟨c0, c1, c2, -, -⟩ := rd5 hR1.cell
  have hi0 : (0 : Int) ≤ i := by omega
  have hi1 : (i : Int) < s.size := by omega
  have hx : (s[i].toNat : Int) = 123 := by rw [bt_at hi, hc]; rfl
  have HX := Lib.hid hx
  have HR1 := Lib.hid hR1
  clear hR hR1 hx hc
  go_enter Tryz.func137, Tryz.ntmps137
  go_wp2
  go_quiet (fail)
  have Z0 := Lib.hid (heap_alloc_new w (.cells #[.int .i64 0, .int .i64 0] 134))
  have HR := Lib.hid (HR1.out.later (drewN_below (Below.refl _ _) nq))
  have HB0 : Hid (Below w.heap.size w ((w.alloc (.cells #[.int .i64 0, .int .i64 0] 134)).drewN nq)) := Lib.hid (drewN_below (by go_grown) nq)
  have Z1 : Hid (((w.alloc (.cells #[.int .i64 0, .int .i64 0] 134)).drewN nq).heap[w.heap.size]? = some (.cells #[.int .i64 0, .int .i64 0] 134)) := Lib.hid Z0.out
  have hsW : w.heap.size < ((w.alloc (.cells #[.int .i64 0, .int .i64 0] 134)).drewN nq).heap.size := by simp
  clear c0 c1 c2 HR1 Z0
  rw [HX.out]
  clear HX
  generalize World.drewN _ _ = W at *
  obtain ⟨-, -, c2, -, -⟩ := rd5 HR.out.cell
  obtain ⟨g2, -, -⟩ := rdf HR.out.cell
  have hRne : R ≠ w.heap.size := by omega
  go_wp2_with fail
  refine (HC.out _ HR.out).mono ?_
  intro e w2 he
  obtain ⟨rfl, hr2, ht2⟩ := he.ok rfl
  have Z2 := Lib.hid ((ht2.block w.heap.size hsW (by simp; omega)).trans Z1.out)
  have HT := Lib.hid ((Touch.of_below [R] HB0.out).trans ht2)
  clear ht2 he
  have HP := Lib.hid hr2
  clear hr2
  go_wp2_with (first
    | (refine wpList_store_row rfl 134 (.tmp 2) (.tmp 18) rfl w.heap.size #[.int .i64 a, .int .i64 b] rfl rfl 134 _ Z2.out (by kernel_rfl) rfl two_one ?_)
    | fail)
  exact bodyPost_ret (results_row_1 rfl _ _ w.heap.size 134 #[.int .i64 a, .int .i64 b] (0, 0) _ _ rfl rfl (heap_setRow Z2.out) Tryz.underlying134 rfl (by kernel_rfl)) rfl ⟨⟨rfl, (heap_setRow_other _ _ _ hRne).trans HP.out⟩, HT.out.setRow_new (Nat.le_refl _) _⟩
set_option maxRecDepth 100000 in
set_option maxHeartbeats 4000000 in
theorem times_brace_err (w0 : World) (A : Nat → Addr) (w : World) (R : Nat) (s : ByteArray) (fl : Int) (i g d : Nat) (hR : RdAt w0 A w R s fl i g d) (hi : i < s.size) (hc : bt s i = 123) (c : Nat) (HC : ∀ w, RdAt w0 A w R s fl i g d → Calls Tryz.prog 154 #[.pointer (some ⟨R, 0, none⟩)] w (TmEnd A R s fl i g d none c w)) :
    Calls Tryz.prog 137 #[.pointer (some ⟨R, 0, none⟩)] w (TmEnd A R s fl i g d none c w) := by
  have HC := Lib.hid HC
  have hlt := hR.lt
  have hb0 : Below w.heap.size w (w.alloc (.cells #[.int .i64 0, .int .i64 0] 134)) := (Below.refl _ _).alloc (Nat.le_refl _) _
  have hR1 := hR.later hb0
  obtain ⟨c0, c1, c2, -, -⟩ := rd5 hR1.cell
  have hi0 : (0 : Int) ≤ i := by omega
  have hi1 : (i : Int) < s.size := by omega
  have hx : (s[i].toNat : Int) = 123 := by rw [bt_at hi, hc]; rfl
  have HX := Lib.hid hx
  have HR1 := Lib.hid hR1
  clear hR hR1 hx hc
  go_enter Tryz.func137, Tryz.ntmps137
  go_wp2
  go_quiet (fail)
  have Z0 := Lib.hid (heap_alloc_new w (.cells #[.int .i64 0, .int .i64 0] 134))
  have HR := Lib.hid (HR1.out.later (drewN_below (Below.refl _ _) nq))
  have HB0 : Hid (Below w.heap.size w ((w.alloc (.cells #[.int .i64 0, .int .i64 0] 134)).drewN nq)) := Lib.hid (drewN_below (by go_grown) nq)
  have Z1 : Hid (((w.alloc (.cells #[.int .i64 0, .int .i64 0] 134)).drewN nq).heap[w.heap.size]? = some (.cells #[.int .i64 0, .int .i64 0] 134)) := Lib.hid Z0.out
  have hsW : w.heap.size < ((w.alloc (.cells #[.int .i64 0, .int .i64 0] 134)).drewN nq).heap.size := by simp
  clear c0 c1 c2 HR1 Z0
  rw [HX.out]
  clear HX
  generalize World.drewN _ _ = W at *
  obtain ⟨-, -, c2, -, -⟩ := rd5 HR.out.cell
  obtain ⟨g2, -, -⟩ := rdf HR.out.cell
  have hRne : R ≠ w.heap.size := by omega
  go_wp2_with fail
  refine (HC.out _ HR.out).mono ?_
  intro e w2 he
  obtain ⟨v, rfl, hv, ht2⟩ := he.err rfl
  have HV := Lib.hid hv
  have Z2 := Lib.hid ((ht2.block w.heap.size hsW (by simp; omega)).trans Z1.out)
  have HT := Lib.hid ((Touch.of_below [R] HB0.out).trans ht2)
  clear ht2 he
  clear hv
  go_wp2_with (first
    | (refine wpList_store_row rfl 134 (.tmp 2) (.tmp 18) rfl w.heap.size #[.int .i64 0, .int .i64 0] rfl rfl 134 _ Z2.out (by kernel_rfl) rfl two_one ?_)
    | fail)
  exact bodyPost_ret (results_row_1 rfl _ _ w.heap.size 134 #[.int .i64 0, .int .i64 0] (0, 0) _ _ rfl rfl (heap_setRow Z2.out) Tryz.underlying134 rfl (by kernel_rfl)) rfl ⟨⟨_, rfl, by exact (HV.out.setRow hsW _).down (Nat.le_of_lt hsW)⟩, by exact HT.out.setRow_new (Nat.le_refl _) _⟩
/-- What times answers, by the byte at the place. -/
theorem times_braced_none (w0 : World) (A : Nat → Addr) (w : World) (R : Nat) (s : ByteArray) (hs : s.size ≤ 4294967280) (fl : Int) (i g d : Nat) (hR : RdAt w0 A w R s fl i g d) (hi : i < s.size) (hc : bt s i = 123) (hf : Ep.find (bt s) 125 (s.size - (i + 1)) (i + 1) = none) :
    Calls Tryz.prog 137 #[.pointer (some ⟨R, 0, none⟩)] w (TmEnd A R s fl i g d none 3 w) :=
  times_brace_err w0 A w R s fl i g d hR hi hc 3 fun w hR => braced_open w0 A w R s hs fl i g d hR hi hf
theorem times_braced_bad (w0 : World) (A : Nat → Addr) (w : World) (R : Nat) (s : ByteArray) (hs : s.size ≤ 4294967280) (fl : Int) (i g d : Nat) (hR : RdAt w0 A w R s fl i g d) (hi : i < s.size) (hc : bt s i = 123) (e : Nat) (hf : Ep.find (bt s) 125 (s.size - (i + 1)) (i + 1) = some e) (hn : Ep.counts (bt s) (i + 1) e = none) :
    Calls Tryz.prog 137 #[.pointer (some ⟨R, 0, none⟩)] w (TmEnd A R s fl i g d none 4 w) := by
  obtain ⟨k, rfl⟩ : ∃ k, e = i + 1 + k := ⟨e - (i + 1), by have := (Ep.find_some hf).1; omega⟩
  exact times_brace_err w0 A w R s fl i g d hR hi hc 4 fun w hR => braced_bad w0 A w R s hs fl i g d hR hi k hf hn
theorem times_braced_ok (w0 : World) (A : Nat → Addr) (w : World) (R : Nat) (s : ByteArray) (hs : s.size ≤ 4294967280) (fl : Int) (i g d : Nat) (hR : RdAt w0 A w R s fl i g d) (hi : i < s.size) (hc : bt s i = 123) (e : Nat) (hf : Ep.find (bt s) 125 (s.size - (i + 1)) (i + 1) = some e) (a b : Int) (hn : Ep.counts (bt s) (i + 1) e = some (a, b)) :
    Calls Tryz.prog 137 #[.pointer (some ⟨R, 0, none⟩)] w (TmEnd A R s fl i g d (some (a, b, e + 1)) 0 w) := by
  obtain ⟨k, rfl⟩ : ∃ k, e = i + 1 + k := ⟨e - (i + 1), by have := (Ep.find_some hf).1; omega⟩
  exact times_brace_ok w0 A w R s fl i g d hR hi hc a b _ fun w hR => braced_ok w0 A w R s hs fl i g d hR hi k hf a b hn
end Go.Proofs.YtlbhbjmobcikfaaGreatDoor
/- What package parts answers of a dot, of a plain byte, of a byte behind a backslash. -/
namespace Go.Proofs.YtlbhbjmobcikfaaGreatDoor
open Go.RowKit
theorem punct_has (n : Nat) (hn : n < 256) (b : Bool) (hb : Cl.cls 8 n = b) (w : World) :
    Calls Tryz.prog 160 #[(.agg #[.int .u64 (Oc.U (Cl.cw 8 0)), .int .u64 (Oc.U (Cl.cw 8 1)), .int .u64 (Oc.U (Cl.cw 8 2)), .int .u64 (Oc.U (Cl.cw 8 3))]), .int .u8 n] w fun e w' => e = .returned (.bool b) ∧ Below w.heap.size w w' := by
  refine (has_any (Cl.cw 8 0) (Cl.cw 8 1) (Cl.cw 8 2) (Cl.cw 8 3) n hn w).mono ?_
  rintro e w' ⟨rfl, h⟩
  refine ⟨ret_bool ?_, h⟩
  rw [← hb]
  exact Oc.mem_mk (Cl.cls 8) n hn
theorem set_cells {w : World} {b : Nat} {x0 x1 x2 x3 : Value} {t : TypeId} (h : w.heap[b]? = some (.cells #[x0, x1, x2, x3] t)) : w.cell? ⟨b, 0, none⟩ = some x0 ∧ w.cell? ⟨b, 1, none⟩ = some x1 ∧ w.cell? ⟨b, 2, none⟩ = some x2 ∧ w.cell? ⟨b, 3, none⟩ = some x3 := by
  simp [World.cell?, h]
set_option maxRecDepth 100000 in
set_option maxHeartbeats 4000000 in
theorem ptdot_no (fl : Int) (hnl : nlB fl = false) (w : World) :
    Calls Tryz.prog 121 #[.int .i64 fl] w fun e w' => e = .returned (.agg ((Ep.dot false).cells (.slice none 0 0))) ∧ Below w.heap.size w w' := by
  have hb4 := bit4 fl
  rw [hnl] at hb4
  have hb0 : Below w.heap.size w (w.alloc (.cells noNode 28)) := (Below.refl _ _).alloc (Nat.le_refl _) _
  have Z4 := Lib.hid (heap_alloc_new w (.cells noNode 28))
  have HB4 := Lib.hid hb0
  have hn := fun w => not_p (fun _ => false) w
  simp only [Oc.mk_none, u0] at hn
  have HN := Lib.hid hn
  have Z5 := Lib.hid Z4.out; have HB5 := Lib.hid HB4.out
  clear hnl hb0 hn Z4 HB4
  go_enter Tryz.func121, Tryz.ntmps121
  go_wp2_with fail
  refine (HN.out _).mono ?_
  rintro e w4 ⟨rfl, hb4'⟩
  have Z6 := Lib.hid (keep_blk hb4' Z5.out); have HB6 := Lib.hid (HB5.out.trans (hb4'.mono HB5.out.size))
  clear hb4' HB5 Z5
  go_wp2_with fail
  refine (bytes_is _ _ _ _ _).mono ?_
  rintro e w5 ⟨rfl, hb5⟩
  have Z9 := Lib.hid (keep_blk hb5 Z6.out); have HB9 := Lib.hid (HB6.out.trans (hb5.mono HB6.out.size))
  clear hb5 HB6 Z6
  go_wp2_with (first
    | (refine wpList_store_row rfl 28 (.tmp 2) (.tmp 12) rfl w.heap.size #[.int .i64 2, .int .u64 (Oc.U (Oc.mk (fun x => !false) 0)), .int .u64 (Oc.U (Oc.mk (fun x => !false) 1)), .int .u64 (Oc.U (Oc.mk (fun x => !false) 2)), .int .u64 (Oc.U (Oc.mk (fun x => !false) 3)), .slice none 0 0, .int .i64 0, .int .i64 0, .int .i64 0, .bool false] rfl rfl 28 _ Z9.out (by kernel_rfl) rfl (by simp [Value.oneCell']) ?_)
    | fail)
  exact bodyPost_ret (results_cell_row rfl _ _ w.heap.size 28 #[.int .i64 2, .int .u64 (Oc.U (Oc.mk (fun x => !false) 0)), .int .u64 (Oc.U (Oc.mk (fun x => !false) 1)), .int .u64 (Oc.U (Oc.mk (fun x => !false) 2)), .int .u64 (Oc.U (Oc.mk (fun x => !false) 3)), .slice none 0 0, .int .i64 0, .int .i64 0, .int .i64 0, .bool false] (0, 0) _ rfl (heap_setRow Z9.out) Tryz.underlying28 rfl (by kernel_rfl)) rfl ⟨rfl, below_setRow HB9.out (Nat.le_refl _) _⟩
set_option maxRecDepth 100000 in
set_option maxHeartbeats 4000000 in
theorem ptdot_nl (fl : Int) (hnl : nlB fl = true) (w : World) :
    Calls Tryz.prog 121 #[.int .i64 fl] w fun e w' => e = .returned (.agg ((Ep.dot true).cells (.slice none 0 0))) ∧ Below w.heap.size w w' := by
  have hb4 := bit4 fl
  rw [hnl] at hb4
  have hb0 : Below w.heap.size w (w.alloc (.cells noNode 28)) := (Below.refl _ _).alloc (Nat.le_refl _) _
  have Z4 := Lib.hid (heap_alloc_new w (.cells noNode 28))
  have HB4 := Lib.hid hb0
  have HN := Lib.hid (fun w => not_p (fun b => b == 10) w)
  clear hnl hb0
  go_enter Tryz.func121, Tryz.ntmps121
  go_wp2_with fail
  have hsz : (w.alloc (.cells noNode 28)).heap.size = w.heap.size + 1 := by simp
  generalize World.alloc w _ = W at *
  refine (of_p 10 (by omega) 10 rfl W (w.heap.size + 1) hsz _).mono ?_
  rintro e w3 ⟨rfl, hb3⟩
  have hbA : Below W.heap.size W w3 := ((Below.refl W.heap.size W).alloc (Nat.le_refl _) _).trans (hb3.mono (by simp))
  have Z5 := Lib.hid (keep_blk hbA Z4.out); have HB5 := Lib.hid (HB4.out.trans (hbA.mono HB4.out.size))
  clear hb3 hbA HB4 Z4
  go_wp2_with fail
  refine (HN.out _).mono ?_
  rintro e w4 ⟨rfl, hb4'⟩
  have Z6 := Lib.hid (keep_blk hb4' Z5.out); have HB6 := Lib.hid (HB5.out.trans (hb4'.mono HB5.out.size))
  clear hb4' HB5 Z5
  go_wp2_with fail
  refine (bytes_is _ _ _ _ _).mono ?_
  rintro e w5 ⟨rfl, hb5⟩
  have Z9 := Lib.hid (keep_blk hb5 Z6.out); have HB9 := Lib.hid (HB6.out.trans (hb5.mono HB6.out.size))
  clear hb5 HB6 Z6
  go_wp2_with (first
    | (refine wpList_store_row rfl 28 (.tmp 2) (.tmp 9) rfl w.heap.size #[.int .i64 2, .int .u64 (Oc.U (Oc.mk (fun x => !(x == 10)) 0)), .int .u64 (Oc.U (Oc.mk (fun x => !(x == 10)) 1)), .int .u64 (Oc.U (Oc.mk (fun x => !(x == 10)) 2)), .int .u64 (Oc.U (Oc.mk (fun x => !(x == 10)) 3)), .slice none 0 0, .int .i64 0, .int .i64 0, .int .i64 0, .bool false] rfl rfl 28 _ Z9.out (by kernel_rfl) rfl (by simp [Value.oneCell']) ?_)
    | fail)
  exact bodyPost_ret (results_cell_row rfl _ _ w.heap.size 28 #[.int .i64 2, .int .u64 (Oc.U (Oc.mk (fun x => !(x == 10)) 0)), .int .u64 (Oc.U (Oc.mk (fun x => !(x == 10)) 1)), .int .u64 (Oc.U (Oc.mk (fun x => !(x == 10)) 2)), .int .u64 (Oc.U (Oc.mk (fun x => !(x == 10)) 3)), .slice none 0 0, .int .i64 0, .int .i64 0, .int .i64 0, .bool false] (0, 0) _ rfl (heap_setRow Z9.out) Tryz.underlying28 rfl (by kernel_rfl)) rfl ⟨rfl, below_setRow HB9.out (Nat.le_refl _) _⟩
theorem ptdot_any (fl : Int) (w : World) : Calls Tryz.prog 121 #[.int .i64 fl] w fun e w' => e = .returned (.agg ((Ep.dot (nlB fl)).cells (.slice none 0 0))) ∧ Below w.heap.size w w' := by
  cases hnl : nlB fl with
  | true => exact ptdot_nl fl hnl w
  | false => exact ptdot_no fl hnl w
set_option maxRecDepth 100000 in
set_option maxHeartbeats 4000000 in
theorem ptplain_no (b : Nat) (hbb : b < 256) (fl : Int) (hic : icB fl = false) (w : World) :
    Calls Tryz.prog 100 #[.int .u8 (b : Int), .int .i64 fl] w fun e w' => e = .returned (.agg ((Ep.one false b).cells (.slice none 0 0))) ∧ Below w.heap.size w w' := by
  have hb2 := bit2 fl
  rw [hic] at hb2
  have hb0 : Below w.heap.size w (w.alloc (.cells noNode 28)) := (Below.refl _ _).alloc (Nat.le_refl _) _
  have Z4 := Lib.hid (heap_alloc_new w (.cells noNode 28))
  have HB4 := Lib.hid hb0
  clear hic hb0
  go_enter Tryz.func100, Tryz.ntmps100
  go_wp2_with fail
  have hsz : (w.alloc (.cells noNode 28)).heap.size = w.heap.size + 1 := by simp
  generalize World.alloc w _ = W at *
  refine (of_p b hbb (b : Int) rfl W (w.heap.size + 1) hsz _).mono ?_
  rintro e w3 ⟨rfl, hb3⟩
  have hbA : Below W.heap.size W (w3.alloc (.cells #[.int .u64 (Oc.U (Oc.mk (fun x => x == b) 0)), .int .u64 (Oc.U (Oc.mk (fun x => x == b) 1)), .int .u64 (Oc.U (Oc.mk (fun x => x == b) 2)), .int .u64 (Oc.U (Oc.mk (fun x => x == b) 3))] 25)) := (((Below.refl W.heap.size W).alloc (Nat.le_refl _) _).trans (hb3.mono (by simp))).alloc (by have := hb3.size; simp at this; omega) _
  have Z5 := Lib.hid (keep_blk hbA Z4.out); have HB5 := Lib.hid (HB4.out.trans (hbA.mono HB4.out.size))
  have S5 := Lib.hid (heap_alloc_new w3 (.cells #[.int .u64 (Oc.U (Oc.mk (fun x => x == b) 0)), .int .u64 (Oc.U (Oc.mk (fun x => x == b) 1)), .int .u64 (Oc.U (Oc.mk (fun x => x == b) 2)), .int .u64 (Oc.U (Oc.mk (fun x => x == b) 3))] 25))
  have hgw : w3.heap.size ≠ w.heap.size := by have := hb3.size; simp at this; omega
  have hgw' : w.heap.size ≤ w3.heap.size := by have := hb3.size; simp at this; omega
  clear hb3 hbA HB4 Z4
  have Z6 := Lib.hid Z5.out; have HB6 := Lib.hid HB5.out
  clear Z5 HB5
  go_wp2_with (first
    | (refine wpList_load_row rfl 25 (.tmp 5) rfl w3.heap.size rfl 25 _ (0, 0) _ S5.out Tryz.underlying25 rfl (by kernel_rfl) ?_)
    | fail)
  refine (bytes_is _ _ _ _ _).mono ?_
  rintro e w5 ⟨rfl, hb5⟩
  have Z9 := Lib.hid (keep_blk hb5 Z6.out); have HB9 := Lib.hid (HB6.out.trans (hb5.mono HB6.out.size))
  clear hb5 HB6 Z6
  go_wp2_with (first
    | (refine wpList_store_row rfl 28 (.tmp 4) (.tmp 15) rfl w.heap.size #[.int .i64 2, .int .u64 (Oc.U (Oc.mk (fun x => x == b) 0)), .int .u64 (Oc.U (Oc.mk (fun x => x == b) 1)), .int .u64 (Oc.U (Oc.mk (fun x => x == b) 2)), .int .u64 (Oc.U (Oc.mk (fun x => x == b) 3)), .slice none 0 0, .int .i64 0, .int .i64 0, .int .i64 0, .bool false] rfl rfl 28 _ Z9.out (by kernel_rfl) rfl (by simp [Value.oneCell']) ?_)
    | fail)
  exact bodyPost_ret (results_cell_row rfl _ _ w.heap.size 28 #[.int .i64 2, .int .u64 (Oc.U (Oc.mk (fun x => x == b) 0)), .int .u64 (Oc.U (Oc.mk (fun x => x == b) 1)), .int .u64 (Oc.U (Oc.mk (fun x => x == b) 2)), .int .u64 (Oc.U (Oc.mk (fun x => x == b) 3)), .slice none 0 0, .int .i64 0, .int .i64 0, .int .i64 0, .bool false] (0, 0) _ rfl (heap_setRow Z9.out) Tryz.underlying28 rfl (by kernel_rfl)) rfl ⟨rfl, below_setRow HB9.out (Nat.le_refl _) _⟩
set_option maxRecDepth 100000 in
set_option maxHeartbeats 4000000 in
theorem ptplain_ic (b : Nat) (hbb : b < 256) (fl : Int) (hic : icB fl = true) (w : World) :
    Calls Tryz.prog 100 #[.int .u8 (b : Int), .int .i64 fl] w fun e w' => e = .returned (.agg ((Ep.one true b).cells (.slice none 0 0))) ∧ Below w.heap.size w w' := by
  have hb2 := bit2 fl
  rw [hic] at hb2
  have hb0 : Below w.heap.size w (w.alloc (.cells noNode 28)) := (Below.refl _ _).alloc (Nat.le_refl _) _
  have Z4 := Lib.hid (heap_alloc_new w (.cells noNode 28))
  have HB4 := Lib.hid hb0
  clear hic hb0
  go_enter Tryz.func100, Tryz.ntmps100
  go_wp2_with fail
  have hsz : (w.alloc (.cells noNode 28)).heap.size = w.heap.size + 1 := by simp
  generalize World.alloc w _ = W at *
  refine (of_p b hbb (b : Int) rfl W (w.heap.size + 1) hsz _).mono ?_
  rintro e w3 ⟨rfl, hb3⟩
  have hbA : Below W.heap.size W (w3.alloc (.cells #[.int .u64 (Oc.U (Oc.mk (fun x => x == b) 0)), .int .u64 (Oc.U (Oc.mk (fun x => x == b) 1)), .int .u64 (Oc.U (Oc.mk (fun x => x == b) 2)), .int .u64 (Oc.U (Oc.mk (fun x => x == b) 3))] 25)) := (((Below.refl W.heap.size W).alloc (Nat.le_refl _) _).trans (hb3.mono (by simp))).alloc (by have := hb3.size; simp at this; omega) _
  have Z5 := Lib.hid (keep_blk hbA Z4.out); have HB5 := Lib.hid (HB4.out.trans (hbA.mono HB4.out.size))
  have S5 := Lib.hid (heap_alloc_new w3 (.cells #[.int .u64 (Oc.U (Oc.mk (fun x => x == b) 0)), .int .u64 (Oc.U (Oc.mk (fun x => x == b) 1)), .int .u64 (Oc.U (Oc.mk (fun x => x == b) 2)), .int .u64 (Oc.U (Oc.mk (fun x => x == b) 3))] 25))
  have hgw : w3.heap.size ≠ w.heap.size := by have := hb3.size; simp at this; omega
  have hgw' : w.heap.size ≤ w3.heap.size := by have := hb3.size; simp at this; omega
  clear hb3 hbA HB4 Z4
  go_wp2_with (first
    | (refine wpList_load_row rfl 25 (.tmp 5) rfl w3.heap.size rfl 25 _ (0, 0) _ S5.out Tryz.underlying25 rfl (by kernel_rfl) ?_)
    | fail)
  generalize World.alloc w3 _ = W3 at *
  refine (fold_p _ _).mono ?_
  rintro e w4 ⟨rfl, hb4⟩
  have Z6 := Lib.hid ((heap_setRow_other w4 w3.heap.size #[.int .u64 (Oc.U (Oc.mk (Cl.fold (fun x => x == b)) 0)), .int .u64 (Oc.U (Oc.mk (Cl.fold (fun x => x == b)) 1)), .int .u64 (Oc.U (Oc.mk (Cl.fold (fun x => x == b)) 2)), .int .u64 (Oc.U (Oc.mk (Cl.fold (fun x => x == b)) 3))] (Ne.symm hgw)).trans (keep_blk hb4 Z5.out))
  have S4 := Lib.hid (keep_blk hb4 S5.out)
  have S6 := Lib.hid (heap_setRow (cs := #[.int .u64 (Oc.U (Oc.mk (Cl.fold (fun x => x == b)) 0)), .int .u64 (Oc.U (Oc.mk (Cl.fold (fun x => x == b)) 1)), .int .u64 (Oc.U (Oc.mk (Cl.fold (fun x => x == b)) 2)), .int .u64 (Oc.U (Oc.mk (Cl.fold (fun x => x == b)) 3))]) (keep_blk hb4 S5.out))
  have HB6 := Lib.hid (below_setRow (HB5.out.trans (hb4.mono HB5.out.size)) hgw' #[.int .u64 (Oc.U (Oc.mk (Cl.fold (fun x => x == b)) 0)), .int .u64 (Oc.U (Oc.mk (Cl.fold (fun x => x == b)) 1)), .int .u64 (Oc.U (Oc.mk (Cl.fold (fun x => x == b)) 2)), .int .u64 (Oc.U (Oc.mk (Cl.fold (fun x => x == b)) 3))])
  clear hb4 HB5 Z5 S5
  go_wp2_with (first
    | (refine wpList_store_row rfl 25 (.tmp 5) (.tmp 13) rfl w3.heap.size #[.int .u64 (Oc.U (Oc.mk (Cl.fold (fun x => x == b)) 0)), .int .u64 (Oc.U (Oc.mk (Cl.fold (fun x => x == b)) 1)), .int .u64 (Oc.U (Oc.mk (Cl.fold (fun x => x == b)) 2)), .int .u64 (Oc.U (Oc.mk (Cl.fold (fun x => x == b)) 3))] rfl rfl 25 _ S4.out (by kernel_rfl) rfl setC_one ?_)
    | (refine wpList_load_row rfl 25 (.tmp 5) rfl w3.heap.size rfl 25 _ (0, 0) _ S6.out Tryz.underlying25 rfl (by kernel_rfl) ?_)
    | fail)
  refine (bytes_is _ _ _ _ _).mono ?_
  rintro e w5 ⟨rfl, hb5⟩
  have Z9 := Lib.hid (keep_blk hb5 Z6.out); have HB9 := Lib.hid (HB6.out.trans (hb5.mono HB6.out.size))
  clear hb5 HB6 Z6
  go_wp2_with (first
    | (refine wpList_store_row rfl 28 (.tmp 4) (.tmp 15) rfl w.heap.size #[.int .i64 2, .int .u64 (Oc.U (Oc.mk (Cl.fold (fun x => x == b)) 0)), .int .u64 (Oc.U (Oc.mk (Cl.fold (fun x => x == b)) 1)), .int .u64 (Oc.U (Oc.mk (Cl.fold (fun x => x == b)) 2)), .int .u64 (Oc.U (Oc.mk (Cl.fold (fun x => x == b)) 3)), .slice none 0 0, .int .i64 0, .int .i64 0, .int .i64 0, .bool false] rfl rfl 28 _ Z9.out (by kernel_rfl) rfl (by simp [Value.oneCell']) ?_)
    | fail)
  exact bodyPost_ret (results_cell_row rfl _ _ w.heap.size 28 #[.int .i64 2, .int .u64 (Oc.U (Oc.mk (Cl.fold (fun x => x == b)) 0)), .int .u64 (Oc.U (Oc.mk (Cl.fold (fun x => x == b)) 1)), .int .u64 (Oc.U (Oc.mk (Cl.fold (fun x => x == b)) 2)), .int .u64 (Oc.U (Oc.mk (Cl.fold (fun x => x == b)) 3)), .slice none 0 0, .int .i64 0, .int .i64 0, .int .i64 0, .bool false] (0, 0) _ rfl (heap_setRow Z9.out) Tryz.underlying28 rfl (by kernel_rfl)) rfl ⟨rfl, below_setRow HB9.out (Nat.le_refl _) _⟩
theorem ptplain_any (b : Nat) (hbb : b < 256) (fl : Int) (w : World) : Calls Tryz.prog 100 #[.int .u8 (b : Int), .int .i64 fl] w fun e w' => e = .returned (.agg ((Ep.one (icB fl) b).cells (.slice none 0 0))) ∧ Below w.heap.size w w' := by
  cases hic : icB fl with
  | true => exact ptplain_ic b hbb fl hic w
  | false => exact ptplain_no b hbb fl hic w
set_option maxRecDepth 100000 in
set_option maxHeartbeats 4000000 in
theorem ptpunct_any (n : Nat) (hn : n < 256) (b : Bool) (hb : Cl.cls 8 n = b) (w : World) :
    Calls Tryz.prog 148 #[.int .u8 (n : Int)] w fun e w' => e = .returned (.bool b) ∧ Below w.heap.size w w' := by
  have HK := Lib.hid (known 8 (by omega)).1
  have HH := Lib.hid (punct_has n hn b hb)
  clear hb
  go_enter Tryz.func148, Tryz.ntmps148
  go_wp2_with fail
  refine (HK.out _).mono ?_
  rintro e w1 ⟨rfl, hb1⟩
  have HB := Lib.hid (hb1.alloc hb1.size (.cells #[.int .u64 (Oc.U (Cl.cw 8 0)), .int .u64 (Oc.U (Cl.cw 8 1)), .int .u64 (Oc.U (Cl.cw 8 2)), .int .u64 (Oc.U (Cl.cw 8 3))] 25))
  obtain ⟨d0, d1, d2, d3⟩ := set_cells (heap_alloc_new w1 (.cells #[.int .u64 (Oc.U (Cl.cw 8 0)), .int .u64 (Oc.U (Cl.cw 8 1)), .int .u64 (Oc.U (Cl.cw 8 2)), .int .u64 (Oc.U (Cl.cw 8 3))] 25))
  clear hb1
  go_wp2_with fail
  refine (HH.out _).mono ?_
  rintro e w2 ⟨rfl, hb2⟩
  have HB2 := Lib.hid (HB.out.trans (hb2.mono HB.out.size))
  clear hb2 d0 d1 d2 d3 HB
  go_wp2
  go_ret
  exact ⟨rfl, HB2.out⟩
end Go.Proofs.YtlbhbjmobcikfaaGreatDoor
/- What the reader of extended patterns answers of plain bytes. -/
namespace Go.Proofs.YtlbhbjmobcikfaaGreatDoor
open Go.RowKit
/-- A block that was made on the way: as laid, or as stored (b). -/
def NewAt (N : Nat) (w : World) (v : Value) (b : Bool) (old new : Array Value) (ty : TypeId) : Prop := ∃ g, N ≤ g ∧ v = .pointer (some ⟨g, 0, none⟩) ∧ w.heap[g]? = some (.cells (bif b then new else old) ty)
theorem NewAt.below {N : Nat} {w w' : World} {v : Value} {b : Bool} {old new : Array Value} {ty : TypeId} (h : NewAt N w v b old new ty) (hb : Below w.heap.size w w') : NewAt N w' v b old new ty := by
  obtain ⟨g, h1, h2, h3⟩ := h; exact ⟨g, h1, h2, keep_blk hb h3⟩
theorem NewAt.before {N : Nat} {w : World} {v : Value} {b : Bool} {old new : Array Value} {ty : TypeId} (h : NewAt N w v b old new ty) (hb : b = false) : ∃ g, N ≤ g ∧ v = .pointer (some ⟨g, 0, none⟩) ∧ w.heap[g]? = some (.cells old ty) := by
  subst hb; exact h
theorem NewAt.new {N : Nat} {w : World} {b : Bool} {old new : Array Value} {ty : TypeId} (hN : N ≤ w.heap.size) (hb : b = false) : NewAt N (w.alloc (.cells old ty)) (.pointer (some ⟨w.heap.size, 0, none⟩)) b old new ty := by
  subst hb; exact ⟨_, hN, rfl, heap_alloc_new _ _⟩
theorem ErrOne.setRow_new {A : Nat → Addr} {B : Nat} {w : World} {v : Value} {c : Nat} {n : Int} (h : ErrOne A B w v c n) {g : Nat} {t : TypeId} (hz : w.heap[g]? = some (.cells #[.int .u64 0, .int .u64 0, .int .u64 0, .int .u64 0] t)) (cs : Array Value) : ErrOne A B (w.setRow g cs) v c n := by
  obtain ⟨k, p, hk, hc, hv, hp, c0, c1⟩ := h
  have hne : p ≠ g := by
    rintro rfl
    simp [World.cell?, hz] at c0
  exact ⟨k, p, hk, hc, hv, hp, (cell_setRow_other cs hne).trans c0, (cell_setRow_other cs hne).trans c1⟩
theorem One.setRow_new {w : World} {v : Value} {m : Nat} (h : One w v m) {g : Nat} {t : TypeId} (hz : w.heap[g]? = some (.cells #[.int .u64 0, .int .u64 0, .int .u64 0, .int .u64 0] t)) (cs : Array Value) : One (w.setRow g cs) v m := by
  obtain ⟨p, hv, hp⟩ := h
  have hne : p ≠ g := by
    rintro rfl
    rw [hz] at hp
    simp at hp
  exact ⟨p, hv, (heap_setRow_other _ _ _ hne).trans hp⟩
/-- What plain and dot end with. -/
def AtEnd (R : Nat) (s : ByteArray) (fl : Int) (g d : Nat) (t : Tr) (j : Nat) (w : World) (e : Ending) (w' : World) : Prop :=
  e = .returned (.agg (t.cells (.slice none 0 0))) ∧ w'.heap[R]? = some (.cells (rdC s fl j g d) 54) ∧ Touch [R] w w'
set_option maxRecDepth 100000 in
set_option maxHeartbeats 4000000 in
/-- A byte as itself. -/
theorem plain_any (w0 : World) (A : Nat → Addr) (w : World) (R : Nat) (s : ByteArray) (hs : s.size ≤ 4294967280) (fl : Int) (i g d : Nat) (hR : RdAt w0 A w R s fl i g d) (hi : i < s.size) :
    Calls Tryz.prog 136 #[.pointer (some ⟨R, 0, none⟩)] w (AtEnd R s fl g d (Ep.one (icB fl) (bt s i)) (i + 1) w) := by
  have hlt := hR.lt
  have hb0 : Below w.heap.size w (w.alloc (.cells noNode 28)) := (Below.refl _ _).alloc (Nat.le_refl _) _
  have hR1 := hR.later hb0
  have hi0 : (0 : Int) ≤ i := by omega
  have hi1 : (i : Int) < s.size := by omega
  have hx : Value.int .u8 (s[i].toNat : Int) = Value.int .u8 ((bt s i : Nat) : Int) := by rw [bt_at hi]
  have hbt : bt s i < 256 := (bt_txt s).1 i hi
  have HR1 := Lib.hid hR1
  have Z1 := Lib.hid (heap_alloc_new w (.cells noNode 28))
  have HB1 := Lib.hid hb0
  have HX := Lib.hid hx
  have hRw : R ≠ w.heap.size := by omega
  have hw : IntKind.i64.wrap ((i : Int) + 1) = (i : Int) + 1 := IntWalk.i64_in _ (by omega)
  obtain ⟨c0, -, c2, -, -⟩ := rd5 hR1.cell
  clear hR hR1 hb0 hx
  go_enter Tryz.func136, Tryz.ntmps136
  go_wp2
  go_quiet (fail)
  simp only [HX.out]
  have HR2 : Hid (RdAt w0 A ((w.alloc (.cells noNode 28)).drewN nq) R s fl i g d) := Lib.hid (HR1.out.later (drewN_below (Below.refl _ _) nq))
  have Z2 : Hid (((w.alloc (.cells noNode 28)).drewN nq).heap[w.heap.size]? = some (.cells noNode 28)) := Lib.hid Z1.out
  have HB2 : Hid (Below w.heap.size w ((w.alloc (.cells noNode 28)).drewN nq)) := Lib.hid (drewN_below HB1.out nq)
  clear hi hi0 hi1 HX c0 c2 HR1 Z1 HB1
  generalize World.drewN _ nq = W at *
  obtain ⟨-, c1, c2, -, -⟩ := rd5 HR2.out.cell
  obtain ⟨f2, -, -⟩ := rdf HR2.out.cell
  have HP := Lib.hid (rd_place HR2.out.cell (i + 1) (v := (i : Int) + 1) (by omega))
  have HT := Lib.hid ((Touch.of_below [R] HB2.out).setCell List.mem_cons_self 2 (.int .i64 ((i : Int) + 1)))
  have Z4 := Lib.hid ((Below.heap_setCell W ⟨R, 2, none⟩ (.int .i64 ((i : Int) + 1)) w.heap.size (Ne.symm hRw)).trans Z2.out)
  clear HR2 HB2 Z2
  go_wp2_with fail
  refine (ptplain_any (bt s i) hbt fl _).mono ?_
  rintro e w5 ⟨rfl, hb5⟩
  have HP5 := Lib.hid (keep_blk hb5 HP.out); have HT5 := Lib.hid (HT.out.later hb5); have Z5 := Lib.hid (keep_blk hb5 Z4.out)
  clear c1 c2 f2 hb5 HP HT Z4
  generalize Ep.one (icB fl) (bt s i) = T at *
  unfold Tr.cells
  go_wp2_with (first
    | (refine wpList_store_row rfl 28 (.tmp 2) (.tmp 25) rfl w.heap.size #[.int .i64 T.kind, .int .u64 (Oc.U T.w0), .int .u64 (Oc.U T.w1), .int .u64 (Oc.U T.w2), .int .u64 (Oc.U T.w3), .slice none 0 0, .int .i64 T.num, .int .i64 T.least, .int .i64 T.most, .bool T.bare] rfl rfl 28 _ Z5.out (by kernel_rfl) rfl (by simp [Value.oneCell']) ?_)
    | fail)
  exact bodyPost_ret (results_cell_row rfl _ _ w.heap.size 28 #[.int .i64 T.kind, .int .u64 (Oc.U T.w0), .int .u64 (Oc.U T.w1), .int .u64 (Oc.U T.w2), .int .u64 (Oc.U T.w3), .slice none 0 0, .int .i64 T.num, .int .i64 T.least, .int .i64 T.most, .bool T.bare] (0, 0) _ rfl (heap_setRow Z5.out) Tryz.underlying28 rfl (by kernel_rfl)) rfl ⟨rfl, (heap_setRow_other _ _ _ hRw).trans HP5.out, HT5.out.setRow_new (Nat.le_refl _) _⟩
end Go.Proofs.YtlbhbjmobcikfaaGreatDoor
/- What the reader of extended patterns answers of a dot. -/
namespace Go.Proofs.YtlbhbjmobcikfaaGreatDoor
open Go.RowKit
/-- A place that is stored ahead of a new block, as the walk writes it. -/
theorem place_alloc {w : World} {R : Nat} {s : ByteArray} {fl : Int} {i g d : Nat} (hr : w.heap[R]? = some (.cells (rdC s fl i g d) 54)) (j : Nat) {v : Int} (hv : v = (j : Int)) (o : Obj) :
    ((w.setCell ⟨R, 2, none⟩ (.int .i64 v)).alloc o).heap[R]? = some (.cells (rdC s fl j g d) 54) ∧ Touch [R] w ((w.setCell ⟨R, 2, none⟩ (.int .i64 v)).alloc o) ∧ ((w.setCell ⟨R, 2, none⟩ (.int .i64 v)).alloc o).heap[w.heap.size]? = some o := by
  have h1 := rd_place hr j hv
  refine ⟨heap_alloc_lt h1, ((Touch.refl [R] w).setCell List.mem_cons_self 2 _).later ((Below.refl _ _).alloc (Nat.le_refl _) _), ?_⟩
  have := heap_alloc_new (w.setCell ⟨R, 2, none⟩ (.int .i64 v)) o
  simpa using this
set_option maxRecDepth 100000 in
set_option maxHeartbeats 4000000 in
theorem dot_any (w0 : World) (A : Nat → Addr) (w : World) (R : Nat) (s : ByteArray) (hs : s.size ≤ 4294967280) (fl : Int) (i g d : Nat) (hR : RdAt w0 A w R s fl i g d) (hi : i < s.size) :
    Calls Tryz.prog 135 #[.pointer (some ⟨R, 0, none⟩)] w (AtEnd R s fl g d (Ep.dot (nlB fl)) (i + 1) w) := by
  have hlt := hR.lt
  have hb0 : Below w.heap.size w (w.alloc (.cells noNode 28)) := (Below.refl _ _).alloc (Nat.le_refl _) _
  have hR1 := hR.later hb0
  have hw : IntKind.i64.wrap ((i : Int) + 1) = (i : Int) + 1 := IntWalk.i64_in _ (by omega)
  have hRw : R ≠ w.heap.size := by omega
  obtain ⟨-, -, c2, -, -⟩ := rd5 hR1.cell
  obtain ⟨f2, -, -⟩ := rdf hR1.cell
  obtain ⟨hP, hT, hZ⟩ := place_alloc hR.cell (i + 1) (v := (i : Int) + 1) (by omega) (.cells noNode 28)
  obtain ⟨-, c1, -, -, -⟩ := rd5 hP
  have HP := Lib.hid hP; have HT := Lib.hid hT; have Z4 := Lib.hid hZ
  clear hT hZ hR hb0 hR1 hP
  go_enter Tryz.func135, Tryz.ntmps135
  go_wp2_with fail
  refine (ptdot_any fl _).mono ?_
  rintro e w5 ⟨rfl, hb5⟩
  have HP5 := Lib.hid (keep_blk hb5 HP.out); have HT5 := Lib.hid (HT.out.later hb5); have Z5 := Lib.hid (keep_blk hb5 Z4.out)
  clear c1 c2 f2 hb5 HP HT Z4
  generalize Ep.dot (nlB fl) = T at *
  unfold Tr.cells
  go_wp2_with (first
    | (refine wpList_store_row rfl 28 (.tmp 2) (.tmp 14) rfl w.heap.size #[.int .i64 T.kind, .int .u64 (Oc.U T.w0), .int .u64 (Oc.U T.w1), .int .u64 (Oc.U T.w2), .int .u64 (Oc.U T.w3), .slice none 0 0, .int .i64 T.num, .int .i64 T.least, .int .i64 T.most, .bool T.bare] rfl rfl 28 _ Z5.out (by kernel_rfl) rfl (by simp [Value.oneCell']) ?_)
    | fail)
  exact bodyPost_ret (results_cell_row rfl _ _ w.heap.size 28 #[.int .i64 T.kind, .int .u64 (Oc.U T.w0), .int .u64 (Oc.U T.w1), .int .u64 (Oc.U T.w2), .int .u64 (Oc.U T.w3), .slice none 0 0, .int .i64 T.num, .int .i64 T.least, .int .i64 T.most, .bool T.bare] (0, 0) _ rfl (heap_setRow Z5.out) Tryz.underlying28 rfl (by kernel_rfl)) rfl ⟨rfl, (heap_setRow_other _ _ _ hRw).trans HP5.out, HT5.out.setRow_new (Nat.le_refl _) _⟩
end Go.Proofs.YtlbhbjmobcikfaaGreatDoor
/- What the reader of extended patterns answers of an escape, and of a bracket expression. -/
namespace Go.Proofs.YtlbhbjmobcikfaaGreatDoor
open Go.RowKit
set_option maxRecDepth 100000 in
set_option maxHeartbeats 4000000 in
theorem escaped_end (w0 : World) (A : Nat → Addr) (w : World) (R : Nat) (s : ByteArray) (hs : s.size ≤ 4294967280) (fl : Int) (i g d : Nat) (hR : RdAt w0 A w R s fl i g d) (hi : i + 1 = s.size) :
    Calls Tryz.prog 134 #[.pointer (some ⟨R, 0, none⟩)] w (NdEnd A R s fl d (.err 8 i) w) := by
  have hlt := hR.lt
  have hb0 : Below w.heap.size w (w.alloc (.cells noNode 28)) := (Below.refl _ _).alloc (Nat.le_refl _) _
  have HR1 := Lib.hid (hR.later hb0)
  have Z1 := Lib.hid (heap_alloc_new w (.cells noNode 28))
  have HB1 := Lib.hid hb0
  have hs1 : w.heap.size < (w.alloc (.cells noNode 28)).heap.size := by simp
  have hw : IntKind.i64.wrap ((i : Int) + 1) = (i : Int) + 1 := IntWalk.i64_in _ (by omega)
  have he : ((i : Int) + 1 == (s.size : Int)) = true := by simp; omega
  have hRw : R ≠ w.heap.size := by omega
  have ce : (w.alloc (.cells noNode 28)).cell? ⟨8, 0, none⟩ = some (.iface 184 (.pointer (some (A 7)))) := (HR1.out.now.errs 7 (by omega)).1
  obtain ⟨c0, -, c2, -, -⟩ := rd5 HR1.out.cell
  clear hR hb0
  go_enter Tryz.func134, Tryz.ntmps134
  go_wp2_with fail
  generalize World.alloc _ _ = W at *
  have HR3 := Lib.hid HR1.out
  have Z3 := Lib.hid Z1.out
  have HB3 := Lib.hid HB1.out
  have hs3 := hs1
  clear HR1 Z1 HB1 hs1 c0 c2
  refine (fails_any w0 A 7 (by omega) W R s fl i g d HR3.out).mono ?_
  intro e w4 he4
  obtain ⟨v, rfl, hv, ht⟩ := he4.err rfl
  have HV := Lib.hid hv
  have Z4 := Lib.hid ((ht.block w.heap.size hs3 (by simp; omega)).trans Z3.out)
  have HT4 := Lib.hid ((Touch.of_below [R] HB3.out).trans ht)
  clear ht hv he4 ce
  go_wp2_with (first
    | (refine wpList_store_row rfl 28 (.tmp 2) (.tmp 30) rfl w.heap.size noNode rfl rfl 28 _ Z4.out (by kernel_rfl) rfl (by simp [Value.oneCell']) ?_)
    | fail)
  exact bodyPost_ret (results_row_1 rfl _ _ w.heap.size 28 noNode (0, 0) _ _ rfl rfl (heap_setRow Z4.out) Tryz.underlying28 rfl (by kernel_rfl)) rfl ⟨⟨_, rfl, by exact (HV.out.setRow hs3 noNode).down (Nat.le_of_lt hs3)⟩, by exact HT4.out.setRow_new (Nat.le_refl _) _⟩
set_option maxRecDepth 100000 in
set_option maxHeartbeats 4000000 in
theorem escaped_no (w0 : World) (A : Nat → Addr) (w : World) (R : Nat) (s : ByteArray) (hs : s.size ≤ 4294967280) (fl : Int) (i g d : Nat) (hR : RdAt w0 A w R s fl i g d) (hi : i + 1 < s.size) (hp : Cl.cls 8 (bt s (i + 1)) = false) :
    Calls Tryz.prog 134 #[.pointer (some ⟨R, 0, none⟩)] w (NdEnd A R s fl d (.err 8 i) w) := by
  have hlt := hR.lt
  have hb0 : Below w.heap.size w (w.alloc (.cells noNode 28)) := (Below.refl _ _).alloc (Nat.le_refl _) _
  have HR1 := Lib.hid (hR.later hb0)
  have Z1 := Lib.hid (heap_alloc_new w (.cells noNode 28))
  have HB1 := Lib.hid hb0
  have hs1 : w.heap.size < (w.alloc (.cells noNode 28)).heap.size := by simp
  have hw : IntKind.i64.wrap ((i : Int) + 1) = (i : Int) + 1 := IntWalk.i64_in _ (by omega)
  have he : ((i : Int) + 1 == (s.size : Int)) = false := by simp; omega
  have hRw : R ≠ w.heap.size := by omega
  have hi0 : (0 : Int) ≤ (i : Int) + 1 := by omega
  have hi1 : (i : Int) + 1 < s.size := by omega
  have hbt : bt s (i + 1) < 256 := (bt_txt s).1 _ hi
  have HPU : Hid (∀ m : Nat, m = bt s (i + 1) → ∀ w, Calls Tryz.prog 148 #[.int .u8 (m : Int)] w fun e w' => e = .returned (.bool false) ∧ Below w.heap.size w w') := Lib.hid (fun m hm => ptpunct_any m (by omega) _ (by rw [hm]; exact hp))
  clear hp
  obtain ⟨c0, -, c2, -, -⟩ := rd5 HR1.out.cell
  clear hR hb0
  go_enter Tryz.func134, Tryz.ntmps134
  go_wp2_with fail
  generalize World.alloc _ _ = W at *
  refine (HPU.out _ (bt_at hi) _).mono ?_
  rintro e w9 ⟨rfl, hb⟩
  have HR3 := Lib.hid (HR1.out.later hb)
  have Z3 := Lib.hid (keep_blk hb Z1.out)
  have HB3 := Lib.hid (HB1.out.trans (hb.mono HB1.out.size))
  have hs3 : w.heap.size < w9.heap.size := Nat.lt_of_lt_of_le hs1 hb.size
  clear hb HR1 Z1 HB1 c0 c2 hs1
  have ce : w9.cell? ⟨8, 0, none⟩ = some (.iface 184 (.pointer (some (A 7)))) := (HR3.out.now.errs 7 (by omega)).1
  go_wp2_with fail
  refine (fails_any w0 A 7 (by omega) w9 R s fl i g d HR3.out).mono ?_
  intro e w4 he4
  obtain ⟨v, rfl, hv, ht⟩ := he4.err rfl
  have HV := Lib.hid hv
  have Z4 := Lib.hid ((ht.block w.heap.size hs3 (by simp; omega)).trans Z3.out)
  have HT4 := Lib.hid ((Touch.of_below [R] HB3.out).trans ht)
  clear ht hv he4 ce
  go_wp2_with (first
    | (refine wpList_store_row rfl 28 (.tmp 2) (.tmp 30) rfl w.heap.size noNode rfl rfl 28 _ Z4.out (by kernel_rfl) rfl (by simp [Value.oneCell']) ?_)
    | fail)
  exact bodyPost_ret (results_row_1 rfl _ _ w.heap.size 28 noNode (0, 0) _ _ rfl rfl (heap_setRow Z4.out) Tryz.underlying28 rfl (by kernel_rfl)) rfl ⟨⟨_, rfl, by exact (HV.out.setRow hs3 noNode).down (Nat.le_of_lt hs3)⟩, by exact HT4.out.setRow_new (Nat.le_refl _) _⟩
set_option maxRecDepth 100000 in
set_option maxHeartbeats 4000000 in
theorem escaped_ok (w0 : World) (A : Nat → Addr) (w : World) (R : Nat) (s : ByteArray) (hs : s.size ≤ 4294967280) (fl : Int) (i g d : Nat) (hR : RdAt w0 A w R s fl i g d) (hi : i + 1 < s.size) (hp : Cl.cls 8 (bt s (i + 1)) = true) :
    Calls Tryz.prog 134 #[.pointer (some ⟨R, 0, none⟩)] w (NdEnd A R s fl d (.ok (Ep.one (icB fl) (bt s (i + 1))) (i + 2) g) w) := by
  have hlt := hR.lt
  have hb0 : Below w.heap.size w (w.alloc (.cells noNode 28)) := (Below.refl _ _).alloc (Nat.le_refl _) _
  have HR1 := Lib.hid (hR.later hb0)
  have Z1 := Lib.hid (heap_alloc_new w (.cells noNode 28))
  have HB1 := Lib.hid hb0
  have hs1 : w.heap.size < (w.alloc (.cells noNode 28)).heap.size := by simp
  have hw : IntKind.i64.wrap ((i : Int) + 1) = (i : Int) + 1 := IntWalk.i64_in _ (by omega)
  have he : ((i : Int) + 1 == (s.size : Int)) = false := by simp; omega
  have hRw : R ≠ w.heap.size := by omega
  have hi0 : (0 : Int) ≤ (i : Int) + 1 := by omega
  have hi1 : (i : Int) + 1 < s.size := by omega
  have hbt : bt s (i + 1) < 256 := (bt_txt s).1 _ hi
  have HPU : Hid (∀ m : Nat, m = bt s (i + 1) → ∀ w, Calls Tryz.prog 148 #[.int .u8 (m : Int)] w fun e w' => e = .returned (.bool true) ∧ Below w.heap.size w w') := Lib.hid (fun m hm => ptpunct_any m (by omega) _ (by rw [hm]; exact hp))
  clear hp
  obtain ⟨c0, -, c2, -, -⟩ := rd5 HR1.out.cell
  clear hR hb0
  go_enter Tryz.func134, Tryz.ntmps134
  go_wp2_with fail
  generalize World.alloc _ _ = W at *
  refine (HPU.out _ (bt_at hi) _).mono ?_
  rintro e w9 ⟨rfl, hb⟩
  have HR3 := Lib.hid (HR1.out.later hb)
  have Z3 := Lib.hid (keep_blk hb Z1.out)
  have HB3 := Lib.hid (HB1.out.trans (hb.mono HB1.out.size))
  have hs3 : w.heap.size < w9.heap.size := Nat.lt_of_lt_of_le hs1 hb.size
  clear hb HR1 Z1 HB1 c0 c2 hs1
  obtain ⟨-, -, c2, -, -⟩ := rd5 HR3.out.cell
  obtain ⟨f2, -, -⟩ := rdf HR3.out.cell
  have hP := rd_place HR3.out.cell (i + 1) (v := (i : Int) + 1) (by omega)
  have hT := (Touch.refl [R] w9).setCell List.mem_cons_self 2 (.int .i64 ((i : Int) + 1))
  have HR4 := Lib.hid (HR3.out.next hT hP)
  have Z4 := Lib.hid ((Below.heap_setCell w9 ⟨R, 2, none⟩ (.int .i64 ((i : Int) + 1)) w.heap.size (Ne.symm hRw)).trans Z3.out)
  have HT4 := Lib.hid ((Touch.of_below [R] HB3.out).trans hT)
  clear hP hT HB3 Z3 HR3
  go_wp2_with fail
  have hs4 : w.heap.size < (w9.setCell ⟨R, 2, none⟩ (.int .i64 ((i : Int) + 1))).heap.size := by simpa using hs3
  generalize World.setCell w9 _ _ = W4 at *
  refine (plain_any w0 A W4 R s hs fl (i + 1) g d HR4.out hi).mono ?_
  rintro e w5 ⟨rfl, hr5, ht5⟩
  have Z5 := Lib.hid ((ht5.block w.heap.size hs4 (by simp; omega)).trans Z4.out)
  have HT5 := Lib.hid (HT4.out.trans ht5)
  have HR5 := Lib.hid hr5
  clear ht5 hr5 c2 f2
  have HTS : Hid ((Ep.one (icB fl) (bt s (i + 1))).subs = []) := Lib.hid rfl
  generalize Ep.one (icB fl) (bt s (i + 1)) = T at *
  unfold Tr.cells
  go_wp2_with (first
    | (refine wpList_store_row rfl 28 (.tmp 2) (.tmp 37) rfl w.heap.size #[.int .i64 T.kind, .int .u64 (Oc.U T.w0), .int .u64 (Oc.U T.w1), .int .u64 (Oc.U T.w2), .int .u64 (Oc.U T.w3), .slice none 0 0, .int .i64 T.num, .int .i64 T.least, .int .i64 T.most, .bool T.bare] rfl rfl 28 _ Z5.out (by kernel_rfl) rfl (by simp [Value.oneCell']) ?_)
    | fail)
  refine bodyPost_ret (results_row_1 rfl _ _ w.heap.size 28 #[.int .i64 T.kind, .int .u64 (Oc.U T.w0), .int .u64 (Oc.U T.w1), .int .u64 (Oc.U T.w2), .int .u64 (Oc.U T.w3), .slice none 0 0, .int .i64 T.num, .int .i64 T.least, .int .i64 T.most, .bool T.bare] (0, 0) _ _ rfl rfl (heap_setRow Z5.out) Tryz.underlying28 rfl (by kernel_rfl)) rfl ⟨⟨.slice none 0 0, [], rfl, ?_, fun b hb => (by cases hb), (heap_setRow_other _ _ _ hRw).trans HR5.out⟩, HT5.out.setRow_new (Nat.le_refl _) _⟩
  rw [HTS.out]; exact .nil _ _
set_option maxRecDepth 100000 in
set_option maxHeartbeats 4000000 in
theorem bracketed_ok (w0 : World) (A : Nat → Addr) (w : World) (R : Nat) (s : ByteArray) (hs : s.size ≤ 4294967280) (fl : Int) (i g d : Nat) (hR : RdAt w0 A w R s fl i g d) (hi : bt s i = 91) (P : Nat → Bool) (j : Nat) (hw : Br.whole (bt s) s.size i (icB fl) (nlB fl) = .ok P j) :
    Calls Tryz.prog 133 #[.pointer (some ⟨R, 0, none⟩)] w (NdEnd A R s fl d (.ok (.bytes P) j g) w) := by
  have hlt := hR.lt
  have hb0 : Below w.heap.size w (w.alloc (.cells noNode 28)) := (Below.refl _ _).alloc (Nat.le_refl _) _
  have HR1 := Lib.hid (hR.later hb0)
  have Z1 := Lib.hid (heap_alloc_new w (.cells noNode 28))
  have HB1 := Lib.hid hb0
  have hs1 : w.heap.size < (w.alloc (.cells noNode 28)).heap.size := by simp
  have HC := Lib.hid (fun w hE => whole_does A s hs i hi fl w hE)
  rw [hw] at HC
  clear hR hb0 hw hi
  go_enter Tryz.func133, Tryz.ntmps133
  go_wp2_with fail
  generalize World.alloc _ _ = W at *
  refine Ri.wp_region_frame (by kernel_rfl) (by kernel_rfl) (by kernel_rfl) (by kernel_rfl)
    (fun L v w' => Below W.heap.size W w' ∧ (L 18 = true → L 17 = true) ∧ (L 0 = true → v 0 = .pointer (some ⟨R, 0, none⟩)) ∧ (L 1 = true → v 1 = .pointer (some ⟨R, 0, none⟩)) ∧ (L 2 = true → v 2 = .pointer (some ⟨R, 0, none⟩)) ∧ (L 3 = true → v 3 = .string s) ∧ (L 4 = true → v 4 = .pointer (some ⟨R, 0, none⟩)) ∧ (L 5 = true → v 5 = .pointer (some ⟨R, 0, none⟩)) ∧ (L 6 = true → v 6 = .pointer (some ⟨R, 2, none⟩)) ∧ (L 7 = true → v 7 = .int .i64 i) ∧ (L 8 = true → v 8 = .pointer (some ⟨R, 0, none⟩)) ∧ (L 9 = true → v 9 = .pointer (some ⟨R, 0, none⟩)) ∧ (L 10 = true → v 10 = .pointer (some ⟨R, 1, none⟩)) ∧ (L 11 = true → v 11 = .int .i64 fl) ∧ (L 12 = true → v 12 = .tuple #[.agg #[.int .u64 (Oc.U (Oc.mk (P) 0)), .int .u64 (Oc.U (Oc.mk (P) 1)), .int .u64 (Oc.U (Oc.mk (P) 2)), .int .u64 (Oc.U (Oc.mk (P) 3))], .int .i64 j, .nilIface]) ∧ (L 13 = true → v 13 = .tuple #[.agg #[.int .u64 (Oc.U (Oc.mk (P) 0)), .int .u64 (Oc.U (Oc.mk (P) 1)), .int .u64 (Oc.U (Oc.mk (P) 2)), .int .u64 (Oc.U (Oc.mk (P) 3))], .int .i64 j, .nilIface]) ∧ (L 14 = true → v 14 = .agg #[.int .u64 (Oc.U (Oc.mk (P) 0)), .int .u64 (Oc.U (Oc.mk (P) 1)), .int .u64 (Oc.U (Oc.mk (P) 2)), .int .u64 (Oc.U (Oc.mk (P) 3))]) ∧ (L 15 = true → v 15 = .int .i64 j) ∧ (L 16 = true → v 16 = .nilIface) ∧ (L 17 = true → NewAt W.heap.size w' (v 17) (L 18) #[.int .u64 0, .int .u64 0, .int .u64 0, .int .u64 0] #[.int .u64 (Oc.U (Oc.mk (P) 0)), .int .u64 (Oc.U (Oc.mk (P) 1)), .int .u64 (Oc.U (Oc.mk (P) 2)), .int .u64 (Oc.U (Oc.mk (P) 3))] 25) ∧ (L 19 = true → v 19 = .int .i64 j) ∧ (L 20 = true → v 20 = .nilIface))
    ?_ ?_ ?_
  · exact ⟨(Below.refl _ _).drew, by simp, by simp, by simp, by simp, by simp, by simp, by simp, by simp, by simp, by simp, by simp, by simp, by simp, by simp, by simp, by simp, by simp, by simp, by simp, by simp, by simp⟩
  · intro i hi9 L v w9 xa hI hL hd hv ho
    have hi' : i = 0 ∨ i = 1 ∨ i = 2 ∨ i = 3 ∨ i = 4 ∨ i = 5 ∨ i = 6 ∨ i = 7 ∨ i = 8 ∨ i = 9 ∨ i = 10 ∨ i = 11 ∨ i = 12 ∨ i = 13 ∨ i = 14 ∨ i = 15 ∨ i = 16 ∨ i = 17 ∨ i = 18 ∨ i = 19 ∨ i = 20 := by simp at hi9; omega
    obtain ⟨hb, qd, q0, q1, q2, q3, q4, q5, q6, q7, q8, q9, q10, q11, q12, q13, q14, q15, q16, q17, q19, q20⟩ := hI
    rcases hi' with rfl | rfl | rfl | rfl | rfl | rfl | rfl | rfl | rfl | rfl | rfl | rfl | rfl | rfl | rfl | rfl | rfl | rfl | rfl | rfl | rfl
    · have e0 : xa.tmps.getD 0 undef = .pointer (some ⟨R, 0, none⟩) := ho 0 (by kernel_rfl)
      refine Ri.step_plain rfl rfl (fun K' hK => ?_)
      go_simp
      exact hK _ _ ⟨_, _, rfl, rfl, hb, qd, fun _ => rfl, q1, q2, q3, q4, q5, q6, q7, q8, q9, q10, q11, q12, q13, q14, q15, q16, q17, q19, q20⟩
    · have l0 : L 0 = true := by have := hd _ rfl; simp [Region.binds] at this; simp [this]
      have f0 := (hv 0 8 rfl l0).trans (q0 l0)
      refine Ri.step_plain rfl rfl (fun K' hK => ?_)
      go_simp
      exact hK _ _ ⟨_, _, rfl, rfl, hb, qd, q0, fun _ => rfl, q2, q3, q4, q5, q6, q7, q8, q9, q10, q11, q12, q13, q14, q15, q16, q17, q19, q20⟩
    · have l0 : L 1 = true := by have := hd _ rfl; simp [Region.binds] at this; simp [this]
      have f1 := (hv 1 9 rfl l0).trans (q1 l0)
      refine Ri.step_plain rfl rfl (fun K' hK => ?_)
      go_simp
      exact hK _ _ ⟨_, _, rfl, rfl, hb, qd, q0, q1, fun _ => rfl, q3, q4, q5, q6, q7, q8, q9, q10, q11, q12, q13, q14, q15, q16, q17, q19, q20⟩
    · have l0 : L 2 = true := by have := hd _ rfl; simp [Region.binds] at this; simp [this]
      have f2 := (hv 2 10 rfl l0).trans (q2 l0)
      refine Ri.step_plain rfl rfl (fun K' hK => ?_)
      obtain ⟨k0, _⟩ := rd5 (keep_blk hb HR1.out.cell)
      go_simp
      exact hK _ _ ⟨_, _, rfl, rfl, hb, qd, q0, q1, q2, fun _ => rfl, q4, q5, q6, q7, q8, q9, q10, q11, q12, q13, q14, q15, q16, q17, q19, q20⟩
    · have e0 : xa.tmps.getD 0 undef = .pointer (some ⟨R, 0, none⟩) := ho 0 (by kernel_rfl)
      refine Ri.step_plain rfl rfl (fun K' hK => ?_)
      go_simp
      exact hK _ _ ⟨_, _, rfl, rfl, hb, qd, q0, q1, q2, q3, fun _ => rfl, q5, q6, q7, q8, q9, q10, q11, q12, q13, q14, q15, q16, q17, q19, q20⟩
    · have l0 : L 4 = true := by have := hd _ rfl; simp [Region.binds] at this; simp [this]
      have f4 := (hv 4 12 rfl l0).trans (q4 l0)
      refine Ri.step_plain rfl rfl (fun K' hK => ?_)
      go_simp
      exact hK _ _ ⟨_, _, rfl, rfl, hb, qd, q0, q1, q2, q3, q4, fun _ => rfl, q6, q7, q8, q9, q10, q11, q12, q13, q14, q15, q16, q17, q19, q20⟩
    · have l0 : L 5 = true := by have := hd _ rfl; simp [Region.binds] at this; simp [this]
      have f5 := (hv 5 13 rfl l0).trans (q5 l0)
      refine Ri.step_plain rfl rfl (fun K' hK => ?_)
      go_simp
      exact hK _ _ ⟨_, _, rfl, rfl, hb, qd, q0, q1, q2, q3, q4, q5, fun _ => rfl, q7, q8, q9, q10, q11, q12, q13, q14, q15, q16, q17, q19, q20⟩
    · have l0 : L 6 = true := by have := hd _ rfl; simp [Region.binds] at this; simp [this]
      have f6 := (hv 6 14 rfl l0).trans (q6 l0)
      refine Ri.step_plain rfl rfl (fun K' hK => ?_)
      obtain ⟨_, _, k2, _, _⟩ := rd5 (keep_blk hb HR1.out.cell)
      go_simp
      exact hK _ _ ⟨_, _, rfl, rfl, hb, qd, q0, q1, q2, q3, q4, q5, q6, fun _ => rfl, q8, q9, q10, q11, q12, q13, q14, q15, q16, q17, q19, q20⟩
    · have e0 : xa.tmps.getD 0 undef = .pointer (some ⟨R, 0, none⟩) := ho 0 (by kernel_rfl)
      refine Ri.step_plain rfl rfl (fun K' hK => ?_)
      go_simp
      exact hK _ _ ⟨_, _, rfl, rfl, hb, qd, q0, q1, q2, q3, q4, q5, q6, q7, fun _ => rfl, q9, q10, q11, q12, q13, q14, q15, q16, q17, q19, q20⟩
    · have l0 : L 8 = true := by have := hd _ rfl; simp [Region.binds] at this; simp [this]
      have f8 := (hv 8 16 rfl l0).trans (q8 l0)
      refine Ri.step_plain rfl rfl (fun K' hK => ?_)
      go_simp
      exact hK _ _ ⟨_, _, rfl, rfl, hb, qd, q0, q1, q2, q3, q4, q5, q6, q7, q8, fun _ => rfl, q10, q11, q12, q13, q14, q15, q16, q17, q19, q20⟩
    · have l0 : L 9 = true := by have := hd _ rfl; simp [Region.binds] at this; simp [this]
      have f9 := (hv 9 17 rfl l0).trans (q9 l0)
      refine Ri.step_plain rfl rfl (fun K' hK => ?_)
      go_simp
      exact hK _ _ ⟨_, _, rfl, rfl, hb, qd, q0, q1, q2, q3, q4, q5, q6, q7, q8, q9, fun _ => rfl, q11, q12, q13, q14, q15, q16, q17, q19, q20⟩
    · have l0 : L 10 = true := by have := hd _ rfl; simp [Region.binds] at this; simp [this]
      have f10 := (hv 10 18 rfl l0).trans (q10 l0)
      refine Ri.step_plain rfl rfl (fun K' hK => ?_)
      obtain ⟨_, k1, _, _, _⟩ := rd5 (keep_blk hb HR1.out.cell)
      go_simp
      exact hK _ _ ⟨_, _, rfl, rfl, hb, qd, q0, q1, q2, q3, q4, q5, q6, q7, q8, q9, q10, fun _ => rfl, q12, q13, q14, q15, q16, q17, q19, q20⟩
    · have l0 : L 3 = true ∧ L 7 = true ∧ L 11 = true := by have := hd _ rfl; simp [Region.binds] at this; simp [this]
      have f3 := (hv 3 11 rfl l0.1).trans (q3 l0.1)
      have f7 := (hv 7 15 rfl l0.2.1).trans (q7 l0.2.1)
      have f11 := (hv 11 19 rfl l0.2.2).trans (q11 l0.2.2)
      refine Ri.step_plain rfl rfl (fun K' hK => ?_)
      go_simp
      refine (HC.out _ ((HR1.out.now).below hb)).mono ?_
      rintro e w8 ⟨rfl, hb8⟩
      exact hK _ _ ⟨_, _, rfl, rfl, hb.trans (hb8.mono hb.size), qd, q0, q1, q2, q3, q4, q5, q6, q7, q8, q9, q10, q11, fun _ => rfl, q13, q14, q15, q16, (fun l => (q17 l).below hb8), q19, q20⟩
    · have l0 : L 12 = true := by have := hd _ rfl; simp [Region.binds] at this; simp [this]
      have f12 := (hv 12 20 rfl l0).trans (q12 l0)
      refine Ri.step_plain rfl rfl (fun K' hK => ?_)
      go_simp
      exact hK _ _ ⟨_, _, rfl, rfl, hb, qd, q0, q1, q2, q3, q4, q5, q6, q7, q8, q9, q10, q11, q12, fun _ => rfl, q14, q15, q16, q17, q19, q20⟩
    · have l0 : L 13 = true := by have := hd _ rfl; simp [Region.binds] at this; simp [this]
      have f13 := (hv 13 7 rfl l0).trans (q13 l0)
      refine Ri.step_plain rfl rfl (fun K' hK => ?_)
      go_simp
      exact hK _ _ ⟨_, _, rfl, rfl, hb, qd, q0, q1, q2, q3, q4, q5, q6, q7, q8, q9, q10, q11, q12, q13, fun _ => rfl, q15, q16, q17, q19, q20⟩
    · have l0 : L 13 = true := by have := hd _ rfl; simp [Region.binds] at this; simp [this]
      have f13 := (hv 13 7 rfl l0).trans (q13 l0)
      refine Ri.step_plain rfl rfl (fun K' hK => ?_)
      go_simp
      exact hK _ _ ⟨_, _, rfl, rfl, hb, qd, q0, q1, q2, q3, q4, q5, q6, q7, q8, q9, q10, q11, q12, q13, q14, fun _ => rfl, q16, q17, q19, q20⟩
    · have l0 : L 13 = true := by have := hd _ rfl; simp [Region.binds] at this; simp [this]
      have f13 := (hv 13 7 rfl l0).trans (q13 l0)
      refine Ri.step_plain rfl rfl (fun K' hK => ?_)
      go_simp
      exact hK _ _ ⟨_, _, rfl, rfl, hb, qd, q0, q1, q2, q3, q4, q5, q6, q7, q8, q9, q10, q11, q12, q13, q14, q15, fun _ => rfl, q17, q19, q20⟩
    · refine Ri.step_plain rfl rfl (fun K' hK => ?_)
      have hl9 : L 18 = false := by cases h : L 18 with | false => rfl | true => rw [qd h] at hL; cases hL
      go_simp
      exact hK _ _ ⟨_, _, rfl, rfl, hb.alloc hb.size _, (fun l => rfl), q0, q1, q2, q3, q4, q5, q6, q7, q8, q9, q10, q11, q12, q13, q14, q15, q16, (fun _ => NewAt.new hb.size hl9), q19, q20⟩
    · have l0 : L 17 = true ∧ L 14 = true := by have := hd _ rfl; simp [Region.binds] at this; simp [this]
      have f17 := hv 17 4 rfl l0.1
      have f14 := (hv 14 21 rfl l0.2).trans (q14 l0.2)
      refine Ri.step_plain rfl rfl (fun K' hK => ?_)
      obtain ⟨g9, hg9, hv9, hzg⟩ := (q17 l0.1).before hL
      refine wp_store_row _ _ _ rfl g9 #[.int .u64 (Oc.U (Oc.mk (P) 0)), .int .u64 (Oc.U (Oc.mk (P) 1)), .int .u64 (Oc.U (Oc.mk (P) 2)), .int .u64 (Oc.U (Oc.mk (P) 3))] (f17.trans hv9) f14 25 _ hzg (by kernel_rfl) (by kernel_rfl) setC_one ?_
      exact hK _ _ ⟨_, undef, rfl, rfl, below_setRow hb hg9 _, (fun _ => l0.1), q0, q1, q2, q3, q4, q5, q6, q7, q8, q9, q10, q11, q12, q13, q14, q15, q16, (fun _ => ⟨g9, hg9, hv9, heap_setRow hzg⟩), q19, q20⟩
    · have l0 : L 15 = true := by have := hd _ rfl; simp [Region.binds] at this; simp [this]
      have f15 := (hv 15 22 rfl l0).trans (q15 l0)
      refine Ri.step_plain rfl rfl (fun K' hK => ?_)
      go_simp
      exact hK _ _ ⟨_, _, rfl, rfl, hb, qd, q0, q1, q2, q3, q4, q5, q6, q7, q8, q9, q10, q11, q12, q13, q14, q15, q16, q17, fun _ => rfl, q20⟩
    · have l0 : L 16 = true := by have := hd _ rfl; simp [Region.binds] at this; simp [this]
      have f16 := (hv 16 23 rfl l0).trans (q16 l0)
      refine Ri.step_plain rfl rfl (fun K' hK => ?_)
      go_simp
      exact hK _ _ ⟨_, _, rfl, rfl, hb, qd, q0, q1, q2, q3, q4, q5, q6, q7, q8, q9, q10, q11, q12, q13, q14, q15, q16, q17, q19, fun _ => rfl⟩
  · rintro v w9 ⟨hb, -, -, -, -, -, -, -, -, -, -, -, -, -, -, -, -, -, -, q17, q19, q20⟩
    obtain ⟨g9, hg9, q17', hz9⟩ := q17 rfl
    have ZG := Lib.hid hz9
    have q19' : v 19 = .int .i64 j := q19 rfl
    have q20' : v 20 = .nilIface := q20 rfl
    simp only [Ri.frame, List.zipIdx, List.foldl_cons, List.foldl_nil, if_true, List.setIfInBounds_toArray, List.set_cons_zero, List.set_cons_succ, Nat.reduceAdd, q19', q20', q17']
    clear q19 q19' q20 q20' q17 q17' hz9
    generalize v 0 = y0; generalize v 1 = y1; generalize v 2 = y2; generalize v 3 = y3; generalize v 4 = y4; generalize v 5 = y5; generalize v 6 = y6; generalize v 7 = y7; generalize v 8 = y8; generalize v 9 = y9; generalize v 10 = y10; generalize v 11 = y11; generalize v 12 = y12; generalize v 13 = y13; generalize v 14 = y14; generalize v 15 = y15; generalize v 16 = y16
    have HR2 := Lib.hid (HR1.out.later hb)
    have Z2 := Lib.hid (keep_blk hb Z1.out)
    have HB := Lib.hid (HB1.out.trans (hb.mono HB1.out.size))
    have hgR : g9 ≠ R := by have := HR1.out.lt; omega
    have hgw : g9 ≠ w.heap.size := by omega
    have hRw : R ≠ w.heap.size := by omega
    clear hb Z1 HB1 HR1
    obtain ⟨-, -, c2, -, -⟩ := rd5 HR2.out.cell
    obtain ⟨f2, -, -⟩ := rdf HR2.out.cell
    have HP := Lib.hid (rd_place HR2.out.cell j (v := (j : Int)) rfl)
    have HT := Lib.hid (((Touch.of_below [R] HB.out).setCell List.mem_cons_self 2 (.int .i64 (j : Int))))
    have G3 := Lib.hid (fun v => (Below.heap_setCell w9 ⟨R, 2, none⟩ v g9 hgR).trans ZG.out)
    have Z4 := Lib.hid (fun v => (Below.heap_setCell w9 ⟨R, 2, none⟩ v w.heap.size (Ne.symm hRw)).trans Z2.out)
    clear HR2 HB ZG Z2
    go_wp2_with (first
      | (refine wpList_load_row rfl 25 (.tmp 4) rfl g9 rfl 25 _ (0, 0) _ (G3.out _) Tryz.underlying25 rfl (by kernel_rfl) ?_)
      | fail)
    refine (bytes_is _ _ _ _ _).mono ?_
    rintro e w5 ⟨rfl, hb5⟩
    have Z5 := Lib.hid (keep_blk hb5 (Z4.out _))
    have HP5 := Lib.hid (keep_blk hb5 HP.out)
    have HT5 := Lib.hid (HT.out.later hb5)
    clear c2 f2 hb5 Z4 HP HT
    go_wp2_with (first
      | (refine wpList_store_row rfl 28 (.tmp 2) (.tmp 33) rfl w.heap.size #[.int .i64 2, .int .u64 (Oc.U (Oc.mk (P) 0)), .int .u64 (Oc.U (Oc.mk (P) 1)), .int .u64 (Oc.U (Oc.mk (P) 2)), .int .u64 (Oc.U (Oc.mk (P) 3)), .slice none 0 0, .int .i64 0, .int .i64 0, .int .i64 0, .bool false] rfl rfl 28 _ Z5.out (by kernel_rfl) rfl (by simp [Value.oneCell']) ?_)
      | fail)
    exact bodyPost_ret (results_row_1 rfl _ _ w.heap.size 28 #[.int .i64 2, .int .u64 (Oc.U (Oc.mk (P) 0)), .int .u64 (Oc.U (Oc.mk (P) 1)), .int .u64 (Oc.U (Oc.mk (P) 2)), .int .u64 (Oc.U (Oc.mk (P) 3)), .slice none 0 0, .int .i64 0, .int .i64 0, .int .i64 0, .bool false] (0, 0) _ _ rfl rfl (heap_setRow Z5.out) Tryz.underlying28 rfl (by kernel_rfl)) rfl ⟨⟨.slice none 0 0, [], rfl, .nil _ _, fun b hb => (by cases hb), (heap_setRow_other _ _ _ hRw).trans HP5.out⟩, HT5.out.setRow_new (Nat.le_refl _) _⟩
set_option maxRecDepth 100000 in
set_option maxHeartbeats 4000000 in
theorem bracketed_err (w0 : World) (A : Nat → Addr) (w : World) (R : Nat) (s : ByteArray) (hs : s.size ≤ 4294967280) (fl : Int) (i g d : Nat) (hR : RdAt w0 A w R s fl i g d) (hi : bt s i = 91) (c : Nat) (q : Int) (hw : Br.whole (bt s) s.size i (icB fl) (nlB fl) = .err c q) :
    Calls Tryz.prog 133 #[.pointer (some ⟨R, 0, none⟩)] w (NdEnd A R s fl d (.err c q) w) := by
  have hlt := hR.lt
  have hb0 : Below w.heap.size w (w.alloc (.cells noNode 28)) := (Below.refl _ _).alloc (Nat.le_refl _) _
  have HR1 := Lib.hid (hR.later hb0)
  have Z1 := Lib.hid (heap_alloc_new w (.cells noNode 28))
  have HB1 := Lib.hid hb0
  have hs1 : w.heap.size < (w.alloc (.cells noNode 28)).heap.size := by simp
  have HC := Lib.hid (fun w hE => whole_does A s hs i hi fl w hE)
  rw [hw] at HC
  clear hR hb0 hw hi
  go_enter Tryz.func133, Tryz.ntmps133
  go_wp2_with fail
  generalize World.alloc _ _ = W at *
  refine Ri.wp_region_frame (by kernel_rfl) (by kernel_rfl) (by kernel_rfl) (by kernel_rfl)
    (fun L v w' => Below W.heap.size W w' ∧ (L 18 = true → L 17 = true) ∧ (L 0 = true → v 0 = .pointer (some ⟨R, 0, none⟩)) ∧ (L 1 = true → v 1 = .pointer (some ⟨R, 0, none⟩)) ∧ (L 2 = true → v 2 = .pointer (some ⟨R, 0, none⟩)) ∧ (L 3 = true → v 3 = .string s) ∧ (L 4 = true → v 4 = .pointer (some ⟨R, 0, none⟩)) ∧ (L 5 = true → v 5 = .pointer (some ⟨R, 0, none⟩)) ∧ (L 6 = true → v 6 = .pointer (some ⟨R, 2, none⟩)) ∧ (L 7 = true → v 7 = .int .i64 i) ∧ (L 8 = true → v 8 = .pointer (some ⟨R, 0, none⟩)) ∧ (L 9 = true → v 9 = .pointer (some ⟨R, 0, none⟩)) ∧ (L 10 = true → v 10 = .pointer (some ⟨R, 1, none⟩)) ∧ (L 11 = true → v 11 = .int .i64 fl) ∧ (L 12 = true → (∃ u, (v 12) = .tuple #[.agg #[.int .u64 0, .int .u64 0, .int .u64 0, .int .u64 0], .int .i64 0, u] ∧ ErrOne A W.heap.size w' u c q)) ∧ (L 13 = true → (∃ u, (v 13) = .tuple #[.agg #[.int .u64 0, .int .u64 0, .int .u64 0, .int .u64 0], .int .i64 0, u] ∧ ErrOne A W.heap.size w' u c q)) ∧ (L 14 = true → v 14 = .agg #[.int .u64 0, .int .u64 0, .int .u64 0, .int .u64 0]) ∧ (L 15 = true → v 15 = .int .i64 0) ∧ (L 16 = true → ErrOne A W.heap.size w' (v 16) c q) ∧ (L 17 = true → NewAt W.heap.size w' (v 17) (L 18) #[.int .u64 0, .int .u64 0, .int .u64 0, .int .u64 0] #[.int .u64 0, .int .u64 0, .int .u64 0, .int .u64 0] 25) ∧ (L 19 = true → v 19 = .int .i64 0) ∧ (L 20 = true → ErrOne A W.heap.size w' (v 20) c q))
    ?_ ?_ ?_
  · exact ⟨(Below.refl _ _).drew, by simp, by simp, by simp, by simp, by simp, by simp, by simp, by simp, by simp, by simp, by simp, by simp, by simp, by simp, by simp, by simp, by simp, by simp, by simp, by simp, by simp⟩
  · intro i hi9 L v w9 xa hI hL hd hv ho
    have hi' : i = 0 ∨ i = 1 ∨ i = 2 ∨ i = 3 ∨ i = 4 ∨ i = 5 ∨ i = 6 ∨ i = 7 ∨ i = 8 ∨ i = 9 ∨ i = 10 ∨ i = 11 ∨ i = 12 ∨ i = 13 ∨ i = 14 ∨ i = 15 ∨ i = 16 ∨ i = 17 ∨ i = 18 ∨ i = 19 ∨ i = 20 := by simp at hi9; omega
    obtain ⟨hb, qd, q0, q1, q2, q3, q4, q5, q6, q7, q8, q9, q10, q11, q12, q13, q14, q15, q16, q17, q19, q20⟩ := hI
    rcases hi' with rfl | rfl | rfl | rfl | rfl | rfl | rfl | rfl | rfl | rfl | rfl | rfl | rfl | rfl | rfl | rfl | rfl | rfl | rfl | rfl | rfl
    · have e0 : xa.tmps.getD 0 undef = .pointer (some ⟨R, 0, none⟩) := ho 0 (by kernel_rfl)
      refine Ri.step_plain rfl rfl (fun K' hK => ?_)
      go_simp
      exact hK _ _ ⟨_, _, rfl, rfl, hb, qd, fun _ => rfl, q1, q2, q3, q4, q5, q6, q7, q8, q9, q10, q11, q12, q13, q14, q15, q16, q17, q19, q20⟩
    · have l0 : L 0 = true := by have := hd _ rfl; simp [Region.binds] at this; simp [this]
      have f0 := (hv 0 8 rfl l0).trans (q0 l0)
      refine Ri.step_plain rfl rfl (fun K' hK => ?_)
      go_simp
      exact hK _ _ ⟨_, _, rfl, rfl, hb, qd, q0, fun _ => rfl, q2, q3, q4, q5, q6, q7, q8, q9, q10, q11, q12, q13, q14, q15, q16, q17, q19, q20⟩
    · have l0 : L 1 = true := by have := hd _ rfl; simp [Region.binds] at this; simp [this]
      have f1 := (hv 1 9 rfl l0).trans (q1 l0)
      refine Ri.step_plain rfl rfl (fun K' hK => ?_)
      go_simp
      exact hK _ _ ⟨_, _, rfl, rfl, hb, qd, q0, q1, fun _ => rfl, q3, q4, q5, q6, q7, q8, q9, q10, q11, q12, q13, q14, q15, q16, q17, q19, q20⟩
    · have l0 : L 2 = true := by have := hd _ rfl; simp [Region.binds] at this; simp [this]
      have f2 := (hv 2 10 rfl l0).trans (q2 l0)
      refine Ri.step_plain rfl rfl (fun K' hK => ?_)
      obtain ⟨k0, _⟩ := rd5 (keep_blk hb HR1.out.cell)
      go_simp
      exact hK _ _ ⟨_, _, rfl, rfl, hb, qd, q0, q1, q2, fun _ => rfl, q4, q5, q6, q7, q8, q9, q10, q11, q12, q13, q14, q15, q16, q17, q19, q20⟩
    · have e0 : xa.tmps.getD 0 undef = .pointer (some ⟨R, 0, none⟩) := ho 0 (by kernel_rfl)
      refine Ri.step_plain rfl rfl (fun K' hK => ?_)
      go_simp
      exact hK _ _ ⟨_, _, rfl, rfl, hb, qd, q0, q1, q2, q3, fun _ => rfl, q5, q6, q7, q8, q9, q10, q11, q12, q13, q14, q15, q16, q17, q19, q20⟩
    · have l0 : L 4 = true := by have := hd _ rfl; simp [Region.binds] at this; simp [this]
      have f4 := (hv 4 12 rfl l0).trans (q4 l0)
      refine Ri.step_plain rfl rfl (fun K' hK => ?_)
      go_simp
      exact hK _ _ ⟨_, _, rfl, rfl, hb, qd, q0, q1, q2, q3, q4, fun _ => rfl, q6, q7, q8, q9, q10, q11, q12, q13, q14, q15, q16, q17, q19, q20⟩
    · have l0 : L 5 = true := by have := hd _ rfl; simp [Region.binds] at this; simp [this]
      have f5 := (hv 5 13 rfl l0).trans (q5 l0)
      refine Ri.step_plain rfl rfl (fun K' hK => ?_)
      go_simp
      exact hK _ _ ⟨_, _, rfl, rfl, hb, qd, q0, q1, q2, q3, q4, q5, fun _ => rfl, q7, q8, q9, q10, q11, q12, q13, q14, q15, q16, q17, q19, q20⟩
    · have l0 : L 6 = true := by have := hd _ rfl; simp [Region.binds] at this; simp [this]
      have f6 := (hv 6 14 rfl l0).trans (q6 l0)
      refine Ri.step_plain rfl rfl (fun K' hK => ?_)
      obtain ⟨_, _, k2, _, _⟩ := rd5 (keep_blk hb HR1.out.cell)
      go_simp
      exact hK _ _ ⟨_, _, rfl, rfl, hb, qd, q0, q1, q2, q3, q4, q5, q6, fun _ => rfl, q8, q9, q10, q11, q12, q13, q14, q15, q16, q17, q19, q20⟩
    · have e0 : xa.tmps.getD 0 undef = .pointer (some ⟨R, 0, none⟩) := ho 0 (by kernel_rfl)
      refine Ri.step_plain rfl rfl (fun K' hK => ?_)
      go_simp
      exact hK _ _ ⟨_, _, rfl, rfl, hb, qd, q0, q1, q2, q3, q4, q5, q6, q7, fun _ => rfl, q9, q10, q11, q12, q13, q14, q15, q16, q17, q19, q20⟩
    · have l0 : L 8 = true := by have := hd _ rfl; simp [Region.binds] at this; simp [this]
      have f8 := (hv 8 16 rfl l0).trans (q8 l0)
      refine Ri.step_plain rfl rfl (fun K' hK => ?_)
      go_simp
      exact hK _ _ ⟨_, _, rfl, rfl, hb, qd, q0, q1, q2, q3, q4, q5, q6, q7, q8, fun _ => rfl, q10, q11, q12, q13, q14, q15, q16, q17, q19, q20⟩
    · have l0 : L 9 = true := by have := hd _ rfl; simp [Region.binds] at this; simp [this]
      have f9 := (hv 9 17 rfl l0).trans (q9 l0)
      refine Ri.step_plain rfl rfl (fun K' hK => ?_)
      go_simp
      exact hK _ _ ⟨_, _, rfl, rfl, hb, qd, q0, q1, q2, q3, q4, q5, q6, q7, q8, q9, fun _ => rfl, q11, q12, q13, q14, q15, q16, q17, q19, q20⟩
    · have l0 : L 10 = true := by have := hd _ rfl; simp [Region.binds] at this; simp [this]
      have f10 := (hv 10 18 rfl l0).trans (q10 l0)
      refine Ri.step_plain rfl rfl (fun K' hK => ?_)
      obtain ⟨_, k1, _, _, _⟩ := rd5 (keep_blk hb HR1.out.cell)
      go_simp
      exact hK _ _ ⟨_, _, rfl, rfl, hb, qd, q0, q1, q2, q3, q4, q5, q6, q7, q8, q9, q10, fun _ => rfl, q12, q13, q14, q15, q16, q17, q19, q20⟩
    · have l0 : L 3 = true ∧ L 7 = true ∧ L 11 = true := by have := hd _ rfl; simp [Region.binds] at this; simp [this]
      have f3 := (hv 3 11 rfl l0.1).trans (q3 l0.1)
      have f7 := (hv 7 15 rfl l0.2.1).trans (q7 l0.2.1)
      have f11 := (hv 11 19 rfl l0.2.2).trans (q11 l0.2.2)
      refine Ri.step_plain rfl rfl (fun K' hK => ?_)
      go_simp
      refine (HC.out _ ((HR1.out.now).below hb)).mono ?_
      rintro e w8 ⟨⟨v8, rfl, hv8⟩, hb8⟩
      exact hK _ _ ⟨_, _, rfl, rfl, hb.trans (hb8.mono hb.size), qd, q0, q1, q2, q3, q4, q5, q6, q7, q8, q9, q10, q11, fun _ => ⟨_, rfl, hv8.down hb.size⟩, (fun l => (q13 l).elim fun u h => ⟨u, h.1, h.2.below hb8⟩), q14, q15, (fun l => (q16 l).below hb8), (fun l => (q17 l).below hb8), q19, (fun l => (q20 l).below hb8)⟩
    · have l0 : L 12 = true := by have := hd _ rfl; simp [Region.binds] at this; simp [this]
      obtain ⟨u9, hu9, hE9⟩ := q12 l0
      have f12 := (hv 12 20 rfl l0).trans hu9
      refine Ri.step_plain rfl rfl (fun K' hK => ?_)
      go_simp
      exact hK _ _ ⟨_, _, rfl, rfl, hb, qd, q0, q1, q2, q3, q4, q5, q6, q7, q8, q9, q10, q11, q12, fun _ => ⟨_, rfl, hE9⟩, q14, q15, q16, q17, q19, q20⟩
    · have l0 : L 13 = true := by have := hd _ rfl; simp [Region.binds] at this; simp [this]
      obtain ⟨u9, hu9, hE9⟩ := q13 l0
      have f13 := (hv 13 7 rfl l0).trans hu9
      refine Ri.step_plain rfl rfl (fun K' hK => ?_)
      go_simp
      exact hK _ _ ⟨_, _, rfl, rfl, hb, qd, q0, q1, q2, q3, q4, q5, q6, q7, q8, q9, q10, q11, q12, q13, fun _ => rfl, q15, q16, q17, q19, q20⟩
    · have l0 : L 13 = true := by have := hd _ rfl; simp [Region.binds] at this; simp [this]
      obtain ⟨u9, hu9, hE9⟩ := q13 l0
      have f13 := (hv 13 7 rfl l0).trans hu9
      refine Ri.step_plain rfl rfl (fun K' hK => ?_)
      go_simp
      exact hK _ _ ⟨_, _, rfl, rfl, hb, qd, q0, q1, q2, q3, q4, q5, q6, q7, q8, q9, q10, q11, q12, q13, q14, fun _ => rfl, q16, q17, q19, q20⟩
    · have l0 : L 13 = true := by have := hd _ rfl; simp [Region.binds] at this; simp [this]
      obtain ⟨u9, hu9, hE9⟩ := q13 l0
      have f13 := (hv 13 7 rfl l0).trans hu9
      refine Ri.step_plain rfl rfl (fun K' hK => ?_)
      go_simp
      exact hK _ _ ⟨_, _, rfl, rfl, hb, qd, q0, q1, q2, q3, q4, q5, q6, q7, q8, q9, q10, q11, q12, q13, q14, q15, fun _ => hE9, q17, q19, q20⟩
    · refine Ri.step_plain rfl rfl (fun K' hK => ?_)
      have hl9 : L 18 = false := by cases h : L 18 with | false => rfl | true => rw [qd h] at hL; cases hL
      go_simp
      exact hK _ _ ⟨_, _, rfl, rfl, hb.alloc hb.size _, (fun l => rfl), q0, q1, q2, q3, q4, q5, q6, q7, q8, q9, q10, q11, (fun l => (q12 l).elim fun u h => ⟨u, h.1, h.2.below ((Below.refl _ _).alloc (Nat.le_refl _) _)⟩), (fun l => (q13 l).elim fun u h => ⟨u, h.1, h.2.below ((Below.refl _ _).alloc (Nat.le_refl _) _)⟩), q14, q15, (fun l => (q16 l).below ((Below.refl _ _).alloc (Nat.le_refl _) _)), (fun _ => NewAt.new hb.size hl9), q19, (fun l => (q20 l).below ((Below.refl _ _).alloc (Nat.le_refl _) _))⟩
    · have l0 : L 17 = true ∧ L 14 = true := by have := hd _ rfl; simp [Region.binds] at this; simp [this]
      have f17 := hv 17 4 rfl l0.1
      have f14 := (hv 14 21 rfl l0.2).trans (q14 l0.2)
      refine Ri.step_plain rfl rfl (fun K' hK => ?_)
      obtain ⟨g9, hg9, hv9, hzg⟩ := (q17 l0.1).before hL
      refine wp_store_row _ _ _ rfl g9 #[.int .u64 0, .int .u64 0, .int .u64 0, .int .u64 0] (f17.trans hv9) f14 25 _ hzg (by kernel_rfl) (by kernel_rfl) noSet_one ?_
      exact hK _ _ ⟨_, undef, rfl, rfl, below_setRow hb hg9 _, (fun _ => l0.1), q0, q1, q2, q3, q4, q5, q6, q7, q8, q9, q10, q11, (fun l => (q12 l).elim fun u h => ⟨u, h.1, h.2.setRow_new hzg _⟩), (fun l => (q13 l).elim fun u h => ⟨u, h.1, h.2.setRow_new hzg _⟩), q14, q15, (fun l => (q16 l).setRow_new hzg _), (fun _ => ⟨g9, hg9, hv9, heap_setRow hzg⟩), q19, (fun l => (q20 l).setRow_new hzg _)⟩
    · have l0 : L 15 = true := by have := hd _ rfl; simp [Region.binds] at this; simp [this]
      have f15 := (hv 15 22 rfl l0).trans (q15 l0)
      refine Ri.step_plain rfl rfl (fun K' hK => ?_)
      go_simp
      exact hK _ _ ⟨_, _, rfl, rfl, hb, qd, q0, q1, q2, q3, q4, q5, q6, q7, q8, q9, q10, q11, q12, q13, q14, q15, q16, q17, fun _ => rfl, q20⟩
    · have l0 : L 16 = true := by have := hd _ rfl; simp [Region.binds] at this; simp [this]
      have f16 := hv 16 23 rfl l0
      refine Ri.step_plain rfl rfl (fun K' hK => ?_)
      go_simp
      exact hK _ _ ⟨_, _, rfl, rfl, hb, qd, q0, q1, q2, q3, q4, q5, q6, q7, q8, q9, q10, q11, q12, q13, q14, q15, q16, q17, q19, fun _ => q16 l0⟩
  · rintro v w9 ⟨hb, -, -, -, -, -, -, -, -, -, -, -, -, -, -, -, -, -, -, q17, q19, q20⟩
    obtain ⟨g9, hg9, q17', hz9⟩ := q17 rfl
    have ZG := Lib.hid hz9
    have q19' : v 19 = .int .i64 0 := q19 rfl
    have E20 := Lib.hid (q20 rfl)
    simp only [Ri.frame, List.zipIdx, List.foldl_cons, List.foldl_nil, if_true, List.setIfInBounds_toArray, List.set_cons_zero, List.set_cons_succ, Nat.reduceAdd, q19', q17']
    clear q19 q19' q20 q17 q17' hz9
    generalize v 0 = y0; generalize v 1 = y1; generalize v 2 = y2; generalize v 3 = y3; generalize v 4 = y4; generalize v 5 = y5; generalize v 6 = y6; generalize v 7 = y7; generalize v 8 = y8; generalize v 9 = y9; generalize v 10 = y10; generalize v 11 = y11; generalize v 12 = y12; generalize v 13 = y13; generalize v 14 = y14; generalize v 15 = y15; generalize v 16 = y16; generalize v 20 = y20 at *
    have HR2 := Lib.hid (HR1.out.later hb)
    have Z2 := Lib.hid (keep_blk hb Z1.out)
    have HB := Lib.hid (HB1.out.trans (hb.mono HB1.out.size))
    have hgR : g9 ≠ R := by have := HR1.out.lt; omega
    have hgw : g9 ≠ w.heap.size := by omega
    have hRw : R ≠ w.heap.size := by omega
    clear hb Z1 HB1 HR1
    obtain ⟨x6, hx6⟩ := E20.out.iface
    subst hx6
    go_wp2_with (first
      | (refine wpList_store_row rfl 28 (.tmp 2) (.tmp 26) rfl w.heap.size noNode rfl rfl 28 _ Z2.out (by kernel_rfl) rfl (by simp [Value.oneCell']) ?_)
      | fail)
    exact bodyPost_ret (results_row_1 rfl _ _ w.heap.size 28 noNode (0, 0) _ _ rfl rfl (heap_setRow Z2.out) Tryz.underlying28 rfl (by kernel_rfl)) rfl ⟨⟨_, rfl, by exact (E20.out.setRow hs1 noNode).down (Nat.le_of_lt hs1)⟩, by exact Touch.of_below _ (below_setRow HB.out (Nat.le_refl _) _)⟩
end Go.Proofs.YtlbhbjmobcikfaaGreatDoor
/- What the reader of extended patterns answers of an atom with what stands behind it. -/
namespace Go.Proofs.YtlbhbjmobcikfaaGreatDoor
open Go.RowKit
/-- As NdEnd, over a base: what was made lies from B on. -/
def NdB (A : Nat → Addr) (R : Nat) (s : ByteArray) (fl : Int) (d : Nat) (O : Ep.Out) (B : Nat) (w : World) (e : Ending) (w' : World) : Prop :=
  (match O with
  | .ok t j g => ∃ v F, e = .returned (.tuple #[.agg (t.cells v), .nilIface]) ∧ Owned w' v t.subs F ∧ (∀ b, b ∈ F → B ≤ b) ∧ w'.heap[R]? = some (.cells (rdC s fl j g d) 54)
  | .err c p => ∃ v, e = .returned (.tuple #[.agg noNode, v]) ∧ ErrOne A B w' v c p) ∧ Touch [R] w w'
theorem NdB.nd {A : Nat → Addr} {R : Nat} {s : ByteArray} {fl : Int} {d : Nat} {O : Ep.Out} {w : World} {e : Ending} {w' : World} (h : NdB A R s fl d O w.heap.size w e w') : NdEnd A R s fl d O w e w' := h
theorem NdEnd.b {A : Nat → Addr} {R : Nat} {s : ByteArray} {fl : Int} {d : Nat} {O : Ep.Out} {w : World} {e : Ending} {w' : World} (h : NdEnd A R s fl d O w e w') : NdB A R s fl d O w.heap.size w e w' := h
/-- What a callee has answered is handed on, stored in the result's block g. -/
theorem NdB.pass {A : Nat → Addr} {R : Nat} {s : ByteArray} {fl : Int} {d : Nat} {O : Ep.Out} {B B' : Nat} {w W W' : World} {e : Ending} (h : NdB A R s fl d O B W e W') (ht : Touch [R] w W) {g : Nat} (hg : g < B) (hg2 : w.heap.size ≤ g) (hB : B' ≤ B) (hR : R ≠ g) (cs : Array Value) : NdB A R s fl d O B' w e (W'.setRow g cs) := by
  obtain ⟨h1, h2⟩ := h
  refine ⟨?_, (ht.trans h2).setRow_new hg2 cs⟩
  cases O with
  | ok t j g' =>
    obtain ⟨v, F, e1, h3, h4, h5⟩ := h1
    exact ⟨v, F, e1, h3.keep fun b hb => heap_setRow_other _ _ _ (by have := h4 b hb; omega), fun b hb => Nat.le_trans hB (h4 b hb), (heap_setRow_other _ _ _ hR).trans h5⟩
  | err c q =>
    obtain ⟨v, e1, h3⟩ := h1
    exact ⟨v, e1, (h3.setRow hg cs).down hB⟩
theorem Owned.touch {R : Nat} {w w' : World} {s : Value} {ts : List Tr} {F : List Nat} {B : Nat} (h : Owned w s ts F) (hF : ∀ b, b ∈ F → B ≤ b) (hR : R < B) (ht : Touch [R] w w') : Owned w' s ts F :=
  h.keep fun b hb => ht.block b (h.lt b hb) (by have := hF b hb; simp; omega)
set_option maxRecDepth 100000 in
set_option maxHeartbeats 4000000 in
theorem repeated_no (w0 : World) (A : Nat → Addr) (w : World) (R : Nat) (s : ByteArray) (fl : Int) (i g d : Nat) (hR : RdAt w0 A w R s fl i g d) (t : Tr) (v : Value) (F : List Nat) (B : Nat) (ho : Owned w v t.subs F) (hF : ∀ b, b ∈ F → B ≤ b) (_hRB : R < B) (_hB : B ≤ w.heap.size) (hm : [42, 43, 63, 123].any (fun c : UInt8 => c.toNat == bt s i) = false) :
    Calls Tryz.prog 111 #[.pointer (some ⟨R, 0, none⟩), .agg (t.cells v)] w (NdB A R s fl d (.ok t i g) B w) := by
  obtain ⟨p, c, rfl, hl⟩ := ho.slice
  have hlt := hR.lt
  have hb0 : Below w.heap.size w ((w.alloc (.cells (t.cells (.slice p t.subs.length c)) 28)).alloc (.cells noNode 28)) := by go_grown
  have HR1 := Lib.hid (hR.later hb0)
  have Z0 := Lib.hid (two_new w (.cells (t.cells (.slice p t.subs.length c)) 28) (.cells noNode 28)).1
  have Z1 := Lib.hid (two_new w (.cells (t.cells (.slice p t.subs.length c)) 28) (.cells noNode 28)).2
  have HB1 := Lib.hid hb0
  have HO1 := Lib.hid (ho.later hb0)
  have hs1 : ((w.alloc (.cells (t.cells (.slice p t.subs.length c)) 28)).alloc (.cells noNode 28)).heap.size = w.heap.size + 2 := by simp
  have HF := Lib.hid hF; have HFL := Lib.hid ho.lt
  unfold Tr.cells at *
  clear hR hb0 ho hF
  go_enter Tryz.func111, Tryz.ntmps111
  go_wp2_with fail
  generalize World.alloc (World.alloc _ _) _ = W at *
  refine (stands_any [42, 43, 63, 123] _ w0 A W R s fl i g d HR1.out hm).mono ?_
  rintro e w1 ⟨rfl, n, rfl⟩
  have hbn : Below W.heap.size W (W.drewN n) := drewN_below (Below.refl _ _) n
  have HR2 := Lib.hid (HR1.out.later hbn)
  have Y0 : Hid ((W.drewN n).heap[w.heap.size]? = some (.cells #[.int .i64 (t).kind, .int .u64 (Oc.U (t).w0), .int .u64 (Oc.U (t).w1), .int .u64 (Oc.U (t).w2), .int .u64 (Oc.U (t).w3), .slice p t.subs.length c, .int .i64 (t).num, .int .i64 (t).least, .int .i64 (t).most, .bool (t).bare] 28)) := Lib.hid Z0.out
  have Y1 : Hid ((W.drewN n).heap[w.heap.size + 1]? = some (.cells noNode 28)) := Lib.hid Z1.out
  have HB2 := Lib.hid (HB1.out.trans (hbn.mono HB1.out.size))
  have HO2 := Lib.hid (HO1.out.later hbn)
  have hs2 : w.heap.size + 1 < (W.drewN n).heap.size := by show w.heap.size + 1 < W.heap.size; omega
  clear hbn HR1 Z0 Z1 HB1 HO1 hs1
  generalize World.drewN W n = W2 at *
  go_wp2_with (first
    | (refine wpList_load_row rfl 28 (.tmp 3) rfl w.heap.size rfl 28 _ (0, 0) _ Y0.out Tryz.underlying28 rfl (by kernel_rfl) ?_)
    | (refine wpList_store_row rfl 28 (.tmp 4) (.tmp 13) rfl (w.heap.size + 1) #[.int .i64 (t).kind, .int .u64 (Oc.U (t).w0), .int .u64 (Oc.U (t).w1), .int .u64 (Oc.U (t).w2), .int .u64 (Oc.U (t).w3), .slice p t.subs.length c, .int .i64 (t).num, .int .i64 (t).least, .int .i64 (t).most, .bool (t).bare] rfl rfl 28 _ Y1.out (by kernel_rfl) rfl (by simp [Value.oneCell']) ?_)
    | fail)
  exact bodyPost_ret (results_row_1 rfl _ _ (w.heap.size + 1) 28 #[.int .i64 (t).kind, .int .u64 (Oc.U (t).w0), .int .u64 (Oc.U (t).w1), .int .u64 (Oc.U (t).w2), .int .u64 (Oc.U (t).w3), .slice p t.subs.length c, .int .i64 (t).num, .int .i64 (t).least, .int .i64 (t).most, .bool (t).bare] (0, 0) _ _ rfl rfl (heap_setRow Y1.out) Tryz.underlying28 rfl (by kernel_rfl)) rfl ⟨⟨.slice p t.subs.length c, F, rfl, HO2.out.keep fun b hb => heap_setRow_other _ _ _ (by have := HFL.out b hb; omega), HF.out, (heap_setRow_other _ _ _ (by omega)).trans HR2.out.cell⟩, Touch.of_below _ (below_setRow HB2.out (Nat.le_succ _) _)⟩
set_option maxRecDepth 100000 in
set_option maxHeartbeats 4000000 in
theorem repeated_terr (w0 : World) (A : Nat → Addr) (w : World) (R : Nat) (s : ByteArray) (fl : Int) (i g d : Nat) (hR : RdAt w0 A w R s fl i g d) (t : Tr) (v : Value) (F : List Nat) (B : Nat) (ho : Owned w v t.subs F) (hF : ∀ b, b ∈ F → B ≤ b) (_hRB : R < B) (hB : B ≤ w.heap.size) (hm : [42, 43, 63, 123].any (fun c : UInt8 => c.toNat == bt s i) = true) (k : Nat) (HC : ∀ w, RdAt w0 A w R s fl i g d → Calls Tryz.prog 137 #[.pointer (some ⟨R, 0, none⟩)] w (TmEnd A R s fl i g d none k w)) :
    Calls Tryz.prog 111 #[.pointer (some ⟨R, 0, none⟩), .agg (t.cells v)] w (NdB A R s fl d (.err k i) B w) := by
  have HC := Lib.hid HC
  obtain ⟨p, c, rfl, hl⟩ := ho.slice
  have hlt := hR.lt
  have hb0 : Below w.heap.size w ((w.alloc (.cells (t.cells (.slice p t.subs.length c)) 28)).alloc (.cells noNode 28)) := by go_grown
  have HR1 := Lib.hid (hR.later hb0)
  have Z0 := Lib.hid (two_new w (.cells (t.cells (.slice p t.subs.length c)) 28) (.cells noNode 28)).1
  have Z1 := Lib.hid (two_new w (.cells (t.cells (.slice p t.subs.length c)) 28) (.cells noNode 28)).2
  have HB1 := Lib.hid hb0
  have HO1 := Lib.hid (ho.later hb0)
  have hs1 : ((w.alloc (.cells (t.cells (.slice p t.subs.length c)) 28)).alloc (.cells noNode 28)).heap.size = w.heap.size + 2 := by simp
  have HF := Lib.hid hF; have HFL := Lib.hid ho.lt
  unfold Tr.cells at *
  clear hR hb0 ho hF
  go_enter Tryz.func111, Tryz.ntmps111
  go_wp2_with fail
  generalize World.alloc (World.alloc _ _) _ = W at *
  refine (stands_any [42, 43, 63, 123] _ w0 A W R s fl i g d HR1.out hm).mono ?_
  rintro e w1 ⟨rfl, n, rfl⟩
  have hbn : Below W.heap.size W (W.drewN n) := drewN_below (Below.refl _ _) n
  have HR2 := Lib.hid (HR1.out.later hbn)
  have Y0 : Hid ((W.drewN n).heap[w.heap.size]? = some (.cells #[.int .i64 (t).kind, .int .u64 (Oc.U (t).w0), .int .u64 (Oc.U (t).w1), .int .u64 (Oc.U (t).w2), .int .u64 (Oc.U (t).w3), .slice p t.subs.length c, .int .i64 (t).num, .int .i64 (t).least, .int .i64 (t).most, .bool (t).bare] 28)) := Lib.hid Z0.out
  have Y1 : Hid ((W.drewN n).heap[w.heap.size + 1]? = some (.cells noNode 28)) := Lib.hid Z1.out
  have HB2 := Lib.hid (HB1.out.trans (hbn.mono HB1.out.size))
  have HO2 := Lib.hid (HO1.out.later hbn)
  have hs2 : w.heap.size + 1 < (W.drewN n).heap.size := by show w.heap.size + 1 < W.heap.size; omega
  clear hbn HR1 Z0 Z1 HB1 HO1 hs1
  generalize World.drewN W n = W2 at *
  obtain ⟨-, -, c2, -, -⟩ := rd5 HR2.out.cell
  go_wp2_with fail
  refine (HC.out _ HR2.out).mono ?_
  intro e w3 he
  obtain ⟨v, rfl, hv, ht3⟩ := he.err rfl
  obtain ⟨x, rfl⟩ := hv.iface
  have HV := Lib.hid hv
  have hbA : Below w3.heap.size w3 (w3.alloc (.cells #[.int .i64 0, .int .i64 0] 134)) := (Below.refl _ _).alloc (Nat.le_refl _) _
  have Y3 := Lib.hid (keep_blk hbA ((ht3.block (w.heap.size + 1) hs2 (by simp; omega)).trans Y1.out))
  have HV3 := Lib.hid (hv.later hbA)
  have HT3 := Lib.hid (((Touch.of_below [R] HB2.out).trans ht3).later hbA)
  clear hv ht3 he c2 hbA
  go_wp2_with (first
    | (refine wpList_store_row rfl 28 (.tmp 4) (.tmp 25) rfl (w.heap.size + 1) noNode rfl rfl 28 _ Y3.out (by kernel_rfl) rfl (by simp [Value.oneCell']) ?_)
    | fail)
  exact bodyPost_ret (results_row_1 rfl _ _ (w.heap.size + 1) 28 noNode (0, 0) _ _ rfl rfl (heap_setRow Y3.out) Tryz.underlying28 rfl (by kernel_rfl)) rfl ⟨⟨_, rfl, by exact (HV3.out.setRow hs2 noNode).down (by omega)⟩, by exact HT3.out.setRow_new (Nat.le_succ _) _⟩
set_option maxRecDepth 100000 in
set_option maxHeartbeats 4000000 in
theorem repeated_big (w0 : World) (A : Nat → Addr) (w : World) (R : Nat) (s : ByteArray) (fl : Int) (i g d : Nat) (hR : RdAt w0 A w R s fl i g d) (t : Tr) (v : Value) (F : List Nat) (B : Nat) (ho : Owned w v t.subs F) (hF : ∀ b, b ∈ F → B ≤ b) (hRB : R < B) (hB : B ≤ w.heap.size) (hm : [42, 43, 63, 123].any (fun c : UInt8 => c.toNat == bt s i) = true) (a b : Int) (j k : Nat) (HC : ∀ w, RdAt w0 A w R s fl i g d → Calls Tryz.prog 137 #[.pointer (some ⟨R, 0, none⟩)] w (TmEnd A R s fl i g d (some (a, b, j)) k w)) (T : Tr) (hT : Tr.rep a b t = T) (hf : T.InForm) (hbig : 2000 < T.szT) :
    Calls Tryz.prog 111 #[.pointer (some ⟨R, 0, none⟩), .agg (t.cells v)] w (NdB A R s fl d (.err 10 i) B w) := by
  have HC := Lib.hid HC
  have hrep := fun w B v hv => rep_any t a b w B v hv
  rw [hT] at hrep
  have HREP := Lib.hid hrep
  clear hrep hT
  obtain ⟨p, c, rfl, hl⟩ := ho.slice
  have hlt := hR.lt
  have hb0 : Below w.heap.size w ((w.alloc (.cells (t.cells (.slice p t.subs.length c)) 28)).alloc (.cells noNode 28)) := by go_grown
  have HR1 := Lib.hid (hR.later hb0)
  have Z0 := Lib.hid (two_new w (.cells (t.cells (.slice p t.subs.length c)) 28) (.cells noNode 28)).1
  have Z1 := Lib.hid (two_new w (.cells (t.cells (.slice p t.subs.length c)) 28) (.cells noNode 28)).2
  have HB1 := Lib.hid hb0
  have HO1 := Lib.hid (ho.later hb0)
  have hs1 : ((w.alloc (.cells (t.cells (.slice p t.subs.length c)) 28)).alloc (.cells noNode 28)).heap.size = w.heap.size + 2 := by simp
  have HF := Lib.hid hF; have HFL := Lib.hid ho.lt
  unfold Tr.cells at *
  clear hR hb0 ho hF
  go_enter Tryz.func111, Tryz.ntmps111
  go_wp2_with fail
  generalize World.alloc (World.alloc _ _) _ = W at *
  refine (stands_any [42, 43, 63, 123] _ w0 A W R s fl i g d HR1.out hm).mono ?_
  rintro e w1 ⟨rfl, n, rfl⟩
  have hbn : Below W.heap.size W (W.drewN n) := drewN_below (Below.refl _ _) n
  have HR2 := Lib.hid (HR1.out.later hbn)
  have Y0 : Hid ((W.drewN n).heap[w.heap.size]? = some (.cells #[.int .i64 (t).kind, .int .u64 (Oc.U (t).w0), .int .u64 (Oc.U (t).w1), .int .u64 (Oc.U (t).w2), .int .u64 (Oc.U (t).w3), .slice p t.subs.length c, .int .i64 (t).num, .int .i64 (t).least, .int .i64 (t).most, .bool (t).bare] 28)) := Lib.hid Z0.out
  have Y1 : Hid ((W.drewN n).heap[w.heap.size + 1]? = some (.cells noNode 28)) := Lib.hid Z1.out
  have HB2 := Lib.hid (HB1.out.trans (hbn.mono HB1.out.size))
  have HO2 := Lib.hid (HO1.out.later hbn)
  have hs2 : w.heap.size + 1 < (W.drewN n).heap.size := by show w.heap.size + 1 < W.heap.size; omega
  clear hbn HR1 Z0 Z1 HB1 HO1 hs1
  generalize World.drewN W n = W2 at *
  obtain ⟨-, -, c2, -, -⟩ := rd5 HR2.out.cell
  go_wp2_with fail
  refine (HC.out _ HR2.out).mono ?_
  intro e w3 he
  obtain ⟨rfl, hr3, ht3⟩ := he.ok rfl
  have hbA : Below w3.heap.size w3 (w3.alloc (.cells #[.int .i64 a, .int .i64 b] 134)) := (Below.refl _ _).alloc (Nat.le_refl _) _
  have V0 := Lib.hid (keep_blk hbA ((ht3.block w.heap.size (by omega) (by simp; omega)).trans Y0.out))
  have V1 := Lib.hid (keep_blk hbA ((ht3.block (w.heap.size + 1) hs2 (by simp; omega)).trans Y1.out))
  have HT3 := Lib.hid (((Touch.of_below [R] HB2.out).trans ht3).later hbA)
  have HO3 := Lib.hid ((HO2.out.touch HF.out hRB ht3).later hbA)
  have HP3 := Lib.hid (keep_blk hbA hr3)
  have hs3 : w.heap.size + 1 < (w3.alloc (.cells #[.int .i64 a, .int .i64 b] 134)).heap.size := Nat.lt_of_lt_of_le hs2 (Nat.le_trans ht3.size hbA.size)
  have hE3 := (HR2.out.next ht3 hr3).later hbA
  have HE3 := Lib.hid hE3
  clear hr3 ht3 he c2 hbA hE3 Y0 Y1 HB2 HO2 HR2

  go_wp2_with (first
    | (refine wpList_load_row rfl 28 (.tmp 3) rfl w.heap.size rfl 28 _ (0, 0) _ V0.out Tryz.underlying28 rfl (by kernel_rfl) ?_)
    | fail)
  refine (HREP.out _ (fun b => b ∈ F) _ ⟨_, rfl, HO3.out.trees⟩).mono ?_
  rintro e w4 ⟨s4, F4, rfl, ho4, hF4, hb4⟩
  obtain ⟨p4, c4, rfl, hl4⟩ := ho4.slice
  have hbB : Below w4.heap.size w4 (w4.alloc (.cells (T.cells (.slice p4 T.subs.length c4)) 28)) := (Below.refl _ _).alloc (Nat.le_refl _) _
  have U1 := Lib.hid (keep_blk hbB (keep_blk hb4 V1.out))
  have HT4 := Lib.hid ((HT3.out.later hb4).later hbB)
  have HP4 := Lib.hid (keep_blk hbB (keep_blk hb4 HP3.out))
  have HO4 := Lib.hid (ho4.later hbB)
  have U9 := Lib.hid (heap_alloc_new w4 (.cells (T.cells (.slice p4 T.subs.length c4)) 28))
  have hs4 : w.heap.size + 1 < (w4.alloc (.cells (T.cells (.slice p4 T.subs.length c4)) 28)).heap.size := Nat.lt_of_lt_of_le hs3 (Nat.le_trans hb4.size hbB.size)
  have HE4 := Lib.hid ((HE3.out.later hb4).later hbB)
  have HF4 : Hid (∀ b, b ∈ F4 → w.heap.size + 1 < b) := Lib.hid fun b hb => Nat.lt_of_lt_of_le hs3 (hF4 b hb)
  clear ho4 hF4 hb4 hbB V0 V1 HT3 HO3 HP3 HE3  hs3
  have hle := Tr.szT_le T
  have HSZ := Lib.hid (treeSize_any T hf _ (fun b => b ∈ F4) _ ⟨_, rfl, HO4.out.trees⟩)
  have hd : decide ((2000 : Int) < T.szT) = true := by simp; omega
  have hd' : decide (2000 < T.szT) = true := by simp; omega
  have HOL := Lib.hid HO4.out.lt
  generalize T.szT = N at *
  clear hf hbig hle
  unfold Tr.cells at *
  go_wp2_with (first
    | (refine wpList_load_row rfl 28 (.tmp 9) rfl w4.heap.size rfl 28 _ (0, 0) _ U9.out Tryz.underlying28 rfl (by kernel_rfl) ?_)
    | fail)
  refine HSZ.out.mono ?_
  rintro e w5 ⟨rfl, hb5⟩
  have X1 := Lib.hid (keep_blk hb5 U1.out)
  have X9 := Lib.hid (keep_blk hb5 U9.out)
  have HT5 := Lib.hid (HT4.out.later hb5)
  have HP5 := Lib.hid (keep_blk hb5 HP4.out)
  have HO5 := Lib.hid (HO4.out.later hb5)
  have HE5 := Lib.hid (HE4.out.later hb5)
  have hs5 : w.heap.size + 1 < w5.heap.size := Nat.lt_of_lt_of_le hs4 hb5.size
  clear hb5 U1 U9 HT4 HP4 HO4 HE4 hs4 HSZ
  have ce : w5.cell? ⟨10, 0, none⟩ = some (.iface 184 (.pointer (some (A 9)))) := (HE5.out.now.errs 9 (by omega)).1
  go_wp2_with fail
  refine (at_err A 9 (by omega) i _).mono ?_
  rintro e w6 ⟨v6, rfl, hv6, hb6⟩
  have X1 := Lib.hid (keep_blk hb6 X1.out)
  have HT6 := Lib.hid (HT5.out.later hb6)
  have HV6 := Lib.hid hv6
  clear hb6 hv6 ce
  go_wp2_with (first
    | (refine wpList_store_row rfl 28 (.tmp 4) (.tmp 36) rfl (w.heap.size + 1) noNode rfl rfl 28 _ X1.out (by kernel_rfl) rfl (by simp [Value.oneCell']) ?_)
    | fail)
  exact bodyPost_ret (results_row_1 rfl _ _ (w.heap.size + 1) 28 noNode (0, 0) _ _ rfl rfl (heap_setRow X1.out) Tryz.underlying28 rfl (by kernel_rfl)) rfl ⟨⟨_, rfl, by exact (HV6.out.setRow hs5 noNode).down (by omega)⟩, by exact HT6.out.setRow_new (Nat.le_succ _) _⟩
set_option maxRecDepth 100000 in
set_option maxHeartbeats 4000000 in
theorem repeated_ok (w0 : World) (A : Nat → Addr) (w : World) (R : Nat) (s : ByteArray) (fl : Int) (i g d : Nat) (hR : RdAt w0 A w R s fl i g d) (t : Tr) (v : Value) (F : List Nat) (B : Nat) (ho : Owned w v t.subs F) (hF : ∀ b, b ∈ F → B ≤ b) (hRB : R < B) (hB : B ≤ w.heap.size) (hm : [42, 43, 63, 123].any (fun c : UInt8 => c.toNat == bt s i) = true) (a b : Int) (j k : Nat) (HC : ∀ w, RdAt w0 A w R s fl i g d → Calls Tryz.prog 137 #[.pointer (some ⟨R, 0, none⟩)] w (TmEnd A R s fl i g d (some (a, b, j)) k w)) (T : Tr) (hT : Tr.rep a b t = T) (hf : T.InForm) (hbig : T.szT ≤ 2000) :
    Calls Tryz.prog 111 #[.pointer (some ⟨R, 0, none⟩), .agg (t.cells v)] w (NdB A R s fl d (.ok T j g) B w) := by
  have HC := Lib.hid HC
  have hrep := fun w B v hv => rep_any t a b w B v hv
  rw [hT] at hrep
  have HREP := Lib.hid hrep
  clear hrep hT
  obtain ⟨p, c, rfl, hl⟩ := ho.slice
  have hlt := hR.lt
  have hb0 : Below w.heap.size w ((w.alloc (.cells (t.cells (.slice p t.subs.length c)) 28)).alloc (.cells noNode 28)) := by go_grown
  have HR1 := Lib.hid (hR.later hb0)
  have Z0 := Lib.hid (two_new w (.cells (t.cells (.slice p t.subs.length c)) 28) (.cells noNode 28)).1
  have Z1 := Lib.hid (two_new w (.cells (t.cells (.slice p t.subs.length c)) 28) (.cells noNode 28)).2
  have HB1 := Lib.hid hb0
  have HO1 := Lib.hid (ho.later hb0)
  have hs1 : ((w.alloc (.cells (t.cells (.slice p t.subs.length c)) 28)).alloc (.cells noNode 28)).heap.size = w.heap.size + 2 := by simp
  have HF := Lib.hid hF; have HFL := Lib.hid ho.lt
  unfold Tr.cells at *
  clear hR hb0 ho hF
  go_enter Tryz.func111, Tryz.ntmps111
  go_wp2_with fail
  generalize World.alloc (World.alloc _ _) _ = W at *
  refine (stands_any [42, 43, 63, 123] _ w0 A W R s fl i g d HR1.out hm).mono ?_
  rintro e w1 ⟨rfl, n, rfl⟩
  have hbn : Below W.heap.size W (W.drewN n) := drewN_below (Below.refl _ _) n
  have HR2 := Lib.hid (HR1.out.later hbn)
  have Y0 : Hid ((W.drewN n).heap[w.heap.size]? = some (.cells #[.int .i64 (t).kind, .int .u64 (Oc.U (t).w0), .int .u64 (Oc.U (t).w1), .int .u64 (Oc.U (t).w2), .int .u64 (Oc.U (t).w3), .slice p t.subs.length c, .int .i64 (t).num, .int .i64 (t).least, .int .i64 (t).most, .bool (t).bare] 28)) := Lib.hid Z0.out
  have Y1 : Hid ((W.drewN n).heap[w.heap.size + 1]? = some (.cells noNode 28)) := Lib.hid Z1.out
  have HB2 := Lib.hid (HB1.out.trans (hbn.mono HB1.out.size))
  have HO2 := Lib.hid (HO1.out.later hbn)
  have hs2 : w.heap.size + 1 < (W.drewN n).heap.size := by show w.heap.size + 1 < W.heap.size; omega
  clear hbn HR1 Z0 Z1 HB1 HO1 hs1
  generalize World.drewN W n = W2 at *
  obtain ⟨-, -, c2, -, -⟩ := rd5 HR2.out.cell
  go_wp2_with fail
  refine (HC.out _ HR2.out).mono ?_
  intro e w3 he
  obtain ⟨rfl, hr3, ht3⟩ := he.ok rfl
  have hbA : Below w3.heap.size w3 (w3.alloc (.cells #[.int .i64 a, .int .i64 b] 134)) := (Below.refl _ _).alloc (Nat.le_refl _) _
  have V0 := Lib.hid (keep_blk hbA ((ht3.block w.heap.size (by omega) (by simp; omega)).trans Y0.out))
  have V1 := Lib.hid (keep_blk hbA ((ht3.block (w.heap.size + 1) hs2 (by simp; omega)).trans Y1.out))
  have HT3 := Lib.hid (((Touch.of_below [R] HB2.out).trans ht3).later hbA)
  have HO3 := Lib.hid ((HO2.out.touch HF.out hRB ht3).later hbA)
  have HP3 := Lib.hid (keep_blk hbA hr3)
  have hs3 : w.heap.size + 1 < (w3.alloc (.cells #[.int .i64 a, .int .i64 b] 134)).heap.size := Nat.lt_of_lt_of_le hs2 (Nat.le_trans ht3.size hbA.size)
  have hE3 := (HR2.out.next ht3 hr3).later hbA
  have HE3 := Lib.hid hE3
  clear hr3 ht3 he c2 hbA hE3 Y0 Y1 HB2 HO2 HR2

  go_wp2_with (first
    | (refine wpList_load_row rfl 28 (.tmp 3) rfl w.heap.size rfl 28 _ (0, 0) _ V0.out Tryz.underlying28 rfl (by kernel_rfl) ?_)
    | fail)
  refine (HREP.out _ (fun b => b ∈ F) _ ⟨_, rfl, HO3.out.trees⟩).mono ?_
  rintro e w4 ⟨s4, F4, rfl, ho4, hF4, hb4⟩
  obtain ⟨p4, c4, rfl, hl4⟩ := ho4.slice
  have hbB : Below w4.heap.size w4 (w4.alloc (.cells (T.cells (.slice p4 T.subs.length c4)) 28)) := (Below.refl _ _).alloc (Nat.le_refl _) _
  have U1 := Lib.hid (keep_blk hbB (keep_blk hb4 V1.out))
  have HT4 := Lib.hid ((HT3.out.later hb4).later hbB)
  have HP4 := Lib.hid (keep_blk hbB (keep_blk hb4 HP3.out))
  have HO4 := Lib.hid (ho4.later hbB)
  have U9 := Lib.hid (heap_alloc_new w4 (.cells (T.cells (.slice p4 T.subs.length c4)) 28))
  have hs4 : w.heap.size + 1 < (w4.alloc (.cells (T.cells (.slice p4 T.subs.length c4)) 28)).heap.size := Nat.lt_of_lt_of_le hs3 (Nat.le_trans hb4.size hbB.size)
  have HE4 := Lib.hid ((HE3.out.later hb4).later hbB)
  have HF4 : Hid (∀ b, b ∈ F4 → w.heap.size + 1 < b) := Lib.hid fun b hb => Nat.lt_of_lt_of_le hs3 (hF4 b hb)
  clear ho4 hF4 hb4 hbB V0 V1 HT3 HO3 HP3 HE3  hs3
  have hle := Tr.szT_le T
  have HSZ := Lib.hid (treeSize_any T hf _ (fun b => b ∈ F4) _ ⟨_, rfl, HO4.out.trees⟩)
  have hd : decide ((2000 : Int) < T.szT) = false := by simp; omega
  have hd' : decide (2000 < T.szT) = false := by simp; omega
  have HOL := Lib.hid HO4.out.lt
  generalize T.szT = N at *
  clear hf hbig hle
  unfold Tr.cells at *
  go_wp2_with (first
    | (refine wpList_load_row rfl 28 (.tmp 9) rfl w4.heap.size rfl 28 _ (0, 0) _ U9.out Tryz.underlying28 rfl (by kernel_rfl) ?_)
    | fail)
  refine HSZ.out.mono ?_
  rintro e w5 ⟨rfl, hb5⟩
  have X1 := Lib.hid (keep_blk hb5 U1.out)
  have X9 := Lib.hid (keep_blk hb5 U9.out)
  have HT5 := Lib.hid (HT4.out.later hb5)
  have HP5 := Lib.hid (keep_blk hb5 HP4.out)
  have HO5 := Lib.hid (HO4.out.later hb5)
  have HE5 := Lib.hid (HE4.out.later hb5)
  have hs5 : w.heap.size + 1 < w5.heap.size := Nat.lt_of_lt_of_le hs4 hb5.size
  clear hb5 U1 U9 HT4 HP4 HO4 HE4 hs4 HSZ
  go_wp2_with (first
    | (refine wpList_load_row rfl 28 (.tmp 9) rfl w4.heap.size rfl 28 _ (0, 0) _ X9.out Tryz.underlying28 rfl (by kernel_rfl) ?_)
    | (refine wpList_store_row rfl 28 (.tmp 4) (.tmp 40) rfl (w.heap.size + 1) #[.int .i64 (T).kind, .int .u64 (Oc.U (T).w0), .int .u64 (Oc.U (T).w1), .int .u64 (Oc.U (T).w2), .int .u64 (Oc.U (T).w3), .slice p4 T.subs.length c4, .int .i64 (T).num, .int .i64 (T).least, .int .i64 (T).most, .bool (T).bare] rfl rfl 28 _ X1.out (by kernel_rfl) rfl (by simp [Value.oneCell']) ?_)
    | fail)
  exact bodyPost_ret (results_row_1 rfl _ _ (w.heap.size + 1) 28 #[.int .i64 (T).kind, .int .u64 (Oc.U (T).w0), .int .u64 (Oc.U (T).w1), .int .u64 (Oc.U (T).w2), .int .u64 (Oc.U (T).w3), .slice p4 T.subs.length c4, .int .i64 (T).num, .int .i64 (T).least, .int .i64 (T).most, .bool (T).bare] (0, 0) _ _ rfl rfl (heap_setRow X1.out) Tryz.underlying28 rfl (by kernel_rfl)) rfl ⟨⟨.slice p4 T.subs.length c4, F4, rfl, HO5.out.keep fun b hb => heap_setRow_other _ _ _ (by have := HF4.out b hb; omega), fun b hb => by have := HF4.out b hb; omega, (heap_setRow_other _ _ _ (by omega)).trans HP5.out⟩, HT5.out.setRow_new (Nat.le_succ _) _⟩
/-- With counts: too big, or not. -/
theorem repeated_counted (w0 : World) (A : Nat → Addr) (w : World) (R : Nat) (s : ByteArray) (fl : Int) (i g d : Nat) (hR : RdAt w0 A w R s fl i g d) (t : Tr) (v : Value) (F : List Nat) (B : Nat) (ho : Owned w v t.subs F) (hF : ∀ b, b ∈ F → B ≤ b) (hRB : R < B) (hB : B ≤ w.heap.size) (hm : [42, 43, 63, 123].any (fun c : UInt8 => c.toNat == bt s i) = true) (a b : Int) (j k : Nat) (HC : ∀ w, RdAt w0 A w R s fl i g d → Calls Tryz.prog 137 #[.pointer (some ⟨R, 0, none⟩)] w (TmEnd A R s fl i g d (some (a, b, j)) k w)) (h1 : 0 ≤ a) (h2 : a ≤ 255) (h3 : b = -1 ∨ (a ≤ b ∧ b ≤ 255)) (ht : t.InForm) :
    Calls Tryz.prog 111 #[.pointer (some ⟨R, 0, none⟩), .agg (t.cells v)] w (NdB A R s fl d (Ep.counted t a b i j g) B w) := by
  unfold Ep.counted
  by_cases hbig : 2000 < (Tr.rep a b t).szT
  · rw [if_pos hbig]; exact repeated_big w0 A w R s fl i g d hR t v F B ho hF hRB hB hm a b j k HC _ rfl (Ep.form_rep a b t h1 h2 h3 ht) hbig
  · rw [if_neg hbig]; exact repeated_ok w0 A w R s fl i g d hR t v F B ho hF hRB hB hm a b j k HC _ rfl (Ep.form_rep a b t h1 h2 h3 ht) (by omega)
/-- What repeated answers. -/
theorem repeated_any (w0 : World) (A : Nat → Addr) (w : World) (R : Nat) (s : ByteArray) (hs : s.size ≤ 4294967280) (fl : Int) (i g d : Nat) (hR : RdAt w0 A w R s fl i g d) (t : Tr) (v : Value) (F : List Nat) (B : Nat) (ho : Owned w v t.subs F) (hF : ∀ b, b ∈ F → B ≤ b) (hRB : R < B) (hB : B ≤ w.heap.size) (ht : t.InForm) :
    Calls Tryz.prog 111 #[.pointer (some ⟨R, 0, none⟩), .agg (t.cells v)] w (NdB A R s fl d (Ep.rep (bt s) s.size t i g) B w) := by
  have mark : ∀ n, (n = 42 ∨ n = 43 ∨ n = 63 ∨ n = 123) → bt s i = n → [42, 43, 63, 123].any (fun c : UInt8 => c.toNat == bt s i) = true := by
    intro n hn hc
    rw [hc]
    rcases hn with rfl | rfl | rfl | rfl <;> decide
  unfold Ep.rep
  by_cases h42 : bt s i = 42
  · rw [if_pos h42]
    have hi := (bt_txt s).lt h42 (by omega)
    exact repeated_counted w0 A w R s fl i g d hR t v F B ho hF hRB hB (mark 42 (by omega) h42) 0 (-1) _ 0 (fun w hR => times_star w0 A w R s fl i g d hR hi hs h42) (by omega) (by omega) (by omega) ht
  rw [if_neg h42]
  by_cases h43 : bt s i = 43
  · rw [if_pos h43]
    have hi := (bt_txt s).lt h43 (by omega)
    exact repeated_counted w0 A w R s fl i g d hR t v F B ho hF hRB hB (mark 43 (by omega) h43) 1 (-1) _ 0 (fun w hR => times_plus w0 A w R s fl i g d hR hi hs h43) (by omega) (by omega) (by omega) ht
  rw [if_neg h43]
  by_cases h63 : bt s i = 63
  · rw [if_pos h63]
    have hi := (bt_txt s).lt h63 (by omega)
    exact repeated_counted w0 A w R s fl i g d hR t v F B ho hF hRB hB (mark 63 (by omega) h63) 0 1 _ 0 (fun w hR => times_maybe w0 A w R s fl i g d hR hi hs h63) (by omega) (by omega) (by omega) ht
  rw [if_neg h63]
  by_cases h123 : bt s i = 123
  · rw [if_pos h123]
    have hi := (bt_txt s).lt h123 (by omega)
    have hm := mark 123 (by omega) h123
    cases hf : Ep.find (bt s) 125 (s.size - (i + 1)) (i + 1) with
    | none => exact repeated_terr w0 A w R s fl i g d hR t v F B ho hF hRB hB hm 3 fun w hR => times_braced_none w0 A w R s hs fl i g d hR hi h123 hf
    | some e =>
      cases hn : Ep.counts (bt s) (i + 1) e with
      | none =>
        simp only [hn]
        exact repeated_terr w0 A w R s fl i g d hR t v F B ho hF hRB hB hm 4 fun w hR => times_braced_bad w0 A w R s hs fl i g d hR hi h123 e hf hn
      | some ab =>
        obtain ⟨a, b⟩ := ab
        obtain ⟨h1, h2, h3⟩ := Ep.counts_ok hn
        simp only [hn]
        exact repeated_counted w0 A w R s fl i g d hR t v F B ho hF hRB hB hm a b _ 0 (fun w hR => times_braced_ok w0 A w R s hs fl i g d hR hi h123 e hf a b hn) h1 h2 h3 ht
  · rw [if_neg h123]
    refine repeated_no w0 A w R s fl i g d hR t v F B ho hF hRB hB ?_
    simp only [List.any_cons, List.any_nil, Bool.or_false]
    simp only [show (42 : UInt8).toNat = 42 from rfl, show (43 : UInt8).toNat = 43 from rfl, show (63 : UInt8).toNat = 63 from rfl, show (123 : UInt8).toNat = 123 from rfl]
    simp; omega
end Go.Proofs.YtlbhbjmobcikfaaGreatDoor
