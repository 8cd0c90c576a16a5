/- class.Fold. -/
import Derived.Test.YtbpecijdmhablaaDoorClMore
import Derived.Test.YtbpecijdmhablaaDoorClReg
import Derived.Test.YtbpecijdmhablaaDoorOcEq
namespace Go.Proofs.YtbpecijdmhablaaDoor
open Go.RowKit
namespace Cl
/-- The set p, and the other case of its letters, up to the capital letter m. -/
def capOf (j : Nat) : Nat := if 65 ≤ j ∧ j ≤ 90 then j else if 97 ≤ j ∧ j ≤ 122 then j - 32 else 300
def foldU (p : Nat → Bool) (m : Nat) : Nat → Bool := fun j => p j || (p (oth j) && decide (capOf j < m))
theorem foldU_start (p : Nat → Bool) (j : Nat) : foldU p 65 j = p j := by
  unfold foldU
  have : ¬ capOf j < 65 := by unfold capOf; split <;> (try split) <;> omega
  simp [this]
theorem foldU_end (p : Nat → Bool) (j : Nat) : foldU p 91 j = fold p j := by
  unfold foldU fold
  by_cases h : capOf j < 91
  · simp [h]
  · have : oth j = j := by
      unfold capOf at h; unfold oth
      split at h
      · omega
      · rename_i h1
        split at h
        · omega
        · rename_i h2; rw [if_neg h1, if_neg h2]
    simp [this, h]
theorem foldU_yes {p : Nat → Bool} {m : Nat} (h1 : 65 ≤ m) (h2 : m ≤ 90) (h : (p m || p (m + 32)) = true) (j : Nat) : foldU p (m + 1) j = (foldU p m j || (j == m || j == m + 32)) := by
  by_cases e1 : j = m
  · subst e1
    have : oth j = j + 32 := by unfold oth; rw [if_pos ⟨h1, h2⟩]
    have hc : capOf j = j := by unfold capOf; rw [if_pos ⟨h1, h2⟩]
    unfold foldU; rw [this, hc]; simp only [Nat.lt_succ_self, decide_true, Bool.and_true, h]; simp
  · by_cases e2 : j = m + 32
    · subst e2
      have : oth (m + 32) = m := by unfold oth; rw [if_neg (by omega), if_pos (by omega)]; omega
      have hc : capOf (m + 32) = m := by unfold capOf; rw [if_neg (by omega), if_pos (by omega)]; omega
      unfold foldU; rw [this, hc]; simp only [Nat.lt_succ_self, decide_true, Bool.and_true]; rw [Bool.or_comm, h]; simp
    · have hc : decide (capOf j < m + 1) = decide (capOf j < m) := by
        have : capOf j ≠ m := by unfold capOf; split <;> (try split) <;> omega
        rw [decide_eq_decide]; omega
      unfold foldU; rw [hc]; simp [e1, e2]
theorem foldU_no {p : Nat → Bool} {m : Nat} (h1 : 65 ≤ m) (h2 : m ≤ 90) (h : (p m || p (m + 32)) = false) (j : Nat) : foldU p (m + 1) j = foldU p m j := by
  rw [Bool.or_eq_false_iff] at h
  by_cases e1 : j = m
  · subst e1
    have : oth j = j + 32 := by unfold oth; rw [if_pos ⟨h1, h2⟩]
    unfold foldU; rw [this, h.1, h.2]; simp
  · by_cases e2 : j = m + 32
    · subst e2
      have : oth (m + 32) = m := by unfold oth; rw [if_neg (by omega), if_pos (by omega)]; omega
      unfold foldU; rw [this, h.1, h.2]; simp
    · have hc : decide (capOf j < m + 1) = decide (capOf j < m) := by
        have : capOf j ≠ m := by unfold capOf; split <;> (try split) <;> omega
        rw [decide_eq_decide]; omega
      unfold foldU; rw [hc]
/-- The two cases of a letter. -/
def pair (m q : Nat) : BitVec 64 := Oc.mk (fun j => j == m || j == m + 32) q
theorem mk_or (p q : Nat → Bool) (k : Nat) : Oc.mk p k ||| Oc.mk q k = Oc.mk (fun j => p j || q j) k := by
  apply BitVec.eq_of_getLsbD_eq
  intro i hi
  rw [BitVec.getLsbD_or, Oc.mk_bit _ _ _ hi, Oc.mk_bit _ _ _ hi, Oc.mk_bit _ _ _ hi]
theorem mk_congr {p q : Nat → Bool} (h : ∀ j, p j = q j) (k : Nat) : Oc.mk p k = Oc.mk q k := by rw [funext h]
def fw (p : Nat → Bool) (m q : Nat) : BitVec 64 := Oc.mk (foldU p m) q
theorem fw_yes {p : Nat → Bool} {m : Nat} (h1 : 65 ≤ m) (h2 : m ≤ 90) (h : (p m || p (m + 32)) = true) (q : Nat) : fw p m q ||| pair m q = fw p (m + 1) q := by
  unfold fw pair; rw [mk_or]; exact (mk_congr (foldU_yes h1 h2 h) q).symm
theorem fw_no {p : Nat → Bool} {m : Nat} (h1 : 65 ≤ m) (h2 : m ≤ 90) (h : (p m || p (m + 32)) = false) (q : Nat) : fw p (m + 1) q = fw p m q := mk_congr (foldU_no h1 h2 h) q
theorem fw_start (a b c d : BitVec 64) : fw (Oc.mem a b c d) 65 0 = a ∧ fw (Oc.mem a b c d) 65 1 = b ∧ fw (Oc.mem a b c d) 65 2 = c ∧ fw (Oc.mem a b c d) 65 3 = d := by
  have h := mk_mem a b c d
  unfold fw
  rw [mk_congr (foldU_start _), mk_congr (foldU_start _), mk_congr (foldU_start _), mk_congr (foldU_start _)]
  exact h
theorem fw_end (p : Nat → Bool) (q : Nat) : fw p 91 q = Oc.mk (fold p) q := mk_congr (foldU_end p) q
theorem zero_word {x : BitVec 64} : (Oc.U x == 0) = (x == 0#64) := by
  rw [Bool.eq_iff_iff, beq_iff_eq, beq_iff_eq]
  constructor
  · intro h; exact Oc.U_inj (y := 0#64) (by rw [h]; rfl)
  · rintro rfl; rfl
/-- A set and the two cases of a letter have no byte in common just if the set has neither. -/
theorem meets {a b c d : BitVec 64} {m : Nat} (hm : m + 32 < 256) :
    (Oc.U (a &&& pair m 0) == 0 && (Oc.U (b &&& pair m 1) == 0 && (Oc.U (c &&& pair m 2) == 0 && Oc.U (d &&& pair m 3) == 0))) = !(Oc.mem a b c d m || Oc.mem a b c d (m + 32)) := by
  have key : ∀ i, i < 256 → Oc.mem (a &&& pair m 0) (b &&& pair m 1) (c &&& pair m 2) (d &&& pair m 3) i = (Oc.mem a b c d i && (i == m || i == m + 32)) := fun i hi => by
    rw [Oc.mem_and]; unfold pair; rw [Oc.mem_mk _ _ hi]
  rw [zero_word, zero_word, zero_word, zero_word, Bool.eq_iff_iff]
  simp only [Bool.and_eq_true, beq_iff_eq, Bool.not_eq_true', Bool.or_eq_false_iff]
  constructor
  · rintro ⟨h0, h1, h2, h3⟩
    rw [h0, h1, h2, h3] at key
    have z : ∀ i, Oc.mem 0#64 0#64 0#64 0#64 i = false := fun i => by unfold Oc.mem Oc.w4; split <;> (try split) <;> (try split) <;> simp
    have k1 := key m (by omega)
    have k2 := key (m + 32) hm
    rw [z] at k1 k2
    simp at k1 k2
    exact ⟨k1, k2⟩
  · rintro ⟨h0, h1⟩
    have := Oc.ext4 (a := a &&& pair m 0) (b := b &&& pair m 1) (c := c &&& pair m 2) (d := d &&& pair m 3) (a' := 0#64) (b' := 0#64) (c' := 0#64) (d' := 0#64) (fun i hi => by
      rw [key i hi]
      have z : Oc.mem 0#64 0#64 0#64 0#64 i = false := by unfold Oc.mem Oc.w4; split <;> (try split) <;> (try split) <;> simp
      rw [z]
      by_cases e1 : i = m
      · subst e1; simp [h0]
      · by_cases e2 : i = m + 32
        · subst e2; simp [h1]
        · simp [e1, e2])
    exact this
end Cl
def caseOf (m n : Nat) : Nat → Nat := fun i => if i = 0 then m else n
theorem of_pair (m : Nat) (h1 : m + 32 < 256) (v z : Int) (hv : v = (m : Int)) (hz : z = ((m + 32 : Nat) : Int)) (g : Nat) (w : World) (hg : w.heap.size = g) (t : TypeId) :
    Calls Tryd.prog 14 #[.slice (some ⟨g, 0, none⟩) 2 2] (w.alloc (.cells #[.int .u8 v, .int .u8 z] t))
      fun e w' => e = .returned (.agg #[.int .u64 (Oc.U (Cl.pair m 0)), .int .u64 (Oc.U (Cl.pair m 1)), .int .u64 (Oc.U (Cl.pair m 2)), .int .u64 (Oc.U (Cl.pair m 3))]) ∧ Below (w.heap.size + 1) (w.alloc (.cells #[.int .u8 v, .int .u8 z] t)) w' := by
  subst hv hz hg
  refine (of_any (some ⟨w.heap.size, 0, none⟩) 2 2 (caseOf m (m + 32)) (by omega) _ (fun i _ => by unfold caseOf; split <;> omega) ?_).mono ?_
  · intro i hi
    refine ⟨w.heap.size, 0, rfl, by simp, ?_⟩
    rcases (show i = 0 ∨ i = 1 by omega) with rfl | rfl <;> (rw [cell_new]; rfl)
  · rintro e w' ⟨rfl, hb⟩
    have key : ∀ q, Oc.mk (Oc.anyB (caseOf m (m + 32)) 2) q = Cl.pair m q := fun q => Cl.mk_congr (fun j => by simp [Oc.anyB, caseOf]) q
    exact ⟨by rw [key, key, key, key], by simpa using hb⟩
theorem meet2_new (a b c d a1 b1 c1 d1 : BitVec 64) (g : Nat) (w : World) (hg : w.heap.size = g) :
    Calls Tryd.prog 12 #[.slice (some ⟨g, 0, none⟩) 2 2]
      (w.alloc (.cells #[.int .u64 (Oc.U a), .int .u64 (Oc.U b), .int .u64 (Oc.U c), .int .u64 (Oc.U d), .int .u64 (Oc.U a1), .int .u64 (Oc.U b1), .int .u64 (Oc.U c1), .int .u64 (Oc.U d1)] 25))
      fun e w' => e = .returned (.agg #[.int .u64 (Oc.U (a &&& a1)), .int .u64 (Oc.U (b &&& b1)), .int .u64 (Oc.U (c &&& c1)), .int .u64 (Oc.U (d &&& d1))]) ∧ Below (w.heap.size + 1) (w.alloc (.cells #[.int .u64 (Oc.U a), .int .u64 (Oc.U b), .int .u64 (Oc.U c), .int .u64 (Oc.U d), .int .u64 (Oc.U a1), .int .u64 (Oc.U b1), .int .u64 (Oc.U c1), .int .u64 (Oc.U d1)] 25)) w' := by
  subst hg
  refine (meet2_any ⟨_, rfl, heap_alloc_new w _⟩).mono ?_
  rintro e w' ⟨rfl, hb⟩
  exact ⟨rfl, by simpa using hb⟩
theorem join2_at (a b c d a1 b1 c1 d1 e0 e1 e2 e3 : BitVec 64) (g : Nat) (w : World) (hg : w.heap.size = g) (he0 : a ||| a1 = e0) (he1 : b ||| b1 = e1) (he2 : c ||| c1 = e2) (he3 : d ||| d1 = e3) :
    Calls Tryd.prog 33 #[.slice (some ⟨g, 0, none⟩) 2 2]
      (w.alloc (.cells #[.int .u64 (Oc.U a), .int .u64 (Oc.U b), .int .u64 (Oc.U c), .int .u64 (Oc.U d), .int .u64 (Oc.U a1), .int .u64 (Oc.U b1), .int .u64 (Oc.U c1), .int .u64 (Oc.U d1)] 25))
      fun e w' => e = .returned (.agg #[.int .u64 (Oc.U e0), .int .u64 (Oc.U e1), .int .u64 (Oc.U e2), .int .u64 (Oc.U e3)]) ∧ Below (w.heap.size + 1) (w.alloc (.cells #[.int .u64 (Oc.U a), .int .u64 (Oc.U b), .int .u64 (Oc.U c), .int .u64 (Oc.U d), .int .u64 (Oc.U a1), .int .u64 (Oc.U b1), .int .u64 (Oc.U c1), .int .u64 (Oc.U d1)] 25)) w' := by
  subst hg
  refine (join2_any ⟨_, rfl, heap_alloc_new w _⟩).mono ?_
  rintro e w' ⟨rfl, hb⟩
  exact ⟨by rw [he0, he1, he2, he3], by simpa using hb⟩
set_option maxRecDepth 100000 in
set_option maxHeartbeats 2000000 in
theorem fold_any (a b c d : BitVec 64) (w : World) :
    Calls Tryd.prog 19 #[(.agg #[.int .u64 (Oc.U a), .int .u64 (Oc.U b), .int .u64 (Oc.U c), .int .u64 (Oc.U d)])] w fun e w' => e = .returned (.agg #[.int .u64 (Oc.U (Oc.mk (Cl.fold (Oc.mem a b c d)) 0)), .int .u64 (Oc.U (Oc.mk (Cl.fold (Oc.mem a b c d)) 1)), .int .u64 (Oc.U (Oc.mk (Cl.fold (Oc.mem a b c d)) 2)), .int .u64 (Oc.U (Oc.mk (Cl.fold (Oc.mem a b c d)) 3))]) ∧ Below w.heap.size w w' := by
  have he := eq4
  have hst := Cl.fw_start a b c d
  have HST := Lib.hid hst; clear hst
  go_enter Tryd.func19, Tryd.ntmps19
  go_wp2
  go_loopw [4] (fun i wr => ∃ m : Nat, 65 ≤ m ∧ m ≤ 91 ∧ i = .int .u8 m ∧ Below w.heap.size w wr ∧ w.heap.size + 2 < wr.heap.size ∧ wr.heap[w.heap.size]? = some (.cells #[.int .u64 (Oc.U a), .int .u64 (Oc.U b), .int .u64 (Oc.U c), .int .u64 (Oc.U d)] 25) ∧ wr.heap[w.heap.size + 1]? = some (.cells #[.int .u64 0, .int .u64 0, .int .u64 0, .int .u64 0] 25) ∧
    wr.heap[w.heap.size + 1 + 1]? = some (.cells #[.int .u64 (Oc.U (Cl.fw (Oc.mem a b c d) m 0)), .int .u64 (Oc.U (Cl.fw (Oc.mem a b c d) m 1)), .int .u64 (Oc.U (Cl.fw (Oc.mem a b c d) m 2)), .int .u64 (Oc.U (Cl.fw (Oc.mem a b c d) m 3))] 25)) (fun i _ => 91 - (intOf i).toNat)
  case atStart => exact ⟨65, Nat.le_refl _, by omega, rfl, by go_grown, by simp, (three_new _ _ _ _).1, (three_new _ _ _ _).2.1, by rw [HST.out.1, HST.out.2.1, HST.out.2.2.1, HST.out.2.2.2]; exact (three_new _ _ _ _).2.2⟩
  case round =>
    obtain ⟨m, h65, h91, rfl, hbel, hsz, hz0, hz1, hz2⟩ := hrel
    by_cases hlt : m ≤ 90
    · have hi : (m : Int) ≤ 90 := by omega
      have ho : Cl.oth m = m + 32 := by unfold Cl.oth; rw [if_pos ⟨h65, hlt⟩]
      have hm0 := Cl.meets (a := a) (b := b) (c := c) (d := d) (m := m) (by omega)
      have HO := Lib.hid ho; have HM := Lib.hid hm0
      have HB := Lib.hid hbel; have Z0 := Lib.hid hz0; have Z1 := Lib.hid hz1; have Z2 := Lib.hid hz2
      clear ho hm0 hbel hz0 hz1 hz2
      go_wp2_with fail
      refine (other_any m (by omega) _).mono ?_
      rintro e w' ⟨rfl, rfl⟩
      rw [HO.out]
      go_wp2_with fail
      refine (of_pair m (by omega) _ _ rfl rfl _ _ rfl _).mono ?_
      rintro e w1 ⟨rfl, hb1⟩
      have hsz1 : w.heap.size + 2 < w1.heap.size := by have := hb1.size; simp at this; omega
      have B1 := Lib.hid ((HB.out.alloc HB.out.size _).trans (hb1.mono (by have := HB.out.size; omega)))
      have Y0 := Lib.hid (keep_new hb1 Z0.out); have Y1 := Lib.hid (keep_new hb1 Z1.out); have Y2 := Lib.hid (keep_new hb1 Z2.out)
      clear hb1 HB Z0 Z1 Z2
      have s0 := fun o => (four (heap_alloc_lt (o := o) Y0.out)).1
      have s1 := fun o => (four (heap_alloc_lt (o := o) Y0.out)).2.1
      have s2 := fun o => (four (heap_alloc_lt (o := o) Y0.out)).2.2.1
      have s3 := fun o => (four (heap_alloc_lt (o := o) Y0.out)).2.2.2.1
      go_wp2_with fail
      clear s0 s1 s2 s3
      refine (meet2_new _ _ _ _ _ _ _ _ (w1.heap.size + 1) _ (by simp)).mono ?_
      rintro e w2 ⟨rfl, hb2⟩
      have hsz2 : w.heap.size + 2 < w2.heap.size := by have := hb2.size; simp at this; omega
      have hsz3 : w1.heap.size < w2.heap.size := by have := hb2.size; simp at this; omega
      have B2 := Lib.hid (((B1.out.alloc B1.out.size _).alloc (by have := B1.out.size; simp; omega) _).trans (hb2.mono (by have := B1.out.size; simp; omega)))
      have X0 := Lib.hid (keep_new hb2 (heap_alloc_lt Y0.out)); have X1 := Lib.hid (keep_new hb2 (heap_alloc_lt Y1.out)); have X2 := Lib.hid (keep_new hb2 (heap_alloc_lt Y2.out))
      have X3 := Lib.hid (keep_new hb2 (heap_alloc_new w1 _))
      clear hb2 B1 Y0 Y1 Y2
      cases hp : (Oc.mem a b c d m || Oc.mem a b c d (m + 32)) with
      | false =>
        have hm := HM.out
        rw [hp] at hm
        simp only [Bool.not_false] at hm
        have hn := Cl.fw_no (p := Oc.mem a b c d) h65 hlt hp
        have HN := Lib.hid hn
        clear hn hp HM
        go_wp2
        refine ⟨⟨m + 1, by omega, by omega, by go_num, B2.out, hsz2, X0.out, X1.out, ?_⟩, by simp [intOf]; omega⟩
        rw [HN.out, HN.out, HN.out, HN.out]
        exact X2.out
      | true =>
        have hm := HM.out
        rw [hp] at hm
        simp only [Bool.not_true] at hm
        have hn := Cl.fw_yes (p := Oc.mem a b c d) h65 hlt hp
        have HN := Lib.hid hn
        clear hn hp HM
        obtain ⟨c0, c1, c2, c3, -⟩ := four X3.out
        obtain ⟨f0, f1, f2, f3, -⟩ := four X2.out
        go_wp2_with fail
        clear c0 c1 c2 c3 f0 f1 f2 f3
        refine (join2_at _ _ _ _ _ _ _ _ _ _ _ _ _ _ rfl (HN.out 0) (HN.out 1) (HN.out 2) (HN.out 3)).mono ?_
        rintro e w3 ⟨rfl, hb3⟩
        have hsz4 : w.heap.size + 2 < w3.heap.size := by have := hb3.size; simp at this; omega
        have B3 := Lib.hid ((B2.out.alloc B2.out.size _).trans (hb3.mono (by have := B2.out.size; omega)))
        have V0 := Lib.hid (keep_new hb3 X0.out); have V1 := Lib.hid (keep_new hb3 X1.out); have V2 := Lib.hid (keep_new hb3 X2.out)
        clear hb3 B2 X0 X1 X2 X3
        obtain ⟨f0, g0, f1, g1, f2, g2, f3, g3, -⟩ := four_st V2.out
        go_wp2
        refine ⟨⟨m + 1, by omega, by omega, by go_num, ?_, by simpa using hsz4, ?_, ?_, ?_⟩, by simp [intOf]; omega⟩
        · have hb := B3.out
          go_grown
        · exact set4_other _ _ _ _ V0.out (by omega)
        · exact set4_other _ _ _ _ V1.out (by omega)
        · exact set4 _ _ _ _ V2.out
    · obtain rfl : m = 91 := by omega
      have HB := Lib.hid hbel
      rw [Cl.fw_end, Cl.fw_end, Cl.fw_end, Cl.fw_end] at hz2
      obtain ⟨c0, c1, c2, c3, -⟩ := four hz2
      obtain ⟨d0, e0, d1, e1, d2, e2, d3, e3, r0, r1, r2, r3⟩ := four_st hz1
      clear hbel hz0 hz1 hz2
      go_wp2
      have hb := HB.out
      refine bodyPost_ret (v := (.agg #[.int .u64 (Oc.U (Oc.mk (Cl.fold (Oc.mem a b c d)) 0)), .int .u64 (Oc.U (Oc.mk (Cl.fold (Oc.mem a b c d)) 1)), .int .u64 (Oc.U (Oc.mk (Cl.fold (Oc.mem a b c d)) 2)), .int .u64 (Oc.U (Oc.mk (Cl.fold (Oc.mem a b c d)) 3))])) (by simp [results, Tryd.results19, go_sem, r0, r1, r2, r3]) rfl ⟨rfl, ?_⟩
      go_grown
end Go.Proofs.YtbpecijdmhablaaDoor
