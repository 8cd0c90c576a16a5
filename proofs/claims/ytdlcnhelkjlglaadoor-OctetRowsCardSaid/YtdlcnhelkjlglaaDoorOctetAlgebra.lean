/- OctetAlgebra: whatever the two sets, the law returns true. -/
import Derived.Test.YtdlcnhelkjlglaaDoorOcAlg
import Derived.Test.YtdlcnhelkjlglaaDoorOcMore
import Derived.Test.YtdlcnhelkjlglaaDoorOcLives
import Derived.Test.YtdlcnhelkjlglaaDoorRegInv
import Derived.Deep.QuietTactic
import Derived.BigQuiet
namespace Go.Proofs.YtdlcnhelkjlglaaDoor
open Go.RowKit
/-- Rows in a list. -/
def RowsAt (w : World) (p : Option Addr) (L : List (Nat × Nat)) : Prop := ∀ i x, L[i]? = some x → ∃ g, p = some ⟨g, 0, none⟩ ∧ g < w.heap.size ∧ w.cell? ⟨g, i * 2, none⟩ = some (.int .u8 x.1) ∧ w.cell? ⟨g, i * 2 + 1, none⟩ = some (.int .u8 ((x.2 : Int) - 1))
theorem RowsAt.below {w w' : World} {p : Option Addr} {L : List (Nat × Nat)} (h : RowsAt w p L) (hb : Below w.heap.size w w') : RowsAt w' p L := by
  intro i x hx
  obtain ⟨g, e, hg, h0, h1⟩ := h i x hx
  exact ⟨g, e, Nat.lt_of_lt_of_le hg hb.size, (hb.cell (p := ⟨g, _, none⟩) hg).trans h0, (hb.cell (p := ⟨g, _, none⟩) hg).trans h1⟩
theorem rowCells_get : ∀ (L : List (Nat × Nat)) (i : Nat) (x : Nat × Nat), L[i]? = some x → (rowCells L)[i * 2]? = some (.int .u8 x.1) ∧ (rowCells L)[i * 2 + 1]? = some (.int .u8 ((x.2 : Int) - 1))
  | [], i, x, h => by simp at h
  | y :: L, 0, x, h => by simp only [List.getElem?_cons_zero, Option.some.injEq] at h; subst h; exact ⟨rfl, rfl⟩
  | y :: L, i + 1, x, h => by
    simp only [List.getElem?_cons_succ] at h
    obtain ⟨h0, h1⟩ := rowCells_get L i x h
    have e : rowCells (y :: L) = .int .u8 y.1 :: .int .u8 ((y.2 : Int) - 1) :: rowCells L := rfl
    rw [e, show (i + 1) * 2 = i * 2 + 2 by omega, show i * 2 + 2 + 1 = (i * 2 + 1) + 2 by omega]
    exact ⟨h0, h1⟩
/-- An owned list of rows. -/
theorem rows_at {w : World} {base : Nat} {v : Value} {L : List (Nat × Nat)} (h : w.ownsRow base 40 2 v L.length (rowCells L)) : ∃ p cap, v = .slice p L.length cap ∧ RowsAt w p L := by
  rcases h.2 with ⟨rfl, hx⟩ | ⟨g, cap, cur, rfl, hbase, hgb, h1, h2, h3, h4⟩
  · have : L = [] := by
      cases L with
      | nil => rfl
      | cons x l => simp at hx
    subst this
    exact ⟨none, 0, rfl, fun i x hx => by simp at hx⟩
  · refine ⟨some ⟨g, 0, none⟩, cap, rfl, fun i x hx => ⟨g, rfl, (Array.getElem?_eq_some_iff.1 hgb).1, ?_⟩⟩
    obtain ⟨r0, r1⟩ := rowCells_get L i x hx
    have key : ∀ j u, (rowCells L)[j]? = some u → w.cell? ⟨g, j, none⟩ = some u := by
      intro j u hj
      rw [cell_of_row w g _ cur _ _ hgb, ← Array.getElem?_toList]
      rw [← h4, List.getElem?_take] at hj
      split at hj
      · exact hj
      · cases hj
    exact ⟨key _ _ r0, key _ _ r1⟩
/-- The bytes of the first k rows. -/
def inRows (L : List (Nat × Nat)) (k : Nat) : Nat → Bool := fun j => (L.take k).any fun x => decide (x.1 ≤ j) && decide (j < x.2)
theorem inRows_zero (L : List (Nat × Nat)) : inRows L 0 = fun _ => false := by funext j; simp [inRows]
theorem inRows_succ (L : List (Nat × Nat)) (k : Nat) (x : Nat × Nat) (h : L[k]? = some x) : inRows L (k + 1) = fun j => inRows L k j || upto x.1 x.2 j := by
  funext j
  unfold inRows upto
  rw [List.take_add_one, h]
  simp
theorem mk_or (p q : Nat → Bool) (k : Nat) : Oc.mk p k ||| Oc.mk q k = Oc.mk (fun j => p j || q j) k := by
  apply BitVec.eq_of_getLsbD_eq
  intro i hi
  rw [BitVec.getLsbD_or, Oc.mk_bit _ _ _ hi, Oc.mk_bit _ _ _ hi, Oc.mk_bit _ _ _ hi]
theorem mk_none (k : Nat) : Oc.mk (fun _ => false) k = 0#64 := Oc.mk_eq fun i _ => by simp
theorem notor_any (a b c d a' b' c' d' : BitVec 64) (w : World) : Calls Tryd.prog 22 #[(.agg #[.int .u64 (Oc.U (a ||| a')), .int .u64 (Oc.U (b ||| b')), .int .u64 (Oc.U (c ||| c')), .int .u64 (Oc.U (d ||| d'))])] w fun e w' => e = .returned (.agg #[.int .u64 (Oc.U (~~~a &&& ~~~a')), .int .u64 (Oc.U (~~~b &&& ~~~b')), .int .u64 (Oc.U (~~~c &&& ~~~c')), .int .u64 (Oc.U (~~~d &&& ~~~d'))]) ∧ Below w.heap.size w w' := by
  have h := not_any (a ||| a') (b ||| b') (c ||| c') (d ||| d') w
  simpa only [BitVec.not_or] using h
theorem counts (a b c d a' b' c' d' : BitVec 64) : ∃ nO nA n1 n2 nN : Nat, nO + nA = n1 + n2 ∧ nN + n1 = 256 ∧ n1 + n2 ≤ 512 ∧ (∀ w, Calls Tryd.prog 12 #[(.agg #[.int .u64 (Oc.U (a ||| a')), .int .u64 (Oc.U (b ||| b')), .int .u64 (Oc.U (c ||| c')), .int .u64 (Oc.U (d ||| d'))])] w fun e w' => e = .returned (.int .i64 (nO : Int)) ∧ Below w.heap.size w w') ∧ (∀ w, Calls Tryd.prog 12 #[(.agg #[.int .u64 (Oc.U (a &&& a')), .int .u64 (Oc.U (b &&& b')), .int .u64 (Oc.U (c &&& c')), .int .u64 (Oc.U (d &&& d'))])] w fun e w' => e = .returned (.int .i64 (nA : Int)) ∧ Below w.heap.size w w') ∧ (∀ w, Calls Tryd.prog 12 #[(.agg #[.int .u64 (Oc.U a), .int .u64 (Oc.U b), .int .u64 (Oc.U c), .int .u64 (Oc.U d)])] w fun e w' => e = .returned (.int .i64 (n1 : Int)) ∧ Below w.heap.size w w') ∧ (∀ w, Calls Tryd.prog 12 #[(.agg #[.int .u64 (Oc.U a'), .int .u64 (Oc.U b'), .int .u64 (Oc.U c'), .int .u64 (Oc.U d')])] w fun e w' => e = .returned (.int .i64 (n2 : Int)) ∧ Below w.heap.size w w') ∧ (∀ w, Calls Tryd.prog 12 #[(.agg #[.int .u64 (Oc.U (~~~a)), .int .u64 (Oc.U (~~~b)), .int .u64 (Oc.U (~~~c)), .int .u64 (Oc.U (~~~d))])] w fun e w' => e = .returned (.int .i64 (nN : Int)) ∧ Below w.heap.size w w') := by
  refine ⟨_, _, _, _, _, ?_, ?_, ?_, fun w => count_any _ _ _ _ w, fun w => count_any _ _ _ _ w, fun w => count_any _ _ _ _ w, fun w => count_any _ _ _ _ w, fun w => count_any _ _ _ _ w⟩
  · have e1 : Oc.mem (a ||| a') (b ||| b') (c ||| c') (d ||| d') = fun i => Oc.mem a b c d i || Oc.mem a' b' c' d' i := by funext i; exact Oc.mem_or _ _ _ _ _ _ _ _ i
    have e2 : Oc.mem (a &&& a') (b &&& b') (c &&& c') (d &&& d') = fun i => Oc.mem a b c d i && Oc.mem a' b' c' d' i := by funext i; exact Oc.mem_and _ _ _ _ _ _ _ _ i
    rw [e1, e2]; exact Oc.cnt_or_and _ _ 256
  · have e1 : Oc.mem (~~~a) (~~~b) (~~~c) (~~~d) = fun i => !Oc.mem a b c d i := by funext i; exact Oc.mem_not _ _ _ _ i
    rw [e1]; exact Oc.cnt_not _ 256
  · have := Oc.cnt_le (Oc.mem a b c d) 256; have := Oc.cnt_le (Oc.mem a' b' c' d') 256; omega
theorem rowsFrom_len (p q : Nat → Bool) : ∀ k m, (Oc.rowsFrom p q k m).length ≤ k
  | 0, m => Nat.le_refl _
  | k + 1, m => by
    unfold Oc.rowsFrom
    split
    · have := rowsFrom_len p q k (Oc.nx p (Oc.nx q m)); simp; omega
    · simp
theorem cut_none {α : Type} (l : List α) : cut (-1) l = l := by unfold cut; rw [if_neg (by omega)]
set_option maxRecDepth 100000 in
set_option maxHeartbeats 6000000 in
theorem algebra_any (a b c d a' b' c' d' : BitVec 64) (w : World) (hT : TabAt 21 Lib.deBruijn64tab w) :
    Calls Tryd.prog 5 #[(.agg #[.int .u64 (Oc.U a), .int .u64 (Oc.U b), .int .u64 (Oc.U c), .int .u64 (Oc.U d)]), (.agg #[.int .u64 (Oc.U a'), .int .u64 (Oc.U b'), .int .u64 (Oc.U c'), .int .u64 (Oc.U d')])] w fun e w' => e = .returned (.bool true) ∧ Below w.heap.size w w' := by
  have he := eq4
  have HT := Lib.hid hT
  clear hT
  go_enter Tryd.func5, Tryd.ntmps5
  go_wp2_with fail
  refine (lives_any _).mono ?_
  rintro e w1 ⟨rfl, hb1⟩
  have hbw1 : Below w.heap.size w w1 := (((Below.refl _ _).alloc (Nat.le_refl _) _).alloc (by simp) _).trans (hb1.mono (by simp; omega))
  have hsz1 : w.heap.size + 2 ≤ w1.heap.size := by have := hb1.size; simp at this; omega
  have hza : w1.heap[w.heap.size]? = some (.cells #[.int .u64 (Oc.U a), .int .u64 (Oc.U b), .int .u64 (Oc.U c), .int .u64 (Oc.U d)] 24) := (hb1.block _ (by simp; omega)).trans (two_new _ _ _).1
  have hzb : w1.heap[w.heap.size + 1]? = some (.cells #[.int .u64 (Oc.U a'), .int .u64 (Oc.U b'), .int .u64 (Oc.U c'), .int .u64 (Oc.U d')] 24) := (hb1.block _ (by simp)).trans (two_new _ _ _).2
  obtain ⟨c0, c1, c2, c3, -⟩ := four hza
  have ZA1 := Lib.hid hza; have ZB1 := Lib.hid hzb
  have HT1 := Lib.hid (tab_kept HT.out (KeepsSets.of_below hbw1))
  clear hza hzb hb1
  go_wp2_with fail
  refine (rows_any a b c d (-1) w1 HT1.out).mono ?_
  rintro e w2 ⟨v, rfl, hown, -, hb2⟩
  rw [cut_none] at hown
  obtain ⟨p, cap, rfl, hR⟩ := rows_at hown
  have ZA2 := Lib.hid (keep_blk hb2 ZA1.out); have ZB2 := Lib.hid (keep_blk hb2 ZB1.out)
  have HR2 := Lib.hid hR
  have hbw2 := hbw1.trans (hb2.mono hbw1.size)
  have hsz2 : w.heap.size + 2 ≤ w2.heap.size := by have := hb2.size; omega
  obtain ⟨f1, f2, f3⟩ := Oc.rowsFrom_spec (p := Oc.mem a b c d) (q := Oc.mem (~~~a) (~~~b) (~~~c) (~~~d)) (fun j => Oc.mem_not a b c d j) 257 (Oc.nx (Oc.mem a b c d) 0) (Oc.nx_spec (Oc.mem a b c d) 0 (by omega)).2.1 (by omega) (Oc.nx_spec (Oc.mem a b c d) 0 (by omega)).2.2.2
  have F1 := Lib.hid f1; have F2 := Lib.hid f2; have F3 := Lib.hid f3
  clear hR hown hb2 c0 c1 c2 c3 ZA1 ZB1 HT1 hbw1 hsz1 f1 f2 f3
  obtain ⟨RL, hL⟩ : ∃ RL, Oc.rowsOf (Oc.mem a b c d) (Oc.mem (~~~a) (~~~b) (~~~c) (~~~d)) = RL := ⟨_, rfl⟩
  have hL2 : Oc.rowsFrom (Oc.mem a b c d) (Oc.mem (~~~a) (~~~b) (~~~c) (~~~d)) 257 (Oc.nx (Oc.mem a b c d) 0) = RL := hL
  have hll : RL.length ≤ 257 := by rw [← hL2]; exact rowsFrom_len _ _ _ _
  rw [hL2] at F1 F2 F3
  rw [hL] at HR2 ⊢
  clear hL hL2
  go_wp2_with fail
  have hmk : ∀ k, Oc.U (Oc.mk (inRows RL 0) k) = 0 := fun k => by rw [inRows_zero, mk_none]; decide
  go_loopw [22] (fun i wr => ∃ k : Nat, k ≤ RL.length ∧ i = .int .i64 k ∧ Below w2.heap.size w2 wr ∧ w2.heap.size < wr.heap.size ∧ wr.heap[w2.heap.size]? = some (.cells #[.int .u64 (Oc.U (Oc.mk (inRows RL k) 0)), .int .u64 (Oc.U (Oc.mk (inRows RL k) 1)), .int .u64 (Oc.U (Oc.mk (inRows RL k) 2)), .int .u64 (Oc.U (Oc.mk (inRows RL k) 3))] 24)) (fun i _ => RL.length - (intOf i).toNat)
  case atStart =>
    refine ⟨0, Nat.zero_le _, rfl, by go_grown, by simp, ?_⟩
    rw [hmk, hmk, hmk, hmk]
    exact heap_alloc_new _ _
  case round =>
    obtain ⟨k, hk, rfl, hbel, hsz, hmd⟩ := hrel
    have HM := Lib.hid hmd
    clear hmd hmk
    by_cases hlt : k < RL.length
    · obtain ⟨x, hx⟩ : ∃ x, RL[k]? = some x := ⟨_, List.getElem?_eq_getElem hlt⟩
      obtain ⟨g, rfl, hg, h0, h1⟩ := HR2.out.below hbel k x hx
      obtain ⟨-, hx1, hx2⟩ := F1.out x (List.mem_of_getElem? hx)
      obtain ⟨h, hh⟩ : ∃ h, x.2 = h + 1 := ⟨x.2 - 1, by omega⟩
      have hh2 : (x.2 : Int) - 1 = (h : Int) := by omega
      rw [hh2] at h1
      have HX := Lib.hid hx
      clear hx
      obtain ⟨kk, hkk⟩ : ∃ kk, kk = k := ⟨k, rfl⟩
      have HMK := HM; have HXK := HX
      rw [← hkk] at HMK HXK
      cases k with
      | zero =>
        go_wp2_with fail
        obtain ⟨W, hW⟩ : ∃ W, wr.alloc (.cells #[.int .u8 x.1, .int .u8 (h : Int)] 40) = W := ⟨_, rfl⟩
        have hbW : Below wr.heap.size wr W := by rw [← hW]; exact below_new _
        have n0 : W.cell? ⟨wr.heap.size, 0, none⟩ = some (.int .u8 x.1) := by rw [← hW, cell_new]; rfl
        have n1 : W.cell? ⟨wr.heap.size, 1, none⟩ = some (.int .u8 (h : Int)) := by rw [← hW, cell_new]; rfl
        have HM2 := Lib.hid (keep_blk hbW HMK.out)
        have hszW : w2.heap.size < W.heap.size := by have := hbW.size; omega
        have hbW2 := hbel.trans (hbW.mono hbel.size)
        rw [hW]
        have HRW := Lib.hid (show W.heap[wr.heap.size]? = some (.cells #[.int .u8 x.1, .int .u8 (h : Int)] 40) by rw [← hW]; exact heap_alloc_new _ _)
        clear hW hbW h0 h1 hg HM HX HMK
        have d1 : decide ((h : Int) < (x.1 : Int)) = false := decide_eq_false (by omega)
        have d1b : decide (h < x.1) = false := decide_eq_false (by omega)
        go_quiet (fail)
        go_wp2_with fail
        generalize hWd : World.drewN W _ = Wd
        have hbD : Below w2.heap.size w2 Wd := by rw [← hWd]; exact below_drewN hbW2 _
        have hszD : w2.heap.size < Wd.heap.size := by rw [← hWd]; exact hszW
        have HMD := Lib.hid (show Wd.heap[w2.heap.size]? = some (.cells #[.int .u64 (Oc.U (Oc.mk (inRows RL kk) 0)), .int .u64 (Oc.U (Oc.mk (inRows RL kk) 1)), .int .u64 (Oc.U (Oc.mk (inRows RL kk) 2)), .int .u64 (Oc.U (Oc.mk (inRows RL kk) 3))] 24) by rw [← hWd]; exact HM2.out)
        have HRD := Lib.hid (show Wd.heap[wr.heap.size]? = some (.cells #[.int .u8 x.1, .int .u8 (h : Int)] 40) by rw [← hWd]; exact HRW.out)
        clear hWd HM2 HRW hbW2 hszW n0 n1
        refine Ri.wp_region_frame (by kernel_rfl) (by kernel_rfl) (by kernel_rfl) (by kernel_rfl)
          (fun L v w' => Below w2.heap.size w2 w' ∧ w2.heap.size < w'.heap.size ∧ w'.heap[w2.heap.size]? = some (if L 8 then (.cells #[.int .u64 (Oc.U (Oc.mk (inRows RL kk) 0 ||| Oc.mk (upto x.1 (h + 1)) 0)), .int .u64 (Oc.U (Oc.mk (inRows RL kk) 1 ||| Oc.mk (upto x.1 (h + 1)) 1)), .int .u64 (Oc.U (Oc.mk (inRows RL kk) 2 ||| Oc.mk (upto x.1 (h + 1)) 2)), .int .u64 (Oc.U (Oc.mk (inRows RL kk) 3 ||| Oc.mk (upto x.1 (h + 1)) 3))] 24) else (.cells #[.int .u64 (Oc.U (Oc.mk (inRows RL kk) 0)), .int .u64 (Oc.U (Oc.mk (inRows RL kk) 1)), .int .u64 (Oc.U (Oc.mk (inRows RL kk) 2)), .int .u64 (Oc.U (Oc.mk (inRows RL kk) 3))] 24)) ∧ w'.heap[wr.heap.size]? = some (.cells #[.int .u8 x.1, .int .u8 (h : Int)] 40) ∧ (L 8 = true → L 0 = true ∧ L 7 = true) ∧ (L 0 = true → v 0 = (.agg #[.int .u64 (Oc.U (Oc.mk (inRows RL kk) 0)), .int .u64 (Oc.U (Oc.mk (inRows RL kk) 1)), .int .u64 (Oc.U (Oc.mk (inRows RL kk) 2)), .int .u64 (Oc.U (Oc.mk (inRows RL kk) 3))])) ∧ (L 1 = true → v 1 = .pointer (some ⟨wr.heap.size, 0, none⟩)) ∧ (L 2 = true → v 2 = .int .u8 x.1) ∧ (L 3 = true → v 3 = .pointer (some ⟨wr.heap.size, 1, none⟩)) ∧ (L 4 = true → v 4 = .int .u8 (h : Int)) ∧ (L 5 = true → v 5 = (.agg #[.int .u64 (Oc.U (Oc.mk (upto x.1 (h + 1)) 0)), .int .u64 (Oc.U (Oc.mk (upto x.1 (h + 1)) 1)), .int .u64 (Oc.U (Oc.mk (upto x.1 (h + 1)) 2)), .int .u64 (Oc.U (Oc.mk (upto x.1 (h + 1)) 3))])) ∧ (L 8 = false → L 6 = true → Sl2 w' (v 6) (Oc.mk (inRows RL kk) 0) (Oc.mk (inRows RL kk) 1) (Oc.mk (inRows RL kk) 2) (Oc.mk (inRows RL kk) 3) (Oc.mk (upto x.1 (h + 1)) 0) (Oc.mk (upto x.1 (h + 1)) 1) (Oc.mk (upto x.1 (h + 1)) 2) (Oc.mk (upto x.1 (h + 1)) 3)) ∧ (L 7 = true → v 7 = (.agg #[.int .u64 (Oc.U (Oc.mk (inRows RL kk) 0 ||| Oc.mk (upto x.1 (h + 1)) 0)), .int .u64 (Oc.U (Oc.mk (inRows RL kk) 1 ||| Oc.mk (upto x.1 (h + 1)) 1)), .int .u64 (Oc.U (Oc.mk (inRows RL kk) 2 ||| Oc.mk (upto x.1 (h + 1)) 2)), .int .u64 (Oc.U (Oc.mk (inRows RL kk) 3 ||| Oc.mk (upto x.1 (h + 1)) 3))])))
          ?_ ?_ ?_
        · exact ⟨hbD.drew, hszD, HMD.out, HRD.out, (by simp), by simp, by simp, by simp, by simp, by simp, by simp, by simp, by simp⟩
        · intro i hi9 L v w7 xa hI hL hd hv ho
          have hi' : i = 0 ∨ i = 1 ∨ i = 2 ∨ i = 3 ∨ i = 4 ∨ i = 5 ∨ i = 6 ∨ i = 7 ∨ i = 8 := by simp at hi9; omega
          obtain ⟨hb, hz, qJ, qR, q8, q0, q1, q2, q3, q4, q5, q6, q7⟩ := hI
          rcases hi' with rfl | rfl | rfl | rfl | rfl | rfl | rfl | rfl | rfl
          · have e7 : xa.tmps.getD 7 undef = .pointer (some ⟨w2.heap.size, 0, none⟩) := ho 7 (by kernel_rfl)
            have l8 : L 8 = false := by cases e : L 8 with | false => rfl | true => (rw [(q8 e).1] at hL; cases hL)
            have qJ2 := qJ; rw [l8] at qJ2
            refine Ri.step_plain rfl rfl (fun K' hK => ?_)
            refine wp_load_row _ _ rfl _ e7 _ _ _ _ qJ2 Tryd.underlying24 rfl (by kernel_rfl) ?_
            exact hK _ _ ⟨_, _, rfl, rfl, hb, hz, qJ, qR, fun l => ⟨rfl, (q8 l).2⟩, fun _ => rfl, q1, q2, q3, q4, q5, q6, q7⟩
          · have e9 : xa.tmps.getD 9 undef = .pointer (some ⟨wr.heap.size, 0, none⟩) := ho 9 (by kernel_rfl)
            refine Ri.step_plain rfl rfl (fun K' hK => ?_)
            go_simp
            exact hK _ _ ⟨_, _, rfl, rfl, hb, hz, qJ, qR, q8, q0, fun _ => rfl, q2, q3, q4, q5, q6, q7⟩
          · have l0 : L 1 = true := by have := hd _ rfl; simp [Region.binds] at this; simp [this]
            have f1 := (hv 1 51 rfl l0).trans (q1 l0)
            have z0 : w7.cell? ⟨wr.heap.size, 0, none⟩ = some (.int .u8 x.1) := by simp [World.cell?, qR]
            refine Ri.step_plain rfl rfl (fun K' hK => ?_)
            go_simp
            exact hK _ _ ⟨_, _, rfl, rfl, hb, hz, qJ, qR, q8, q0, q1, fun _ => rfl, q3, q4, q5, q6, q7⟩
          · have e9 : xa.tmps.getD 9 undef = .pointer (some ⟨wr.heap.size, 0, none⟩) := ho 9 (by kernel_rfl)
            refine Ri.step_plain rfl rfl (fun K' hK => ?_)
            go_simp
            exact hK _ _ ⟨_, _, rfl, rfl, hb, hz, qJ, qR, q8, q0, q1, q2, fun _ => rfl, q4, q5, q6, q7⟩
          · have l0 : L 3 = true := by have := hd _ rfl; simp [Region.binds] at this; simp [this]
            have f3 := (hv 3 53 rfl l0).trans (q3 l0)
            have z0 : w7.cell? ⟨wr.heap.size, 1, none⟩ = some (.int .u8 (h : Int)) := by simp [World.cell?, qR]
            refine Ri.step_plain rfl rfl (fun K' hK => ?_)
            go_simp
            exact hK _ _ ⟨_, _, rfl, rfl, hb, hz, qJ, qR, q8, q0, q1, q2, q3, fun _ => rfl, q5, q6, q7⟩
          · have l0 : L 2 = true ∧ L 4 = true := by have := hd _ rfl; simp [Region.binds] at this; simp [this]
            have f2 := (hv 2 52 rfl l0.1).trans (q2 l0.1)
            have f4 := (hv 4 54 rfl l0.2).trans (q4 l0.2)
            refine Ri.step_plain rfl rfl (fun K' hK => ?_)
            go_simp
            refine (range_any x.1 h (by omega) (by omega) _).mono ?_
            rintro e w8 ⟨rfl, hb8⟩
            exact hK _ _ ⟨_, _, rfl, rfl, hb.trans (hb8.mono hb.size), Nat.lt_of_lt_of_le hz hb8.size, keep_blk hb8 qJ, keep_blk hb8 qR, q8, q0, q1, q2, q3, q4, fun _ => rfl, fun l8 l => (q6 l8 l).below hb8, q7⟩
          · have l0 : L 0 = true ∧ L 5 = true := by have := hd _ rfl; simp [Region.binds] at this; simp [this]
            have f0 := (hv 0 50 rfl l0.1).trans (q0 l0.1)
            have f5 := (hv 5 55 rfl l0.2).trans (q5 l0.2)
            refine Ri.step_plain rfl rfl (fun K' hK => ?_)
            refine wp_pair _ _ rfl f0 f5 ?_
            exact hK _ _ ⟨_, _, rfl, rfl, hb.alloc hb.size _, (by simp; omega), heap_alloc_lt qJ, heap_alloc_lt qR, q8, q0, q1, q2, q3, q4, q5, fun _ _ => ⟨_, rfl, heap_alloc_new _ _⟩, q7⟩
          · have l0 : L 6 = true := by have := hd _ rfl; simp [Region.binds] at this; simp [this]
            have f6 := hv 6 56 rfl l0
            have l8 : L 8 = false := by cases e : L 8 with | false => rfl | true => (rw [(q8 e).2] at hL; cases hL)
            refine Ri.step_plain rfl rfl (fun K' hK => ?_)
            go_simp
            refine (join2_any (q6 l8 l0)).mono ?_
            rintro e w8 ⟨rfl, hb8⟩
            exact hK _ _ ⟨_, _, rfl, rfl, hb.trans (hb8.mono hb.size), Nat.lt_of_lt_of_le hz hb8.size, keep_blk hb8 qJ, keep_blk hb8 qR, fun l => ⟨(q8 l).1, rfl⟩, q0, q1, q2, q3, q4, q5, fun l8 l => (q6 l8 l).below hb8, fun _ => rfl⟩
          · have l0 : L 7 = true ∧ L 0 = true := by have := hd _ rfl; simp [Region.binds] at this; simp [this]
            have f7 := (hv 7 57 rfl l0.1).trans (q7 l0.1)
            have f0 := (hv 0 50 rfl l0.2).trans (q0 l0.2)
            have e7 : xa.tmps.getD 7 undef = .pointer (some ⟨w2.heap.size, 0, none⟩) := ho 7 (by kernel_rfl)
            refine Ri.step_plain rfl rfl (fun K' hK => ?_)
            rw [hL] at qJ
            refine wp_store_row _ _ _ rfl w2.heap.size _ e7 f7 24 _ qJ (by kernel_rfl) rfl (by kernel_rfl) ?_
            exact hK _ _ ⟨_, undef, rfl, rfl, below_setRow hb (Nat.le_refl _) _, (by simpa using hz), heap_setRow qJ, (heap_setRow_other _ _ _ (by omega)).trans qR, fun _ => ⟨l0.2, l0.1⟩, q0, q1, q2, q3, q4, q5, fun l8 _ => Bool.noConfusion l8, q7⟩
        · rintro v w7 ⟨hb, hz, qJ, -, -, -, -, -, -, -, -, -, -⟩
          simp only [Ri.frame, List.zipIdx, List.foldl_cons, List.foldl_nil, if_true, List.setIfInBounds_toArray, List.set_cons_zero, List.set_cons_succ, Nat.reduceAdd]
          generalize v 0 = y0; generalize v 1 = y1; generalize v 2 = y2; generalize v 3 = y3; generalize v 4 = y4; generalize v 5 = y5; generalize v 6 = y6; generalize v 7 = y7
          have qJ' : w7.heap[w2.heap.size]? = some (.cells #[.int .u64 (Oc.U (Oc.mk (inRows RL kk) 0 ||| Oc.mk (upto x.1 (h + 1)) 0)), .int .u64 (Oc.U (Oc.mk (inRows RL kk) 1 ||| Oc.mk (upto x.1 (h + 1)) 1)), .int .u64 (Oc.U (Oc.mk (inRows RL kk) 2 ||| Oc.mk (upto x.1 (h + 1)) 2)), .int .u64 (Oc.U (Oc.mk (inRows RL kk) 3 ||| Oc.mk (upto x.1 (h + 1)) 3))] 24) := qJ
          have hr : ∀ z, Oc.mk (inRows RL kk) z ||| Oc.mk (upto x.1 (h + 1)) z = Oc.mk (inRows RL (kk + 1)) z := fun z => by rw [mk_or, inRows_succ RL kk x HXK.out, hh]
          rw [hr, hr, hr, hr] at qJ'
          clear qJ HMD HRD
          go_wp2_with fail
          exact ⟨⟨kk + 1, by omega, by subst hkk; go_num, hb, hz, qJ'⟩, by simp [intOf]; omega⟩
      | succ k =>
        obtain ⟨y, hy⟩ : ∃ y, RL[k]? = some y := ⟨_, List.getElem?_eq_getElem (by omega)⟩
        obtain ⟨g2, eg, hg2, i0, i1⟩ := HR2.out.below hbel k y hy
        simp only [Option.some.injEq, Addr.mk.injEq, and_true] at eg
        subst eg
        have hyx := F2.out k y x hy HX.out
        obtain ⟨-, hy1, hy2⟩ := F1.out y (List.mem_of_getElem? hy)
        clear hy
        go_wp2_with fail
        obtain ⟨W, hW⟩ : ∃ W, wr.alloc (.cells #[.int .u8 x.1, .int .u8 (h : Int)] 40) = W := ⟨_, rfl⟩
        have hbW : Below wr.heap.size wr W := by rw [← hW]; exact below_new _
        have n0 : W.cell? ⟨wr.heap.size, 0, none⟩ = some (.int .u8 x.1) := by rw [← hW, cell_new]; rfl
        have n1 : W.cell? ⟨wr.heap.size, 1, none⟩ = some (.int .u8 (h : Int)) := by rw [← hW, cell_new]; rfl
        have HM2 := Lib.hid (keep_blk hbW HMK.out)
        have hszW : w2.heap.size < W.heap.size := by have := hbW.size; omega
        have hbW2 := hbel.trans (hbW.mono hbel.size)
        rw [hW]
        have j1 : W.cell? ⟨g, k * 2 + 1, none⟩ = some (.int .u8 ((y.2 : Int) - 1)) := (hbW.cell (p := ⟨g, _, none⟩) hg).trans i1
        have HRW := Lib.hid (show W.heap[wr.heap.size]? = some (.cells #[.int .u8 x.1, .int .u8 (h : Int)] 40) by rw [← hW]; exact heap_alloc_new _ _)
        clear hW hbW h0 h1 hg HM HX HMK i0 i1 hg2
        have s1 : IntKind.i64.wrap (((k + 1 : Nat) : Int) - 1) = (k : Int) := (IntWalk.i64_in _ (by omega)).trans (by omega)
        have s2 : IntKind.i64.wrap ((y.2 : Int) - 1 + 1) = (y.2 : Int) := (IntWalk.i64_in _ (by omega)).trans (by omega)
        have d1 : decide ((h : Int) < (x.1 : Int)) = false := decide_eq_false (by omega)
        have d1b : decide (h < x.1) = false := decide_eq_false (by omega)
        have d2 : decide ((0 : Int) < ((k + 1 : Nat) : Int)) = true := decide_eq_true (by omega)
        have d2' : decide ((0 : Int) < (k : Int) + 1) = true := decide_eq_true (by omega)
        have d3 : decide ((x.1 : Int) ≤ (y.2 : Int)) = false := decide_eq_false (by omega)
        go_quiet (fail)
        go_wp2_with fail
        generalize hWd : World.drewN W _ = Wd
        have hbD : Below w2.heap.size w2 Wd := by rw [← hWd]; exact below_drewN hbW2 _
        have hszD : w2.heap.size < Wd.heap.size := by rw [← hWd]; exact hszW
        have HMD := Lib.hid (show Wd.heap[w2.heap.size]? = some (.cells #[.int .u64 (Oc.U (Oc.mk (inRows RL kk) 0)), .int .u64 (Oc.U (Oc.mk (inRows RL kk) 1)), .int .u64 (Oc.U (Oc.mk (inRows RL kk) 2)), .int .u64 (Oc.U (Oc.mk (inRows RL kk) 3))] 24) by rw [← hWd]; exact HM2.out)
        have HRD := Lib.hid (show Wd.heap[wr.heap.size]? = some (.cells #[.int .u8 x.1, .int .u8 (h : Int)] 40) by rw [← hWd]; exact HRW.out)
        clear hWd HM2 HRW hbW2 hszW n0 n1
        refine Ri.wp_region_frame (by kernel_rfl) (by kernel_rfl) (by kernel_rfl) (by kernel_rfl)
          (fun L v w' => Below w2.heap.size w2 w' ∧ w2.heap.size < w'.heap.size ∧ w'.heap[w2.heap.size]? = some (if L 8 then (.cells #[.int .u64 (Oc.U (Oc.mk (inRows RL kk) 0 ||| Oc.mk (upto x.1 (h + 1)) 0)), .int .u64 (Oc.U (Oc.mk (inRows RL kk) 1 ||| Oc.mk (upto x.1 (h + 1)) 1)), .int .u64 (Oc.U (Oc.mk (inRows RL kk) 2 ||| Oc.mk (upto x.1 (h + 1)) 2)), .int .u64 (Oc.U (Oc.mk (inRows RL kk) 3 ||| Oc.mk (upto x.1 (h + 1)) 3))] 24) else (.cells #[.int .u64 (Oc.U (Oc.mk (inRows RL kk) 0)), .int .u64 (Oc.U (Oc.mk (inRows RL kk) 1)), .int .u64 (Oc.U (Oc.mk (inRows RL kk) 2)), .int .u64 (Oc.U (Oc.mk (inRows RL kk) 3))] 24)) ∧ w'.heap[wr.heap.size]? = some (.cells #[.int .u8 x.1, .int .u8 (h : Int)] 40) ∧ (L 8 = true → L 0 = true ∧ L 7 = true) ∧ (L 0 = true → v 0 = (.agg #[.int .u64 (Oc.U (Oc.mk (inRows RL kk) 0)), .int .u64 (Oc.U (Oc.mk (inRows RL kk) 1)), .int .u64 (Oc.U (Oc.mk (inRows RL kk) 2)), .int .u64 (Oc.U (Oc.mk (inRows RL kk) 3))])) ∧ (L 1 = true → v 1 = .pointer (some ⟨wr.heap.size, 0, none⟩)) ∧ (L 2 = true → v 2 = .int .u8 x.1) ∧ (L 3 = true → v 3 = .pointer (some ⟨wr.heap.size, 1, none⟩)) ∧ (L 4 = true → v 4 = .int .u8 (h : Int)) ∧ (L 5 = true → v 5 = (.agg #[.int .u64 (Oc.U (Oc.mk (upto x.1 (h + 1)) 0)), .int .u64 (Oc.U (Oc.mk (upto x.1 (h + 1)) 1)), .int .u64 (Oc.U (Oc.mk (upto x.1 (h + 1)) 2)), .int .u64 (Oc.U (Oc.mk (upto x.1 (h + 1)) 3))])) ∧ (L 8 = false → L 6 = true → Sl2 w' (v 6) (Oc.mk (inRows RL kk) 0) (Oc.mk (inRows RL kk) 1) (Oc.mk (inRows RL kk) 2) (Oc.mk (inRows RL kk) 3) (Oc.mk (upto x.1 (h + 1)) 0) (Oc.mk (upto x.1 (h + 1)) 1) (Oc.mk (upto x.1 (h + 1)) 2) (Oc.mk (upto x.1 (h + 1)) 3)) ∧ (L 7 = true → v 7 = (.agg #[.int .u64 (Oc.U (Oc.mk (inRows RL kk) 0 ||| Oc.mk (upto x.1 (h + 1)) 0)), .int .u64 (Oc.U (Oc.mk (inRows RL kk) 1 ||| Oc.mk (upto x.1 (h + 1)) 1)), .int .u64 (Oc.U (Oc.mk (inRows RL kk) 2 ||| Oc.mk (upto x.1 (h + 1)) 2)), .int .u64 (Oc.U (Oc.mk (inRows RL kk) 3 ||| Oc.mk (upto x.1 (h + 1)) 3))])))
          ?_ ?_ ?_
        · exact ⟨hbD.drew, hszD, HMD.out, HRD.out, (by simp), by simp, by simp, by simp, by simp, by simp, by simp, by simp, by simp⟩
        · intro i hi9 L v w7 xa hI hL hd hv ho
          have hi' : i = 0 ∨ i = 1 ∨ i = 2 ∨ i = 3 ∨ i = 4 ∨ i = 5 ∨ i = 6 ∨ i = 7 ∨ i = 8 := by simp at hi9; omega
          obtain ⟨hb, hz, qJ, qR, q8, q0, q1, q2, q3, q4, q5, q6, q7⟩ := hI
          rcases hi' with rfl | rfl | rfl | rfl | rfl | rfl | rfl | rfl | rfl
          · have e7 : xa.tmps.getD 7 undef = .pointer (some ⟨w2.heap.size, 0, none⟩) := ho 7 (by kernel_rfl)
            have l8 : L 8 = false := by cases e : L 8 with | false => rfl | true => (rw [(q8 e).1] at hL; cases hL)
            have qJ2 := qJ; rw [l8] at qJ2
            refine Ri.step_plain rfl rfl (fun K' hK => ?_)
            refine wp_load_row _ _ rfl _ e7 _ _ _ _ qJ2 Tryd.underlying24 rfl (by kernel_rfl) ?_
            exact hK _ _ ⟨_, _, rfl, rfl, hb, hz, qJ, qR, fun l => ⟨rfl, (q8 l).2⟩, fun _ => rfl, q1, q2, q3, q4, q5, q6, q7⟩
          · have e9 : xa.tmps.getD 9 undef = .pointer (some ⟨wr.heap.size, 0, none⟩) := ho 9 (by kernel_rfl)
            refine Ri.step_plain rfl rfl (fun K' hK => ?_)
            go_simp
            exact hK _ _ ⟨_, _, rfl, rfl, hb, hz, qJ, qR, q8, q0, fun _ => rfl, q2, q3, q4, q5, q6, q7⟩
          · have l0 : L 1 = true := by have := hd _ rfl; simp [Region.binds] at this; simp [this]
            have f1 := (hv 1 51 rfl l0).trans (q1 l0)
            have z0 : w7.cell? ⟨wr.heap.size, 0, none⟩ = some (.int .u8 x.1) := by simp [World.cell?, qR]
            refine Ri.step_plain rfl rfl (fun K' hK => ?_)
            go_simp
            exact hK _ _ ⟨_, _, rfl, rfl, hb, hz, qJ, qR, q8, q0, q1, fun _ => rfl, q3, q4, q5, q6, q7⟩
          · have e9 : xa.tmps.getD 9 undef = .pointer (some ⟨wr.heap.size, 0, none⟩) := ho 9 (by kernel_rfl)
            refine Ri.step_plain rfl rfl (fun K' hK => ?_)
            go_simp
            exact hK _ _ ⟨_, _, rfl, rfl, hb, hz, qJ, qR, q8, q0, q1, q2, fun _ => rfl, q4, q5, q6, q7⟩
          · have l0 : L 3 = true := by have := hd _ rfl; simp [Region.binds] at this; simp [this]
            have f3 := (hv 3 53 rfl l0).trans (q3 l0)
            have z0 : w7.cell? ⟨wr.heap.size, 1, none⟩ = some (.int .u8 (h : Int)) := by simp [World.cell?, qR]
            refine Ri.step_plain rfl rfl (fun K' hK => ?_)
            go_simp
            exact hK _ _ ⟨_, _, rfl, rfl, hb, hz, qJ, qR, q8, q0, q1, q2, q3, fun _ => rfl, q5, q6, q7⟩
          · have l0 : L 2 = true ∧ L 4 = true := by have := hd _ rfl; simp [Region.binds] at this; simp [this]
            have f2 := (hv 2 52 rfl l0.1).trans (q2 l0.1)
            have f4 := (hv 4 54 rfl l0.2).trans (q4 l0.2)
            refine Ri.step_plain rfl rfl (fun K' hK => ?_)
            go_simp
            refine (range_any x.1 h (by omega) (by omega) _).mono ?_
            rintro e w8 ⟨rfl, hb8⟩
            exact hK _ _ ⟨_, _, rfl, rfl, hb.trans (hb8.mono hb.size), Nat.lt_of_lt_of_le hz hb8.size, keep_blk hb8 qJ, keep_blk hb8 qR, q8, q0, q1, q2, q3, q4, fun _ => rfl, fun l8 l => (q6 l8 l).below hb8, q7⟩
          · have l0 : L 0 = true ∧ L 5 = true := by have := hd _ rfl; simp [Region.binds] at this; simp [this]
            have f0 := (hv 0 50 rfl l0.1).trans (q0 l0.1)
            have f5 := (hv 5 55 rfl l0.2).trans (q5 l0.2)
            refine Ri.step_plain rfl rfl (fun K' hK => ?_)
            refine wp_pair _ _ rfl f0 f5 ?_
            exact hK _ _ ⟨_, _, rfl, rfl, hb.alloc hb.size _, (by simp; omega), heap_alloc_lt qJ, heap_alloc_lt qR, q8, q0, q1, q2, q3, q4, q5, fun _ _ => ⟨_, rfl, heap_alloc_new _ _⟩, q7⟩
          · have l0 : L 6 = true := by have := hd _ rfl; simp [Region.binds] at this; simp [this]
            have f6 := hv 6 56 rfl l0
            have l8 : L 8 = false := by cases e : L 8 with | false => rfl | true => (rw [(q8 e).2] at hL; cases hL)
            refine Ri.step_plain rfl rfl (fun K' hK => ?_)
            go_simp
            refine (join2_any (q6 l8 l0)).mono ?_
            rintro e w8 ⟨rfl, hb8⟩
            exact hK _ _ ⟨_, _, rfl, rfl, hb.trans (hb8.mono hb.size), Nat.lt_of_lt_of_le hz hb8.size, keep_blk hb8 qJ, keep_blk hb8 qR, fun l => ⟨(q8 l).1, rfl⟩, q0, q1, q2, q3, q4, q5, fun l8 l => (q6 l8 l).below hb8, fun _ => rfl⟩
          · have l0 : L 7 = true ∧ L 0 = true := by have := hd _ rfl; simp [Region.binds] at this; simp [this]
            have f7 := (hv 7 57 rfl l0.1).trans (q7 l0.1)
            have f0 := (hv 0 50 rfl l0.2).trans (q0 l0.2)
            have e7 : xa.tmps.getD 7 undef = .pointer (some ⟨w2.heap.size, 0, none⟩) := ho 7 (by kernel_rfl)
            refine Ri.step_plain rfl rfl (fun K' hK => ?_)
            rw [hL] at qJ
            refine wp_store_row _ _ _ rfl w2.heap.size _ e7 f7 24 _ qJ (by kernel_rfl) rfl (by kernel_rfl) ?_
            exact hK _ _ ⟨_, undef, rfl, rfl, below_setRow hb (Nat.le_refl _) _, (by simpa using hz), heap_setRow qJ, (heap_setRow_other _ _ _ (by omega)).trans qR, fun _ => ⟨l0.2, l0.1⟩, q0, q1, q2, q3, q4, q5, fun l8 _ => Bool.noConfusion l8, q7⟩
        · rintro v w7 ⟨hb, hz, qJ, -, -, -, -, -, -, -, -, -, -⟩
          simp only [Ri.frame, List.zipIdx, List.foldl_cons, List.foldl_nil, if_true, List.setIfInBounds_toArray, List.set_cons_zero, List.set_cons_succ, Nat.reduceAdd]
          generalize v 0 = y0; generalize v 1 = y1; generalize v 2 = y2; generalize v 3 = y3; generalize v 4 = y4; generalize v 5 = y5; generalize v 6 = y6; generalize v 7 = y7
          have qJ' : w7.heap[w2.heap.size]? = some (.cells #[.int .u64 (Oc.U (Oc.mk (inRows RL kk) 0 ||| Oc.mk (upto x.1 (h + 1)) 0)), .int .u64 (Oc.U (Oc.mk (inRows RL kk) 1 ||| Oc.mk (upto x.1 (h + 1)) 1)), .int .u64 (Oc.U (Oc.mk (inRows RL kk) 2 ||| Oc.mk (upto x.1 (h + 1)) 2)), .int .u64 (Oc.U (Oc.mk (inRows RL kk) 3 ||| Oc.mk (upto x.1 (h + 1)) 3))] 24) := qJ
          have hr : ∀ z, Oc.mk (inRows RL kk) z ||| Oc.mk (upto x.1 (h + 1)) z = Oc.mk (inRows RL (kk + 1)) z := fun z => by rw [mk_or, inRows_succ RL kk x HXK.out, hh]
          rw [hr, hr, hr, hr] at qJ'
          clear qJ HMD HRD
          go_wp2_with fail
          exact ⟨⟨kk + 1, by omega, by subst hkk; go_num, hb, hz, qJ'⟩, by simp [intOf]; omega⟩
    · obtain rfl : k = RL.length := by omega
      have hall : ∀ j, j < 256 → inRows RL RL.length j = Oc.mem a b c d j := by
        intro j hj
        unfold inRows
        rw [List.take_length]
        by_cases hjm : Oc.nx (Oc.mem a b c d) 0 ≤ j
        · exact F3.out j hjm hj
        · rw [(Oc.nx_spec (Oc.mem a b c d) 0 (by omega)).2.2.1 j (Nat.zero_le _) (by omega), List.any_eq_false]
          intro x hx
          have := F1.out x hx
          simp; omega
      obtain ⟨u0, u1, u2, u3⟩ := mk_same4 hall
      obtain ⟨m0, m1, m2, m3⟩ := mk_mem a b c d
      have hmd := HM.out
      rw [u0, u1, u2, u3, m0, m1, m2, m3] at hmd
      have ZM := Lib.hid hmd
      have ZA := Lib.hid (keep_blk hbel ZA2.out); have ZB := Lib.hid (keep_blk hbel ZB2.out)
      have hbw := hbw2.trans (hbel.mono hbw2.size)
      clear hmd HM u0 u1 u2 u3 m0 m1 m2 m3 hall F1 F2 F3 HR2 hbw2
      go_wp2_with fail
      refine Ri.wp_region_frame (by kernel_rfl) (by kernel_rfl) (by kernel_rfl) (by kernel_rfl)
        (fun L v w' => Below wr.heap.size wr w' ∧ (L 0 = true → v 0 = (.agg #[.int .u64 (Oc.U a), .int .u64 (Oc.U b), .int .u64 (Oc.U c), .int .u64 (Oc.U d)])) ∧ (L 1 = true → v 1 = (.agg #[.int .u64 (Oc.U a), .int .u64 (Oc.U b), .int .u64 (Oc.U c), .int .u64 (Oc.U d)])) ∧ (L 2 = true → v 2 = .bool false) ∧ (L 3 = true → v 3 = .bool false) ∧ (L 4 = true → v 4 = (.agg #[.int .u64 (Oc.U a), .int .u64 (Oc.U b), .int .u64 (Oc.U c), .int .u64 (Oc.U d)])) ∧ (L 5 = true → v 5 = (.agg #[.int .u64 (Oc.U (~~~a)), .int .u64 (Oc.U (~~~b)), .int .u64 (Oc.U (~~~c)), .int .u64 (Oc.U (~~~d))])) ∧ (L 6 = true → v 6 = (.agg #[.int .u64 (Oc.U (~~~(~~~a))), .int .u64 (Oc.U (~~~(~~~b))), .int .u64 (Oc.U (~~~(~~~c))), .int .u64 (Oc.U (~~~(~~~d)))])) ∧ (L 7 = true → v 7 = (.agg #[.int .u64 (Oc.U a), .int .u64 (Oc.U b), .int .u64 (Oc.U c), .int .u64 (Oc.U d)])) ∧ (L 8 = true → v 8 = .bool false) ∧ (L 9 = true → v 9 = .bool false) ∧ (L 10 = true → v 10 = .bool false) ∧ (L 11 = true → v 11 = (.agg #[.int .u64 (Oc.U a), .int .u64 (Oc.U b), .int .u64 (Oc.U c), .int .u64 (Oc.U d)])) ∧ (L 12 = true → v 12 = (.agg #[.int .u64 (Oc.U a'), .int .u64 (Oc.U b'), .int .u64 (Oc.U c'), .int .u64 (Oc.U d')])) ∧ (L 13 = true → v 13 = (.agg #[.int .u64 (Oc.U (a &&& ~~~a')), .int .u64 (Oc.U (b &&& ~~~b')), .int .u64 (Oc.U (c &&& ~~~c')), .int .u64 (Oc.U (d &&& ~~~d'))])) ∧ (L 14 = true → v 14 = (.agg #[.int .u64 (Oc.U a), .int .u64 (Oc.U b), .int .u64 (Oc.U c), .int .u64 (Oc.U d)])) ∧ (L 15 = true → v 15 = (.agg #[.int .u64 (Oc.U a'), .int .u64 (Oc.U b'), .int .u64 (Oc.U c'), .int .u64 (Oc.U d')])) ∧ (L 16 = true → v 16 = (.agg #[.int .u64 (Oc.U (~~~a')), .int .u64 (Oc.U (~~~b')), .int .u64 (Oc.U (~~~c')), .int .u64 (Oc.U (~~~d'))])) ∧ (L 17 = true → Sl2 w' (v 17) (a) (b) (c) (d) (~~~a') (~~~b') (~~~c') (~~~d')) ∧ (L 18 = true → v 18 = (.agg #[.int .u64 (Oc.U (a &&& ~~~a')), .int .u64 (Oc.U (b &&& ~~~b')), .int .u64 (Oc.U (c &&& ~~~c')), .int .u64 (Oc.U (d &&& ~~~d'))])) ∧ (L 19 = true → v 19 = .bool false) ∧ (L 20 = true → v 20 = .bool false))
        ?_ ?_ ?_
      · exact ⟨(Below.refl _ _).drew, by simp, by simp, by simp, by simp, by simp, by simp, by simp, by simp, by simp, by simp, by simp, by simp, by simp, by simp, by simp, by simp, by simp, by simp, by simp, by simp, by simp⟩
      · intro i hi9 L v w7 xa hI hL hd hv ho
        have hi' : i = 0 ∨ i = 1 ∨ i = 2 ∨ i = 3 ∨ i = 4 ∨ i = 5 ∨ i = 6 ∨ i = 7 ∨ i = 8 ∨ i = 9 ∨ i = 10 ∨ i = 11 ∨ i = 12 ∨ i = 13 ∨ i = 14 ∨ i = 15 ∨ i = 16 ∨ i = 17 ∨ i = 18 ∨ i = 19 ∨ i = 20 := by simp at hi9; omega
        obtain ⟨hb, q0, q1, q2, q3, q4, q5, q6, q7, q8, q9, q10, q11, q12, q13, q14, q15, q16, q17, q18, q19, q20⟩ := hI
        rcases hi' with rfl | rfl | rfl | rfl | rfl | rfl | rfl | rfl | rfl | rfl | rfl | rfl | rfl | rfl | rfl | rfl | rfl | rfl | rfl | rfl | rfl
        · have e7 : xa.tmps.getD 7 undef = .pointer (some ⟨w2.heap.size, 0, none⟩) := ho 7 (by kernel_rfl)
          refine Ri.step_plain rfl rfl (fun K' hK => ?_)
          refine wp_load_row _ _ rfl _ e7 _ _ _ _ (keep_blk hb ZM.out) Tryd.underlying24 rfl (by kernel_rfl) ?_
          exact hK _ _ ⟨_, _, rfl, rfl, hb, fun _ => rfl, q1, q2, q3, q4, q5, q6, q7, q8, q9, q10, q11, q12, q13, q14, q15, q16, q17, q18, q19, q20⟩
        · have e2 : xa.tmps.getD 2 undef = .pointer (some ⟨w.heap.size, 0, none⟩) := ho 2 (by kernel_rfl)
          refine Ri.step_plain rfl rfl (fun K' hK => ?_)
          refine wp_load_row _ _ rfl _ e2 _ _ _ _ (keep_blk hb ZA.out) Tryd.underlying24 rfl (by kernel_rfl) ?_
          exact hK _ _ ⟨_, _, rfl, rfl, hb, q0, fun _ => rfl, q2, q3, q4, q5, q6, q7, q8, q9, q10, q11, q12, q13, q14, q15, q16, q17, q18, q19, q20⟩
        · have l0 : L 0 = true ∧ L 1 = true := by have := hd _ rfl; simp [Region.binds] at this; simp [this]
          have f0 := (hv 0 59 rfl l0.1).trans (q0 l0.1)
          have f1 := (hv 1 60 rfl l0.2).trans (q1 l0.2)
          refine Ri.step_plain rfl rfl (fun K' hK => ?_)
          go_simp
          exact hK _ _ ⟨_, _, rfl, rfl, hb, q0, q1, fun _ => rfl, q3, q4, q5, q6, q7, q8, q9, q10, q11, q12, q13, q14, q15, q16, q17, q18, q19, q20⟩
        · have l0 : L 2 = true := by have := hd _ rfl; simp [Region.binds] at this; simp [this]
          have f2 := (hv 2 61 rfl l0).trans (q2 l0)
          refine Ri.step_plain rfl rfl (fun K' hK => ?_)
          go_simp
          exact hK _ _ ⟨_, _, rfl, rfl, hb, q0, q1, q2, fun _ => rfl, q4, q5, q6, q7, q8, q9, q10, q11, q12, q13, q14, q15, q16, q17, q18, q19, q20⟩
        · have l0 : L 3 = true := by have := hd _ rfl; simp [Region.binds] at this; simp [this]
          have f3 := (hv 3 62 rfl l0).trans (q3 l0)
          have e2 : xa.tmps.getD 2 undef = .pointer (some ⟨w.heap.size, 0, none⟩) := ho 2 (by kernel_rfl)
          refine Ri.step_wanted (b := false) rfl rfl rfl f3 (fun K' hK => ?_)
          refine wp_load_row _ _ rfl _ e2 _ _ _ _ (keep_blk hb ZA.out) Tryd.underlying24 rfl (by kernel_rfl) ?_
          exact hK _ _ ⟨_, _, rfl, rfl, hb, q0, q1, q2, q3, fun _ => rfl, q5, q6, q7, q8, q9, q10, q11, q12, q13, q14, q15, q16, q17, q18, q19, q20⟩
        · have l0 : L 3 = true ∧ L 4 = true := by have := hd _ rfl; simp [Region.binds] at this; simp [this]
          have f3 := (hv 3 62 rfl l0.1).trans (q3 l0.1)
          have f4 := (hv 4 63 rfl l0.2).trans (q4 l0.2)
          refine Ri.step_wanted (b := false) rfl rfl rfl f3 (fun K' hK => ?_)
          go_simp
          refine (not_any _ _ _ _ _).mono ?_
          rintro e w8 ⟨rfl, hb8⟩
          exact hK _ _ ⟨_, _, rfl, rfl, hb.trans (hb8.mono hb.size), q0, q1, q2, q3, q4, fun _ => rfl, q6, q7, q8, q9, q10, q11, q12, q13, q14, q15, q16, fun l => (q17 l).below hb8, q18, q19, q20⟩
        · have l0 : L 3 = true ∧ L 5 = true := by have := hd _ rfl; simp [Region.binds] at this; simp [this]
          have f3 := (hv 3 62 rfl l0.1).trans (q3 l0.1)
          have f5 := (hv 5 64 rfl l0.2).trans (q5 l0.2)
          refine Ri.step_wanted (b := false) rfl rfl rfl f3 (fun K' hK => ?_)
          go_simp
          refine (not_any _ _ _ _ _).mono ?_
          rintro e w8 ⟨rfl, hb8⟩
          exact hK _ _ ⟨_, _, rfl, rfl, hb.trans (hb8.mono hb.size), q0, q1, q2, q3, q4, q5, fun _ => rfl, q7, q8, q9, q10, q11, q12, q13, q14, q15, q16, fun l => (q17 l).below hb8, q18, q19, q20⟩
        · have l0 : L 3 = true := by have := hd _ rfl; simp [Region.binds] at this; simp [this]
          have f3 := (hv 3 62 rfl l0).trans (q3 l0)
          have e2 : xa.tmps.getD 2 undef = .pointer (some ⟨w.heap.size, 0, none⟩) := ho 2 (by kernel_rfl)
          refine Ri.step_wanted (b := false) rfl rfl rfl f3 (fun K' hK => ?_)
          refine wp_load_row _ _ rfl _ e2 _ _ _ _ (keep_blk hb ZA.out) Tryd.underlying24 rfl (by kernel_rfl) ?_
          exact hK _ _ ⟨_, _, rfl, rfl, hb, q0, q1, q2, q3, q4, q5, q6, fun _ => rfl, q8, q9, q10, q11, q12, q13, q14, q15, q16, q17, q18, q19, q20⟩
        · have l0 : L 3 = true ∧ L 6 = true ∧ L 7 = true := by have := hd _ rfl; simp [Region.binds] at this; simp [this]
          have f3 := (hv 3 62 rfl l0.1).trans (q3 l0.1)
          have f6 := (hv 6 65 rfl l0.2.1).trans (q6 l0.2.1)
          have f7 := (hv 7 66 rfl l0.2.2).trans (q7 l0.2.2)
          refine Ri.step_wanted (b := false) rfl rfl rfl f3 (fun K' hK => ?_)
          go_simp
          exact hK _ _ ⟨_, _, rfl, rfl, hb, q0, q1, q2, q3, q4, q5, q6, q7, fun _ => rfl, q9, q10, q11, q12, q13, q14, q15, q16, q17, q18, q19, q20⟩
        · have l0 : L 3 = true ∧ L 8 = true := by have := hd _ rfl; simp [Region.binds] at this; simp [this]
          have f3 := (hv 3 62 rfl l0.1).trans (q3 l0.1)
          have f8 := (hv 8 67 rfl l0.2).trans (q8 l0.2)
          refine Ri.step_plain rfl rfl (fun K' hK => ?_)
          go_simp
          exact hK _ _ ⟨_, _, rfl, rfl, hb, q0, q1, q2, q3, q4, q5, q6, q7, q8, fun _ => rfl, q10, q11, q12, q13, q14, q15, q16, q17, q18, q19, q20⟩
        · have l0 : L 9 = true := by have := hd _ rfl; simp [Region.binds] at this; simp [this]
          have f9 := (hv 9 68 rfl l0).trans (q9 l0)
          refine Ri.step_plain rfl rfl (fun K' hK => ?_)
          go_simp
          exact hK _ _ ⟨_, _, rfl, rfl, hb, q0, q1, q2, q3, q4, q5, q6, q7, q8, q9, fun _ => rfl, q11, q12, q13, q14, q15, q16, q17, q18, q19, q20⟩
        · have l0 : L 10 = true := by have := hd _ rfl; simp [Region.binds] at this; simp [this]
          have f10 := (hv 10 69 rfl l0).trans (q10 l0)
          have e2 : xa.tmps.getD 2 undef = .pointer (some ⟨w.heap.size, 0, none⟩) := ho 2 (by kernel_rfl)
          refine Ri.step_wanted (b := false) rfl rfl rfl f10 (fun K' hK => ?_)
          refine wp_load_row _ _ rfl _ e2 _ _ _ _ (keep_blk hb ZA.out) Tryd.underlying24 rfl (by kernel_rfl) ?_
          exact hK _ _ ⟨_, _, rfl, rfl, hb, q0, q1, q2, q3, q4, q5, q6, q7, q8, q9, q10, fun _ => rfl, q12, q13, q14, q15, q16, q17, q18, q19, q20⟩
        · have l0 : L 10 = true := by have := hd _ rfl; simp [Region.binds] at this; simp [this]
          have f10 := (hv 10 69 rfl l0).trans (q10 l0)
          have e3 : xa.tmps.getD 3 undef = .pointer (some ⟨w.heap.size + 1, 0, none⟩) := ho 3 (by kernel_rfl)
          refine Ri.step_wanted (b := false) rfl rfl rfl f10 (fun K' hK => ?_)
          refine wp_load_row _ _ rfl _ e3 _ _ _ _ (keep_blk hb ZB.out) Tryd.underlying24 rfl (by kernel_rfl) ?_
          exact hK _ _ ⟨_, _, rfl, rfl, hb, q0, q1, q2, q3, q4, q5, q6, q7, q8, q9, q10, q11, fun _ => rfl, q13, q14, q15, q16, q17, q18, q19, q20⟩
        · have l0 : L 10 = true ∧ L 11 = true ∧ L 12 = true := by have := hd _ rfl; simp [Region.binds] at this; simp [this]
          have f10 := (hv 10 69 rfl l0.1).trans (q10 l0.1)
          have f11 := (hv 11 70 rfl l0.2.1).trans (q11 l0.2.1)
          have f12 := (hv 12 71 rfl l0.2.2).trans (q12 l0.2.2)
          refine Ri.step_wanted (b := false) rfl rfl rfl f10 (fun K' hK => ?_)
          go_simp
          refine (less_any _ _ _ _ _ _ _ _ _).mono ?_
          rintro e w8 ⟨rfl, hb8⟩
          exact hK _ _ ⟨_, _, rfl, rfl, hb.trans (hb8.mono hb.size), q0, q1, q2, q3, q4, q5, q6, q7, q8, q9, q10, q11, q12, fun _ => rfl, q14, q15, q16, fun l => (q17 l).below hb8, q18, q19, q20⟩
        · have l0 : L 10 = true := by have := hd _ rfl; simp [Region.binds] at this; simp [this]
          have f10 := (hv 10 69 rfl l0).trans (q10 l0)
          have e2 : xa.tmps.getD 2 undef = .pointer (some ⟨w.heap.size, 0, none⟩) := ho 2 (by kernel_rfl)
          refine Ri.step_wanted (b := false) rfl rfl rfl f10 (fun K' hK => ?_)
          refine wp_load_row _ _ rfl _ e2 _ _ _ _ (keep_blk hb ZA.out) Tryd.underlying24 rfl (by kernel_rfl) ?_
          exact hK _ _ ⟨_, _, rfl, rfl, hb, q0, q1, q2, q3, q4, q5, q6, q7, q8, q9, q10, q11, q12, q13, fun _ => rfl, q15, q16, q17, q18, q19, q20⟩
        · have l0 : L 10 = true := by have := hd _ rfl; simp [Region.binds] at this; simp [this]
          have f10 := (hv 10 69 rfl l0).trans (q10 l0)
          have e3 : xa.tmps.getD 3 undef = .pointer (some ⟨w.heap.size + 1, 0, none⟩) := ho 3 (by kernel_rfl)
          refine Ri.step_wanted (b := false) rfl rfl rfl f10 (fun K' hK => ?_)
          refine wp_load_row _ _ rfl _ e3 _ _ _ _ (keep_blk hb ZB.out) Tryd.underlying24 rfl (by kernel_rfl) ?_
          exact hK _ _ ⟨_, _, rfl, rfl, hb, q0, q1, q2, q3, q4, q5, q6, q7, q8, q9, q10, q11, q12, q13, q14, fun _ => rfl, q16, q17, q18, q19, q20⟩
        · have l0 : L 10 = true ∧ L 15 = true := by have := hd _ rfl; simp [Region.binds] at this; simp [this]
          have f10 := (hv 10 69 rfl l0.1).trans (q10 l0.1)
          have f15 := (hv 15 74 rfl l0.2).trans (q15 l0.2)
          refine Ri.step_wanted (b := false) rfl rfl rfl f10 (fun K' hK => ?_)
          go_simp
          refine (not_any _ _ _ _ _).mono ?_
          rintro e w8 ⟨rfl, hb8⟩
          exact hK _ _ ⟨_, _, rfl, rfl, hb.trans (hb8.mono hb.size), q0, q1, q2, q3, q4, q5, q6, q7, q8, q9, q10, q11, q12, q13, q14, q15, fun _ => rfl, fun l => (q17 l).below hb8, q18, q19, q20⟩
        · have l0 : L 10 = true ∧ L 14 = true ∧ L 16 = true := by have := hd _ rfl; simp [Region.binds] at this; simp [this]
          have f10 := (hv 10 69 rfl l0.1).trans (q10 l0.1)
          have f14 := (hv 14 73 rfl l0.2.1).trans (q14 l0.2.1)
          have f16 := (hv 16 75 rfl l0.2.2).trans (q16 l0.2.2)
          refine Ri.step_wanted (b := false) rfl rfl rfl f10 (fun K' hK => ?_)
          refine wp_pair _ _ rfl f14 f16 ?_
          exact hK _ _ ⟨_, _, rfl, rfl, hb.alloc hb.size _, q0, q1, q2, q3, q4, q5, q6, q7, q8, q9, q10, q11, q12, q13, q14, q15, q16, fun _ => ⟨_, rfl, heap_alloc_new _ _⟩, q18, q19, q20⟩
        · have l0 : L 10 = true ∧ L 17 = true := by have := hd _ rfl; simp [Region.binds] at this; simp [this]
          have f10 := (hv 10 69 rfl l0.1).trans (q10 l0.1)
          have f17 := hv 17 76 rfl l0.2
          refine Ri.step_wanted (b := false) rfl rfl rfl f10 (fun K' hK => ?_)
          go_simp
          refine (meet2_any (q17 l0.2)).mono ?_
          rintro e w8 ⟨rfl, hb8⟩
          exact hK _ _ ⟨_, _, rfl, rfl, hb.trans (hb8.mono hb.size), q0, q1, q2, q3, q4, q5, q6, q7, q8, q9, q10, q11, q12, q13, q14, q15, q16, fun l => (q17 l).below hb8, fun _ => rfl, q19, q20⟩
        · have l0 : L 10 = true ∧ L 13 = true ∧ L 18 = true := by have := hd _ rfl; simp [Region.binds] at this; simp [this]
          have f10 := (hv 10 69 rfl l0.1).trans (q10 l0.1)
          have f13 := (hv 13 72 rfl l0.2.1).trans (q13 l0.2.1)
          have f18 := (hv 18 77 rfl l0.2.2).trans (q18 l0.2.2)
          refine Ri.step_wanted (b := false) rfl rfl rfl f10 (fun K' hK => ?_)
          go_simp
          exact hK _ _ ⟨_, _, rfl, rfl, hb, q0, q1, q2, q3, q4, q5, q6, q7, q8, q9, q10, q11, q12, q13, q14, q15, q16, q17, q18, fun _ => rfl, q20⟩
        · have l0 : L 10 = true ∧ L 19 = true := by have := hd _ rfl; simp [Region.binds] at this; simp [this]
          have f10 := (hv 10 69 rfl l0.1).trans (q10 l0.1)
          have f19 := (hv 19 78 rfl l0.2).trans (q19 l0.2)
          refine Ri.step_plain rfl rfl (fun K' hK => ?_)
          go_simp
          exact hK _ _ ⟨_, _, rfl, rfl, hb, q0, q1, q2, q3, q4, q5, q6, q7, q8, q9, q10, q11, q12, q13, q14, q15, q16, q17, q18, q19, fun _ => rfl⟩
      · rintro v w14 ⟨hb, -, -, -, -, -, -, -, -, -, -, -, -, -, -, -, -, -, -, -, -, qe⟩
        have qe' : v 20 = .bool false := qe rfl
        simp only [Ri.frame, List.zipIdx, List.foldl_cons, List.foldl_nil, if_true, List.setIfInBounds_toArray, List.set_cons_zero, List.set_cons_succ, qe', Nat.reduceAdd]
        have hbw14 := hbw.trans (hb.mono hbw.size)
        have YA := Lib.hid (keep_blk hb ZA.out); have YB := Lib.hid (keep_blk hb ZB.out)
        clear qe qe' hb hbw ZA ZB ZM
        generalize v 0 = y0; generalize v 1 = y1; generalize v 2 = y2; generalize v 3 = y3; generalize v 4 = y4; generalize v 5 = y5; generalize v 6 = y6; generalize v 7 = y7; generalize v 8 = y8; generalize v 9 = y9; generalize v 10 = y10; generalize v 11 = y11; generalize v 12 = y12; generalize v 13 = y13; generalize v 14 = y14; generalize v 15 = y15; generalize v 16 = y16; generalize v 17 = y17; generalize v 18 = y18; generalize v 19 = y19
        go_wp2_with fail
        refine Ri.wp_region_frame (by kernel_rfl) (by kernel_rfl) (by kernel_rfl) (by kernel_rfl)
          (fun L v w' => Below w14.heap.size w14 w' ∧ (L 0 = true → v 0 = (.agg #[.int .u64 (Oc.U a), .int .u64 (Oc.U b), .int .u64 (Oc.U c), .int .u64 (Oc.U d)])) ∧ (L 1 = true → v 1 = (.agg #[.int .u64 (Oc.U a'), .int .u64 (Oc.U b'), .int .u64 (Oc.U c'), .int .u64 (Oc.U d')])) ∧ (L 2 = true → Sl2 w' (v 2) (a) (b) (c) (d) (a') (b') (c') (d')) ∧ (L 3 = true → v 3 = (.agg #[.int .u64 (Oc.U (a ||| a')), .int .u64 (Oc.U (b ||| b')), .int .u64 (Oc.U (c ||| c')), .int .u64 (Oc.U (d ||| d'))])) ∧ (L 4 = true → v 4 = (.agg #[.int .u64 (Oc.U (~~~a &&& ~~~a')), .int .u64 (Oc.U (~~~b &&& ~~~b')), .int .u64 (Oc.U (~~~c &&& ~~~c')), .int .u64 (Oc.U (~~~d &&& ~~~d'))])) ∧ (L 5 = true → v 5 = (.agg #[.int .u64 (Oc.U a), .int .u64 (Oc.U b), .int .u64 (Oc.U c), .int .u64 (Oc.U d)])) ∧ (L 6 = true → v 6 = (.agg #[.int .u64 (Oc.U (~~~a)), .int .u64 (Oc.U (~~~b)), .int .u64 (Oc.U (~~~c)), .int .u64 (Oc.U (~~~d))])) ∧ (L 7 = true → v 7 = (.agg #[.int .u64 (Oc.U a'), .int .u64 (Oc.U b'), .int .u64 (Oc.U c'), .int .u64 (Oc.U d')])) ∧ (L 8 = true → v 8 = (.agg #[.int .u64 (Oc.U (~~~a')), .int .u64 (Oc.U (~~~b')), .int .u64 (Oc.U (~~~c')), .int .u64 (Oc.U (~~~d'))])) ∧ (L 9 = true → Sl2 w' (v 9) (~~~a) (~~~b) (~~~c) (~~~d) (~~~a') (~~~b') (~~~c') (~~~d')) ∧ (L 10 = true → v 10 = (.agg #[.int .u64 (Oc.U (~~~a &&& ~~~a')), .int .u64 (Oc.U (~~~b &&& ~~~b')), .int .u64 (Oc.U (~~~c &&& ~~~c')), .int .u64 (Oc.U (~~~d &&& ~~~d'))])) ∧ (L 11 = true → v 11 = .bool false) ∧ (L 12 = true → v 12 = .bool false) ∧ (L 13 = true → v 13 = (.agg #[.int .u64 (Oc.U a), .int .u64 (Oc.U b), .int .u64 (Oc.U c), .int .u64 (Oc.U d)])) ∧ (L 14 = true → v 14 = (.agg #[.int .u64 (Oc.U a'), .int .u64 (Oc.U b'), .int .u64 (Oc.U c'), .int .u64 (Oc.U d')])) ∧ (L 15 = true → Sl2 w' (v 15) (a) (b) (c) (d) (a') (b') (c') (d')) ∧ (L 16 = true → v 16 = (.agg #[.int .u64 (Oc.U (a ||| a')), .int .u64 (Oc.U (b ||| b')), .int .u64 (Oc.U (c ||| c')), .int .u64 (Oc.U (d ||| d'))])) ∧ (L 17 = true → v 17 = (.agg #[.int .u64 (Oc.U a'), .int .u64 (Oc.U b'), .int .u64 (Oc.U c'), .int .u64 (Oc.U d')])) ∧ (L 18 = true → v 18 = (.agg #[.int .u64 (Oc.U a), .int .u64 (Oc.U b), .int .u64 (Oc.U c), .int .u64 (Oc.U d)])) ∧ (L 19 = true → v 19 = (.agg #[.int .u64 (Oc.U a'), .int .u64 (Oc.U b'), .int .u64 (Oc.U c'), .int .u64 (Oc.U d')])) ∧ (L 20 = true → Sl3 w' (v 20) (a') (b') (c') (d') (a) (b) (c) (d) (a') (b') (c') (d')) ∧ (L 21 = true → v 21 = (.agg #[.int .u64 (Oc.U (a ||| a')), .int .u64 (Oc.U (b ||| b')), .int .u64 (Oc.U (c ||| c')), .int .u64 (Oc.U (d ||| d'))])) ∧ (L 22 = true → v 22 = .bool false) ∧ (L 23 = true → v 23 = .bool false))
          ?_ ?_ ?_
        · exact ⟨(Below.refl _ _).drew, by simp, by simp, by simp, by simp, by simp, by simp, by simp, by simp, by simp, by simp, by simp, by simp, by simp, by simp, by simp, by simp, by simp, by simp, by simp, by simp, by simp, by simp, by simp, by simp⟩
        · intro i hi9 L v w7 xa hI hL hd hv ho
          have hi' : i = 0 ∨ i = 1 ∨ i = 2 ∨ i = 3 ∨ i = 4 ∨ i = 5 ∨ i = 6 ∨ i = 7 ∨ i = 8 ∨ i = 9 ∨ i = 10 ∨ i = 11 ∨ i = 12 ∨ i = 13 ∨ i = 14 ∨ i = 15 ∨ i = 16 ∨ i = 17 ∨ i = 18 ∨ i = 19 ∨ i = 20 ∨ i = 21 ∨ i = 22 ∨ i = 23 := by simp at hi9; omega
          obtain ⟨hb, q0, q1, q2, q3, q4, q5, q6, q7, q8, q9, q10, q11, q12, q13, q14, q15, q16, q17, q18, q19, q20, q21, q22, q23⟩ := hI
          rcases hi' with rfl | rfl | rfl | rfl | rfl | rfl | rfl | rfl | rfl | rfl | rfl | rfl | rfl | rfl | rfl | rfl | rfl | rfl | rfl | rfl | rfl | rfl | rfl | rfl
          · have e2 : xa.tmps.getD 2 undef = .pointer (some ⟨w.heap.size, 0, none⟩) := ho 2 (by kernel_rfl)
            refine Ri.step_plain rfl rfl (fun K' hK => ?_)
            refine wp_load_row _ _ rfl _ e2 _ _ _ _ (keep_blk hb YA.out) Tryd.underlying24 rfl (by kernel_rfl) ?_
            exact hK _ _ ⟨_, _, rfl, rfl, hb, fun _ => rfl, q1, q2, q3, q4, q5, q6, q7, q8, q9, q10, q11, q12, q13, q14, q15, q16, q17, q18, q19, q20, q21, q22, q23⟩
          · have e3 : xa.tmps.getD 3 undef = .pointer (some ⟨w.heap.size + 1, 0, none⟩) := ho 3 (by kernel_rfl)
            refine Ri.step_plain rfl rfl (fun K' hK => ?_)
            refine wp_load_row _ _ rfl _ e3 _ _ _ _ (keep_blk hb YB.out) Tryd.underlying24 rfl (by kernel_rfl) ?_
            exact hK _ _ ⟨_, _, rfl, rfl, hb, q0, fun _ => rfl, q2, q3, q4, q5, q6, q7, q8, q9, q10, q11, q12, q13, q14, q15, q16, q17, q18, q19, q20, q21, q22, q23⟩
          · have l0 : L 0 = true ∧ L 1 = true := by have := hd _ rfl; simp [Region.binds] at this; simp [this]
            have f0 := (hv 0 80 rfl l0.1).trans (q0 l0.1)
            have f1 := (hv 1 81 rfl l0.2).trans (q1 l0.2)
            refine Ri.step_plain rfl rfl (fun K' hK => ?_)
            refine wp_pair _ _ rfl f0 f1 ?_
            exact hK _ _ ⟨_, _, rfl, rfl, hb.alloc hb.size _, q0, q1, fun _ => ⟨_, rfl, heap_alloc_new _ _⟩, q3, q4, q5, q6, q7, q8, fun l => (q9 l).below (below_new _), q10, q11, q12, q13, q14, fun l => (q15 l).below (below_new _), q16, q17, q18, q19, fun l => (q20 l).below (below_new _), q21, q22, q23⟩
          · have l0 : L 2 = true := by have := hd _ rfl; simp [Region.binds] at this; simp [this]
            have f2 := hv 2 82 rfl l0
            refine Ri.step_plain rfl rfl (fun K' hK => ?_)
            go_simp
            refine (join2_any (q2 l0)).mono ?_
            rintro e w8 ⟨rfl, hb8⟩
            exact hK _ _ ⟨_, _, rfl, rfl, hb.trans (hb8.mono hb.size), q0, q1, fun l => (q2 l).below hb8, fun _ => rfl, q4, q5, q6, q7, q8, fun l => (q9 l).below hb8, q10, q11, q12, q13, q14, fun l => (q15 l).below hb8, q16, q17, q18, q19, fun l => (q20 l).below hb8, q21, q22, q23⟩
          · have l0 : L 3 = true := by have := hd _ rfl; simp [Region.binds] at this; simp [this]
            have f3 := (hv 3 83 rfl l0).trans (q3 l0)
            refine Ri.step_plain rfl rfl (fun K' hK => ?_)
            go_simp
            refine (notor_any _ _ _ _ _ _ _ _ _).mono ?_
            rintro e w8 ⟨rfl, hb8⟩
            exact hK _ _ ⟨_, _, rfl, rfl, hb.trans (hb8.mono hb.size), q0, q1, fun l => (q2 l).below hb8, q3, fun _ => rfl, q5, q6, q7, q8, fun l => (q9 l).below hb8, q10, q11, q12, q13, q14, fun l => (q15 l).below hb8, q16, q17, q18, q19, fun l => (q20 l).below hb8, q21, q22, q23⟩
          · have e2 : xa.tmps.getD 2 undef = .pointer (some ⟨w.heap.size, 0, none⟩) := ho 2 (by kernel_rfl)
            refine Ri.step_plain rfl rfl (fun K' hK => ?_)
            refine wp_load_row _ _ rfl _ e2 _ _ _ _ (keep_blk hb YA.out) Tryd.underlying24 rfl (by kernel_rfl) ?_
            exact hK _ _ ⟨_, _, rfl, rfl, hb, q0, q1, q2, q3, q4, fun _ => rfl, q6, q7, q8, q9, q10, q11, q12, q13, q14, q15, q16, q17, q18, q19, q20, q21, q22, q23⟩
          · have l0 : L 5 = true := by have := hd _ rfl; simp [Region.binds] at this; simp [this]
            have f5 := (hv 5 85 rfl l0).trans (q5 l0)
            refine Ri.step_plain rfl rfl (fun K' hK => ?_)
            go_simp
            refine (not_any _ _ _ _ _).mono ?_
            rintro e w8 ⟨rfl, hb8⟩
            exact hK _ _ ⟨_, _, rfl, rfl, hb.trans (hb8.mono hb.size), q0, q1, fun l => (q2 l).below hb8, q3, q4, q5, fun _ => rfl, q7, q8, fun l => (q9 l).below hb8, q10, q11, q12, q13, q14, fun l => (q15 l).below hb8, q16, q17, q18, q19, fun l => (q20 l).below hb8, q21, q22, q23⟩
          · have e3 : xa.tmps.getD 3 undef = .pointer (some ⟨w.heap.size + 1, 0, none⟩) := ho 3 (by kernel_rfl)
            refine Ri.step_plain rfl rfl (fun K' hK => ?_)
            refine wp_load_row _ _ rfl _ e3 _ _ _ _ (keep_blk hb YB.out) Tryd.underlying24 rfl (by kernel_rfl) ?_
            exact hK _ _ ⟨_, _, rfl, rfl, hb, q0, q1, q2, q3, q4, q5, q6, fun _ => rfl, q8, q9, q10, q11, q12, q13, q14, q15, q16, q17, q18, q19, q20, q21, q22, q23⟩
          · have l0 : L 7 = true := by have := hd _ rfl; simp [Region.binds] at this; simp [this]
            have f7 := (hv 7 87 rfl l0).trans (q7 l0)
            refine Ri.step_plain rfl rfl (fun K' hK => ?_)
            go_simp
            refine (not_any _ _ _ _ _).mono ?_
            rintro e w8 ⟨rfl, hb8⟩
            exact hK _ _ ⟨_, _, rfl, rfl, hb.trans (hb8.mono hb.size), q0, q1, fun l => (q2 l).below hb8, q3, q4, q5, q6, q7, fun _ => rfl, fun l => (q9 l).below hb8, q10, q11, q12, q13, q14, fun l => (q15 l).below hb8, q16, q17, q18, q19, fun l => (q20 l).below hb8, q21, q22, q23⟩
          · have l0 : L 6 = true ∧ L 8 = true := by have := hd _ rfl; simp [Region.binds] at this; simp [this]
            have f6 := (hv 6 86 rfl l0.1).trans (q6 l0.1)
            have f8 := (hv 8 88 rfl l0.2).trans (q8 l0.2)
            refine Ri.step_plain rfl rfl (fun K' hK => ?_)
            refine wp_pair _ _ rfl f6 f8 ?_
            exact hK _ _ ⟨_, _, rfl, rfl, hb.alloc hb.size _, q0, q1, fun l => (q2 l).below (below_new _), q3, q4, q5, q6, q7, q8, fun _ => ⟨_, rfl, heap_alloc_new _ _⟩, q10, q11, q12, q13, q14, fun l => (q15 l).below (below_new _), q16, q17, q18, q19, fun l => (q20 l).below (below_new _), q21, q22, q23⟩
          · have l0 : L 9 = true := by have := hd _ rfl; simp [Region.binds] at this; simp [this]
            have f9 := hv 9 89 rfl l0
            refine Ri.step_plain rfl rfl (fun K' hK => ?_)
            go_simp
            refine (meet2_any (q9 l0)).mono ?_
            rintro e w8 ⟨rfl, hb8⟩
            exact hK _ _ ⟨_, _, rfl, rfl, hb.trans (hb8.mono hb.size), q0, q1, fun l => (q2 l).below hb8, q3, q4, q5, q6, q7, q8, fun l => (q9 l).below hb8, fun _ => rfl, q11, q12, q13, q14, fun l => (q15 l).below hb8, q16, q17, q18, q19, fun l => (q20 l).below hb8, q21, q22, q23⟩
          · have l0 : L 4 = true ∧ L 10 = true := by have := hd _ rfl; simp [Region.binds] at this; simp [this]
            have f4 := (hv 4 84 rfl l0.1).trans (q4 l0.1)
            have f10 := (hv 10 90 rfl l0.2).trans (q10 l0.2)
            refine Ri.step_plain rfl rfl (fun K' hK => ?_)
            go_simp
            exact hK _ _ ⟨_, _, rfl, rfl, hb, q0, q1, q2, q3, q4, q5, q6, q7, q8, q9, q10, fun _ => rfl, q12, q13, q14, q15, q16, q17, q18, q19, q20, q21, q22, q23⟩
          · have l0 : L 11 = true := by have := hd _ rfl; simp [Region.binds] at this; simp [this]
            have f11 := (hv 11 91 rfl l0).trans (q11 l0)
            refine Ri.step_plain rfl rfl (fun K' hK => ?_)
            go_simp
            exact hK _ _ ⟨_, _, rfl, rfl, hb, q0, q1, q2, q3, q4, q5, q6, q7, q8, q9, q10, q11, fun _ => rfl, q13, q14, q15, q16, q17, q18, q19, q20, q21, q22, q23⟩
          · have l0 : L 12 = true := by have := hd _ rfl; simp [Region.binds] at this; simp [this]
            have f12 := (hv 12 92 rfl l0).trans (q12 l0)
            have e2 : xa.tmps.getD 2 undef = .pointer (some ⟨w.heap.size, 0, none⟩) := ho 2 (by kernel_rfl)
            refine Ri.step_wanted (b := false) rfl rfl rfl f12 (fun K' hK => ?_)
            refine wp_load_row _ _ rfl _ e2 _ _ _ _ (keep_blk hb YA.out) Tryd.underlying24 rfl (by kernel_rfl) ?_
            exact hK _ _ ⟨_, _, rfl, rfl, hb, q0, q1, q2, q3, q4, q5, q6, q7, q8, q9, q10, q11, q12, fun _ => rfl, q14, q15, q16, q17, q18, q19, q20, q21, q22, q23⟩
          · have l0 : L 12 = true := by have := hd _ rfl; simp [Region.binds] at this; simp [this]
            have f12 := (hv 12 92 rfl l0).trans (q12 l0)
            have e3 : xa.tmps.getD 3 undef = .pointer (some ⟨w.heap.size + 1, 0, none⟩) := ho 3 (by kernel_rfl)
            refine Ri.step_wanted (b := false) rfl rfl rfl f12 (fun K' hK => ?_)
            refine wp_load_row _ _ rfl _ e3 _ _ _ _ (keep_blk hb YB.out) Tryd.underlying24 rfl (by kernel_rfl) ?_
            exact hK _ _ ⟨_, _, rfl, rfl, hb, q0, q1, q2, q3, q4, q5, q6, q7, q8, q9, q10, q11, q12, q13, fun _ => rfl, q15, q16, q17, q18, q19, q20, q21, q22, q23⟩
          · have l0 : L 12 = true ∧ L 13 = true ∧ L 14 = true := by have := hd _ rfl; simp [Region.binds] at this; simp [this]
            have f12 := (hv 12 92 rfl l0.1).trans (q12 l0.1)
            have f13 := (hv 13 93 rfl l0.2.1).trans (q13 l0.2.1)
            have f14 := (hv 14 94 rfl l0.2.2).trans (q14 l0.2.2)
            refine Ri.step_wanted (b := false) rfl rfl rfl f12 (fun K' hK => ?_)
            refine wp_pair _ _ rfl f13 f14 ?_
            exact hK _ _ ⟨_, _, rfl, rfl, hb.alloc hb.size _, q0, q1, fun l => (q2 l).below (below_new _), q3, q4, q5, q6, q7, q8, fun l => (q9 l).below (below_new _), q10, q11, q12, q13, q14, fun _ => ⟨_, rfl, heap_alloc_new _ _⟩, q16, q17, q18, q19, fun l => (q20 l).below (below_new _), q21, q22, q23⟩
          · have l0 : L 12 = true ∧ L 15 = true := by have := hd _ rfl; simp [Region.binds] at this; simp [this]
            have f12 := (hv 12 92 rfl l0.1).trans (q12 l0.1)
            have f15 := hv 15 95 rfl l0.2
            refine Ri.step_wanted (b := false) rfl rfl rfl f12 (fun K' hK => ?_)
            go_simp
            refine (join2_any (q15 l0.2)).mono ?_
            rintro e w8 ⟨rfl, hb8⟩
            exact hK _ _ ⟨_, _, rfl, rfl, hb.trans (hb8.mono hb.size), q0, q1, fun l => (q2 l).below hb8, q3, q4, q5, q6, q7, q8, fun l => (q9 l).below hb8, q10, q11, q12, q13, q14, fun l => (q15 l).below hb8, fun _ => rfl, q17, q18, q19, fun l => (q20 l).below hb8, q21, q22, q23⟩
          · have l0 : L 12 = true := by have := hd _ rfl; simp [Region.binds] at this; simp [this]
            have f12 := (hv 12 92 rfl l0).trans (q12 l0)
            have e3 : xa.tmps.getD 3 undef = .pointer (some ⟨w.heap.size + 1, 0, none⟩) := ho 3 (by kernel_rfl)
            refine Ri.step_wanted (b := false) rfl rfl rfl f12 (fun K' hK => ?_)
            refine wp_load_row _ _ rfl _ e3 _ _ _ _ (keep_blk hb YB.out) Tryd.underlying24 rfl (by kernel_rfl) ?_
            exact hK _ _ ⟨_, _, rfl, rfl, hb, q0, q1, q2, q3, q4, q5, q6, q7, q8, q9, q10, q11, q12, q13, q14, q15, q16, fun _ => rfl, q18, q19, q20, q21, q22, q23⟩
          · have l0 : L 12 = true := by have := hd _ rfl; simp [Region.binds] at this; simp [this]
            have f12 := (hv 12 92 rfl l0).trans (q12 l0)
            have e2 : xa.tmps.getD 2 undef = .pointer (some ⟨w.heap.size, 0, none⟩) := ho 2 (by kernel_rfl)
            refine Ri.step_wanted (b := false) rfl rfl rfl f12 (fun K' hK => ?_)
            refine wp_load_row _ _ rfl _ e2 _ _ _ _ (keep_blk hb YA.out) Tryd.underlying24 rfl (by kernel_rfl) ?_
            exact hK _ _ ⟨_, _, rfl, rfl, hb, q0, q1, q2, q3, q4, q5, q6, q7, q8, q9, q10, q11, q12, q13, q14, q15, q16, q17, fun _ => rfl, q19, q20, q21, q22, q23⟩
          · have l0 : L 12 = true := by have := hd _ rfl; simp [Region.binds] at this; simp [this]
            have f12 := (hv 12 92 rfl l0).trans (q12 l0)
            have e3 : xa.tmps.getD 3 undef = .pointer (some ⟨w.heap.size + 1, 0, none⟩) := ho 3 (by kernel_rfl)
            refine Ri.step_wanted (b := false) rfl rfl rfl f12 (fun K' hK => ?_)
            refine wp_load_row _ _ rfl _ e3 _ _ _ _ (keep_blk hb YB.out) Tryd.underlying24 rfl (by kernel_rfl) ?_
            exact hK _ _ ⟨_, _, rfl, rfl, hb, q0, q1, q2, q3, q4, q5, q6, q7, q8, q9, q10, q11, q12, q13, q14, q15, q16, q17, q18, fun _ => rfl, q20, q21, q22, q23⟩
          · have l0 : L 12 = true ∧ L 17 = true ∧ L 18 = true ∧ L 19 = true := by have := hd _ rfl; simp [Region.binds] at this; simp [this]
            have f12 := (hv 12 92 rfl l0.1).trans (q12 l0.1)
            have f17 := (hv 17 97 rfl l0.2.1).trans (q17 l0.2.1)
            have f18 := (hv 18 98 rfl l0.2.2.1).trans (q18 l0.2.2.1)
            have f19 := (hv 19 99 rfl l0.2.2.2).trans (q19 l0.2.2.2)
            refine Ri.step_wanted (b := false) rfl rfl rfl f12 (fun K' hK => ?_)
            refine wp_triple _ _ _ rfl f17 f18 f19 ?_
            exact hK _ _ ⟨_, _, rfl, rfl, hb.alloc hb.size _, q0, q1, fun l => (q2 l).below (below_new _), q3, q4, q5, q6, q7, q8, fun l => (q9 l).below (below_new _), q10, q11, q12, q13, q14, fun l => (q15 l).below (below_new _), q16, q17, q18, q19, fun _ => ⟨_, rfl, heap_alloc_new _ _⟩, q21, q22, q23⟩
          · have l0 : L 12 = true ∧ L 20 = true := by have := hd _ rfl; simp [Region.binds] at this; simp [this]
            have f12 := (hv 12 92 rfl l0.1).trans (q12 l0.1)
            have f20 := hv 20 100 rfl l0.2
            refine Ri.step_wanted (b := false) rfl rfl rfl f12 (fun K' hK => ?_)
            go_simp
            refine (join3_any (q20 l0.2)).mono ?_
            rintro e w8 ⟨rfl, hb8⟩
            exact hK _ _ ⟨_, _, rfl, rfl, hb.trans (hb8.mono hb.size), q0, q1, fun l => (q2 l).below hb8, q3, q4, q5, q6, q7, q8, fun l => (q9 l).below hb8, q10, q11, q12, q13, q14, fun l => (q15 l).below hb8, q16, q17, q18, q19, fun l => (q20 l).below hb8, fun _ => rfl, q22, q23⟩
          · have l0 : L 12 = true ∧ L 16 = true ∧ L 21 = true := by have := hd _ rfl; simp [Region.binds] at this; simp [this]
            have f12 := (hv 12 92 rfl l0.1).trans (q12 l0.1)
            have f16 := (hv 16 96 rfl l0.2.1).trans (q16 l0.2.1)
            have f21 := (hv 21 101 rfl l0.2.2).trans (q21 l0.2.2)
            refine Ri.step_wanted (b := false) rfl rfl rfl f12 (fun K' hK => ?_)
            go_simp
            exact hK _ _ ⟨_, _, rfl, rfl, hb, q0, q1, q2, q3, q4, q5, q6, q7, q8, q9, q10, q11, q12, q13, q14, q15, q16, q17, q18, q19, q20, q21, fun _ => rfl, q23⟩
          · have l0 : L 12 = true ∧ L 22 = true := by have := hd _ rfl; simp [Region.binds] at this; simp [this]
            have f12 := (hv 12 92 rfl l0.1).trans (q12 l0.1)
            have f22 := (hv 22 102 rfl l0.2).trans (q22 l0.2)
            refine Ri.step_plain rfl rfl (fun K' hK => ?_)
            go_simp
            exact hK _ _ ⟨_, _, rfl, rfl, hb, q0, q1, q2, q3, q4, q5, q6, q7, q8, q9, q10, q11, q12, q13, q14, q15, q16, q17, q18, q19, q20, q21, q22, fun _ => rfl⟩
        · rintro v w16 ⟨hb, -, -, -, -, -, -, -, -, -, -, -, -, -, -, -, -, -, -, -, -, -, -, -, qe⟩
          have qe' : v 23 = .bool false := qe rfl
          simp only [Ri.frame, List.zipIdx, List.foldl_cons, List.foldl_nil, if_true, List.setIfInBounds_toArray, List.set_cons_zero, List.set_cons_succ, qe', Nat.reduceAdd]
          have hbw16 := hbw14.trans (hb.mono hbw14.size)
          have XA := Lib.hid (keep_blk hb YA.out); have XB := Lib.hid (keep_blk hb YB.out)
          clear qe qe' hb hbw14 YA YB
          generalize v 0 = y0; generalize v 1 = y1; generalize v 2 = y2; generalize v 3 = y3; generalize v 4 = y4; generalize v 5 = y5; generalize v 6 = y6; generalize v 7 = y7; generalize v 8 = y8; generalize v 9 = y9; generalize v 10 = y10; generalize v 11 = y11; generalize v 12 = y12; generalize v 13 = y13; generalize v 14 = y14; generalize v 15 = y15; generalize v 16 = y16; generalize v 17 = y17; generalize v 18 = y18; generalize v 19 = y19; generalize v 20 = y20; generalize v 21 = y21; generalize v 22 = y22
          go_wp2_with fail
          obtain ⟨nO, nA, n1, n2, nN, l1, l2, l3, cO, cA, c1, c2, cN⟩ := counts a b c d a' b' c' d'
          have s1 : IntKind.i64.wrap ((nO : Int) + nA) = (nO : Int) + nA := IntWalk.i64_in _ (by omega)
          have s2 : IntKind.i64.wrap ((n1 : Int) + n2) = (nO : Int) + nA := (IntWalk.i64_in _ (by omega)).trans (by omega)
          have s3 : IntKind.i64.wrap (256 - (n1 : Int)) = (nN : Int) := (IntWalk.i64_in _ (by omega)).trans (by omega)
          refine Ri.wp_region_frame (by kernel_rfl) (by kernel_rfl) (by kernel_rfl) (by kernel_rfl)
            (fun L v w' => Below w16.heap.size w16 w' ∧ (L 0 = true → v 0 = (.agg #[.int .u64 (Oc.U a), .int .u64 (Oc.U b), .int .u64 (Oc.U c), .int .u64 (Oc.U d)])) ∧ (L 1 = true → v 1 = (.agg #[.int .u64 (Oc.U a'), .int .u64 (Oc.U b'), .int .u64 (Oc.U c'), .int .u64 (Oc.U d')])) ∧ (L 2 = true → Sl2 w' (v 2) (a) (b) (c) (d) (a') (b') (c') (d')) ∧ (L 3 = true → v 3 = (.agg #[.int .u64 (Oc.U (a ||| a')), .int .u64 (Oc.U (b ||| b')), .int .u64 (Oc.U (c ||| c')), .int .u64 (Oc.U (d ||| d'))])) ∧ (L 4 = true → v 4 = .int .i64 (nO : Int)) ∧ (L 5 = true → v 5 = (.agg #[.int .u64 (Oc.U a), .int .u64 (Oc.U b), .int .u64 (Oc.U c), .int .u64 (Oc.U d)])) ∧ (L 6 = true → v 6 = (.agg #[.int .u64 (Oc.U a'), .int .u64 (Oc.U b'), .int .u64 (Oc.U c'), .int .u64 (Oc.U d')])) ∧ (L 7 = true → Sl2 w' (v 7) (a) (b) (c) (d) (a') (b') (c') (d')) ∧ (L 8 = true → v 8 = (.agg #[.int .u64 (Oc.U (a &&& a')), .int .u64 (Oc.U (b &&& b')), .int .u64 (Oc.U (c &&& c')), .int .u64 (Oc.U (d &&& d'))])) ∧ (L 9 = true → v 9 = .int .i64 (nA : Int)) ∧ (L 10 = true → v 10 = .int .i64 ((nO : Int) + nA)) ∧ (L 11 = true → v 11 = (.agg #[.int .u64 (Oc.U a), .int .u64 (Oc.U b), .int .u64 (Oc.U c), .int .u64 (Oc.U d)])) ∧ (L 12 = true → v 12 = .int .i64 (n1 : Int)) ∧ (L 13 = true → v 13 = (.agg #[.int .u64 (Oc.U a'), .int .u64 (Oc.U b'), .int .u64 (Oc.U c'), .int .u64 (Oc.U d')])) ∧ (L 14 = true → v 14 = .int .i64 (n2 : Int)) ∧ (L 15 = true → v 15 = .int .i64 ((nO : Int) + nA)) ∧ (L 16 = true → v 16 = .bool true) ∧ (L 17 = true → v 17 = .bool true) ∧ (L 18 = true → v 18 = (.agg #[.int .u64 (Oc.U a), .int .u64 (Oc.U b), .int .u64 (Oc.U c), .int .u64 (Oc.U d)])) ∧ (L 19 = true → v 19 = (.agg #[.int .u64 (Oc.U (~~~a)), .int .u64 (Oc.U (~~~b)), .int .u64 (Oc.U (~~~c)), .int .u64 (Oc.U (~~~d))])) ∧ (L 20 = true → v 20 = .int .i64 (nN : Int)) ∧ (L 21 = true → v 21 = (.agg #[.int .u64 (Oc.U a), .int .u64 (Oc.U b), .int .u64 (Oc.U c), .int .u64 (Oc.U d)])) ∧ (L 22 = true → v 22 = .int .i64 (n1 : Int)) ∧ (L 23 = true → v 23 = .int .i64 (nN : Int)) ∧ (L 24 = true → v 24 = .bool true) ∧ (L 25 = true → v 25 = .bool true) ∧ (L 26 = true → v 26 = .bool true))
            ?_ ?_ ?_
          · exact ⟨(Below.refl _ _).drew, by simp, by simp, by simp, by simp, by simp, by simp, by simp, by simp, by simp, by simp, by simp, by simp, by simp, by simp, by simp, by simp, by simp, by simp, by simp, by simp, by simp, by simp, by simp, by simp, by simp, by simp, by simp⟩
          · intro i hi9 L v w7 xa hI hL hd hv ho
            have hi' : i = 0 ∨ i = 1 ∨ i = 2 ∨ i = 3 ∨ i = 4 ∨ i = 5 ∨ i = 6 ∨ i = 7 ∨ i = 8 ∨ i = 9 ∨ i = 10 ∨ i = 11 ∨ i = 12 ∨ i = 13 ∨ i = 14 ∨ i = 15 ∨ i = 16 ∨ i = 17 ∨ i = 18 ∨ i = 19 ∨ i = 20 ∨ i = 21 ∨ i = 22 ∨ i = 23 ∨ i = 24 ∨ i = 25 ∨ i = 26 := by simp at hi9; omega
            obtain ⟨hb, q0, q1, q2, q3, q4, q5, q6, q7, q8, q9, q10, q11, q12, q13, q14, q15, q16, q17, q18, q19, q20, q21, q22, q23, q24, q25, q26⟩ := hI
            rcases hi' with rfl | rfl | rfl | rfl | rfl | rfl | rfl | rfl | rfl | rfl | rfl | rfl | rfl | rfl | rfl | rfl | rfl | rfl | rfl | rfl | rfl | rfl | rfl | rfl | rfl | rfl | rfl
            · have e2 : xa.tmps.getD 2 undef = .pointer (some ⟨w.heap.size, 0, none⟩) := ho 2 (by kernel_rfl)
              refine Ri.step_plain rfl rfl (fun K' hK => ?_)
              refine wp_load_row _ _ rfl _ e2 _ _ _ _ (keep_blk hb XA.out) Tryd.underlying24 rfl (by kernel_rfl) ?_
              exact hK _ _ ⟨_, _, rfl, rfl, hb, fun _ => rfl, q1, q2, q3, q4, q5, q6, q7, q8, q9, q10, q11, q12, q13, q14, q15, q16, q17, q18, q19, q20, q21, q22, q23, q24, q25, q26⟩
            · have e3 : xa.tmps.getD 3 undef = .pointer (some ⟨w.heap.size + 1, 0, none⟩) := ho 3 (by kernel_rfl)
              refine Ri.step_plain rfl rfl (fun K' hK => ?_)
              refine wp_load_row _ _ rfl _ e3 _ _ _ _ (keep_blk hb XB.out) Tryd.underlying24 rfl (by kernel_rfl) ?_
              exact hK _ _ ⟨_, _, rfl, rfl, hb, q0, fun _ => rfl, q2, q3, q4, q5, q6, q7, q8, q9, q10, q11, q12, q13, q14, q15, q16, q17, q18, q19, q20, q21, q22, q23, q24, q25, q26⟩
            · have l0 : L 0 = true ∧ L 1 = true := by have := hd _ rfl; simp [Region.binds] at this; simp [this]
              have f0 := (hv 0 104 rfl l0.1).trans (q0 l0.1)
              have f1 := (hv 1 105 rfl l0.2).trans (q1 l0.2)
              refine Ri.step_plain rfl rfl (fun K' hK => ?_)
              refine wp_pair _ _ rfl f0 f1 ?_
              exact hK _ _ ⟨_, _, rfl, rfl, hb.alloc hb.size _, q0, q1, fun _ => ⟨_, rfl, heap_alloc_new _ _⟩, q3, q4, q5, q6, fun l => (q7 l).below (below_new _), q8, q9, q10, q11, q12, q13, q14, q15, q16, q17, q18, q19, q20, q21, q22, q23, q24, q25, q26⟩
            · have l0 : L 2 = true := by have := hd _ rfl; simp [Region.binds] at this; simp [this]
              have f2 := hv 2 106 rfl l0
              refine Ri.step_plain rfl rfl (fun K' hK => ?_)
              go_simp
              refine (join2_any (q2 l0)).mono ?_
              rintro e w8 ⟨rfl, hb8⟩
              exact hK _ _ ⟨_, _, rfl, rfl, hb.trans (hb8.mono hb.size), q0, q1, fun l => (q2 l).below hb8, fun _ => rfl, q4, q5, q6, fun l => (q7 l).below hb8, q8, q9, q10, q11, q12, q13, q14, q15, q16, q17, q18, q19, q20, q21, q22, q23, q24, q25, q26⟩
            · have l0 : L 3 = true := by have := hd _ rfl; simp [Region.binds] at this; simp [this]
              have f3 := (hv 3 107 rfl l0).trans (q3 l0)
              refine Ri.step_plain rfl rfl (fun K' hK => ?_)
              go_simp
              refine (cO _).mono ?_
              rintro e w8 ⟨rfl, hb8⟩
              exact hK _ _ ⟨_, _, rfl, rfl, hb.trans (hb8.mono hb.size), q0, q1, fun l => (q2 l).below hb8, q3, fun _ => rfl, q5, q6, fun l => (q7 l).below hb8, q8, q9, q10, q11, q12, q13, q14, q15, q16, q17, q18, q19, q20, q21, q22, q23, q24, q25, q26⟩
            · have e2 : xa.tmps.getD 2 undef = .pointer (some ⟨w.heap.size, 0, none⟩) := ho 2 (by kernel_rfl)
              refine Ri.step_plain rfl rfl (fun K' hK => ?_)
              refine wp_load_row _ _ rfl _ e2 _ _ _ _ (keep_blk hb XA.out) Tryd.underlying24 rfl (by kernel_rfl) ?_
              exact hK _ _ ⟨_, _, rfl, rfl, hb, q0, q1, q2, q3, q4, fun _ => rfl, q6, q7, q8, q9, q10, q11, q12, q13, q14, q15, q16, q17, q18, q19, q20, q21, q22, q23, q24, q25, q26⟩
            · have e3 : xa.tmps.getD 3 undef = .pointer (some ⟨w.heap.size + 1, 0, none⟩) := ho 3 (by kernel_rfl)
              refine Ri.step_plain rfl rfl (fun K' hK => ?_)
              refine wp_load_row _ _ rfl _ e3 _ _ _ _ (keep_blk hb XB.out) Tryd.underlying24 rfl (by kernel_rfl) ?_
              exact hK _ _ ⟨_, _, rfl, rfl, hb, q0, q1, q2, q3, q4, q5, fun _ => rfl, q7, q8, q9, q10, q11, q12, q13, q14, q15, q16, q17, q18, q19, q20, q21, q22, q23, q24, q25, q26⟩
            · have l0 : L 5 = true ∧ L 6 = true := by have := hd _ rfl; simp [Region.binds] at this; simp [this]
              have f5 := (hv 5 109 rfl l0.1).trans (q5 l0.1)
              have f6 := (hv 6 110 rfl l0.2).trans (q6 l0.2)
              refine Ri.step_plain rfl rfl (fun K' hK => ?_)
              refine wp_pair _ _ rfl f5 f6 ?_
              exact hK _ _ ⟨_, _, rfl, rfl, hb.alloc hb.size _, q0, q1, fun l => (q2 l).below (below_new _), q3, q4, q5, q6, fun _ => ⟨_, rfl, heap_alloc_new _ _⟩, q8, q9, q10, q11, q12, q13, q14, q15, q16, q17, q18, q19, q20, q21, q22, q23, q24, q25, q26⟩
            · have l0 : L 7 = true := by have := hd _ rfl; simp [Region.binds] at this; simp [this]
              have f7 := hv 7 111 rfl l0
              refine Ri.step_plain rfl rfl (fun K' hK => ?_)
              go_simp
              refine (meet2_any (q7 l0)).mono ?_
              rintro e w8 ⟨rfl, hb8⟩
              exact hK _ _ ⟨_, _, rfl, rfl, hb.trans (hb8.mono hb.size), q0, q1, fun l => (q2 l).below hb8, q3, q4, q5, q6, fun l => (q7 l).below hb8, fun _ => rfl, q9, q10, q11, q12, q13, q14, q15, q16, q17, q18, q19, q20, q21, q22, q23, q24, q25, q26⟩
            · have l0 : L 8 = true := by have := hd _ rfl; simp [Region.binds] at this; simp [this]
              have f8 := (hv 8 112 rfl l0).trans (q8 l0)
              refine Ri.step_plain rfl rfl (fun K' hK => ?_)
              go_simp
              refine (cA _).mono ?_
              rintro e w8 ⟨rfl, hb8⟩
              exact hK _ _ ⟨_, _, rfl, rfl, hb.trans (hb8.mono hb.size), q0, q1, fun l => (q2 l).below hb8, q3, q4, q5, q6, fun l => (q7 l).below hb8, q8, fun _ => rfl, q10, q11, q12, q13, q14, q15, q16, q17, q18, q19, q20, q21, q22, q23, q24, q25, q26⟩
            · have l0 : L 4 = true ∧ L 9 = true := by have := hd _ rfl; simp [Region.binds] at this; simp [this]
              have f4 := (hv 4 108 rfl l0.1).trans (q4 l0.1)
              have f9 := (hv 9 113 rfl l0.2).trans (q9 l0.2)
              refine Ri.step_plain rfl rfl (fun K' hK => ?_)
              go_simp
              exact hK _ _ ⟨_, _, rfl, rfl, hb, q0, q1, q2, q3, q4, q5, q6, q7, q8, q9, fun _ => rfl, q11, q12, q13, q14, q15, q16, q17, q18, q19, q20, q21, q22, q23, q24, q25, q26⟩
            · have e2 : xa.tmps.getD 2 undef = .pointer (some ⟨w.heap.size, 0, none⟩) := ho 2 (by kernel_rfl)
              refine Ri.step_plain rfl rfl (fun K' hK => ?_)
              refine wp_load_row _ _ rfl _ e2 _ _ _ _ (keep_blk hb XA.out) Tryd.underlying24 rfl (by kernel_rfl) ?_
              exact hK _ _ ⟨_, _, rfl, rfl, hb, q0, q1, q2, q3, q4, q5, q6, q7, q8, q9, q10, fun _ => rfl, q12, q13, q14, q15, q16, q17, q18, q19, q20, q21, q22, q23, q24, q25, q26⟩
            · have l0 : L 11 = true := by have := hd _ rfl; simp [Region.binds] at this; simp [this]
              have f11 := (hv 11 115 rfl l0).trans (q11 l0)
              refine Ri.step_plain rfl rfl (fun K' hK => ?_)
              go_simp
              refine (c1 _).mono ?_
              rintro e w8 ⟨rfl, hb8⟩
              exact hK _ _ ⟨_, _, rfl, rfl, hb.trans (hb8.mono hb.size), q0, q1, fun l => (q2 l).below hb8, q3, q4, q5, q6, fun l => (q7 l).below hb8, q8, q9, q10, q11, fun _ => rfl, q13, q14, q15, q16, q17, q18, q19, q20, q21, q22, q23, q24, q25, q26⟩
            · have e3 : xa.tmps.getD 3 undef = .pointer (some ⟨w.heap.size + 1, 0, none⟩) := ho 3 (by kernel_rfl)
              refine Ri.step_plain rfl rfl (fun K' hK => ?_)
              refine wp_load_row _ _ rfl _ e3 _ _ _ _ (keep_blk hb XB.out) Tryd.underlying24 rfl (by kernel_rfl) ?_
              exact hK _ _ ⟨_, _, rfl, rfl, hb, q0, q1, q2, q3, q4, q5, q6, q7, q8, q9, q10, q11, q12, fun _ => rfl, q14, q15, q16, q17, q18, q19, q20, q21, q22, q23, q24, q25, q26⟩
            · have l0 : L 13 = true := by have := hd _ rfl; simp [Region.binds] at this; simp [this]
              have f13 := (hv 13 117 rfl l0).trans (q13 l0)
              refine Ri.step_plain rfl rfl (fun K' hK => ?_)
              go_simp
              refine (c2 _).mono ?_
              rintro e w8 ⟨rfl, hb8⟩
              exact hK _ _ ⟨_, _, rfl, rfl, hb.trans (hb8.mono hb.size), q0, q1, fun l => (q2 l).below hb8, q3, q4, q5, q6, fun l => (q7 l).below hb8, q8, q9, q10, q11, q12, q13, fun _ => rfl, q15, q16, q17, q18, q19, q20, q21, q22, q23, q24, q25, q26⟩
            · have l0 : L 12 = true ∧ L 14 = true := by have := hd _ rfl; simp [Region.binds] at this; simp [this]
              have f12 := (hv 12 116 rfl l0.1).trans (q12 l0.1)
              have f14 := (hv 14 118 rfl l0.2).trans (q14 l0.2)
              refine Ri.step_plain rfl rfl (fun K' hK => ?_)
              go_simp
              exact hK _ _ ⟨_, _, rfl, rfl, hb, q0, q1, q2, q3, q4, q5, q6, q7, q8, q9, q10, q11, q12, q13, q14, fun _ => rfl, q16, q17, q18, q19, q20, q21, q22, q23, q24, q25, q26⟩
            · have l0 : L 10 = true ∧ L 15 = true := by have := hd _ rfl; simp [Region.binds] at this; simp [this]
              have f10 := (hv 10 114 rfl l0.1).trans (q10 l0.1)
              have f15 := (hv 15 119 rfl l0.2).trans (q15 l0.2)
              refine Ri.step_plain rfl rfl (fun K' hK => ?_)
              go_simp
              exact hK _ _ ⟨_, _, rfl, rfl, hb, q0, q1, q2, q3, q4, q5, q6, q7, q8, q9, q10, q11, q12, q13, q14, q15, fun _ => rfl, q17, q18, q19, q20, q21, q22, q23, q24, q25, q26⟩
            · have l0 : L 16 = true := by have := hd _ rfl; simp [Region.binds] at this; simp [this]
              have f16 := (hv 16 120 rfl l0).trans (q16 l0)
              refine Ri.step_plain rfl rfl (fun K' hK => ?_)
              go_simp
              exact hK _ _ ⟨_, _, rfl, rfl, hb, q0, q1, q2, q3, q4, q5, q6, q7, q8, q9, q10, q11, q12, q13, q14, q15, q16, fun _ => rfl, q18, q19, q20, q21, q22, q23, q24, q25, q26⟩
            · have l0 : L 17 = true := by have := hd _ rfl; simp [Region.binds] at this; simp [this]
              have f17 := (hv 17 121 rfl l0).trans (q17 l0)
              have e2 : xa.tmps.getD 2 undef = .pointer (some ⟨w.heap.size, 0, none⟩) := ho 2 (by kernel_rfl)
              refine Ri.step_wanted (b := true) rfl rfl rfl f17 (fun K' hK => ?_)
              refine wp_load_row _ _ rfl _ e2 _ _ _ _ (keep_blk hb XA.out) Tryd.underlying24 rfl (by kernel_rfl) ?_
              exact hK _ _ ⟨_, _, rfl, rfl, hb, q0, q1, q2, q3, q4, q5, q6, q7, q8, q9, q10, q11, q12, q13, q14, q15, q16, q17, fun _ => rfl, q19, q20, q21, q22, q23, q24, q25, q26⟩
            · have l0 : L 17 = true ∧ L 18 = true := by have := hd _ rfl; simp [Region.binds] at this; simp [this]
              have f17 := (hv 17 121 rfl l0.1).trans (q17 l0.1)
              have f18 := (hv 18 122 rfl l0.2).trans (q18 l0.2)
              refine Ri.step_wanted (b := true) rfl rfl rfl f17 (fun K' hK => ?_)
              go_simp
              refine (not_any _ _ _ _ _).mono ?_
              rintro e w8 ⟨rfl, hb8⟩
              exact hK _ _ ⟨_, _, rfl, rfl, hb.trans (hb8.mono hb.size), q0, q1, fun l => (q2 l).below hb8, q3, q4, q5, q6, fun l => (q7 l).below hb8, q8, q9, q10, q11, q12, q13, q14, q15, q16, q17, q18, fun _ => rfl, q20, q21, q22, q23, q24, q25, q26⟩
            · have l0 : L 17 = true ∧ L 19 = true := by have := hd _ rfl; simp [Region.binds] at this; simp [this]
              have f17 := (hv 17 121 rfl l0.1).trans (q17 l0.1)
              have f19 := (hv 19 123 rfl l0.2).trans (q19 l0.2)
              refine Ri.step_wanted (b := true) rfl rfl rfl f17 (fun K' hK => ?_)
              go_simp
              refine (cN _).mono ?_
              rintro e w8 ⟨rfl, hb8⟩
              exact hK _ _ ⟨_, _, rfl, rfl, hb.trans (hb8.mono hb.size), q0, q1, fun l => (q2 l).below hb8, q3, q4, q5, q6, fun l => (q7 l).below hb8, q8, q9, q10, q11, q12, q13, q14, q15, q16, q17, q18, q19, fun _ => rfl, q21, q22, q23, q24, q25, q26⟩
            · have l0 : L 17 = true := by have := hd _ rfl; simp [Region.binds] at this; simp [this]
              have f17 := (hv 17 121 rfl l0).trans (q17 l0)
              have e2 : xa.tmps.getD 2 undef = .pointer (some ⟨w.heap.size, 0, none⟩) := ho 2 (by kernel_rfl)
              refine Ri.step_wanted (b := true) rfl rfl rfl f17 (fun K' hK => ?_)
              refine wp_load_row _ _ rfl _ e2 _ _ _ _ (keep_blk hb XA.out) Tryd.underlying24 rfl (by kernel_rfl) ?_
              exact hK _ _ ⟨_, _, rfl, rfl, hb, q0, q1, q2, q3, q4, q5, q6, q7, q8, q9, q10, q11, q12, q13, q14, q15, q16, q17, q18, q19, q20, fun _ => rfl, q22, q23, q24, q25, q26⟩
            · have l0 : L 17 = true ∧ L 21 = true := by have := hd _ rfl; simp [Region.binds] at this; simp [this]
              have f17 := (hv 17 121 rfl l0.1).trans (q17 l0.1)
              have f21 := (hv 21 125 rfl l0.2).trans (q21 l0.2)
              refine Ri.step_wanted (b := true) rfl rfl rfl f17 (fun K' hK => ?_)
              go_simp
              refine (c1 _).mono ?_
              rintro e w8 ⟨rfl, hb8⟩
              exact hK _ _ ⟨_, _, rfl, rfl, hb.trans (hb8.mono hb.size), q0, q1, fun l => (q2 l).below hb8, q3, q4, q5, q6, fun l => (q7 l).below hb8, q8, q9, q10, q11, q12, q13, q14, q15, q16, q17, q18, q19, q20, q21, fun _ => rfl, q23, q24, q25, q26⟩
            · have l0 : L 17 = true ∧ L 22 = true := by have := hd _ rfl; simp [Region.binds] at this; simp [this]
              have f17 := (hv 17 121 rfl l0.1).trans (q17 l0.1)
              have f22 := (hv 22 126 rfl l0.2).trans (q22 l0.2)
              refine Ri.step_wanted (b := true) rfl rfl rfl f17 (fun K' hK => ?_)
              go_simp
              exact hK _ _ ⟨_, _, rfl, rfl, hb, q0, q1, q2, q3, q4, q5, q6, q7, q8, q9, q10, q11, q12, q13, q14, q15, q16, q17, q18, q19, q20, q21, q22, fun _ => rfl, q24, q25, q26⟩
            · have l0 : L 17 = true ∧ L 20 = true ∧ L 23 = true := by have := hd _ rfl; simp [Region.binds] at this; simp [this]
              have f17 := (hv 17 121 rfl l0.1).trans (q17 l0.1)
              have f20 := (hv 20 124 rfl l0.2.1).trans (q20 l0.2.1)
              have f23 := (hv 23 127 rfl l0.2.2).trans (q23 l0.2.2)
              refine Ri.step_wanted (b := true) rfl rfl rfl f17 (fun K' hK => ?_)
              go_simp
              exact hK _ _ ⟨_, _, rfl, rfl, hb, q0, q1, q2, q3, q4, q5, q6, q7, q8, q9, q10, q11, q12, q13, q14, q15, q16, q17, q18, q19, q20, q21, q22, q23, fun _ => rfl, q25, q26⟩
            · have l0 : L 17 = true ∧ L 24 = true := by have := hd _ rfl; simp [Region.binds] at this; simp [this]
              have f17 := (hv 17 121 rfl l0.1).trans (q17 l0.1)
              have f24 := (hv 24 128 rfl l0.2).trans (q24 l0.2)
              refine Ri.step_plain rfl rfl (fun K' hK => ?_)
              go_simp
              exact hK _ _ ⟨_, _, rfl, rfl, hb, q0, q1, q2, q3, q4, q5, q6, q7, q8, q9, q10, q11, q12, q13, q14, q15, q16, q17, q18, q19, q20, q21, q22, q23, q24, fun _ => rfl, q26⟩
            · have l0 : L 25 = true := by have := hd _ rfl; simp [Region.binds] at this; simp [this]
              have f25 := (hv 25 129 rfl l0).trans (q25 l0)
              refine Ri.step_plain rfl rfl (fun K' hK => ?_)
              go_simp
              exact hK _ _ ⟨_, _, rfl, rfl, hb, q0, q1, q2, q3, q4, q5, q6, q7, q8, q9, q10, q11, q12, q13, q14, q15, q16, q17, q18, q19, q20, q21, q22, q23, q24, q25, fun _ => rfl⟩
          · rintro v w18 ⟨hb, -, -, -, -, -, -, -, -, -, -, -, -, -, -, -, -, -, -, -, -, -, -, -, -, -, -, qe⟩
            have qe' : v 26 = .bool true := qe rfl
            simp only [Ri.frame, List.zipIdx, List.foldl_cons, List.foldl_nil, if_true, List.setIfInBounds_toArray, List.set_cons_zero, List.set_cons_succ, qe', Nat.reduceAdd]
            have hbw18 := hbw16.trans (hb.mono hbw16.size)
            go_wp2
            go_ret
            exact ⟨rfl, hbw18⟩
end Go.Proofs.YtdlcnhelkjlglaaDoor
