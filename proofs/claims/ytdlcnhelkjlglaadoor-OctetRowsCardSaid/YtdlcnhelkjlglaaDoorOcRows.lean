/- Rows: the iterator of a set of bytes, over whatever loop body keeps the sets. -/
import Derived.Test.YtdlcnhelkjlglaaDoorOcNext
import Derived.Test.YtdlcnhelkjlglaaDoorOcWalks2
import Derived.RangeFuncNested
import Derived.RangeFuncBound
import Derived.RangeFuncCalls
import Derived.RangeFuncLeaves
import Derived.Shelf.Abstract
import Derived.Shelf.RegionOpen
import Derived.RangeFuncBox
import Derived.WalkKit
import Derived.OwnWalkIn
import Derived.TacticsInMore
import Derived.LoopNIn
import Derived.LoopIn
import Derived.Maps.AppendAt
namespace Go.Proofs.YtdlcnhelkjlglaaDoor
open Go.RowKit Go.Shelf
attribute [local go_sem] Oper.semAt_some
namespace Oc
/-- The rows from a byte on: its first byte, and the byte behind its last one. -/
def rowsFrom (p q : Nat → Bool) : Nat → Nat → List (Nat × Nat)
  | 0, _ => []
  | k + 1, m => if m < 256 then (m, nx q m) :: rowsFrom p q k (nx p (nx q m)) else []
theorem rowsFrom_end (p q : Nat → Bool) (k : Nat) : rowsFrom p q k 256 = [] := by cases k <;> rfl
theorem rowsFrom_step (p q : Nat → Bool) (k m : Nat) (h : m < 256) : rowsFrom p q (k + 1) m = (m, nx q m) :: rowsFrom p q k (nx p (nx q m)) := by simp only [rowsFrom, if_pos h]
def rowsOf (p q : Nat → Bool) : List (Nat × Nat) := rowsFrom p q 257 (nx p 0)
end Oc
/-- What a round must keep: every block of a set's type, and the table. -/
def KeepsSets (W W' : World) : Prop := ∀ (b : Nat) c t z, W.heap[b]? = some (.cells c t z) → (t = 24 ∨ b = 21) → W'.heap[b]? = some (.cells c t z)
theorem KeepsSets.refl (W : World) : KeepsSets W W := fun _ _ _ _ h _ => h
theorem KeepsSets.trans {A B C : World} (h : KeepsSets A B) (k : KeepsSets B C) : KeepsSets A C := fun b c t z hb ht => k b c t z (h b c t z hb ht) ht
theorem KeepsSets.of_below {W W' : World} (h : Below W.heap.size W W') : KeepsSets W W' := fun b _ _ _ hb _ => (h.block b (Array.getElem?_eq_some_iff.1 hb).1).trans hb
theorem keepsSets_b {w : World} (W : World) (l : Nat) (o o' : Obj) (_ : w.heap.size ≤ l) (h : W.heap[l]? = some o) (hc : o.isCells = false) (_ : o.isWalk = false) : KeepsSets W (W.putObj l o') := by
  intro b c t z hb _
  have : b ≠ l := by rintro rfl; rw [h] at hb; cases hb; cases hc
  rw [World.putObj_heap_other this]; exact hb
theorem tab_cells {W : World} (h : TabAt 21 Lib.deBruijn64tab W) : ∃ c t z, W.heap[21]? = some (.cells c t z) := by
  have h0 := h 0 (by decide)
  simp only [World.cell?] at h0
  split at h0
  · rename_i hh; exact ⟨_, _, _, hh⟩
  all_goals cases h0
theorem tab_kept {W W' : World} (h : TabAt 21 Lib.deBruijn64tab W) (k : KeepsSets W W') : TabAt 21 Lib.deBruijn64tab W' := by
  obtain ⟨c, t, z, hb⟩ := tab_cells h
  have hb' := k _ c t z hb (.inr rfl)
  intro j hj
  have := h j hj
  simp only [World.cell?, hb] at this
  simp only [World.cell?, hb']
  exact this
theorem tab_lt {W : World} (h : TabAt 21 Lib.deBruijn64tab W) : 21 < W.heap.size := by
  obtain ⟨c, t, z, hb⟩ := tab_cells h
  exact (Array.getElem?_eq_some_iff.1 hb).1
theorem grown_of_below {W W' : World} (h : Below W.heap.size W W') : W.grownBy W' none := ⟨h.os, h.tape, h.output, h.size, fun k hk _ => h.block k hk⟩
/-- What a row hands on. -/
def rowArgs (x : Nat × Nat) : Array Value := #[.int .u8 x.1, .int .u8 ((x.2 : Int) - 1)]
set_option maxRecDepth 100000 in
set_option maxHeartbeats 1000000 in
theorem rows1_in (n : Nat) (hn : 1 ≤ n) (l bs : Nat) (a b c d : BitVec 64) (J Jx : List (Nat × Nat) → World → Prop) (W : World)
    (hJ : AbidesFrom W.heap.size J)
    (hY : ∀ pre x W1, J pre W1 → pre.length < 256 → pre.length < (Oc.rowsOf (Oc.mem a b c d) (Oc.mem (~~~a) (~~~b) (~~~c) (~~~d))).length → YieldAt Fence.wide (n - 1) Tryd.prog l (rowArgs x) W1 fun e W' =>
      (e = .returned (.bool true) ∧ J (pre ++ [x]) W' ∧ KeepsSets W1 W') ∨ (e = .returned (.bool false) ∧ Jx (pre ++ [x]) W'))
    (hbs : W.heap[bs]? = some (.cells #[.int .u64 (Oc.U a), .int .u64 (Oc.U b), .int .u64 (Oc.U c), .int .u64 (Oc.U d)] 24)) (hT : TabAt 21 Lib.deBruijn64tab W) (h0 : J [] W) :
    CallsIn Fence.wide n Tryd.prog 30 #[.func (.yield l) #[] #[], .pointer (some ⟨bs, 0, none⟩)] W fun e W' => (∃ v, e = .returned v) ∧
      ((∃ ys, ys = Oc.rowsOf (Oc.mem a b c d) (Oc.mem (~~~a) (~~~b) (~~~c) (~~~d)) ∧ J ys W') ∨ (∃ pre, pre <+: Oc.rowsOf (Oc.mem a b c d) (Oc.mem (~~~a) (~~~b) (~~~c) (~~~d)) ∧ Jx pre W')) := by
  refine callsIn_of_wp Tryd.func30 rfl trivial ?_ rfl
  simp only [Tryd.ntmps30, List.size_toArray, List.length_cons, List.length_nil, Nat.reduceAdd, Nat.reduceSub, Array.replicate_succ, Array.replicate_zero, List.push_toArray, List.append_toArray, List.nil_append, List.cons_append]
  obtain ⟨c0, c1, c2, c3, -⟩ := four hbs
  gi_wp2_with fail
  refine ⟨trivial, (callsIn_wide.2 (not_any a b c d W)).mono ?_⟩
  rintro e w1 ⟨rfl, hb1⟩
  have k1 := KeepsSets.of_below hb1
  have J1 : J [] w1 := hJ _ _ _ _ h0 (grown_of_below hb1) (fun _ h => by cases h)
  obtain ⟨W2, hW2⟩ : ∃ W2, w1.alloc (.cells #[.int .u64 (Oc.U (~~~a)), .int .u64 (Oc.U (~~~b)), .int .u64 (Oc.U (~~~c)), .int .u64 (Oc.U (~~~d))] 24) = W2 := ⟨_, rfl⟩
  have hb2 : Below w1.heap.size w1 W2 := by rw [← hW2]; exact (Below.refl _ _).alloc (Nat.le_refl _) _
  have hgp : W2.heap[w1.heap.size]? = some (.cells #[.int .u64 (Oc.U (~~~a)), .int .u64 (Oc.U (~~~b)), .int .u64 (Oc.U (~~~c)), .int .u64 (Oc.U (~~~d))] 24) := by rw [← hW2]; exact heap_alloc_new _ _
  have k2 : KeepsSets W W2 := k1.trans (KeepsSets.of_below hb2)
  have J2 : J [] W2 := hJ _ _ _ _ J1 (grown_of_below hb2) (fun _ h => by cases h)
  have hbs2 := k2 _ _ _ _ hbs (.inl rfl)
  have hT2 := tab_kept hT k2
  have HT := Lib.hid hT2
  clear c0 c1 c2 c3 hT hT2 k1 k2 J1 hb1 hb2
  obtain ⟨c0, c1, c2, c3, -⟩ := four hbs2
  gi_wp2_with fail
  refine ⟨trivial, (callsIn_wide.2 (next_any a b c d 0 (by omega) W2 HT.out (tab_lt HT.out))).mono ?_⟩
  rintro e W3 ⟨rfl, hb3⟩
  have k3 := KeepsSets.of_below hb3
  have J3 : J [] W3 := hJ _ _ _ _ J2 (grown_of_below hb3) (fun _ h => by cases h)
  have hbs3 := k3 _ _ _ _ hbs2 (.inl rfl)
  have hgp3 := k3 _ _ _ _ hgp (.inl rfl)
  have HT3 := Lib.hid (tab_kept HT.out k3)
  have HB3 := Lib.hid hbs3
  have HG3 := Lib.hid hgp3
  clear c0 c1 c2 c3 k3 hbs3 hgp3 hbs2 hgp HT J2 hb3 hbs
  gi_wp2_with fail
  have hn0 := Oc.nx_spec (Oc.mem a b c d) 0 (by omega)
  gi_loopw [4] (fun p wr => ∃ (pre : List (Nat × Nat)) (k m : Nat), p = .int .i64 m ∧ m ≤ 256 ∧ 256 < k + m ∧ (m < 256 → Oc.mem a b c d m = true) ∧ Oc.rowsOf (Oc.mem a b c d) (Oc.mem (~~~a) (~~~b) (~~~c) (~~~d)) = pre ++ Oc.rowsFrom (Oc.mem a b c d) (Oc.mem (~~~a) (~~~b) (~~~c) (~~~d)) k m ∧ pre.length ≤ m ∧ J pre wr ∧ KeepsSets W3 wr) (fun p _ => 256 - (intOf p).toNat)
  case atStart =>
    exact ⟨[], 257, Oc.nx (Oc.mem a b c d) 0, rfl, hn0.2.1, by omega, hn0.2.2.2, rfl, Nat.zero_le _, J3, KeepsSets.refl _⟩
  case round =>
    obtain ⟨pre, k, m, rfl, hm, hk, hpm, hx, hpl, hJs, hks⟩ := hrel
    clear hn0
    have HX := Lib.hid hx
    have HPM := Lib.hid hpm
    clear hx hpm
    by_cases hlt : m < 256
    · obtain ⟨k', rfl⟩ : ∃ k', k = k' + 1 := ⟨k - 1, by omega⟩
      have hgp4 := hks _ _ _ _ HG3.out (.inl rfl)
      have hbs4 := hks _ _ _ _ HB3.out (.inl rfl)
      have HT4 := Lib.hid (tab_kept HT3.out hks)
      have HB4 := Lib.hid hbs4
      have HG4 := Lib.hid hgp4
      obtain ⟨c0, c1, c2, c3, -⟩ := four hgp4
      clear hgp4 hbs4
      gi_wp2_with fail
      refine ⟨trivial, (callsIn_wide.2 (next_any (~~~a) (~~~b) (~~~c) (~~~d) m hm wr HT4.out (tab_lt HT4.out))).mono ?_⟩
      rintro e W5 ⟨rfl, hb5⟩
      have J5 : J pre W5 := hJ _ _ _ _ hJs (grown_of_below hb5) (fun _ h => by cases h)
      have k5 := KeepsSets.of_below hb5
      have HT5 := Lib.hid (tab_kept HT4.out k5)
      have HB5 := Lib.hid (k5 _ _ _ _ HB4.out (.inl rfl))
      have HG5 := Lib.hid (k5 _ _ _ _ HG4.out (.inl rfl))
      have hks5 := hks.trans k5
      have hsp := Oc.nx_spec (Oc.mem (~~~a) (~~~b) (~~~c) (~~~d)) m hm
      have hg1 : m < Oc.nx (Oc.mem (~~~a) (~~~b) (~~~c) (~~~d)) m := by
        rcases Nat.lt_or_ge m (Oc.nx (Oc.mem (~~~a) (~~~b) (~~~c) (~~~d)) m) with h | h
        · exact h
        · have e : Oc.nx (Oc.mem (~~~a) (~~~b) (~~~c) (~~~d)) m = m := by omega
          have h2 := hsp.2.2.2 (by omega)
          rw [e, Oc.mem_not, HPM.out hlt] at h2
          cases h2
      have hg2 := hsp.2.1
      have HX2 := Lib.hid (HX.out.trans (by rw [Oc.rowsFrom_step _ _ _ _ hlt]))
      clear hb5 k5 HT4 HB4 HG4 hks hJs c0 c1 c2 c3 hsp HX
      generalize Oc.nx (Oc.mem (~~~a) (~~~b) (~~~c) (~~~d)) m = g at *
      obtain ⟨fn, tmps, assign, body, hy, hR⟩ := hY pre (m, g) W5 J5 (by omega) (by rw [HX2.out]; simp)
      have hsp2 := Oc.nx_spec (Oc.mem a b c d) g hg2
      dsimp only [rowArgs] at hy
      gi_wp2_with fail
      refine hR.mono ?_
      rintro e W6 (⟨rfl, hJ6, hk6⟩ | ⟨rfl, hJx6⟩)
      · have hks6 := hks5.trans hk6
        have HT6 := Lib.hid (tab_kept HT5.out hk6)
        have hbs6 := hk6 _ _ _ _ HB5.out (.inl rfl)
        obtain ⟨c0, c1, c2, c3, -⟩ := four hbs6
        have HB6 := Lib.hid hbs6
        clear hbs6
        gi_wp2_with fail
        refine ⟨trivial, (callsIn_wide.2 (next_any a b c d g hg2 W6 HT6.out (tab_lt HT6.out))).mono ?_⟩
        rintro e W7 ⟨rfl, hb7⟩
        gi_wp2_with fail
        have h1 := hsp2.1
        exact ⟨⟨pre ++ [(m, g)], k', Oc.nx (Oc.mem a b c d) g, rfl, hsp2.2.1, by omega, hsp2.2.2.2, by rw [HX2.out]; simp, by simp; omega, hJ _ _ _ _ hJ6 (grown_of_below hb7) (fun _ h => by cases h), hks6.trans (KeepsSets.of_below hb7)⟩, by simp [intOf]; omega⟩
      · gi_wp2_with fail
        refine bodyPost_ret (results_none rfl _ _ _) rfl ?_
        exact ⟨⟨_, rfl⟩, .inr ⟨pre ++ [(m, g)], ⟨Oc.rowsFrom (Oc.mem a b c d) (Oc.mem (~~~a) (~~~b) (~~~c) (~~~d)) k' (Oc.nx (Oc.mem a b c d) g), by rw [HX2.out]; simp⟩, hJx6⟩⟩
    · obtain rfl : m = 256 := by omega
      gi_wp2_with fail
      go_end0
      exact ⟨⟨_, rfl⟩, .inl ⟨pre, by rw [HX.out, Oc.rowsFrom_end, List.append_nil], hJs⟩⟩
set_option maxHeartbeats 1000000 in
theorem rowsOf_in (a b c d : BitVec 64) (n : Nat) (w : World) :
    CallsIn Fence.wide n Tryd.prog 20 #[(.agg #[.int .u64 (Oc.U a), .int .u64 (Oc.U b), .int .u64 (Oc.U c), .int .u64 (Oc.U d)])] w fun e w' => e = .returned (.func (.func 30) #[] #[.pointer (some ⟨w.heap.size, 0, none⟩)]) ∧ w' = w.alloc (.cells #[.int .u64 (Oc.U a), .int .u64 (Oc.U b), .int .u64 (Oc.U c), .int .u64 (Oc.U d)] 24) := by
  refine callsIn_of_wp Tryd.func20 rfl trivial ?_ rfl
  simp only [Tryd.ntmps20, List.size_toArray, List.length_cons, List.length_nil, Nat.reduceAdd, Nat.reduceSub, Array.replicate_succ, Array.replicate_zero, List.push_toArray, List.append_toArray, List.nil_append, List.cons_append]
  gi_wp2
  go_ret
  exact ⟨rfl, rfl⟩
theorem rows_stops (n : Nat) (hn : 1 ≤ n) (bs : Nat) (a b c d : BitVec 64) (w : World) (hbs : w.heap[bs]? = some (.cells #[.int .u64 (Oc.U a), .int .u64 (Oc.U b), .int .u64 (Oc.U c), .int .u64 (Oc.U d)] 24)) (hT : TabAt 21 Lib.deBruijn64tab w) :
    SeqStopsK Fence.wide n Tryd.prog 30 #[.pointer (some ⟨bs, 0, none⟩)] rowArgs KeepsSets (fun ys => ys = Oc.rowsOf (Oc.mem a b c d) (Oc.mem (~~~a) (~~~b) (~~~c) (~~~d))) (fun pre => pre <+: Oc.rowsOf (Oc.mem a b c d) (Oc.mem (~~~a) (~~~b) (~~~c) (~~~d))) 256 w := fun l J Jx W hW hJ _ hY h0 =>
  rows1_in n hn l bs a b c d J Jx W hJ (fun pre x W1 h1 h2 _ => hY pre x W1 h1 h2) ((hW.block bs (Array.getElem?_eq_some_iff.1 hbs).1).trans hbs) (tab_kept hT (KeepsSets.of_below hW)) h0
theorem rows_stopsL (n : Nat) (hn : 1 ≤ n) (bs : Nat) (a b c d : BitVec 64) (w : World) (hbs : w.heap[bs]? = some (.cells #[.int .u64 (Oc.U a), .int .u64 (Oc.U b), .int .u64 (Oc.U c), .int .u64 (Oc.U d)] 24)) (hT : TabAt 21 Lib.deBruijn64tab w) (RL : List (Nat × Nat)) (hRL : Oc.rowsOf (Oc.mem a b c d) (Oc.mem (~~~a) (~~~b) (~~~c) (~~~d)) = RL) :
    SeqStopsK Fence.wide n Tryd.prog 30 #[.pointer (some ⟨bs, 0, none⟩)] rowArgs KeepsSets (fun ys => ys = RL) (fun pre => pre <+: RL) RL.length w := by
  subst hRL
  exact fun l J Jx W hW hJ _ hY h0 =>
    rows1_in n hn l bs a b c d J Jx W hJ (fun pre x W1 h1 _ h3 => hY pre x W1 h1 h3) ((hW.block bs (Array.getElem?_eq_some_iff.1 hbs).1).trans hbs) (tab_kept hT (KeepsSets.of_below hW)) h0
end Go.Proofs.YtdlcnhelkjlglaaDoor
