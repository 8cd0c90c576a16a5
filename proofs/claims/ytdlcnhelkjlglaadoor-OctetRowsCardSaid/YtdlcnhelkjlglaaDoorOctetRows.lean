/- OctetRows: whatever the set and the number, the law returns true. -/
import Derived.Test.YtdlcnhelkjlglaaDoorOctetAlgebra
import Derived.Test.YtdlcnhelkjlglaaDoorOcRefRows
import Derived.Test.YtdlcnhelkjlglaaDoorOcLives
import Derived.Sort.QuietIn
import Derived.Laws.EntriesVeiled
namespace Go.Proofs.YtdlcnhelkjlglaaDoor
open Go.RowKit Go.Shelf
attribute [local go_sem] Oper.semAt_some
theorem cut_len {α : Type} (m : Int) (l : List α) : (cut m l).length = if 1 ≤ m ∧ m ≤ l.length then m.toNat else l.length := by
  unfold cut
  split
  · rw [List.length_take]; omega
  · rfl
theorem result_tail {w W : World} {B D : Nat} {t : TypeId} {v : Value} (v' : Value) (b : Boxed W B t v) (h2 : w.heap.size ≤ B) (hD : w.heap.size ≤ D) (hB : Below w.heap.size w W) (hK : W.heap[D]? = some (.deferred (some []))) :
    (W.setCell ⟨B, 0, none⟩ v').heap[D]? = some (.deferred (some [])) ∧ ((W.setCell ⟨B, 0, none⟩ v').putObj D (.deferred none)).cell? ⟨B, 0, none⟩ = some v' ∧
    Below w.heap.size w ((W.setCell ⟨B, 0, none⟩ v').putObj D (.deferred none)) := by
  have hK2 : (W.setCell ⟨B, 0, none⟩ v').heap[D]? = some (.deferred (some [])) := (KeepsOthers.setCell _ _ _).same D _ hK rfl
  refine ⟨hK2, ?_, ?_⟩
  · exact cell_kept (b.set v').cell (grownBy_putObj' _ D (.deferred none)) (fun r e => by cases e; exact ⟨_, hK2, rfl⟩)
  · exact (hB.setCell (p := ⟨B, 0, none⟩) h2 _).grown (grownBy_putObj' _ D (.deferred none)) (hB.setCell (p := ⟨B, 0, none⟩) h2 v').size (fun k e => by cases e; exact hD)
theorem name_frame {F : Fence} {n : Nat} {P : Program} {c : Code} {Q : Exit → Act → World → Prop} {w : World} (a : Act) (h : ∀ a', a' = a → c.wpIn F n P Q a' w) : c.wpIn F n P Q a w := h a rfl
theorem keepsSets_box {W : World} {B : Nat} {t : TypeId} {v : Value} (h : Boxed W B t v) (ht : t ≠ 24) (hB : 21 ≠ B) (v' : Value) : KeepsSets W (W.setCell ⟨B, 0, none⟩ v') := by
  intro b c t' z hb hor
  have n2 : some b ≠ some B := by
    intro hh
    obtain rfl : b = B := by simpa using hh
    rw [show W.heap[b]? = _ from h] at hb
    simp only [Option.some.injEq, Obj.cells.injEq] at hb
    rcases hor with h | h
    · exact ht (hb.2.1.trans h)
    · exact hB h.symm
  exact ((grownBy_setCell' W B v').block b (Array.getElem?_eq_some_iff.1 hb).1 n2).trans hb
theorem tab_below {B : Nat} {W W' : World} (h : Below B W W') (hg : 21 < B) (hT : TabAt 21 Lib.deBruijn64tab W) : TabAt 21 Lib.deBruijn64tab W' :=
  fun j hj => (h.cell (p := ⟨21, j, none⟩) hg).trans (hT j hj)
theorem RowsAt.under {w w' : World} {B : Nat} {p : Option Addr} {L : List (Nat × Nat)} (h : RowsAt w p L) (hB : w.heap.size ≤ B) (hb : Below B w w') : RowsAt w' p L := h.below (hb.mono hB)
set_option maxRecDepth 100000 in
set_option maxHeartbeats 4000000 in
theorem octrows_any (a b c d : BitVec 64) (stop : Int) (w : World) (hT : TabAt 21 Lib.deBruijn64tab w) :
    Calls Tryd.prog 4 #[(.agg #[.int .u64 (Oc.U a), .int .u64 (Oc.U b), .int .u64 (Oc.U c), .int .u64 (Oc.U d)]), .int .i64 stop] w fun e w' => e = .returned (.bool true) ∧ Below w.heap.size w w' := by
  have HT := Lib.hid hT
  clear hT
  refine (callsIn_wide (n := 12)).1 ?_
  refine callsIn_of_wp_marks Tryd.func4 rfl trivial ?_ rfl
  simp only [Tryd.ntmps4, List.size_toArray, List.length_cons, List.length_nil, Nat.reduceAdd, Nat.reduceSub, Array.replicate_succ, Array.replicate_zero, List.push_toArray, List.append_toArray, List.nil_append, List.cons_append]
  gi_wp2_with fail
  refine ⟨trivial, (callsIn_wide.2 (lives_any _)).mono ?_⟩
  rintro e w1 ⟨rfl, hb1⟩
  have hbw1 : Below w.heap.size w w1 := (((Below.refl _ _).alloc (Nat.le_refl _) _).alloc (by simp) _).trans (hb1.mono (by simp; omega))
  have hsz1 : w.heap.size + 2 ≤ w1.heap.size := by have := hb1.size; simp at this; omega
  have hza : w1.heap[w.heap.size]? = some (.cells #[.int .u64 (Oc.U a), .int .u64 (Oc.U b), .int .u64 (Oc.U c), .int .u64 (Oc.U d)] 24) := (hb1.block _ (by simp; omega)).trans (two_new _ _ _).1
  have hzb : Boxed w1 (w.heap.size + 1) 4 (.bool false) := (hb1.block _ (by simp)).trans (two_new _ _ _).2
  obtain ⟨c0, c1, c2, c3, -⟩ := four hza
  have ZA1 := Lib.hid hza; have ZB1 := Lib.hid hzb
  have HT1 := Lib.hid (tab_kept HT.out (KeepsSets.of_below hbw1))
  clear hza hzb hb1
  gi_wp2_with fail
  refine ⟨trivial, (callsIn_wide.2 (refrows_any a b c d w1)).mono ?_⟩
  rintro e w2 ⟨v, rfl, hown, hb2⟩
  obtain ⟨p, cap, rfl, hR⟩ := rows_at hown
  have hbw2 := hbw1.trans (hb2.mono hbw1.size)
  obtain ⟨W3, hW3⟩ : ∃ W3, w2.alloc (.cells #[.slice p (Oc.rowsOf (Oc.mem a b c d) (Oc.mem (~~~a) (~~~b) (~~~c) (~~~d))).length cap] 35) = W3 := ⟨_, rfl⟩
  clear c0 c1 c2 c3
  have hb3 : Below w2.heap.size w2 W3 := by rw [← hW3]; exact below_new _
  have hzc : Boxed W3 w2.heap.size 35 (.slice p (Oc.rowsOf (Oc.mem a b c d) (Oc.mem (~~~a) (~~~b) (~~~c) (~~~d))).length cap) := by rw [← hW3]; exact Boxed.new _ _ _
  have ZA3 := Lib.hid (keep_blk hb3 (keep_blk hb2 ZA1.out))
  have ZB3 := Lib.hid (keep_blk hb3 (keep_blk hb2 ZB1.out))
  have ZC3 := Lib.hid hzc
  have HR3 := Lib.hid (hR.below hb3)
  have hbw3 := hbw2.trans (hb3.mono hbw2.size)
  have HT3 := Lib.hid (tab_kept HT.out (KeepsSets.of_below hbw3))
  obtain ⟨c0, c1, c2, c3, -⟩ := four ZA3.out
  have hsz3 : w2.heap.size < W3.heap.size := hzc.lt
  have hsz12 := hb2.size
  clear hown hR hzc hb3 hb2 hbw1 hbw2 ZA1 ZB1 HT1
  gi_wp2_with fail
  refine ⟨trivial, (callsIn_wide.2 (rows_any a b c d (-1) W3 HT3.out)).mono ?_⟩
  rintro e w4 ⟨v, rfl, hown, -, hb4⟩
  rw [cut_none] at hown
  obtain ⟨p2, cap2, rfl, hR2⟩ := rows_at hown
  have ZA4 := Lib.hid (keep_blk hb4 ZA3.out); have ZB4 := Lib.hid (keep_blk hb4 ZB3.out); have ZC4 := Lib.hid (keep_blk hb4 ZC3.out)
  have HR4 := Lib.hid (HR3.out.below hb4); have HS4 := Lib.hid hR2
  have hbw4 := hbw3.trans (hb4.mono hbw3.size)
  have HT4 := Lib.hid (tab_kept HT.out (KeepsSets.of_below hbw4))
  have hsz4 := hb4.size
  clear hown hR2 hb4 c0 c1 c2 c3 ZA3 ZB3 ZC3 HR3 HT3 hbw3
  obtain ⟨c0, c1, c2, c3, -⟩ := four ZA4.out
  gi_wp2_with fail
  refine ⟨trivial, (callsIn_wide.2 (rows_any a b c d stop w4 HT4.out)).mono ?_⟩
  rintro e w5 ⟨v, rfl, hown, -, hb5⟩
  obtain ⟨p3, cap3, rfl, -⟩ := rows_at hown
  have ZA5 := Lib.hid (keep_blk hb5 ZA4.out); have ZB5 := Lib.hid (keep_blk hb5 ZB4.out); have ZC5 := Lib.hid (keep_blk hb5 ZC4.out)
  have HR5 := Lib.hid (HR4.out.below hb5); have HS5 := Lib.hid (HS4.out.below hb5)
  have hbw5 := hbw4.trans (hb5.mono hbw4.size)
  have HT5 := Lib.hid (tab_kept HT.out (KeepsSets.of_below hbw5))
  have hsz5 := hb5.size
  clear hown hb5 c0 c1 c2 c3 ZA4 ZB4 ZC4 HR4 HS4 HT4 hbw4
  obtain ⟨c0, c1, c2, c3, -⟩ := four ZA5.out
  have hrl := rowsFrom_len (Oc.mem a b c d) (Oc.mem (~~~a) (~~~b) (~~~c) (~~~d)) 257 (Oc.nx (Oc.mem a b c d) 0)
  obtain ⟨RL, hL⟩ : ∃ RL, Oc.rowsOf (Oc.mem a b c d) (Oc.mem (~~~a) (~~~b) (~~~c) (~~~d)) = RL := ⟨_, rfl⟩
  have hll : RL.length ≤ 257 := by rw [← hL]; exact hrl
  have HRL := Lib.hid hL
  rw [hL] at HR5 HS5 ZC5 ⊢
  obtain ⟨mm, hmm⟩ : ∃ mm, (cut stop RL).length = mm := ⟨_, rfl⟩
  rw [hmm]
  rw [cut_len] at hmm
  have HMM := Lib.hid hmm
  clear hrl hL hmm
  have hcc := Boxed.cell ZC5.out
  generalize hCC : w2.heap.size = CC at *
  gi_wp2_with fail
  gi_loopw [45] (fun i wr => ∃ k : Nat, i = .int .i64 k ∧ k ≤ RL.length ∧ Below w5.heap.size w5 wr) (fun i _ => RL.length - (intOf i).toNat)
  case atStart => exact ⟨0, rfl, Nat.zero_le _, Below.refl _ _⟩
  case round =>
    obtain ⟨k, rfl, hk, hbel⟩ := hrel
    by_cases hlt : k < RL.length
    · obtain ⟨x, hx⟩ : ∃ x, RL[k]? = some x := ⟨_, List.getElem?_eq_getElem hlt⟩
      obtain ⟨g, rfl, hg, h0, h1⟩ := HR5.out.below hbel k x hx
      obtain ⟨g2, rfl, hg2, i0, i1⟩ := HS5.out.below hbel k x hx
      have hcr := Boxed.cell (keep_blk hbel ZC5.out)
      clear hx hcc
      gi_wp2_with fail
      gi_quiet (fail)
      gi_wp2_with fail
      exact ⟨⟨k + 1, by go_num, by omega, below_drewN hbel _⟩, by simp [intOf]; omega⟩
    · obtain rfl : k = RL.length := by omega
      have hcr := Boxed.cell (keep_blk hbel ZC5.out)
      have hzr := keep_blk hbel ZA5.out
      have HTr := Lib.hid (tab_kept HT5.out (KeepsSets.of_below hbel))
      have ZAr := Lib.hid hzr; have ZBr := Lib.hid (keep_blk hbel ZB5.out); have ZCr := Lib.hid (keep_blk hbel ZC5.out); have HRr := Lib.hid (HR5.out.below hbel)
      have hbwr := hbw5.trans (hbel.mono hbw5.size)
      have hszr := hbel.size
      obtain ⟨d0, d1, d2, d3, -⟩ := four hzr
      clear hzr hcc c0 c1 c2 c3 ZA5 ZB5 ZC5 HR5 HS5 HT5 hbw5 hbel
      have hcase : (decide (stop < 1) = true ∧ RL.length = mm) ∨ (∃ s : Nat, stop = s ∧ s = mm ∧ decide ((s : Int) < 1) = false ∧ decide (RL.length < s) = false) ∨ (decide (stop < 1) = false ∧ decide ((RL.length : Int) < stop) = true ∧ RL.length = mm) := by
        have := HMM.out
        by_cases h1 : stop < 1
        · rw [if_neg (by omega)] at this; exact .inl ⟨decide_eq_true h1, this⟩
        · by_cases h2 : stop ≤ RL.length
          · rw [if_pos ⟨by omega, h2⟩] at this; exact .inr (.inl ⟨stop.toNat, by omega, this, decide_eq_false (by omega), decide_eq_false (by omega)⟩)
          · rw [if_neg (by omega)] at this; exact .inr (.inr ⟨decide_eq_false h1, decide_eq_true (by omega), this⟩)
      clear HMM
      rcases hcase with ⟨t1, rfl⟩ | ⟨s, rfl, rfl, t1, t2⟩ | ⟨t1, t2, rfl⟩
      all_goals
        gi_wp2_with fail
        refine ⟨trivial, (rowsOf_in a b c d _ _).mono ?_⟩
        rintro e w6 ⟨rfl, rfl⟩
        gi_wp2_with fail
        obtain ⟨WL, hWL⟩ : ∃ WL, (((wr.alloc (.cells #[.int .u64 (Oc.U a), .int .u64 (Oc.U b), .int .u64 (Oc.U c), .int .u64 (Oc.U d)] 24)).alloc (.cells #[.func (.func 30) #[] #[.pointer (some ⟨wr.heap.size, 0, none⟩)]] 42)).alloc (.cells #[.int .i64 0] 3)) = WL := ⟨_, rfl⟩
        have hbL : Below wr.heap.size wr WL := by rw [← hWL]; exact (((Below.refl _ _).alloc (Nat.le_refl _) _).alloc (by simp) _).alloc (by simp; omega) _
        have hTL := tab_kept HTr.out (KeepsSets.of_below hbL)
        have hg21 := tab_lt HTr.out
        have bS : WL.heap[wr.heap.size]? = some (.cells #[.int .u64 (Oc.U a), .int .u64 (Oc.U b), .int .u64 (Oc.U c), .int .u64 (Oc.U d)] 24) := by
          rw [← hWL]; exact heap_alloc_lt (heap_alloc_lt (heap_alloc_new _ _))
        have bW : Boxed WL (wr.heap.size + 1) 42 (.func (.func 30) #[] #[.pointer (some ⟨wr.heap.size, 0, none⟩)]) := by
          rw [← hWL]; have := Boxed.new (wr.alloc (.cells #[.int .u64 (Oc.U a), .int .u64 (Oc.U b), .int .u64 (Oc.U c), .int .u64 (Oc.U d)] 24)) 42 (.func (.func 30) #[] #[.pointer (some ⟨wr.heap.size, 0, none⟩)])
          simp only [World.size_alloc] at this; exact this.alloc _
        have bO : Boxed WL (wr.heap.size + 1 + 1) 3 (.int .i64 0) := by
          rw [← hWL]; have := Boxed.new ((wr.alloc (.cells #[.int .u64 (Oc.U a), .int .u64 (Oc.U b), .int .u64 (Oc.U c), .int .u64 (Oc.U d)] 24)).alloc (.cells #[.func (.func 30) #[] #[.pointer (some ⟨wr.heap.size, 0, none⟩)]] 42)) 3 (.int .i64 0)
          simp only [World.size_alloc] at this; exact this
        have hszL : WL.heap.size = wr.heap.size + 3 := by rw [← hWL]; simp
        have hZB := keep_blk hbL ZBr.out; have hZC := keep_blk hbL ZCr.out; have hZR := HRr.out.below hbL
        have hbwL := hbwr.trans (hbL.mono hbwr.size)
        have hwr2 := hbwr.size
        rw [hWL]
        clear hWL d0 d1 d2 d3 hcr
        generalize hBS : wr.heap.size = BS at *
        generalize hBW : BS + 1 = BW at *
        generalize hBO : BW + 1 = BO at *
        refine name_frame _ (fun A hA => ?_)
        refine wpIn_rangeFunc_ownH (N := RL.length) rfl (by omega) (gf := 30) (lb := #[.pointer (some ⟨BS, 0, none⟩)]) (by rw [hA]; rfl) trivial (enters_of Tryd.func30 (by kernel_rfl) rfl)
          (rows_stopsL _ (by omega) BS a b c d WL bS hTL RL HRL.out) (fun h k => KeepsSets.trans h k) keepsSets_b (Below.refl _ _) (fun _ => rfl)
          (fun pre W => pre.length < 3 ∧ Boxed W BO 3 (.int .i64 pre.length) ∧ Below BO WL W)
          (fun cc pre W => (pre <+: RL → cc = .exit 2 ∧ pre.length = 3) ∧ (pre <+: RL → Boxed W BO 3 (.int .i64 3)) ∧ (pre <+: RL → Below BO WL W))
          (OwnFrom.and (ownFrom_pure _ _) (OwnFrom.and (Own.from (boxed_own _ _ _) _) (ownFrom_below (by omega) (by omega))))
          (fun cc => OwnFrom.and (ownFrom_pure _ _) (OwnFrom.and (fun s W W' row hs hg hr hp => Own.from (boxed_own (β := List (Nat × Nat)) BO 3 (fun _ => .int .i64 3)) _ s W W' row (hs hp) hg hr) (fun s W W' row hs hg hr hp => ownFrom_below (β := List (Nat × Nat)) (w₀ := WL) (n₀ := BO) (by omega) (by omega) s W W' row (hs hp) hg hr)))
          ⟨by simp, bO, Below.refl _ _⟩
          (fun x a' _ => a' = { tmps := ((A.tmps.setIfInBounds 75 (.int .u8 x.1)).setIfInBounds 76 (.int .u8 ((x.2 : Int) - 1))).setIfInBounds 13 (.int .u8 x.1), defers := [] })
          (fun _ _ _ _ _ _ hs _ _ => hs) ?assign ?body ?done ?stop
        case assign =>
          intro l pre x W K hi hK
          rw [hA] at hK ⊢
          dsimp only [rowArgs]
          gi_wp2
          exact hK _ _ (KeepsFrom.refl _ _) (KeepsSets.refl _) hi rfl
        case body =>
          rintro l pre x a' W hl ⟨r, hr⟩ ⟨hp3, hbo, hbl⟩ rfl hlt
          have hIX := hr
          have hsz := hbl.size
          have hbw := Boxed.cell ((hbl.block BW (by omega)).trans bW)
          have hlW : BW < W.heap.size := by omega
          rw [hA]
          simp only [List.setIfInBounds_toArray, List.set_cons_zero, List.set_cons_succ]
          gi_wp2_with fail
          have hsz3L : BO < WL.heap.size := by omega
          obtain ⟨W1, hW1⟩ : ∃ W1, W.alloc (.cells #[.int .i64 0] 3) = W1 := ⟨_, rfl⟩
          have hb1 : Below W.heap.size W W1 := by rw [← hW1]; exact below_new _
          have hbI : Boxed W1 W.heap.size 3 (.int .i64 0) := by rw [← hW1]; exact Boxed.new _ _ _
          have hs1 : W1.heap.size = W.heap.size + 1 := by rw [← hW1]; simp
          have hS1 := (hb1.block BS (by omega)).trans ((hbl.block BS (by omega)).trans bS)
          have hT1 := tab_below hb1 (by omega) (tab_below hbl (by omega) hTL)
          have hr1 : W1.heap[l]? = some (.loop r) := (hb1.block l (Array.getElem?_eq_some_iff.1 hr).1).trans hr
          rw [hW1]
          clear hW1 hbw hr hIX
          refine name_frame _ (fun A2 hA2 => ?_)
          refine wpIn_rangeFunc_ownN (N := RL.length) (l₀ := l) rfl hr1 (by omega) (gf := 30) (lb := #[.pointer (some ⟨BS, 0, none⟩)]) (by rw [hA2]; rfl) trivial (enters_of Tryd.func30 (by kernel_rfl) rfl)
            ((rows_stopsL _ (by omega) BS a b c d W1 hS1 hT1 RL HRL.out).inRound l) (fun h k => KeepsSets.trans h k) keepsSets_b (Below.refl _ _) (fun _ => rfl)
            (fun pre2 W' => Boxed W' W.heap.size 3 (.int .i64 pre2.length) ∧ Below W.heap.size W W')
            (fun _ _ _ => False)
            (OwnFrom.and (Own.from (boxed_own _ _ _) _) (ownFrom_below (Nat.le_refl _) (by omega)))
            (fun cc => fun _ _ _ _ hs _ _ => hs)
            ⟨hbI, hb1⟩
            (fun x a' _ => a' = { tmps := (A2.tmps.setIfInBounds 78 (.int .u8 x.1)).setIfInBounds 79 (.int .u8 ((x.2 : Int) - 1)), defers := [] })
            (fun _ _ _ _ _ _ hs _ _ => hs) ?assign2 ?body2 ?done2 ?stop2
          case assign2 =>
            intro l2 pre2 x2 W2 K hi hK
            rw [hA2] at hK ⊢
            dsimp only [rowArgs]
            gi_wp2
            exact hK _ _ (KeepsFrom.refl _ _) (KeepsSets.refl _) hi rfl
          case body2 =>
            rintro l2 pre2 x2 a2 W2 hl2 - ⟨hb2, hbl2⟩ rfl hlt2
            have hcI := hb2.cell
            have hfI := hb2.frozen
            rw [hA2]
            simp only [List.setIfInBounds_toArray, List.set_cons_zero, List.set_cons_succ]
            gi_wp2_with fail
            refine ⟨KeepsFrom.of_grownBy (grownBy_setCell' _ _ _) (fun j e => by cases e; omega), keepsSets_box hb2 (by decide) (by omega) _, ?_, hbl2.setCell (Nat.le_refl _) _⟩
            have := hb2.set (.int .i64 ((pre2.length : Int) + 1))
            simpa using this
          case done2 =>
            rintro xs W3 hxs ⟨hb3, hbl3⟩
            rw [hxs] at hb3
            obtain ⟨y, hy⟩ : ∃ y, RL[pre.length]? = some y := ⟨_, List.getElem?_eq_getElem hlt⟩
            have hbrW : Below wr.heap.size wr W3 := by rw [hBS]; exact (hbL.trans (hbl.mono (by omega))).trans (hbl3.mono (by omega))
            obtain ⟨g, hpg, hg, h0, -⟩ := HRr.out.below hbrW pre.length y hy
            have hcC := Boxed.cell ((hbl3.block CC (by omega)).trans ((hbl.block CC (by omega)).trans hZC))
            have hbo3 : Boxed W3 BO 3 (.int .i64 pre.length) := (hbl3.block BO (by omega)).trans hbo
            have hcO := hbo3.cell
            have hfO := hbo3.frozen
            have hcI := hb3.cell
            have hHY := Lib.hid hy
            have hkf : KeepsFrom WL.heap.size W W3 := ⟨hbl3.size, fun k o _ hk _ => (hbl3.block k (Array.getElem?_eq_some_iff.1 hk).1).trans hk⟩
            have hks : KeepsSets W W3 := KeepsSets.of_below hbl3
            have hbl4 := hbl.trans (hbl3.mono (by omega))
            clear hy hxs hb3 hbl3
            rw [hA2, hpg]
            rw [hpg] at hcC
            by_cases hxy : x.1 = y.1
            · rw [hxy]
              have hkf4 : KeepsFrom WL.heap.size W (W3.setCell ⟨BO, 0, none⟩ (.int .i64 ((pre.length : Int) + 1))) := hkf.trans (KeepsFrom.of_grownBy (grownBy_setCell' _ _ _) (fun j e => by cases e; omega))
              have hks4 := hks.trans (keepsSets_box hbo3 (by decide) (by omega) (.int .i64 ((pre.length : Int) + 1)))
              have hbo4 := Lib.hid (hbo3.set (.int .i64 ((pre.length : Int) + 1)))
              have hbl5 := hbl4.setCell (p := ⟨BO, 0, none⟩) (Nat.le_refl _) (.int .i64 ((pre.length : Int) + 1))
              by_cases h3 : pre.length = 2
              · have t3 : ((pre.length : Int) + 1 == 3) = true := by simp; omega
                have H3 := Lib.hid h3
                clear h3
                gi_wp2_with fail
                have e3 : (pre.length : Int) + 1 = 3 := by rw [H3.out]; rfl
                have hbo5 : ∀ z : Int, z = 3 → Boxed (W3.setCell ⟨BO, 0, none⟩ (.int .i64 z)) BO 3 (.int .i64 3) := fun z hz => by subst hz; exact hbo3.set _
                exact ⟨hkf4, fun _ => ⟨rfl, by simp [H3.out]⟩, fun _ => hbo5 _ e3, fun _ => hbl5⟩
              · have t3 : ((pre.length : Int) + 1 == 3) = false := by simp; omega
                gi_wp2_with fail
                exact ⟨hkf4, hks4, by simp; omega, by have := hbo4.out; simpa using this, hbl5⟩
            · have n1 : ((x.1 : Int) == (y.1 : Int)) = false := by simp; omega
              have n2 : ((x.1 : Int) != (y.1 : Int)) = true := by simp; omega
              have hrb : Boxed W3 (w.heap.size + 1) 4 (.bool false) := (hbl4.block (w.heap.size + 1) (by omega)).trans hZB
              have hfB := hrb.frozen
              have hcB := hrb.cell
              have hno : ¬ (pre ++ [x] <+: RL) := fun ⟨z, hz⟩ => by
                have := hHY.out
                rw [← hz, List.append_assoc, List.getElem?_append_right (Nat.le_refl _)] at this
                simp at this
                exact hxy (by rw [this])
              have HNO := Lib.hid hno
              have hkf4 : KeepsFrom WL.heap.size W (W3.setCell ⟨w.heap.size + 1, 0, none⟩ (.bool false)) := hkf.trans (KeepsFrom.of_grownBy (grownBy_setCell' _ _ _) (fun j e => by cases e; omega))
              clear hno hxy
              gi_wp2_with fail
              exact ⟨hkf4, fun h => absurd h HNO.out, fun h => absurd h HNO.out, fun h => absurd h HNO.out⟩
          case stop2 =>
            rintro cc pre2 W3 - h
            exact h.elim
        case done =>
          rintro D xs W hD hxs ⟨hp3, hbo, hbl⟩ hK
          rw [hxs] at hp3 hbo
          have hcC := Boxed.cell ((hbl.block CC (by omega)).trans hZC)
          have hcO := hbo.cell
          have hrb : Boxed W (w.heap.size + 1) 4 (.bool false) := (hbl.block (w.heap.size + 1) (by omega)).trans hZB
          have hfB := hrb.frozen
          have hcB := hrb.cell
          have hbl6 := hbwL.trans (hbl.mono (by omega))
          obtain ⟨t3, t4, t5⟩ := result_tail (.bool true) hrb (by omega) (by omega : w.heap.size ≤ D) hbl6 hK
          rw [hA]
          gi_wp2_with fail
          refine ⟨by simp, .inl ⟨_, _, rfl, run_takeDeferred t3, ?_⟩⟩
          exact ⟨.bool true, by simp [results, Tryd.results4, go_sem, t4], rfl, t5⟩
        case stop =>
          rintro D cc pre W hD hpre ⟨h1, h2, h3⟩ hK
          obtain ⟨rfl, hlen⟩ := h1 hpre
          have hbo := h2 hpre
          have hbl := h3 hpre
          have hge : 3 ≤ RL.length := by have := hpre.length_le; omega
          have hmn : min (3 : Int) (RL.length : Int) = 3 := by omega
          clear h1 h2 h3
          have hcC := Boxed.cell ((hbl.block CC (by omega)).trans hZC)
          have hcO := hbo.cell
          have hrb : Boxed W (w.heap.size + 1) 4 (.bool false) := (hbl.block (w.heap.size + 1) (by omega)).trans hZB
          have hfB := hrb.frozen
          have hcB := hrb.cell
          have hbl6 := hbwL.trans (hbl.mono (by omega))
          obtain ⟨t3, t4, t5⟩ := result_tail (.bool true) hrb (by omega) (by omega : w.heap.size ≤ D) hbl6 hK
          rw [hA]
          gi_wp2_with fail
          refine ⟨by simp, .inl ⟨_, _, rfl, run_takeDeferred t3, ?_⟩⟩
          exact ⟨.bool true, by simp [results, Tryd.results4, go_sem, t4], rfl, t5⟩
end Go.Proofs.YtdlcnhelkjlglaaDoor
