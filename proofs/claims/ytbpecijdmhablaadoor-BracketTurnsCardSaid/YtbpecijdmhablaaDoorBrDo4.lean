/- What the items of a bracket expression are read to, one behind the other. -/
import Derived.Test.YtbpecijdmhablaaDoorBrDo3
import Derived.Test.YtbpecijdmhablaaDoorOcPair
namespace Go.Proofs.YtbpecijdmhablaaDoor
open Go.RowKit
theorem classed_any (A : Nat → Addr) (s : ByteArray) (hs : s.size ≤ 4294967280) (a i : Nat) (hc : Br.colon (bt s) i = true) (w : World) (hE : BrEnv w A) :
    Calls Tryd.prog 53 #[.agg #[.string s, .int .i64 a], .int .i64 i] w (ItEnd A (Br.classed (bt s) s.size i a) w) := by
  unfold Br.colon at hc
  simp only [Bool.and_eq_true, beq_iff_eq] at hc
  have h1 := (bt_txt s).lt hc.2 (by omega)
  unfold Br.classed
  cases hk : Br.clos (bt s) (s.size - (i + 3)) (i + 2) with
  | none => exact brnamed_open A s hs a i (by omega) hk w hE
  | some e =>
    obtain ⟨g1, g2, g3, g4, -⟩ := Br.clos_some hk
    have hlt := (bt_txt s).lt g4 (by omega)
    obtain ⟨m, rfl⟩ : ∃ m, e = i + 2 + m := ⟨e - (i + 2), by omega⟩
    show Calls _ _ _ _ (ItEnd A (Br.named (bt s) i (i + 2 + m)) w)
    unfold Br.named
    rw [name_part s (i + 2) (i + 2 + m) (by omega) (by omega)]
    cases hn : Br.clsAt ((s.extract (i + 2) (i + 2 + m)).data.toList.map (·.toNat)) with
    | none => exact brnamed_no A s hs a i m (by omega) hk (clsAt_none hn) w hE
    | some k =>
      obtain ⟨hk12, hnm⟩ := clsAt_some hn
      exact brnamed_yes A s hs a i m k (by omega) hk (hnm ▸ known k hk12) w hE
theorem item_any (A : Nat → Addr) (s : ByteArray) (hs : s.size ≤ 4294967280) (a i : Nat) (hi : i < s.size) (w : World) (hE : BrEnv w A) :
    Calls Tryd.prog 32 #[.agg #[.string s, .int .i64 a], .int .i64 i] w (ItEnd A (Br.item (bt s) s.size i a) w) := by
  unfold Br.item
  cases hd : Br.dotted (bt s) i with
  | true => exact britem_coll A s hs a i hi hd w hE
  | false =>
    rw [if_neg (by simp)]
    cases hc : Br.colon (bt s) i with
    | true =>
      rw [if_pos rfl]
      have HI := fun w hE => classed_any A s hs a i hc w hE
      cases hR : Br.classed (bt s) s.size i a with
      | ok P j => rw [hR] at HI; exact britem_class_ok A s hs a i hi hd hc P j HI w hE
      | err c q => rw [hR] at HI; exact britem_class_err A s hs a i hi hd hc c q HI w hE
    | false =>
      rw [if_neg (by simp)]
      unfold Br.isRange
      by_cases h2 : i + 2 < s.size
      · by_cases h45 : bt s (i + 1) = 45
        · by_cases h93 : bt s (i + 2) = 93
          · rw [if_neg (by simp [h93])]
            exact britem_brack A s hs a i hi hd hc h2 h45 h93 w hE
          · rw [if_pos (by simp [h93, h45, h2])]
            have HI := fun w hE => span_any A s hs a i h2 w hE
            cases hR : Br.ranged (bt s) i with
            | ok P j => rw [hR] at HI; exact britem_range_ok A s hs a i hi hd hc h2 h45 h93 P j HI w hE
            | err c q => rw [hR] at HI; exact britem_range_err A s hs a i hi hd hc h2 h45 h93 c q HI w hE
        · rw [if_neg (by simp [h45])]
          exact britem_nodash A s hs a i hi hd hc h2 h45 w hE
      · rw [if_neg (by simp [h2])]
        exact britem_short A s hs a i hi hd hc (by omega) w hE
theorem join_p {w : World} {v : Value} {P Q : Nat → Bool} (h : Sl2 w v (Oc.mk P 0) (Oc.mk P 1) (Oc.mk P 2) (Oc.mk P 3) (Oc.mk Q 0) (Oc.mk Q 1) (Oc.mk Q 2) (Oc.mk Q 3)) : Calls Tryd.prog 33 #[v] w fun e w' =>
    e = .returned (.agg #[.int .u64 (Oc.U (Oc.mk (fun x => P x || Q x) 0)), .int .u64 (Oc.U (Oc.mk (fun x => P x || Q x) 1)), .int .u64 (Oc.U (Oc.mk (fun x => P x || Q x) 2)), .int .u64 (Oc.U (Oc.mk (fun x => P x || Q x) 3))]) ∧ Below w.heap.size w w' := by
  have h2 := join2_any h
  rw [Br.mk_or, Br.mk_or, Br.mk_or, Br.mk_or] at h2
  exact h2
set_option maxRecDepth 100000 in
set_option maxHeartbeats 8000000 in
theorem britems_any (A : Nat → Addr) (s : ByteArray) (hs : s.size ≤ 4294967280) (a first : Nat) (hf : first ≤ s.size) (R : Br.Ans) (hR : Br.items (bt s) s.size a (s.size + 1) first (fun _ => false) false = R) (w : World) (hE : BrEnv w A) :
    Calls Tryd.prog 18 #[.agg #[.string s, .int .i64 a], .int .i64 first] w (ItEnd A R w) := by
  have HR := Lib.hid hR; have HE := Lib.hid hE
  clear hR hE
  go_enter Tryd.func18, Tryd.ntmps18
  go_wp2_with fail
  go_loopw [8] (fun iv wr => ∃ (P : Nat → Bool) (i k : Nat), iv = .int .i64 i ∧ first ≤ i ∧ i ≤ s.size ∧ s.size < i + k ∧ Hid (Br.items (bt s) s.size a k i P (decide (first < i)) = R) ∧ Hid (Below w.heap.size w wr) ∧ w.heap.size + 2 < wr.heap.size ∧
    Hid (wr.heap[w.heap.size]? = some (.cells #[.string s, .int .i64 a] 45)) ∧ Hid (wr.heap[w.heap.size + 1]? = some (.cells noSet 25)) ∧
    Hid (wr.heap[w.heap.size + 2]? = some (.cells #[.int .u64 (Oc.U (Oc.mk (P) 0)), .int .u64 (Oc.U (Oc.mk (P) 1)), .int .u64 (Oc.U (Oc.mk (P) 2)), .int .u64 (Oc.U (Oc.mk (P) 3))] 25))) (fun iv _ => s.size - (intOf iv).toNat)
  case atStart =>
    have h3 := three_new w (.cells #[.string s, .int .i64 a] 45) (.cells noSet 25) (.cells noSet 25)
    exact ⟨fun _ => false, first, s.size + 1, rfl, Nat.le_refl _, hf, by omega, Lib.hid (by rw [show decide (first < first) = false by simp]; exact HR.out), Lib.hid (by go_grown), by simp, Lib.hid h3.1, Lib.hid h3.2.1, Lib.hid (h3.2.2.trans (by rw [Oc.mk_none, Oc.mk_none, Oc.mk_none, Oc.mk_none]; rfl))⟩
  case round =>
    obtain ⟨P, i, k, rfl, hfi, hi, hk, hit, HB, hsz, ZR, Z1, Z2⟩ := hrel
    obtain ⟨k, rfl⟩ : ∃ k', k = k' + 1 := ⟨k - 1, by omega⟩
    have HE1 := Lib.hid (HE.out.below HB.out)
    have c0 : wr.cell? ⟨w.heap.size, 0, none⟩ = some (.string s) := by unfold World.cell?; rw [ZR.out]; rfl
    have hit' := hit.out
    clear hit
    unfold Br.items at hit'
    by_cases hlt : i < s.size
    · have hd : decide ((i : Int) < s.size) = true := by simp; omega
      have hi0 : (0 : Int) ≤ i := by omega
      by_cases hx : (decide (first < i) && bt s i == 93) = true
      · rw [if_pos hx] at hit'
        simp only [Bool.and_eq_true, decide_eq_true_eq, beq_iff_eq] at hx
        have e93 : ((s[i].toNat : Int) == 93) = true := by rw [bt_at hlt, hx.2]; rfl
        have hg : decide (first < i) = true := by simpa using hx.1
        subst hit'
        clear hx
        go_wp2_with (first
          | (refine wpList_load_row rfl 25 (.tmp 7) rfl (w.heap.size + 2) rfl 25 _ (0, 0) _ Z2.out Tryd.underlying25 rfl (by kernel_rfl) ?_)
          | (refine wpList_store_row rfl 25 (.tmp 4) (.tmp 28) rfl (w.heap.size + 1) #[.int .u64 (Oc.U (Oc.mk (P) 0)), .int .u64 (Oc.U (Oc.mk (P) 1)), .int .u64 (Oc.U (Oc.mk (P) 2)), .int .u64 (Oc.U (Oc.mk (P) 3))] rfl rfl 25 _ Z1.out (by kernel_rfl) rfl setC_one ?_)
          | fail)
        exact bodyPost_ret (results_row_two rfl _ _ (w.heap.size + 1) 25 #[.int .u64 (Oc.U (Oc.mk (P) 0)), .int .u64 (Oc.U (Oc.mk (P) 1)), .int .u64 (Oc.U (Oc.mk (P) 2)), .int .u64 (Oc.U (Oc.mk (P) 3))] (0, 0) _ _ _ rfl rfl rfl (heap_setRow Z1.out) Tryd.underlying25 rfl (by kernel_rfl)) rfl ⟨by exact rfl, below_setRow HB.out (Nat.le_succ _) _⟩
      · rw [if_neg hx, if_neg (by omega)] at hit'
        have hb93 : (((s[i].toNat : Int) == 93) = false ∧ decide (i = i) = true) ∨ (((s[i].toNat : Int) == 93) = true ∧ decide (first < i) = false) := by
          rw [bt_at hlt]
          by_cases h93 : bt s i = 93
          · refine .inr ⟨by rw [h93]; rfl, ?_⟩
            cases hq : decide (first < i) with
            | false => rfl
            | true => rw [hq, h93] at hx; exact absurd rfl hx
          · exact .inl ⟨by simp; omega, by simp⟩
        have hitem := fun w hE => item_any A s hs a i hlt w hE
        clear hx
        cases hI : Br.item (bt s) s.size i a with
        | err c q =>
          rw [hI] at hit' hitem
          simp only at hit'
          subst hit'
          have HI := Lib.hid hitem
          clear hitem hI
          rcases hb93 with ⟨e93, hg⟩ | ⟨e93, hg⟩
          all_goals
            go_wp2_with (first
              | (refine wpList_load_row rfl 45 (.tmp 2) rfl w.heap.size rfl 45 _ (0, 0) _ ZR.out Tryd.underlying45 rfl (by kernel_rfl) ?_)
              | fail)
            refine (HI.out _ HE1.out).mono ?_
            intro e w1 he
            obtain ⟨v, rfl, hv, hb⟩ := he.err rfl
            obtain ⟨q', rfl⟩ := hv.iface
            have hbA : Below wr.heap.size wr (w1.alloc (.cells noSet 25)) := hb.alloc hb.size _
            have Y1 := Lib.hid (keep_blk hbA Z1.out)
            have HB1 := Lib.hid (HB.out.trans (hbA.mono HB.out.size))
            have HV := Lib.hid (hv.later ((Below.refl w1.heap.size w1).alloc (Nat.le_refl _) (.cells noSet 25)))
            clear hb hbA hv he c0
            go_wp2_with (first
              | (refine wpList_store_row rfl 25 (.tmp 4) (.tmp 39) rfl (w.heap.size + 1) noSet rfl rfl 25 _ Y1.out (by kernel_rfl) rfl noSet_one ?_)
              | fail)
            exact bodyPost_ret (results_row_two rfl _ _ (w.heap.size + 1) 25 noSet (0, 0) _ _ _ rfl rfl rfl (heap_setRow Y1.out) Tryd.underlying25 rfl (by kernel_rfl)) rfl ⟨⟨_, rfl, (HV.out.setRow (by omega) noSet).down HB.out.size⟩, below_setRow HB1.out (Nat.le_succ _) _⟩
        | ok Q j =>
          rw [hI] at hit' hitem
          simp only at hit'
          obtain ⟨hj1, hj2⟩ := Br.item_next hlt hI
          have HI := Lib.hid hitem
          have HIT : Hid (Br.items (bt s) s.size a k j (fun x => P x || Q x) (decide (first < j)) = R) := Lib.hid (by rw [show decide (first < j) = true by simp; omega]; exact hit')
          clear hitem hI hit'
          rcases hb93 with ⟨e93, hg⟩ | ⟨e93, hg⟩
          all_goals
            go_wp2_with (first
              | (refine wpList_load_row rfl 45 (.tmp 2) rfl w.heap.size rfl 45 _ (0, 0) _ ZR.out Tryd.underlying45 rfl (by kernel_rfl) ?_)
              | fail)
            refine (HI.out _ HE1.out).mono ?_
            intro e w1 he
            obtain ⟨rfl, hb⟩ := he.ok rfl
            have hbA : Below wr.heap.size wr (w1.alloc (.cells #[.int .u64 (Oc.U (Oc.mk (Q) 0)), .int .u64 (Oc.U (Oc.mk (Q) 1)), .int .u64 (Oc.U (Oc.mk (Q) 2)), .int .u64 (Oc.U (Oc.mk (Q) 3))] 25)) := hb.alloc hb.size _
            have YR := Lib.hid (keep_blk hbA ZR.out)
            have Y1 := Lib.hid (keep_blk hbA Z1.out)
            have Y2 := Lib.hid (keep_blk hbA Z2.out)
            have Y3 := Lib.hid (heap_alloc_new w1 (.cells #[.int .u64 (Oc.U (Oc.mk (Q) 0)), .int .u64 (Oc.U (Oc.mk (Q) 1)), .int .u64 (Oc.U (Oc.mk (Q) 2)), .int .u64 (Oc.U (Oc.mk (Q) 3))] 25))
            have HB1 := Lib.hid (HB.out.trans (hbA.mono HB.out.size))
            have hsz1 : wr.heap.size ≤ w1.heap.size := hb.size
            clear hb hbA he c0
            go_wp2_with (first
              | (refine wpList_load_row rfl 25 (.tmp 7) rfl (w.heap.size + 2) rfl 25 _ (0, 0) _ Y2.out Tryd.underlying25 rfl (by kernel_rfl) ?_)
              | (refine wpList_load_row rfl 25 (.tmp 9) rfl w1.heap.size rfl 25 _ (0, 0) _ Y3.out Tryd.underlying25 rfl (by kernel_rfl) ?_)
              | fail)
            have hsl : Sl2 ((w1.alloc (.cells #[.int .u64 (Oc.U (Oc.mk Q 0)), .int .u64 (Oc.U (Oc.mk Q 1)), .int .u64 (Oc.U (Oc.mk Q 2)), .int .u64 (Oc.U (Oc.mk Q 3))] 25)).alloc (.cells #[.int .u64 (Oc.U (Oc.mk P 0)), .int .u64 (Oc.U (Oc.mk P 1)), .int .u64 (Oc.U (Oc.mk P 2)), .int .u64 (Oc.U (Oc.mk P 3)), .int .u64 (Oc.U (Oc.mk Q 0)), .int .u64 (Oc.U (Oc.mk Q 1)), .int .u64 (Oc.U (Oc.mk Q 2)), .int .u64 (Oc.U (Oc.mk Q 3))] 25))
                (.slice (some ⟨w1.heap.size + 1, 0, none⟩) 2 2) (Oc.mk P 0) (Oc.mk P 1) (Oc.mk P 2) (Oc.mk P 3) (Oc.mk Q 0) (Oc.mk Q 1) (Oc.mk Q 2) (Oc.mk Q 3) := ⟨_, rfl, (two_new w1 _ _).2⟩
            refine (join_p hsl).mono ?_
            rintro e w3 ⟨rfl, hb3⟩
            have hbA : Below (w1.alloc (.cells #[.int .u64 (Oc.U (Oc.mk Q 0)), .int .u64 (Oc.U (Oc.mk Q 1)), .int .u64 (Oc.U (Oc.mk Q 2)), .int .u64 (Oc.U (Oc.mk Q 3))] 25)).heap.size (w1.alloc (.cells #[.int .u64 (Oc.U (Oc.mk Q 0)), .int .u64 (Oc.U (Oc.mk Q 1)), .int .u64 (Oc.U (Oc.mk Q 2)), .int .u64 (Oc.U (Oc.mk Q 3))] 25)) w3 := ((Below.refl _ _).alloc (Nat.le_refl _) _).trans (hb3.mono (by simp))
            have X0 := Lib.hid (keep_blk hbA YR.out)
            have X1 := Lib.hid (keep_blk hbA Y1.out)
            have X2 := Lib.hid (keep_blk hbA Y2.out)
            have HB3 := Lib.hid (HB1.out.trans (hbA.mono HB1.out.size))
            have hsz3 : w1.heap.size + 1 ≤ w3.heap.size := by have := hbA.size; simpa using this
            clear hb3 hbA hsl Y1 Y2 Y3 YR
            go_wp2_with (first
              | (refine wpList_store_row rfl 25 (.tmp 7) (.tmp 44) rfl (w.heap.size + 2) #[.int .u64 (Oc.U (Oc.mk (fun x => P x || Q x) 0)), .int .u64 (Oc.U (Oc.mk (fun x => P x || Q x) 1)), .int .u64 (Oc.U (Oc.mk (fun x => P x || Q x) 2)), .int .u64 (Oc.U (Oc.mk (fun x => P x || Q x) 3))] rfl rfl 25 _ X2.out (by kernel_rfl) rfl setC_one ?_)
              | fail)
            go_roundw
            case rel => exact ⟨fun x => P x || Q x, j, k, rfl, by omega, hj2, by omega, HIT, Lib.hid (below_setRow HB3.out (by omega) _), by simp; omega, Lib.hid ((heap_setRow_other _ _ _ (by omega)).trans X0.out), Lib.hid ((heap_setRow_other _ _ _ (by omega)).trans X1.out), Lib.hid (heap_setRow X2.out)⟩
            case measure => simp [intOf]; omega
    · have hd : decide ((i : Int) < s.size) = false := by simp; omega
      have h256 : bt s i = 256 := bt_out (by omega)
      rw [if_neg (by simp [h256]), if_pos (by omega)] at hit'
      subst hit'
      go_wp2_with (first
        | (refine wpList_load_row rfl 45 (.tmp 2) rfl w.heap.size rfl 45 _ (0, 0) _ ZR.out Tryd.underlying45 rfl (by kernel_rfl) ?_)
        | fail)
      refine (open_any A s a _ HE1.out).mono ?_
      intro e w1 he
      obtain ⟨v, rfl, hv, hb⟩ := he.err rfl
      obtain ⟨q', rfl⟩ := hv.iface
      have Y1 := Lib.hid (keep_blk hb Z1.out)
      have HB1 := Lib.hid (HB.out.trans (hb.mono HB.out.size))
      have HV := Lib.hid hv
      clear hb hv he c0
      go_wp2_with (first
        | (refine wpList_store_row rfl 25 (.tmp 4) (.tmp 48) rfl (w.heap.size + 1) noSet rfl rfl 25 _ Y1.out (by kernel_rfl) rfl noSet_one ?_)
        | fail)
      exact bodyPost_ret (results_row_two rfl _ _ (w.heap.size + 1) 25 noSet (0, 0) _ _ _ rfl rfl rfl (heap_setRow Y1.out) Tryd.underlying25 rfl (by kernel_rfl)) rfl ⟨⟨_, rfl, (HV.out.setRow (by omega) noSet).down HB.out.size⟩, below_setRow HB1.out (Nat.le_succ _) _⟩
end Go.Proofs.YtbpecijdmhablaaDoor
