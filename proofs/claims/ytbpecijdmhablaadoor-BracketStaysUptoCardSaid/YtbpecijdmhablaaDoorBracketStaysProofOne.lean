/- What is proved: whatever the texts and the flags that it is handed, the law BracketStays returns true, and each argument reads behind the call as it read before. Conditions: the listed variables read as the program's text says (tied); what is handed in is of bulk at most 1048576. -/
import Derived.Test.YtbpecijdmhablaaDoorBrDo3
import Derived.Test.YtbpecijdmhablaaDoorOcPair
import Derived.Test.YtbpecijdmhablaaDoorBrSpec
import Derived.Test.YtbpecijdmhablaaDoorRegInv
import Derived.Test.YtbpecijdmhablaaDoorClNamed0
import Derived.Test.YtbpecijdmhablaaDoorOcWalks2
import Derived.Test.YtbpecijdmhablaaDoorClFold
import Derived.Test.YtbpecijdmhablaaDoorBrRef7
import Derived.ProofKit
import Derived.OpenShut
import Derived.ChangeOld
import Derived.Deep.Slices
import Derived.Laws.IdiomArrays
import Derived.Lib.SmallJoins
import Derived.Test.YtbpecijdmhablaaDoorErPlace
import Derived.Lib.LaidTab
import Derived.Lib.ItoaNum
import Derived.Lib.AppendIntMem
import Derived.Test.YtbpecijdmhablaaDoorErAll
import Derived.LaidHandle
import Derived.LaidLaws
import Derived.Test.YtbpecijdmhablaaDoorBracketStays
import Derived.Test.YtbpecijdmhablaaDoorCards
import Derived.Test.YtbpecijdmhablaaDoorTie
import Derived.SizedLaws
import Derived.ChangeMaps5
import Derived.SevenTiedAt
import Derived.Deep.DeepWitnessRowRef
/- What the items of a bracket expression are read to, one behind the other. -/
namespace Go.Proofs.YtbpecijdmhablaaDoor
open Go.RowKit
theorem classed_any (A : Nat → Addr) (s : ByteArray) (hs : s.size ≤ 4294967280) (a i : Nat) (hc : Br.colon (bt s) i = true) (w : World) (hE : BrEnv w A) :
    Calls Tryd.prog 53 #[.agg #[.string s, .int .i64 a], .int .i64 i] w (ItEnd A (Br.classed (bt s) s.size i a) w) := by
  unfold Br.colon at hc
  simp only [Bool.and_eq_true, beq_iff_eq] at hc
  have h1 := (bt_txt s).lt hc.2 (by omega)
  unfold Br.classed
  cases hk : Br.clos (bt s) (s.size - (i + 3)) (i + 2) with
  | none => exact brnamed_open A s hs a i (by omega) hk w hE
  | some e =>
    obtain ⟨g1, g2, g3, g4, -⟩ := Br.clos_some hk
    have hlt := (bt_txt s).lt g4 (by omega)
    obtain ⟨m, rfl⟩ : ∃ m, e = i + 2 + m := ⟨e - (i + 2), by omega⟩
    show Calls _ _ _ _ (ItEnd A (Br.named (bt s) i (i + 2 + m)) w)
    unfold Br.named
    rw [name_part s (i + 2) (i + 2 + m) (by omega) (by omega)]
    cases hn : Br.clsAt ((s.extract (i + 2) (i + 2 + m)).data.toList.map (·.toNat)) with
    | none => exact brnamed_no A s hs a i m (by omega) hk (clsAt_none hn) w hE
    | some k =>
      obtain ⟨hk12, hnm⟩ := clsAt_some hn
      exact brnamed_yes A s hs a i m k (by omega) hk (hnm ▸ known k hk12) w hE
theorem item_any (A : Nat → Addr) (s : ByteArray) (hs : s.size ≤ 4294967280) (a i : Nat) (hi : i < s.size) (w : World) (hE : BrEnv w A) :
    Calls Tryd.prog 32 #[.agg #[.string s, .int .i64 a], .int .i64 i] w (ItEnd A (Br.item (bt s) s.size i a) w) := by
  unfold Br.item
  cases hd : Br.dotted (bt s) i with
  | true => exact britem_coll A s hs a i hi hd w hE
  | false =>
    rw [if_neg (by simp)]
    cases hc : Br.colon (bt s) i with
    | true =>
      rw [if_pos rfl]
      have HI := fun w hE => classed_any A s hs a i hc w hE
      cases hR : Br.classed (bt s) s.size i a with
      | ok P j => rw [hR] at HI; exact britem_class_ok A s hs a i hi hd hc P j HI w hE
      | err c q => rw [hR] at HI; exact britem_class_err A s hs a i hi hd hc c q HI w hE
    | false =>
      rw [if_neg (by simp)]
      unfold Br.isRange
      by_cases h2 : i + 2 < s.size
      · by_cases h45 : bt s (i + 1) = 45
        · by_cases h93 : bt s (i + 2) = 93
          · rw [if_neg (by simp [h93])]
            exact britem_brack A s hs a i hi hd hc h2 h45 h93 w hE
          · rw [if_pos (by simp [h93, h45, h2])]
            have HI := fun w hE => span_any A s hs a i h2 w hE
            cases hR : Br.ranged (bt s) i with
            | ok P j => rw [hR] at HI; exact britem_range_ok A s hs a i hi hd hc h2 h45 h93 P j HI w hE
            | err c q => rw [hR] at HI; exact britem_range_err A s hs a i hi hd hc h2 h45 h93 c q HI w hE
        · rw [if_neg (by simp [h45])]
          exact britem_nodash A s hs a i hi hd hc h2 h45 w hE
      · rw [if_neg (by simp [h2])]
        exact britem_short A s hs a i hi hd hc (by omega) w hE
theorem join_p {w : World} {v : Value} {P Q : Nat → Bool} (h : Sl2 w v (Oc.mk P 0) (Oc.mk P 1) (Oc.mk P 2) (Oc.mk P 3) (Oc.mk Q 0) (Oc.mk Q 1) (Oc.mk Q 2) (Oc.mk Q 3)) : Calls Tryd.prog 33 #[v] w fun e w' =>
    e = .returned (.agg #[.int .u64 (Oc.U (Oc.mk (fun x => P x || Q x) 0)), .int .u64 (Oc.U (Oc.mk (fun x => P x || Q x) 1)), .int .u64 (Oc.U (Oc.mk (fun x => P x || Q x) 2)), .int .u64 (Oc.U (Oc.mk (fun x => P x || Q x) 3))]) ∧ Below w.heap.size w w' := by
  have h2 := join2_any h
  rw [Br.mk_or, Br.mk_or, Br.mk_or, Br.mk_or] at h2
  exact h2
set_option maxRecDepth 100000 in
set_option maxHeartbeats 8000000 in
theorem britems_any (A : Nat → Addr) (s : ByteArray) (hs : s.size ≤ 4294967280) (a first : Nat) (hf : first ≤ s.size) (R : Br.Ans) (hR : Br.items (bt s) s.size a (s.size + 1) first (fun _ => false) false = R) (w : World) (hE : BrEnv w A) :
    Calls Tryd.prog 18 #[.agg #[.string s, .int .i64 a], .int .i64 first] w (ItEnd A R w) := by
  have HR := Lib.hid hR; have HE := Lib.hid hE
  clear hR hE
  go_enter Tryd.func18, Tryd.ntmps18
  go_wp2_with fail
  go_loopw [8] (fun iv wr => ∃ (P : Nat → Bool) (i k : Nat), iv = .int .i64 i ∧ first ≤ i ∧ i ≤ s.size ∧ s.size < i + k ∧ Hid (Br.items (bt s) s.size a k i P (decide (first < i)) = R) ∧ Hid (Below w.heap.size w wr) ∧ w.heap.size + 2 < wr.heap.size ∧
    Hid (wr.heap[w.heap.size]? = some (.cells #[.string s, .int .i64 a] 45)) ∧ Hid (wr.heap[w.heap.size + 1]? = some (.cells noSet 25)) ∧
    Hid (wr.heap[w.heap.size + 2]? = some (.cells #[.int .u64 (Oc.U (Oc.mk (P) 0)), .int .u64 (Oc.U (Oc.mk (P) 1)), .int .u64 (Oc.U (Oc.mk (P) 2)), .int .u64 (Oc.U (Oc.mk (P) 3))] 25))) (fun iv _ => s.size - (intOf iv).toNat)
  case atStart =>
    have h3 := three_new w (.cells #[.string s, .int .i64 a] 45) (.cells noSet 25) (.cells noSet 25)
    exact ⟨fun _ => false, first, s.size + 1, rfl, Nat.le_refl _, hf, by omega, Lib.hid (by rw [show decide (first < first) = false by simp]; exact HR.out), Lib.hid (by go_grown), by simp, Lib.hid h3.1, Lib.hid h3.2.1, Lib.hid (h3.2.2.trans (by rw [Oc.mk_none, Oc.mk_none, Oc.mk_none, Oc.mk_none]; rfl))⟩
  case round =>
    obtain ⟨P, i, k, rfl, hfi, hi, hk, hit, HB, hsz, ZR, Z1, Z2⟩ := hrel
    obtain ⟨k, rfl⟩ : ∃ k', k = k' + 1 := ⟨k - 1, by omega⟩
    have HE1 := Lib.hid (HE.out.below HB.out)
    have c0 : wr.cell? ⟨w.heap.size, 0, none⟩ = some (.string s) := by unfold World.cell?; rw [ZR.out]; rfl
    have hit' := hit.out
    clear hit
    unfold Br.items at hit'
    by_cases hlt : i < s.size
    · have hd : decide ((i : Int) < s.size) = true := by simp; omega
      have hi0 : (0 : Int) ≤ i := by omega
      by_cases hx : (decide (first < i) && bt s i == 93) = true
      · rw [if_pos hx] at hit'
        simp only [Bool.and_eq_true, decide_eq_true_eq, beq_iff_eq] at hx
        have e93 : ((s[i].toNat : Int) == 93) = true := by rw [bt_at hlt, hx.2]; rfl
        have hg : decide (first < i) = true := by simpa using hx.1
        subst hit'
        clear hx
        go_wp2_with (first
          | (refine wpList_load_row rfl 25 (.tmp 7) rfl (w.heap.size + 2) rfl 25 _ (0, 0) _ Z2.out Tryd.underlying25 rfl (by kernel_rfl) ?_)
          | (refine wpList_store_row rfl 25 (.tmp 4) (.tmp 28) rfl (w.heap.size + 1) #[.int .u64 (Oc.U (Oc.mk (P) 0)), .int .u64 (Oc.U (Oc.mk (P) 1)), .int .u64 (Oc.U (Oc.mk (P) 2)), .int .u64 (Oc.U (Oc.mk (P) 3))] rfl rfl 25 _ Z1.out (by kernel_rfl) rfl setC_one ?_)
          | fail)
        exact bodyPost_ret (results_row_two rfl _ _ (w.heap.size + 1) 25 #[.int .u64 (Oc.U (Oc.mk (P) 0)), .int .u64 (Oc.U (Oc.mk (P) 1)), .int .u64 (Oc.U (Oc.mk (P) 2)), .int .u64 (Oc.U (Oc.mk (P) 3))] (0, 0) _ _ _ rfl rfl rfl (heap_setRow Z1.out) Tryd.underlying25 rfl (by kernel_rfl)) rfl ⟨by exact rfl, below_setRow HB.out (Nat.le_succ _) _⟩
      · rw [if_neg hx, if_neg (by omega)] at hit'
        have hb93 : (((s[i].toNat : Int) == 93) = false ∧ decide (i = i) = true) ∨ (((s[i].toNat : Int) == 93) = true ∧ decide (first < i) = false) := by
          rw [bt_at hlt]
          by_cases h93 : bt s i = 93
          · refine .inr ⟨by rw [h93]; rfl, ?_⟩
            cases hq : decide (first < i) with
            | false => rfl
            | true => rw [hq, h93] at hx; exact absurd rfl hx
          · exact .inl ⟨by simp; omega, by simp⟩
        have hitem := fun w hE => item_any A s hs a i hlt w hE
        clear hx
        cases hI : Br.item (bt s) s.size i a with
        | err c q =>
          rw [hI] at hit' hitem
          simp only at hit'
          subst hit'
          have HI := Lib.hid hitem
          clear hitem hI
          rcases hb93 with ⟨e93, hg⟩ | ⟨e93, hg⟩
          all_goals
            go_wp2_with (first
              | (refine wpList_load_row rfl 45 (.tmp 2) rfl w.heap.size rfl 45 _ (0, 0) _ ZR.out Tryd.underlying45 rfl (by kernel_rfl) ?_)
              | fail)
            refine (HI.out _ HE1.out).mono ?_
            intro e w1 he
            obtain ⟨v, rfl, hv, hb⟩ := he.err rfl
            obtain ⟨q', rfl⟩ := hv.iface
            have hbA : Below wr.heap.size wr (w1.alloc (.cells noSet 25)) := hb.alloc hb.size _
            have Y1 := Lib.hid (keep_blk hbA Z1.out)
            have HB1 := Lib.hid (HB.out.trans (hbA.mono HB.out.size))
            have HV := Lib.hid (hv.later ((Below.refl w1.heap.size w1).alloc (Nat.le_refl _) (.cells noSet 25)))
            clear hb hbA hv he c0
            go_wp2_with (first
              | (refine wpList_store_row rfl 25 (.tmp 4) (.tmp 39) rfl (w.heap.size + 1) noSet rfl rfl 25 _ Y1.out (by kernel_rfl) rfl noSet_one ?_)
              | fail)
            exact bodyPost_ret (results_row_two rfl _ _ (w.heap.size + 1) 25 noSet (0, 0) _ _ _ rfl rfl rfl (heap_setRow Y1.out) Tryd.underlying25 rfl (by kernel_rfl)) rfl ⟨⟨_, rfl, (HV.out.setRow (by omega) noSet).down HB.out.size⟩, below_setRow HB1.out (Nat.le_succ _) _⟩
        | ok Q j =>
          rw [hI] at hit' hitem
          simp only at hit'
          obtain ⟨hj1, hj2⟩ := Br.item_next hlt hI
          have HI := Lib.hid hitem
          have HIT : Hid (Br.items (bt s) s.size a k j (fun x => P x || Q x) (decide (first < j)) = R) := Lib.hid (by rw [show decide (first < j) = true by simp; omega]; exact hit')
          clear hitem hI hit'
          rcases hb93 with ⟨e93, hg⟩ | ⟨e93, hg⟩
          all_goals
            go_wp2_with (first
              | (refine wpList_load_row rfl 45 (.tmp 2) rfl w.heap.size rfl 45 _ (0, 0) _ ZR.out Tryd.underlying45 rfl (by kernel_rfl) ?_)
              | fail)
            refine (HI.out _ HE1.out).mono ?_
            intro e w1 he
            obtain ⟨rfl, hb⟩ := he.ok rfl
            have hbA : Below wr.heap.size wr (w1.alloc (.cells #[.int .u64 (Oc.U (Oc.mk (Q) 0)), .int .u64 (Oc.U (Oc.mk (Q) 1)), .int .u64 (Oc.U (Oc.mk (Q) 2)), .int .u64 (Oc.U (Oc.mk (Q) 3))] 25)) := hb.alloc hb.size _
            have YR := Lib.hid (keep_blk hbA ZR.out)
            have Y1 := Lib.hid (keep_blk hbA Z1.out)
            have Y2 := Lib.hid (keep_blk hbA Z2.out)
            have Y3 := Lib.hid (heap_alloc_new w1 (.cells #[.int .u64 (Oc.U (Oc.mk (Q) 0)), .int .u64 (Oc.U (Oc.mk (Q) 1)), .int .u64 (Oc.U (Oc.mk (Q) 2)), .int .u64 (Oc.U (Oc.mk (Q) 3))] 25))
            have HB1 := Lib.hid (HB.out.trans (hbA.mono HB.out.size))
            have hsz1 : wr.heap.size ≤ w1.heap.size := hb.size
            clear hb hbA he c0
            go_wp2_with (first
              | (refine wpList_load_row rfl 25 (.tmp 7) rfl (w.heap.size + 2) rfl 25 _ (0, 0) _ Y2.out Tryd.underlying25 rfl (by kernel_rfl) ?_)
              | (refine wpList_load_row rfl 25 (.tmp 9) rfl w1.heap.size rfl 25 _ (0, 0) _ Y3.out Tryd.underlying25 rfl (by kernel_rfl) ?_)
              | fail)
            have hsl : Sl2 ((w1.alloc (.cells #[.int .u64 (Oc.U (Oc.mk Q 0)), .int .u64 (Oc.U (Oc.mk Q 1)), .int .u64 (Oc.U (Oc.mk Q 2)), .int .u64 (Oc.U (Oc.mk Q 3))] 25)).alloc (.cells #[.int .u64 (Oc.U (Oc.mk P 0)), .int .u64 (Oc.U (Oc.mk P 1)), .int .u64 (Oc.U (Oc.mk P 2)), .int .u64 (Oc.U (Oc.mk P 3)), .int .u64 (Oc.U (Oc.mk Q 0)), .int .u64 (Oc.U (Oc.mk Q 1)), .int .u64 (Oc.U (Oc.mk Q 2)), .int .u64 (Oc.U (Oc.mk Q 3))] 25))
                (.slice (some ⟨w1.heap.size + 1, 0, none⟩) 2 2) (Oc.mk P 0) (Oc.mk P 1) (Oc.mk P 2) (Oc.mk P 3) (Oc.mk Q 0) (Oc.mk Q 1) (Oc.mk Q 2) (Oc.mk Q 3) := ⟨_, rfl, (two_new w1 _ _).2⟩
            refine (join_p hsl).mono ?_
            rintro e w3 ⟨rfl, hb3⟩
            have hbA : Below (w1.alloc (.cells #[.int .u64 (Oc.U (Oc.mk Q 0)), .int .u64 (Oc.U (Oc.mk Q 1)), .int .u64 (Oc.U (Oc.mk Q 2)), .int .u64 (Oc.U (Oc.mk Q 3))] 25)).heap.size (w1.alloc (.cells #[.int .u64 (Oc.U (Oc.mk Q 0)), .int .u64 (Oc.U (Oc.mk Q 1)), .int .u64 (Oc.U (Oc.mk Q 2)), .int .u64 (Oc.U (Oc.mk Q 3))] 25)) w3 := ((Below.refl _ _).alloc (Nat.le_refl _) _).trans (hb3.mono (by simp))
            have X0 := Lib.hid (keep_blk hbA YR.out)
            have X1 := Lib.hid (keep_blk hbA Y1.out)
            have X2 := Lib.hid (keep_blk hbA Y2.out)
            have HB3 := Lib.hid (HB1.out.trans (hbA.mono HB1.out.size))
            have hsz3 : w1.heap.size + 1 ≤ w3.heap.size := by have := hbA.size; simpa using this
            clear hb3 hbA hsl Y1 Y2 Y3 YR
            go_wp2_with (first
              | (refine wpList_store_row rfl 25 (.tmp 7) (.tmp 44) rfl (w.heap.size + 2) #[.int .u64 (Oc.U (Oc.mk (fun x => P x || Q x) 0)), .int .u64 (Oc.U (Oc.mk (fun x => P x || Q x) 1)), .int .u64 (Oc.U (Oc.mk (fun x => P x || Q x) 2)), .int .u64 (Oc.U (Oc.mk (fun x => P x || Q x) 3))] rfl rfl 25 _ X2.out (by kernel_rfl) rfl setC_one ?_)
              | fail)
            go_roundw
            case rel => exact ⟨fun x => P x || Q x, j, k, rfl, by omega, hj2, by omega, HIT, Lib.hid (below_setRow HB3.out (by omega) _), by simp; omega, Lib.hid ((heap_setRow_other _ _ _ (by omega)).trans X0.out), Lib.hid ((heap_setRow_other _ _ _ (by omega)).trans X1.out), Lib.hid (heap_setRow X2.out)⟩
            case measure => simp [intOf]; omega
    · have hd : decide ((i : Int) < s.size) = false := by simp; omega
      have h256 : bt s i = 256 := bt_out (by omega)
      rw [if_neg (by simp [h256]), if_pos (by omega)] at hit'
      subst hit'
      go_wp2_with (first
        | (refine wpList_load_row rfl 45 (.tmp 2) rfl w.heap.size rfl 45 _ (0, 0) _ ZR.out Tryd.underlying45 rfl (by kernel_rfl) ?_)
        | fail)
      refine (open_any A s a _ HE1.out).mono ?_
      intro e w1 he
      obtain ⟨v, rfl, hv, hb⟩ := he.err rfl
      obtain ⟨q', rfl⟩ := hv.iface
      have Y1 := Lib.hid (keep_blk hb Z1.out)
      have HB1 := Lib.hid (HB.out.trans (hb.mono HB.out.size))
      have HV := Lib.hid hv
      clear hb hv he c0
      go_wp2_with (first
        | (refine wpList_store_row rfl 25 (.tmp 4) (.tmp 48) rfl (w.heap.size + 1) noSet rfl rfl 25 _ Y1.out (by kernel_rfl) rfl noSet_one ?_)
        | fail)
      exact bodyPost_ret (results_row_two rfl _ _ (w.heap.size + 1) 25 noSet (0, 0) _ _ _ rfl rfl rfl (heap_setRow Y1.out) Tryd.underlying25 rfl (by kernel_rfl)) rfl ⟨⟨_, rfl, (HV.out.setRow (by omega) noSet).down HB.out.size⟩, below_setRow HB1.out (Nat.le_succ _) _⟩
end Go.Proofs.YtbpecijdmhablaaDoor
/- Lists of one byte and what Of, Not, Less make of sets told by what they hold. -/
namespace Go.Proofs.YtbpecijdmhablaaDoor
open Go.RowKit
/-- The same in a block that is new: at B or behind. -/
def Sl2N (B : Nat) (w : World) (v : Value) (a b c d a' b' c' d' : BitVec 64) : Prop := ∃ g, B ≤ g ∧ v = .slice (some ⟨g, 0, none⟩) 2 2 ∧ w.heap[g]? = some (.cells #[.int .u64 (Oc.U a), .int .u64 (Oc.U b), .int .u64 (Oc.U c), .int .u64 (Oc.U d), .int .u64 (Oc.U a'), .int .u64 (Oc.U b'), .int .u64 (Oc.U c'), .int .u64 (Oc.U d')] 25)
theorem Sl2N.plain {B : Nat} {w : World} {v : Value} {a b c d a' b' c' d' : BitVec 64} (h : Sl2N B w v a b c d a' b' c' d') : Sl2 w v a b c d a' b' c' d' := by
  obtain ⟨g, -, e, hg⟩ := h; exact ⟨g, e, hg⟩
theorem Sl2N.below {B : Nat} {w w' : World} {v : Value} {a b c d a' b' c' d' : BitVec 64} (h : Sl2N B w v a b c d a' b' c' d') (hb : Below w.heap.size w w') : Sl2N B w' v a b c d a' b' c' d' := by
  obtain ⟨g, hB, e, hg⟩ := h; exact ⟨g, hB, e, keep_blk hb hg⟩
theorem Sl2N.setRow {B : Nat} {w : World} {v : Value} {a b c d a' b' c' d' : BitVec 64} (h : Sl2N B w v a b c d a' b' c' d') {g : Nat} (hg : g < B) (cs : Array Value) : Sl2N B (w.setRow g cs) v a b c d a' b' c' d' := by
  obtain ⟨k, hB, e, hk⟩ := h; exact ⟨k, hB, e, (heap_setRow_other _ _ _ (by omega)).trans hk⟩
/-- A list of one byte. -/
def One (w : World) (v : Value) (m : Nat) : Prop := ∃ g, v = .slice (some ⟨g, 0, none⟩) 1 1 ∧ w.heap[g]? = some (.cells #[.int .u8 m] 5)
theorem One.below {w w' : World} {v : Value} {m : Nat} (h : One w v m) (hb : Below w.heap.size w w') : One w' v m := by
  obtain ⟨g, e, hg⟩ := h; exact ⟨g, e, keep_blk hb hg⟩
def OneN (B : Nat) (w : World) (v : Value) (m : Nat) : Prop := ∃ g, B ≤ g ∧ v = .slice (some ⟨g, 0, none⟩) 1 1 ∧ w.heap[g]? = some (.cells #[.int .u8 m] 5)
theorem OneN.plain {B : Nat} {w : World} {v : Value} {m : Nat} (h : OneN B w v m) : One w v m := by
  obtain ⟨g, -, e, hg⟩ := h; exact ⟨g, e, hg⟩
theorem OneN.below {B : Nat} {w w' : World} {v : Value} {m : Nat} (h : OneN B w v m) (hb : Below w.heap.size w w') : OneN B w' v m := by
  obtain ⟨g, hB, e, hg⟩ := h; exact ⟨g, hB, e, keep_blk hb hg⟩
theorem OneN.setRow {B : Nat} {w : World} {v : Value} {m : Nat} (h : OneN B w v m) {g : Nat} (hg : g < B) (cs : Array Value) : OneN B (w.setRow g cs) v m := by
  obtain ⟨k, hB, e, hk⟩ := h; exact ⟨k, hB, e, (heap_setRow_other _ _ _ (by omega)).trans hk⟩
theorem wp_bytes1 {o : Oper} {x : Act} {w : World} {K : Act → World → Prop} {Q : Exit → Act → World → Prop} (m : Int) (ho : o.op = .buildSlice 58 1 #[(0, .const (.int .u8 m))])
    (h : K (x.put o.dst (.slice (some ⟨w.heap.size, 0, none⟩) 1 1)) (w.alloc (.cells #[.int .u8 m] 5))) : o.wp Tryd.prog x w K Q := by
  obtain ⟨ie, hi, hz0, hz1, -⟩ := info_parts Tryd.infoByte
  refine wp_buildSlice 58 5 1 _ ho _ ie _ Tryd.underlying58 hi hz0 (by rw [hz1]; decide) (by rw [hz1]; decide) ?_ h
  rw [hz1]
  simp only [List.map_toArray, List.map_cons, List.map_nil, Act.eval]
  kernel_rfl
theorem one_any {w : World} {v : Value} {m : Nat} (hm : m < 256) (h : One w v m) : Calls Tryd.prog 14 #[v] w fun e w' => e = .returned (.agg #[.int .u64 (Oc.U (Oc.mk (fun b => b == m) 0)), .int .u64 (Oc.U (Oc.mk (fun b => b == m) 1)), .int .u64 (Oc.U (Oc.mk (fun b => b == m) 2)), .int .u64 (Oc.U (Oc.mk (fun b => b == m) 3))]) ∧ Below w.heap.size w w' := by
  obtain ⟨g, rfl, hg⟩ := h
  have hb : Oc.anyB (fun _ => m) 1 = fun b => b == m := by funext b; simp [Oc.anyB]
  have := of_any (some ⟨g, 0, none⟩) 1 1 (fun _ => m) (by omega) w (fun _ _ => hm) (fun i hi => by
    obtain rfl : i = 0 := by omega
    exact ⟨g, 0, rfl, (Array.getElem?_eq_some_iff.1 hg).1, by unfold World.cell?; rw [hg]; rfl⟩)
  rw [hb] at this
  exact this
theorem not_p (P : Nat → Bool) (w : World) : Calls Tryd.prog 11 #[(.agg #[.int .u64 (Oc.U (Oc.mk P 0)), .int .u64 (Oc.U (Oc.mk P 1)), .int .u64 (Oc.U (Oc.mk P 2)), .int .u64 (Oc.U (Oc.mk P 3))])] w fun e w' =>
    e = .returned (.agg #[.int .u64 (Oc.U (Oc.mk (fun x => !P x) 0)), .int .u64 (Oc.U (Oc.mk (fun x => !P x) 1)), .int .u64 (Oc.U (Oc.mk (fun x => !P x) 2)), .int .u64 (Oc.U (Oc.mk (fun x => !P x) 3))]) ∧ Below w.heap.size w w' := by
  have h := not_any (Oc.mk P 0) (Oc.mk P 1) (Oc.mk P 2) (Oc.mk P 3) w
  rw [Br.mk_not, Br.mk_not, Br.mk_not, Br.mk_not] at h
  exact h
theorem less_p (P R : Nat → Bool) (w : World) : Calls Tryd.prog 13 #[(.agg #[.int .u64 (Oc.U (Oc.mk P 0)), .int .u64 (Oc.U (Oc.mk P 1)), .int .u64 (Oc.U (Oc.mk P 2)), .int .u64 (Oc.U (Oc.mk P 3))]), (.agg #[.int .u64 (Oc.U (Oc.mk R 0)), .int .u64 (Oc.U (Oc.mk R 1)), .int .u64 (Oc.U (Oc.mk R 2)), .int .u64 (Oc.U (Oc.mk R 3))])] w fun e w' =>
    e = .returned (.agg #[.int .u64 (Oc.U (Oc.mk (fun x => P x && !R x) 0)), .int .u64 (Oc.U (Oc.mk (fun x => P x && !R x) 1)), .int .u64 (Oc.U (Oc.mk (fun x => P x && !R x) 2)), .int .u64 (Oc.U (Oc.mk (fun x => P x && !R x) 3))]) ∧ Below w.heap.size w w' := by
  have h := less_any (Oc.mk P 0) (Oc.mk P 1) (Oc.mk P 2) (Oc.mk P 3) (Oc.mk R 0) (Oc.mk R 1) (Oc.mk R 2) (Oc.mk R 3) w
  rw [Br.mk_not, Br.mk_not, Br.mk_not, Br.mk_not, Br.mk_and, Br.mk_and, Br.mk_and, Br.mk_and] at h
  exact h
end Go.Proofs.YtbpecijdmhablaaDoor
/- What Read of bracket answers: what chapter 5 promises. -/
namespace Go.Proofs.YtbpecijdmhablaaDoor
open Go.RowKit
theorem wrap_pow : ∀ k, k < 64 → IntKind.i64.wrap ((2 ^ k : Nat) : Int) ≠ 0 := by decide +kernel
/-- The flag that is looked at, as the walk asks for it. -/
theorem and_bit (fl : Int) (k : Nat) (hk : k < 64) : (bits .and .i64 fl ((2 ^ k : Nat) : Int) != 0) = (BitVec.ofInt 64 fl).getLsbD k := by
  show (IntKind.i64.wrap ((BitVec.ofInt 64 fl &&& BitVec.ofInt 64 ((2 ^ k : Nat) : Int)).toNat : Int) != 0) = _
  generalize BitVec.ofInt 64 fl = x
  have e : BitVec.ofInt 64 ((2 ^ k : Nat) : Int) = BitVec.twoPow 64 k := by
    apply BitVec.eq_of_toNat_eq
    rw [BitVec.toNat_ofInt, BitVec.toNat_twoPow]
    have : (((2 ^ k : Nat) : Int) % ((2 ^ 64 : Nat) : Int)).toNat = 2 ^ k % 2 ^ 64 := by omega
    exact this
  rw [e, BitVec.and_twoPow]
  cases hb : x.getLsbD k with
  | false => simp; decide
  | true =>
    simp only [if_true, BitVec.toNat_twoPow, bne_iff_ne]
    have h1 : 2 ^ k % 2 ^ 64 = 2 ^ k := Nat.mod_eq_of_lt (Nat.pow_lt_pow_right (by omega) hk)
    rw [h1]
    intro h0
    have h2 : IntKind.i64.wrap ((2 ^ k : Nat) : Int) = 0 := h0
    exact wrap_pow k hk h2
theorem bit2 (fl : Int) : (bits .and .i64 fl 2 != 0) = icB fl := and_bit fl 1 (by omega)
theorem bit4 (fl : Int) : (bits .and .i64 fl 4 != 0) = nlB fl := and_bit fl 2 (by omega)
theorem fold_p (P : Nat → Bool) (w : World) : Calls Tryd.prog 19 #[(.agg #[.int .u64 (Oc.U (Oc.mk P 0)), .int .u64 (Oc.U (Oc.mk P 1)), .int .u64 (Oc.U (Oc.mk P 2)), .int .u64 (Oc.U (Oc.mk P 3))])] w fun e w' =>
    e = .returned (.agg #[.int .u64 (Oc.U (Oc.mk (Cl.fold P) 0)), .int .u64 (Oc.U (Oc.mk (Cl.fold P) 1)), .int .u64 (Oc.U (Oc.mk (Cl.fold P) 2)), .int .u64 (Oc.U (Oc.mk (Cl.fold P) 3))]) ∧ Below w.heap.size w w' := by
  have h := fold_any (Oc.mk P 0) (Oc.mk P 1) (Oc.mk P 2) (Oc.mk P 3) w
  rw [Br.mk_fold P 0 (by omega), Br.mk_fold P 1 (by omega), Br.mk_fold P 2 (by omega), Br.mk_fold P 3 (by omega)] at h
  exact h
set_option maxRecDepth 100000 in
set_option maxHeartbeats 4000000 in
theorem others_no (P : Nat → Bool) (fl : Int) (hfl : nlB fl = false) (w : World) : Calls Tryd.prog 20 #[.agg #[.int .u64 (Oc.U (Oc.mk (P) 0)), .int .u64 (Oc.U (Oc.mk (P) 1)), .int .u64 (Oc.U (Oc.mk (P) 2)), .int .u64 (Oc.U (Oc.mk (P) 3))], .int .i64 fl] w fun e w' =>
    e = .returned (.agg #[.int .u64 (Oc.U (Oc.mk (fun x => !P x) 0)), .int .u64 (Oc.U (Oc.mk (fun x => !P x) 1)), .int .u64 (Oc.U (Oc.mk (fun x => !P x) 2)), .int .u64 (Oc.U (Oc.mk (fun x => !P x) 3))]) ∧ Below w.heap.size w w' := by
  have hb4 := bit4 fl
  rw [hfl] at hb4
  clear hfl
  have eN : (fun x => !(P x || x == 10)) = fun x => !P x && !(x == 10) := by funext x; simp
  have hn := fun w => not_p (fun x => P x || x == 10) w
  rw [show (fun x => !(fun x => P x || x == 10) x) = fun x => !P x && !(x == 10) from eN] at hn
  have HN := Lib.hid hn
  clear eN hn
  go_enter Tryd.func20, Tryd.ntmps20
  go_wp2_with fail
  have hb0 : Below w.heap.size w ((w.alloc (.cells #[.int .u64 (Oc.U (Oc.mk (P) 0)), .int .u64 (Oc.U (Oc.mk (P) 1)), .int .u64 (Oc.U (Oc.mk (P) 2)), .int .u64 (Oc.U (Oc.mk (P) 3))] 25)).alloc (.cells noSet 25)) := by go_grown
  obtain ⟨z0, z1⟩ := two_new w (.cells #[.int .u64 (Oc.U (Oc.mk (P) 0)), .int .u64 (Oc.U (Oc.mk (P) 1)), .int .u64 (Oc.U (Oc.mk (P) 2)), .int .u64 (Oc.U (Oc.mk (P) 3))] 25) (.cells noSet 25)
  have Z0 := Lib.hid z0; have Z1 := Lib.hid z1; have HB0 := Lib.hid hb0
  clear z0 z1 hb0
  generalize World.alloc (World.alloc _ _) _ = W at *
  go_wp2_with (first
    | (refine wpList_load_row rfl 25 (.tmp 2) rfl w.heap.size rfl 25 _ (0, 0) _ Z0.out Tryd.underlying25 rfl (by kernel_rfl) ?_)
    | fail)
  refine (not_p P _).mono ?_
  rintro e w1 ⟨rfl, hb⟩
  have Y1 := Lib.hid (keep_blk hb Z1.out)
  have HB := Lib.hid (HB0.out.trans (hb.mono HB0.out.size))
  clear hb
  go_wp2_with (first
    | (refine wpList_store_row rfl 25 (.tmp 4) (.tmp 14) rfl (w.heap.size + 1) #[.int .u64 (Oc.U (Oc.mk (fun x => !P x) 0)), .int .u64 (Oc.U (Oc.mk (fun x => !P x) 1)), .int .u64 (Oc.U (Oc.mk (fun x => !P x) 2)), .int .u64 (Oc.U (Oc.mk (fun x => !P x) 3))] rfl rfl 25 _ Y1.out (by kernel_rfl) rfl setC_one ?_)
    | fail)
  exact bodyPost_ret (results_cell_row rfl _ _ (w.heap.size + 1) 25 #[.int .u64 (Oc.U (Oc.mk (fun x => !P x) 0)), .int .u64 (Oc.U (Oc.mk (fun x => !P x) 1)), .int .u64 (Oc.U (Oc.mk (fun x => !P x) 2)), .int .u64 (Oc.U (Oc.mk (fun x => !P x) 3))] (0, 0) _ rfl (heap_setRow Y1.out) Tryd.underlying25 rfl (by kernel_rfl)) rfl ⟨rfl, by exact below_setRow HB.out (Nat.le_succ _) _⟩
set_option maxRecDepth 100000 in
set_option maxHeartbeats 4000000 in
theorem others_nl (P : Nat → Bool) (fl : Int) (hfl : nlB fl = true) (w : World) : Calls Tryd.prog 20 #[.agg #[.int .u64 (Oc.U (Oc.mk (P) 0)), .int .u64 (Oc.U (Oc.mk (P) 1)), .int .u64 (Oc.U (Oc.mk (P) 2)), .int .u64 (Oc.U (Oc.mk (P) 3))], .int .i64 fl] w fun e w' =>
    e = .returned (.agg #[.int .u64 (Oc.U (Oc.mk (fun x => !P x && !(x == 10)) 0)), .int .u64 (Oc.U (Oc.mk (fun x => !P x && !(x == 10)) 1)), .int .u64 (Oc.U (Oc.mk (fun x => !P x && !(x == 10)) 2)), .int .u64 (Oc.U (Oc.mk (fun x => !P x && !(x == 10)) 3))]) ∧ Below w.heap.size w w' := by
  have hb4 := bit4 fl
  rw [hfl] at hb4
  clear hfl
  have eN : (fun x => !(P x || x == 10)) = fun x => !P x && !(x == 10) := by funext x; simp
  have hn := fun w => not_p (fun x => P x || x == 10) w
  rw [show (fun x => !(fun x => P x || x == 10) x) = fun x => !P x && !(x == 10) from eN] at hn
  have HN := Lib.hid hn
  clear eN hn
  go_enter Tryd.func20, Tryd.ntmps20
  go_wp2_with fail
  have hb0 : Below w.heap.size w ((w.alloc (.cells #[.int .u64 (Oc.U (Oc.mk (P) 0)), .int .u64 (Oc.U (Oc.mk (P) 1)), .int .u64 (Oc.U (Oc.mk (P) 2)), .int .u64 (Oc.U (Oc.mk (P) 3))] 25)).alloc (.cells noSet 25)) := by go_grown
  obtain ⟨z0, z1⟩ := two_new w (.cells #[.int .u64 (Oc.U (Oc.mk (P) 0)), .int .u64 (Oc.U (Oc.mk (P) 1)), .int .u64 (Oc.U (Oc.mk (P) 2)), .int .u64 (Oc.U (Oc.mk (P) 3))] 25) (.cells noSet 25)
  have Z0 := Lib.hid z0; have Z1 := Lib.hid z1; have HB0 := Lib.hid hb0
  clear z0 z1 hb0
  generalize World.alloc (World.alloc _ _) _ = W at *
  refine Ri.wp_region_frame (by kernel_rfl) (by kernel_rfl) (by kernel_rfl) (by kernel_rfl)
    (fun L v w' => Below w.heap.size w w' ∧ W.heap.size ≤ w'.heap.size ∧ (L 5 = true → w'.heap[w.heap.size]? = some (.cells #[.int .u64 (Oc.U (Oc.mk (fun x => P x || x == 10) 0)), .int .u64 (Oc.U (Oc.mk (fun x => P x || x == 10) 1)), .int .u64 (Oc.U (Oc.mk (fun x => P x || x == 10) 2)), .int .u64 (Oc.U (Oc.mk (fun x => P x || x == 10) 3))] 25)) ∧ (L 5 = false → w'.heap[w.heap.size]? = some (.cells #[.int .u64 (Oc.U (Oc.mk (P) 0)), .int .u64 (Oc.U (Oc.mk (P) 1)), .int .u64 (Oc.U (Oc.mk (P) 2)), .int .u64 (Oc.U (Oc.mk (P) 3))] 25)) ∧ (L 5 = true → L 0 = true) ∧ w'.heap[(w.heap.size + 1)]? = some (.cells noSet 25) ∧ (L 0 = true → v 0 = (.agg #[.int .u64 (Oc.U (Oc.mk (P) 0)), .int .u64 (Oc.U (Oc.mk (P) 1)), .int .u64 (Oc.U (Oc.mk (P) 2)), .int .u64 (Oc.U (Oc.mk (P) 3))])) ∧ (L 1 = true → OneN W.heap.size w' (v 1) 10) ∧ (L 2 = true → v 2 = (.agg #[.int .u64 (Oc.U (Oc.mk (fun b => b == 10) 0)), .int .u64 (Oc.U (Oc.mk (fun b => b == 10) 1)), .int .u64 (Oc.U (Oc.mk (fun b => b == 10) 2)), .int .u64 (Oc.U (Oc.mk (fun b => b == 10) 3))])) ∧ (L 3 = true → Sl2N W.heap.size w' (v 3) (Oc.mk (P) 0) (Oc.mk (P) 1) (Oc.mk (P) 2) (Oc.mk (P) 3) (Oc.mk (fun b => b == 10) 0) (Oc.mk (fun b => b == 10) 1) (Oc.mk (fun b => b == 10) 2) (Oc.mk (fun b => b == 10) 3)) ∧ (L 4 = true → v 4 = (.agg #[.int .u64 (Oc.U (Oc.mk (fun x => P x || x == 10) 0)), .int .u64 (Oc.U (Oc.mk (fun x => P x || x == 10) 1)), .int .u64 (Oc.U (Oc.mk (fun x => P x || x == 10) 2)), .int .u64 (Oc.U (Oc.mk (fun x => P x || x == 10) 3))])))
    ?_ ?_ ?_
  · exact ⟨HB0.out.drew, Nat.le_refl _, (by simp), (fun _ => Z0.out), by simp, Z1.out, by simp, by simp, by simp, by simp, by simp⟩
  · intro i hi9 L v w9 xa hI hL hd hv ho
    have hi' : i = 0 ∨ i = 1 ∨ i = 2 ∨ i = 3 ∨ i = 4 ∨ i = 5 := by simp at hi9; omega
    obtain ⟨hb, hz, qn, qo, qm0, k0, q0, q1, q2, q3, q4⟩ := hI
    rcases hi' with rfl | rfl | rfl | rfl | rfl | rfl
    · have e2 : xa.tmps.getD 2 undef = .pointer (some ⟨w.heap.size, 0, none⟩) := ho 2 (by kernel_rfl)
      refine Ri.step_plain rfl rfl (fun K' hK => ?_)
      have hl9 : L 5 = false := by cases h : L 5 with | false => rfl | true => rw [qm0 h] at hL; cases hL
      refine wp_load_row _ _ rfl _ e2 _ _ _ _ (qo hl9) Tryd.underlying25 rfl (by kernel_rfl) ?_
      exact hK _ _ ⟨_, _, rfl, rfl, hb, hz, qn, qo, (fun _ => rfl), k0, fun _ => rfl, q1, q2, q3, q4⟩
    · refine Ri.step_plain rfl rfl (fun K' hK => ?_)
      refine wp_bytes1 _ rfl ?_
      exact hK _ _ ⟨_, _, rfl, rfl, hb.alloc hb.size _, Nat.le_trans hz (by simp), (fun l => heap_alloc_lt (qn l)), (fun l => heap_alloc_lt (qo l)), qm0, (heap_alloc_lt k0), q0, fun _ => ⟨_, hz, rfl, heap_alloc_new _ _⟩, q2, fun l => (q3 l).below ((Below.refl _ _).alloc (Nat.le_refl _) _), q4⟩
    · have l0 : L 1 = true := by have := hd _ rfl; simp [Region.binds] at this; simp [this]
      have f1 := hv 1 9 rfl l0
      refine Ri.step_plain rfl rfl (fun K' hK => ?_)
      go_simp
      refine (one_any (by omega) (q1 l0).plain).mono ?_
      rintro e w8 ⟨rfl, hb8⟩
      exact hK _ _ ⟨_, _, rfl, rfl, hb.trans (hb8.mono hb.size), Nat.le_trans hz hb8.size, (fun l => keep_blk hb8 (qn l)), (fun l => keep_blk hb8 (qo l)), qm0, (keep_blk hb8 k0), q0, fun l => (q1 l).below hb8, fun _ => rfl, fun l => (q3 l).below hb8, q4⟩
    · have l0 : L 0 = true ∧ L 2 = true := by have := hd _ rfl; simp [Region.binds] at this; simp [this]
      have f0 := (hv 0 8 rfl l0.1).trans (q0 l0.1)
      have f2 := (hv 2 10 rfl l0.2).trans (q2 l0.2)
      refine Ri.step_plain rfl rfl (fun K' hK => ?_)
      refine wp_pair _ _ rfl f0 f2 ?_
      exact hK _ _ ⟨_, _, rfl, rfl, hb.alloc hb.size _, Nat.le_trans hz (by simp), (fun l => heap_alloc_lt (qn l)), (fun l => heap_alloc_lt (qo l)), qm0, (heap_alloc_lt k0), q0, fun l => (q1 l).below ((Below.refl _ _).alloc (Nat.le_refl _) _), q2, fun _ => ⟨_, hz, rfl, heap_alloc_new _ _⟩, q4⟩
    · have l0 : L 3 = true := by have := hd _ rfl; simp [Region.binds] at this; simp [this]
      have f3 := hv 3 11 rfl l0
      refine Ri.step_plain rfl rfl (fun K' hK => ?_)
      go_simp
      refine (join_p (q3 l0).plain).mono ?_
      rintro e w8 ⟨rfl, hb8⟩
      exact hK _ _ ⟨_, _, rfl, rfl, hb.trans (hb8.mono hb.size), Nat.le_trans hz hb8.size, (fun l => keep_blk hb8 (qn l)), (fun l => keep_blk hb8 (qo l)), qm0, (keep_blk hb8 k0), q0, fun l => (q1 l).below hb8, q2, fun l => (q3 l).below hb8, fun _ => rfl⟩
    · have l0 : L 4 = true := by have := hd _ rfl; simp [Region.binds] at this; simp [this]
      have f4 := (hv 4 12 rfl l0).trans (q4 l0)
      have e2 : xa.tmps.getD 2 undef = .pointer (some ⟨w.heap.size, 0, none⟩) := ho 2 (by kernel_rfl)
      refine Ri.step_plain rfl rfl (fun K' hK => ?_)
      have h0 : L 0 = true := by have := hd _ rfl; simp [Region.binds] at this; simp [this]
      refine wp_store_row _ _ _ rfl w.heap.size #[.int .u64 (Oc.U (Oc.mk (fun x => P x || x == 10) 0)), .int .u64 (Oc.U (Oc.mk (fun x => P x || x == 10) 1)), .int .u64 (Oc.U (Oc.mk (fun x => P x || x == 10) 2)), .int .u64 (Oc.U (Oc.mk (fun x => P x || x == 10) 3))] e2 f4 25 _ (qo hL) (by kernel_rfl) (by kernel_rfl) setC_one ?_
      exact hK _ _ ⟨_, undef, rfl, rfl, below_setRow hb (Nat.le_refl _) _, by simpa using hz, (fun _ => heap_setRow (qo hL)), (fun h => by cases h), (fun _ => h0), (heap_setRow_other _ _ _ (by omega)).trans k0, q0, fun l => (q1 l).setRow (block_lt Z0.out) _, q2, fun l => (q3 l).setRow (block_lt Z0.out) _, q4⟩
  · rintro v w9 ⟨hb, hz, qn, -, -, k0, -, -, -, -, -⟩
    have zN := qn rfl; clear qn
    simp only [Ri.frame, List.zipIdx, List.foldl_cons, List.foldl_nil, if_true, List.setIfInBounds_toArray, List.set_cons_zero, List.set_cons_succ, Nat.reduceAdd]
    generalize v 0 = y0; generalize v 1 = y1; generalize v 2 = y2; generalize v 3 = y3; generalize v 4 = y4
    go_wp2_with (first
      | (refine wpList_load_row rfl 25 (.tmp 2) rfl w.heap.size rfl 25 _ (0, 0) _ zN Tryd.underlying25 rfl (by kernel_rfl) ?_)
      | fail)
    refine (HN.out _).mono ?_
    rintro e w1 ⟨rfl, hb1⟩
    have Y1 := Lib.hid (keep_blk hb1 k0)
    have HB := Lib.hid (hb.trans (hb1.mono hb.size))
    clear hb1
    go_wp2_with (first
      | (refine wpList_store_row rfl 25 (.tmp 4) (.tmp 14) rfl (w.heap.size + 1) #[.int .u64 (Oc.U (Oc.mk (fun x => !P x && !(x == 10)) 0)), .int .u64 (Oc.U (Oc.mk (fun x => !P x && !(x == 10)) 1)), .int .u64 (Oc.U (Oc.mk (fun x => !P x && !(x == 10)) 2)), .int .u64 (Oc.U (Oc.mk (fun x => !P x && !(x == 10)) 3))] rfl rfl 25 _ Y1.out (by kernel_rfl) rfl setC_one ?_)
      | fail)
    exact bodyPost_ret (results_cell_row rfl _ _ (w.heap.size + 1) 25 #[.int .u64 (Oc.U (Oc.mk (fun x => !P x && !(x == 10)) 0)), .int .u64 (Oc.U (Oc.mk (fun x => !P x && !(x == 10)) 1)), .int .u64 (Oc.U (Oc.mk (fun x => !P x && !(x == 10)) 2)), .int .u64 (Oc.U (Oc.mk (fun x => !P x && !(x == 10)) 3))] (0, 0) _ rfl (heap_setRow Y1.out) Tryd.underlying25 rfl (by kernel_rfl)) rfl ⟨rfl, by exact below_setRow HB.out (Nat.le_succ _) _⟩
theorem one_prefix (l : List UInt8) (x : UInt8) : [x].isPrefixOf l = ((l[0]?).elim 256 UInt8.toNat == x.toNat) := by
  have hx := UInt8.toNat_lt x
  match l with
  | [] => simp; omega
  | a :: r =>
    simp only [List.isPrefixOf, Bool.and_true, List.getElem?_cons_zero, Option.elim_some, u8_beq]
    exact Bool.beq_comm
theorem caret_at (s : ByteArray) (i : Nat) (b : Bool) (hb : (bt s i == 94) = b) (w : World) :
    Calls Tryd.prog 17 #[.string (s.extract i s.size), .string ⟨#[94]⟩] w fun e w' => e = .returned (.bool b) ∧ w = w' := by
  refine (Tryd.strings_HasPrefix (s.extract i s.size) ⟨#[94]⟩ w).mono ?_
  rintro e w' ⟨rfl, rfl⟩
  refine ⟨?_, rfl⟩
  rw [← hb]
  have := bt_ext s i 0
  rw [bt_list, Nat.add_zero] at this
  rw [← this]
  exact ret_bool (one_prefix _ 94)
set_option maxRecDepth 100000 in
set_option maxHeartbeats 4000000 in
theorem read_neg (A : Nat → Addr) (s : ByteArray) (_hs : s.size ≤ 4294967280) (at_ : Int) (h : at_ < 0) (fl : Int) (w : World) (hE : BrEnv w A) :
    Calls Tryd.prog 7 #[.string s, .int .i64 at_, .int .i64 fl] w (ReadEnd A (.err 15 (-1)) w) := by
  have hg : 0 < w.heap.size := block_lt_of_cell (hE.errs 14 (by omega)).1
  have HE := Lib.hid hE
  clear hE
  go_enter Tryd.func7, Tryd.ntmps7
  go_wp2_with fail
  have hb0 : Below w.heap.size w (w.alloc (.cells noSet 25)) := by go_grown
  have z0 := heap_alloc_new w (.cells noSet 25)
  have c14 : (w.alloc (.cells noSet 25)).cell? ⟨0, 0, none⟩ = some (.iface 115 (.pointer (some (A 14)))) := ((HE.out.below hb0).errs 14 (by omega)).1
  generalize World.alloc w _ = W at *
  obtain ⟨d0, e0, d1, e1', d2, e2, d3, e3, r0, r1, r2, r3⟩ := four_st z0
  have HB := Lib.hid hb0
  clear hb0 z0
  go_region
  all_goals
    go_wp2
    have hb := HB.out
    refine bodyPost_ret (v := .tuple #[.agg noSet, .int .i64 0, .iface 115 (.pointer (some (A 14)))]) (by simp [results, Tryd.results7, go_sem, r0, r1, r2, r3]) rfl ⟨⟨_, rfl, 14, [], by omega, rfl, .base, rfl⟩, ?_⟩
    go_grown
set_option maxRecDepth 100000 in
set_option maxHeartbeats 4000000 in
theorem read_far (A : Nat → Addr) (s : ByteArray) (_hs : s.size ≤ 4294967280) (a : Nat) (h : s.size ≤ a) (fl : Int) (w : World) (hE : BrEnv w A) :
    Calls Tryd.prog 7 #[.string s, .int .i64 a, .int .i64 fl] w (ReadEnd A (.err 15 (-1)) w) := by
  have h0 : (0 : Int) ≤ a := by omega
  have h1 : decide (s.size ≤ a) = true := by simpa using h
  have hg : 0 < w.heap.size := block_lt_of_cell (hE.errs 14 (by omega)).1
  have HE := Lib.hid hE
  clear hE
  go_enter Tryd.func7, Tryd.ntmps7
  go_wp2_with fail
  have hb0 : Below w.heap.size w (w.alloc (.cells noSet 25)) := by go_grown
  have z0 := heap_alloc_new w (.cells noSet 25)
  have c14 : (w.alloc (.cells noSet 25)).cell? ⟨0, 0, none⟩ = some (.iface 115 (.pointer (some (A 14)))) := ((HE.out.below hb0).errs 14 (by omega)).1
  generalize World.alloc w _ = W at *
  obtain ⟨d0, e0, d1, e1', d2, e2, d3, e3, r0, r1, r2, r3⟩ := four_st z0
  have HB := Lib.hid hb0
  clear hb0 z0
  go_region
  all_goals
    go_wp2
    have hb := HB.out
    refine bodyPost_ret (v := .tuple #[.agg noSet, .int .i64 0, .iface 115 (.pointer (some (A 14)))]) (by simp [results, Tryd.results7, go_sem, r0, r1, r2, r3]) rfl ⟨⟨_, rfl, 14, [], by omega, rfl, .base, rfl⟩, ?_⟩
    go_grown
set_option maxRecDepth 100000 in
set_option maxHeartbeats 4000000 in
theorem read_other (A : Nat → Addr) (s : ByteArray) (_hs : s.size ≤ 4294967280) (a : Nat) (h : a < s.size) (h2 : bt s a ≠ 91) (fl : Int) (w : World) (hE : BrEnv w A) :
    Calls Tryd.prog 7 #[.string s, .int .i64 a, .int .i64 fl] w (ReadEnd A (.err 15 (-1)) w) := by
  have h0 : (0 : Int) ≤ a := by omega
  have h1 : decide (s.size ≤ a) = false := by simpa using h
  have e1 : ((s[a].toNat : Int) != 91) = true := by rw [bt_at h]; simp; omega
  clear h2
  have hg : 0 < w.heap.size := block_lt_of_cell (hE.errs 14 (by omega)).1
  have HE := Lib.hid hE
  clear hE
  go_enter Tryd.func7, Tryd.ntmps7
  go_wp2_with fail
  have hb0 : Below w.heap.size w (w.alloc (.cells noSet 25)) := by go_grown
  have z0 := heap_alloc_new w (.cells noSet 25)
  have c14 : (w.alloc (.cells noSet 25)).cell? ⟨0, 0, none⟩ = some (.iface 115 (.pointer (some (A 14)))) := ((HE.out.below hb0).errs 14 (by omega)).1
  generalize World.alloc w _ = W at *
  obtain ⟨d0, e0, d1, e1', d2, e2, d3, e3, r0, r1, r2, r3⟩ := four_st z0
  have HB := Lib.hid hb0
  clear hb0 z0
  go_region
  all_goals
    go_wp2
    have hb := HB.out
    refine bodyPost_ret (v := .tuple #[.agg noSet, .int .i64 0, .iface 115 (.pointer (some (A 14)))]) (by simp [results, Tryd.results7, go_sem, r0, r1, r2, r3]) rfl ⟨⟨_, rfl, 14, [], by omega, rfl, .base, rfl⟩, ?_⟩
    go_grown
set_option maxRecDepth 100000 in
set_option maxHeartbeats 4000000 in
theorem read_err_false (A : Nat → Addr) (s : ByteArray) (hs : s.size ≤ 4294967280) (a : Nat) (ha : bt s a = 91) (ht : (bt s (a + 1) == 94) = false) (c : Nat) (q : Int) (hR : Br.items (bt s) s.size a (s.size + 1) (a + 1) (fun _ => false) false = .err c q) (fl : Int) (w : World) (hE : BrEnv w A) :
    Calls Tryd.prog 7 #[.string s, .int .i64 a, .int .i64 fl] w (ReadEnd A (.err c q) w) := by
  have hal := (bt_txt s).lt ha (by omega)
  have h0 : (0 : Int) ≤ a := by omega
  have h1 : decide (s.size ≤ a) = false := by simp; omega
  have e1 : ((s[a].toNat : Int) != 91) = false := by rw [bt_at hal, ha]; rfl
  have hw1 : IntKind.i64.wrap ((a : Int) + 1) = (a : Int) + 1 := IntWalk.i64_in _ (by omega)
  have hw2 : IntKind.i64.wrap ((a : Int) + 1 + 1) = (a : Int) + 1 + 1 := IntWalk.i64_in _ (by omega)
  have h3 : (0 : Int) ≤ (a : Int) + 1 := by omega
  have h4 : (a : Int) + 1 ≤ s.size := by omega
  have HC := Lib.hid (caret_at s (a + 1) _ ht)
  have hit := fun w hE => britems_any A s hs a (a + 1) (by omega) _ hR w hE
  rw [show ((a + 1 : Nat) : Int) = (a : Int) + 1 by omega] at hit
  have HI := Lib.hid hit; have HE := Lib.hid hE
  clear hit hE ha ht hR
  go_enter Tryd.func7, Tryd.ntmps7
  go_wp2_with fail
  refine (HC.out _).mono ?_; rintro e w' ⟨rfl, rfl⟩
  go_wp2_with fail
  have hb0 : Below w.heap.size w ((w.alloc (.cells noSet 25)).alloc (.cells #[.string s, .int .i64 a] 45)) := by go_grown
  obtain ⟨z0, z1⟩ := two_new w (.cells noSet 25) (.cells #[.string s, .int .i64 a] 45)
  have hsz : ((w.alloc (.cells noSet 25)).alloc (.cells #[.string s, .int .i64 a] 45)).heap.size = w.heap.size + 2 := by simp
  generalize World.alloc (World.alloc _ _) _ = W at *
  have HB0 := Lib.hid hb0; have Z0 := Lib.hid z0; have HSZ := Lib.hid hsz
  clear hb0 z0 z1 hsz
  refine (HI.out _ (HE.out.below HB0.out)).mono ?_
  intro e w1 he
  obtain ⟨v, rfl, hv, hb⟩ := he.err rfl
  obtain ⟨q', rfl⟩ := hv.iface
  have hbA : Below W.heap.size W (w1.alloc (.cells noSet 25)) := hb.alloc hb.size _
  have Y0 := Lib.hid (keep_blk hbA Z0.out)
  have HB := Lib.hid (HB0.out.trans (hbA.mono HB0.out.size))
  have HV := Lib.hid (hv.later ((Below.refl w1.heap.size w1).alloc (Nat.le_refl _) (.cells noSet 25)))
  clear hb hbA hv he
  go_wp2_with (first
    | (refine wpList_store_row rfl 25 (.tmp 6) (.tmp 52) rfl (w.heap.size) noSet rfl rfl 25 _ Y0.out (by kernel_rfl) rfl setC_one ?_)
    | fail)
  exact bodyPost_ret (results_row_two rfl _ _ w.heap.size 25 noSet (0, 0) _ _ _ rfl rfl rfl (heap_setRow Y0.out) Tryd.underlying25 rfl (by kernel_rfl)) rfl ⟨⟨_, rfl, (HV.out.setRow (by rw [HSZ.out]; omega) noSet).at⟩, by exact below_setRow HB.out (Nat.le_refl _) _⟩
set_option maxRecDepth 100000 in
set_option maxHeartbeats 4000000 in
theorem read_ok_false (A : Nat → Addr) (s : ByteArray) (hs : s.size ≤ 4294967280) (a : Nat) (ha : bt s a = 91) (ht : (bt s (a + 1) == 94) = false) (P : Nat → Bool) (j : Nat) (hR : Br.items (bt s) s.size a (s.size + 1) (a + 1) (fun _ => false) false = .ok P j) (fl : Int) (hic : icB fl = false) (nl : Bool) (w : World) (hE : BrEnv w A) :
    Calls Tryd.prog 7 #[.string s, .int .i64 a, .int .i64 fl] w (ReadEnd A (.ok (Br.fin false nl false P) (j + 1)) w) := by
  have hjn := (Br.items_ok (bt_txt s) (by have := (bt_txt s).lt ha (by omega); omega) hR).2.1
  have hwj : IntKind.i64.wrap ((j : Int) + 1) = (j : Int) + 1 := IntWalk.i64_in _ (by omega)
  have hb2 := bit2 fl
  rw [hic] at hb2
  have hal := (bt_txt s).lt ha (by omega)
  have h0 : (0 : Int) ≤ a := by omega
  have h1 : decide (s.size ≤ a) = false := by simp; omega
  have e1 : ((s[a].toNat : Int) != 91) = false := by rw [bt_at hal, ha]; rfl
  have hw1 : IntKind.i64.wrap ((a : Int) + 1) = (a : Int) + 1 := IntWalk.i64_in _ (by omega)
  have hw2 : IntKind.i64.wrap ((a : Int) + 1 + 1) = (a : Int) + 1 + 1 := IntWalk.i64_in _ (by omega)
  have h3 : (0 : Int) ≤ (a : Int) + 1 := by omega
  have h4 : (a : Int) + 1 ≤ s.size := by omega
  have HC := Lib.hid (caret_at s (a + 1) _ ht)
  have hit := fun w hE => britems_any A s hs a (a + 1) (by omega) _ hR w hE
  rw [show ((a + 1 : Nat) : Int) = (a : Int) + 1 by omega] at hit
  have HI := Lib.hid hit; have HE := Lib.hid hE
  clear hit hE ha ht hR
  clear hic
  go_enter Tryd.func7, Tryd.ntmps7
  go_wp2_with fail
  refine (HC.out _).mono ?_; rintro e w' ⟨rfl, rfl⟩
  go_wp2_with fail
  have hb0 : Below w.heap.size w ((w.alloc (.cells noSet 25)).alloc (.cells #[.string s, .int .i64 a] 45)) := by go_grown
  obtain ⟨z0, z1⟩ := two_new w (.cells noSet 25) (.cells #[.string s, .int .i64 a] 45)
  have hsz : ((w.alloc (.cells noSet 25)).alloc (.cells #[.string s, .int .i64 a] 45)).heap.size = w.heap.size + 2 := by simp
  generalize World.alloc (World.alloc _ _) _ = W at *
  have HB0 := Lib.hid hb0; have Z0 := Lib.hid z0; have HSZ := Lib.hid hsz
  clear hb0 z0 z1 hsz
  refine (HI.out _ (HE.out.below HB0.out)).mono ?_
  intro e w1 he
  obtain ⟨rfl, hb⟩ := he.ok rfl
  have hbA : Below W.heap.size W (w1.alloc (.cells #[.int .u64 (Oc.U (Oc.mk (P) 0)), .int .u64 (Oc.U (Oc.mk (P) 1)), .int .u64 (Oc.U (Oc.mk (P) 2)), .int .u64 (Oc.U (Oc.mk (P) 3))] 25)) := hb.alloc hb.size _
  have Y0 := Lib.hid (keep_blk hbA Z0.out)
  have Y1 := Lib.hid (heap_alloc_new w1 (.cells #[.int .u64 (Oc.U (Oc.mk (P) 0)), .int .u64 (Oc.U (Oc.mk (P) 1)), .int .u64 (Oc.U (Oc.mk (P) 2)), .int .u64 (Oc.U (Oc.mk (P) 3))] 25))
  have HB := Lib.hid (HB0.out.trans (hbA.mono HB0.out.size))
  have hlt : w.heap.size < w1.heap.size := by have := hb.size; have := HSZ.out; omega
  clear hb hbA he
  go_wp2_with (first
    | (refine wpList_load_row rfl 25 (.tmp 12) rfl (w1.heap.size) rfl 25 _ (0, 0) _ Y1.out Tryd.underlying25 rfl (by kernel_rfl) ?_)
    | (refine wpList_store_row rfl 25 (.tmp 6) (.tmp 63) rfl (w.heap.size) #[.int .u64 (Oc.U (Oc.mk (P) 0)), .int .u64 (Oc.U (Oc.mk (P) 1)), .int .u64 (Oc.U (Oc.mk (P) 2)), .int .u64 (Oc.U (Oc.mk (P) 3))] rfl rfl 25 _ Y0.out (by kernel_rfl) rfl setC_one ?_)
    | fail)
  exact bodyPost_ret (results_row_two rfl _ _ w.heap.size 25 #[.int .u64 (Oc.U (Oc.mk (P) 0)), .int .u64 (Oc.U (Oc.mk (P) 1)), .int .u64 (Oc.U (Oc.mk (P) 2)), .int .u64 (Oc.U (Oc.mk (P) 3))] (0, 0) _ _ _ rfl rfl rfl (heap_setRow Y0.out) Tryd.underlying25 rfl (by kernel_rfl)) rfl ⟨by exact rfl, by exact below_setRow HB.out (Nat.le_refl _) _⟩
set_option maxRecDepth 100000 in
set_option maxHeartbeats 4000000 in
theorem read_ok_false_ic (A : Nat → Addr) (s : ByteArray) (hs : s.size ≤ 4294967280) (a : Nat) (ha : bt s a = 91) (ht : (bt s (a + 1) == 94) = false) (P : Nat → Bool) (j : Nat) (hR : Br.items (bt s) s.size a (s.size + 1) (a + 1) (fun _ => false) false = .ok P j) (fl : Int) (hic : icB fl = true) (nl : Bool) (w : World) (hE : BrEnv w A) :
    Calls Tryd.prog 7 #[.string s, .int .i64 a, .int .i64 fl] w (ReadEnd A (.ok (Br.fin true nl false P) (j + 1)) w) := by
  have hjn := (Br.items_ok (bt_txt s) (by have := (bt_txt s).lt ha (by omega); omega) hR).2.1
  have hwj : IntKind.i64.wrap ((j : Int) + 1) = (j : Int) + 1 := IntWalk.i64_in _ (by omega)
  have hb2 := bit2 fl
  rw [hic] at hb2
  have hal := (bt_txt s).lt ha (by omega)
  have h0 : (0 : Int) ≤ a := by omega
  have h1 : decide (s.size ≤ a) = false := by simp; omega
  have e1 : ((s[a].toNat : Int) != 91) = false := by rw [bt_at hal, ha]; rfl
  have hw1 : IntKind.i64.wrap ((a : Int) + 1) = (a : Int) + 1 := IntWalk.i64_in _ (by omega)
  have hw2 : IntKind.i64.wrap ((a : Int) + 1 + 1) = (a : Int) + 1 + 1 := IntWalk.i64_in _ (by omega)
  have h3 : (0 : Int) ≤ (a : Int) + 1 := by omega
  have h4 : (a : Int) + 1 ≤ s.size := by omega
  have HC := Lib.hid (caret_at s (a + 1) _ ht)
  have hit := fun w hE => britems_any A s hs a (a + 1) (by omega) _ hR w hE
  rw [show ((a + 1 : Nat) : Int) = (a : Int) + 1 by omega] at hit
  have HI := Lib.hid hit; have HE := Lib.hid hE
  clear hit hE ha ht hR
  clear hic
  go_enter Tryd.func7, Tryd.ntmps7
  go_wp2_with fail
  refine (HC.out _).mono ?_; rintro e w' ⟨rfl, rfl⟩
  go_wp2_with fail
  have hb0 : Below w.heap.size w ((w.alloc (.cells noSet 25)).alloc (.cells #[.string s, .int .i64 a] 45)) := by go_grown
  obtain ⟨z0, z1⟩ := two_new w (.cells noSet 25) (.cells #[.string s, .int .i64 a] 45)
  have hsz : ((w.alloc (.cells noSet 25)).alloc (.cells #[.string s, .int .i64 a] 45)).heap.size = w.heap.size + 2 := by simp
  generalize World.alloc (World.alloc _ _) _ = W at *
  have HB0 := Lib.hid hb0; have Z0 := Lib.hid z0; have HSZ := Lib.hid hsz
  clear hb0 z0 z1 hsz
  refine (HI.out _ (HE.out.below HB0.out)).mono ?_
  intro e w1 he
  obtain ⟨rfl, hb⟩ := he.ok rfl
  have hbA : Below W.heap.size W (w1.alloc (.cells #[.int .u64 (Oc.U (Oc.mk (P) 0)), .int .u64 (Oc.U (Oc.mk (P) 1)), .int .u64 (Oc.U (Oc.mk (P) 2)), .int .u64 (Oc.U (Oc.mk (P) 3))] 25)) := hb.alloc hb.size _
  have Y0 := Lib.hid (keep_blk hbA Z0.out)
  have Y1 := Lib.hid (heap_alloc_new w1 (.cells #[.int .u64 (Oc.U (Oc.mk (P) 0)), .int .u64 (Oc.U (Oc.mk (P) 1)), .int .u64 (Oc.U (Oc.mk (P) 2)), .int .u64 (Oc.U (Oc.mk (P) 3))] 25))
  have HB := Lib.hid (HB0.out.trans (hbA.mono HB0.out.size))
  have hlt : w.heap.size < w1.heap.size := by have := hb.size; have := HSZ.out; omega
  clear hb hbA he
  go_wp2_with (first
    | (refine wpList_load_row rfl 25 (.tmp 12) rfl (w1.heap.size) rfl 25 _ (0, 0) _ Y1.out Tryd.underlying25 rfl (by kernel_rfl) ?_)
    | fail)
  refine (fold_p P _).mono ?_
  rintro e w2 ⟨rfl, hb⟩
  have Y0a := Lib.hid (keep_blk hb Y0.out)
  have Y1a := Lib.hid (keep_blk hb Y1.out)
  have HBa := Lib.hid (HB.out.trans (hb.mono HB.out.size))
  have Y0b : Hid ((w2.setRow w1.heap.size #[.int .u64 (Oc.U (Oc.mk (Cl.fold P) 0)), .int .u64 (Oc.U (Oc.mk (Cl.fold P) 1)), .int .u64 (Oc.U (Oc.mk (Cl.fold P) 2)), .int .u64 (Oc.U (Oc.mk (Cl.fold P) 3))]).heap[w.heap.size]? = some (.cells noSet 25)) := Lib.hid ((heap_setRow_other _ _ _ (by omega)).trans Y0a.out)
  have Y1b : Hid ((w2.setRow w1.heap.size #[.int .u64 (Oc.U (Oc.mk (Cl.fold P) 0)), .int .u64 (Oc.U (Oc.mk (Cl.fold P) 1)), .int .u64 (Oc.U (Oc.mk (Cl.fold P) 2)), .int .u64 (Oc.U (Oc.mk (Cl.fold P) 3))]).heap[w1.heap.size]? = some (.cells #[.int .u64 (Oc.U (Oc.mk (Cl.fold P) 0)), .int .u64 (Oc.U (Oc.mk (Cl.fold P) 1)), .int .u64 (Oc.U (Oc.mk (Cl.fold P) 2)), .int .u64 (Oc.U (Oc.mk (Cl.fold P) 3))] 25)) := Lib.hid (heap_setRow Y1a.out)
  have HBb : Hid (Below w.heap.size w (w2.setRow w1.heap.size #[.int .u64 (Oc.U (Oc.mk (Cl.fold P) 0)), .int .u64 (Oc.U (Oc.mk (Cl.fold P) 1)), .int .u64 (Oc.U (Oc.mk (Cl.fold P) 2)), .int .u64 (Oc.U (Oc.mk (Cl.fold P) 3))])) := Lib.hid (below_setRow HBa.out (Nat.le_of_lt hlt) _)
  clear hb
  go_wp2_with (first
    | (refine wpList_load_row rfl 25 (.tmp 12) rfl (w1.heap.size) rfl 25 _ (0, 0) _ Y1b.out Tryd.underlying25 rfl (by kernel_rfl) ?_)
    | (refine wpList_store_row rfl 25 (.tmp 12) (.tmp 58) rfl (w1.heap.size) #[.int .u64 (Oc.U (Oc.mk (Cl.fold P) 0)), .int .u64 (Oc.U (Oc.mk (Cl.fold P) 1)), .int .u64 (Oc.U (Oc.mk (Cl.fold P) 2)), .int .u64 (Oc.U (Oc.mk (Cl.fold P) 3))] rfl rfl 25 _ Y1a.out (by kernel_rfl) rfl setC_one ?_)
    | (refine wpList_store_row rfl 25 (.tmp 6) (.tmp 63) rfl (w.heap.size) #[.int .u64 (Oc.U (Oc.mk (Cl.fold P) 0)), .int .u64 (Oc.U (Oc.mk (Cl.fold P) 1)), .int .u64 (Oc.U (Oc.mk (Cl.fold P) 2)), .int .u64 (Oc.U (Oc.mk (Cl.fold P) 3))] rfl rfl 25 _ Y0b.out (by kernel_rfl) rfl setC_one ?_)
    | fail)
  exact bodyPost_ret (results_row_two rfl _ _ w.heap.size 25 #[.int .u64 (Oc.U (Oc.mk (Cl.fold P) 0)), .int .u64 (Oc.U (Oc.mk (Cl.fold P) 1)), .int .u64 (Oc.U (Oc.mk (Cl.fold P) 2)), .int .u64 (Oc.U (Oc.mk (Cl.fold P) 3))] (0, 0) _ _ _ rfl rfl rfl (heap_setRow Y0b.out) Tryd.underlying25 rfl (by kernel_rfl)) rfl ⟨by exact rfl, by exact below_setRow HBb.out (Nat.le_refl _) _⟩
set_option maxRecDepth 100000 in
set_option maxHeartbeats 4000000 in
theorem read_err_true (A : Nat → Addr) (s : ByteArray) (hs : s.size ≤ 4294967280) (a : Nat) (ha : bt s a = 91) (ht : (bt s (a + 1) == 94) = true) (c : Nat) (q : Int) (hR : Br.items (bt s) s.size a (s.size + 1) (a + 2) (fun _ => false) false = .err c q) (fl : Int) (w : World) (hE : BrEnv w A) :
    Calls Tryd.prog 7 #[.string s, .int .i64 a, .int .i64 fl] w (ReadEnd A (.err c q) w) := by
  have hal := (bt_txt s).lt ha (by omega)
  have h0 : (0 : Int) ≤ a := by omega
  have h1 : decide (s.size ≤ a) = false := by simp; omega
  have e1 : ((s[a].toNat : Int) != 91) = false := by rw [bt_at hal, ha]; rfl
  have hw1 : IntKind.i64.wrap ((a : Int) + 1) = (a : Int) + 1 := IntWalk.i64_in _ (by omega)
  have hw2 : IntKind.i64.wrap ((a : Int) + 1 + 1) = (a : Int) + 1 + 1 := IntWalk.i64_in _ (by omega)
  have h3 : (0 : Int) ≤ (a : Int) + 1 := by omega
  have h4 : (a : Int) + 1 ≤ s.size := by omega
  have HC := Lib.hid (caret_at s (a + 1) _ ht)
  have hal2 := (bt_txt s).lt (beq_iff_eq.1 ht) (by omega)
  have hit := fun w hE => britems_any A s hs a (a + 2) (by omega) _ hR w hE
  rw [show ((a + 2 : Nat) : Int) = (a : Int) + 1 + 1 by omega] at hit
  have HI := Lib.hid hit; have HE := Lib.hid hE
  clear hit hE ha ht hR
  go_enter Tryd.func7, Tryd.ntmps7
  go_wp2_with fail
  refine (HC.out _).mono ?_; rintro e w' ⟨rfl, rfl⟩
  go_wp2_with fail
  have hb0 : Below w.heap.size w ((w.alloc (.cells noSet 25)).alloc (.cells #[.string s, .int .i64 a] 45)) := by go_grown
  obtain ⟨z0, z1⟩ := two_new w (.cells noSet 25) (.cells #[.string s, .int .i64 a] 45)
  have hsz : ((w.alloc (.cells noSet 25)).alloc (.cells #[.string s, .int .i64 a] 45)).heap.size = w.heap.size + 2 := by simp
  generalize World.alloc (World.alloc _ _) _ = W at *
  have HB0 := Lib.hid hb0; have Z0 := Lib.hid z0; have HSZ := Lib.hid hsz
  clear hb0 z0 z1 hsz
  refine (HI.out _ (HE.out.below HB0.out)).mono ?_
  intro e w1 he
  obtain ⟨v, rfl, hv, hb⟩ := he.err rfl
  obtain ⟨q', rfl⟩ := hv.iface
  have hbA : Below W.heap.size W (w1.alloc (.cells noSet 25)) := hb.alloc hb.size _
  have Y0 := Lib.hid (keep_blk hbA Z0.out)
  have HB := Lib.hid (HB0.out.trans (hbA.mono HB0.out.size))
  have HV := Lib.hid (hv.later ((Below.refl w1.heap.size w1).alloc (Nat.le_refl _) (.cells noSet 25)))
  clear hb hbA hv he
  go_wp2_with (first
    | (refine wpList_store_row rfl 25 (.tmp 6) (.tmp 52) rfl (w.heap.size) noSet rfl rfl 25 _ Y0.out (by kernel_rfl) rfl setC_one ?_)
    | fail)
  exact bodyPost_ret (results_row_two rfl _ _ w.heap.size 25 noSet (0, 0) _ _ _ rfl rfl rfl (heap_setRow Y0.out) Tryd.underlying25 rfl (by kernel_rfl)) rfl ⟨⟨_, rfl, (HV.out.setRow (by rw [HSZ.out]; omega) noSet).at⟩, by exact below_setRow HB.out (Nat.le_refl _) _⟩
set_option maxRecDepth 100000 in
set_option maxHeartbeats 4000000 in
theorem read_ok_true_no (A : Nat → Addr) (s : ByteArray) (hs : s.size ≤ 4294967280) (a : Nat) (ha : bt s a = 91) (ht : (bt s (a + 1) == 94) = true) (P : Nat → Bool) (j : Nat) (hR : Br.items (bt s) s.size a (s.size + 1) (a + 2) (fun _ => false) false = .ok P j) (fl : Int) (hic : icB fl = false) (hnl : nlB fl = false) (w : World) (hE : BrEnv w A) :
    Calls Tryd.prog 7 #[.string s, .int .i64 a, .int .i64 fl] w (ReadEnd A (.ok (Br.fin false false true P) (j + 1)) w) := by
  have hjn := (Br.items_ok (bt_txt s) (by have := (bt_txt s).lt ha (by omega); have := (bt_txt s).lt (beq_iff_eq.1 ht) (by omega); omega) hR).2.1
  have hwj : IntKind.i64.wrap ((j : Int) + 1) = (j : Int) + 1 := IntWalk.i64_in _ (by omega)
  have hb2 := bit2 fl
  rw [hic] at hb2
  have hal := (bt_txt s).lt ha (by omega)
  have h0 : (0 : Int) ≤ a := by omega
  have h1 : decide (s.size ≤ a) = false := by simp; omega
  have e1 : ((s[a].toNat : Int) != 91) = false := by rw [bt_at hal, ha]; rfl
  have hw1 : IntKind.i64.wrap ((a : Int) + 1) = (a : Int) + 1 := IntWalk.i64_in _ (by omega)
  have hw2 : IntKind.i64.wrap ((a : Int) + 1 + 1) = (a : Int) + 1 + 1 := IntWalk.i64_in _ (by omega)
  have h3 : (0 : Int) ≤ (a : Int) + 1 := by omega
  have h4 : (a : Int) + 1 ≤ s.size := by omega
  have HC := Lib.hid (caret_at s (a + 1) _ ht)
  have hal2 := (bt_txt s).lt (beq_iff_eq.1 ht) (by omega)
  have hit := fun w hE => britems_any A s hs a (a + 2) (by omega) _ hR w hE
  rw [show ((a + 2 : Nat) : Int) = (a : Int) + 1 + 1 by omega] at hit
  have HI := Lib.hid hit; have HE := Lib.hid hE
  clear hit hE ha ht hR
  have HO := Lib.hid (others_no (P) fl hnl)
  clear hnl
  clear hic
  go_enter Tryd.func7, Tryd.ntmps7
  go_wp2_with fail
  refine (HC.out _).mono ?_; rintro e w' ⟨rfl, rfl⟩
  go_wp2_with fail
  have hb0 : Below w.heap.size w ((w.alloc (.cells noSet 25)).alloc (.cells #[.string s, .int .i64 a] 45)) := by go_grown
  obtain ⟨z0, z1⟩ := two_new w (.cells noSet 25) (.cells #[.string s, .int .i64 a] 45)
  have hsz : ((w.alloc (.cells noSet 25)).alloc (.cells #[.string s, .int .i64 a] 45)).heap.size = w.heap.size + 2 := by simp
  generalize World.alloc (World.alloc _ _) _ = W at *
  have HB0 := Lib.hid hb0; have Z0 := Lib.hid z0; have HSZ := Lib.hid hsz
  clear hb0 z0 z1 hsz
  refine (HI.out _ (HE.out.below HB0.out)).mono ?_
  intro e w1 he
  obtain ⟨rfl, hb⟩ := he.ok rfl
  have hbA : Below W.heap.size W (w1.alloc (.cells #[.int .u64 (Oc.U (Oc.mk (P) 0)), .int .u64 (Oc.U (Oc.mk (P) 1)), .int .u64 (Oc.U (Oc.mk (P) 2)), .int .u64 (Oc.U (Oc.mk (P) 3))] 25)) := hb.alloc hb.size _
  have Y0 := Lib.hid (keep_blk hbA Z0.out)
  have Y1 := Lib.hid (heap_alloc_new w1 (.cells #[.int .u64 (Oc.U (Oc.mk (P) 0)), .int .u64 (Oc.U (Oc.mk (P) 1)), .int .u64 (Oc.U (Oc.mk (P) 2)), .int .u64 (Oc.U (Oc.mk (P) 3))] 25))
  have HB := Lib.hid (HB0.out.trans (hbA.mono HB0.out.size))
  have hlt : w.heap.size < w1.heap.size := by have := hb.size; have := HSZ.out; omega
  clear hb hbA he
  go_wp2_with (first
    | (refine wpList_load_row rfl 25 (.tmp 12) rfl (w1.heap.size) rfl 25 _ (0, 0) _ Y1.out Tryd.underlying25 rfl (by kernel_rfl) ?_)
    | fail)
  refine (HO.out _).mono ?_
  rintro e w3 ⟨rfl, hb⟩
  have Y0a := Lib.hid (keep_blk hb Y0.out)
  have Y1a := Lib.hid (keep_blk hb Y1.out)
  have HBa := Lib.hid (HB.out.trans (hb.mono HB.out.size))
  have Y0b : Hid ((w3.setRow w1.heap.size #[.int .u64 (Oc.U (Oc.mk (fun b => !(P) b) 0)), .int .u64 (Oc.U (Oc.mk (fun b => !(P) b) 1)), .int .u64 (Oc.U (Oc.mk (fun b => !(P) b) 2)), .int .u64 (Oc.U (Oc.mk (fun b => !(P) b) 3))]).heap[w.heap.size]? = some (.cells noSet 25)) := Lib.hid ((heap_setRow_other _ _ _ (by omega)).trans Y0a.out)
  have Y1b : Hid ((w3.setRow w1.heap.size #[.int .u64 (Oc.U (Oc.mk (fun b => !(P) b) 0)), .int .u64 (Oc.U (Oc.mk (fun b => !(P) b) 1)), .int .u64 (Oc.U (Oc.mk (fun b => !(P) b) 2)), .int .u64 (Oc.U (Oc.mk (fun b => !(P) b) 3))]).heap[w1.heap.size]? = some (.cells #[.int .u64 (Oc.U (Oc.mk (fun b => !(P) b) 0)), .int .u64 (Oc.U (Oc.mk (fun b => !(P) b) 1)), .int .u64 (Oc.U (Oc.mk (fun b => !(P) b) 2)), .int .u64 (Oc.U (Oc.mk (fun b => !(P) b) 3))] 25)) := Lib.hid (heap_setRow Y1a.out)
  have HBb : Hid (Below w.heap.size w (w3.setRow w1.heap.size #[.int .u64 (Oc.U (Oc.mk (fun b => !(P) b) 0)), .int .u64 (Oc.U (Oc.mk (fun b => !(P) b) 1)), .int .u64 (Oc.U (Oc.mk (fun b => !(P) b) 2)), .int .u64 (Oc.U (Oc.mk (fun b => !(P) b) 3))])) := Lib.hid (below_setRow HBa.out (Nat.le_of_lt hlt) _)
  clear hb
  go_wp2_with (first
    | (refine wpList_load_row rfl 25 (.tmp 12) rfl (w1.heap.size) rfl 25 _ (0, 0) _ Y1b.out Tryd.underlying25 rfl (by kernel_rfl) ?_)
    | (refine wpList_store_row rfl 25 (.tmp 12) (.tmp 62) rfl (w1.heap.size) #[.int .u64 (Oc.U (Oc.mk (fun b => !(P) b) 0)), .int .u64 (Oc.U (Oc.mk (fun b => !(P) b) 1)), .int .u64 (Oc.U (Oc.mk (fun b => !(P) b) 2)), .int .u64 (Oc.U (Oc.mk (fun b => !(P) b) 3))] rfl rfl 25 _ Y1a.out (by kernel_rfl) rfl setC_one ?_)
    | (refine wpList_store_row rfl 25 (.tmp 6) (.tmp 63) rfl (w.heap.size) #[.int .u64 (Oc.U (Oc.mk (fun b => !(P) b) 0)), .int .u64 (Oc.U (Oc.mk (fun b => !(P) b) 1)), .int .u64 (Oc.U (Oc.mk (fun b => !(P) b) 2)), .int .u64 (Oc.U (Oc.mk (fun b => !(P) b) 3))] rfl rfl 25 _ Y0b.out (by kernel_rfl) rfl setC_one ?_)
    | fail)
  exact bodyPost_ret (results_row_two rfl _ _ w.heap.size 25 #[.int .u64 (Oc.U (Oc.mk (fun b => !(P) b) 0)), .int .u64 (Oc.U (Oc.mk (fun b => !(P) b) 1)), .int .u64 (Oc.U (Oc.mk (fun b => !(P) b) 2)), .int .u64 (Oc.U (Oc.mk (fun b => !(P) b) 3))] (0, 0) _ _ _ rfl rfl rfl (heap_setRow Y0b.out) Tryd.underlying25 rfl (by kernel_rfl)) rfl ⟨by exact rfl, by exact below_setRow HBb.out (Nat.le_refl _) _⟩
set_option maxRecDepth 100000 in
set_option maxHeartbeats 4000000 in
theorem read_ok_true_nl (A : Nat → Addr) (s : ByteArray) (hs : s.size ≤ 4294967280) (a : Nat) (ha : bt s a = 91) (ht : (bt s (a + 1) == 94) = true) (P : Nat → Bool) (j : Nat) (hR : Br.items (bt s) s.size a (s.size + 1) (a + 2) (fun _ => false) false = .ok P j) (fl : Int) (hic : icB fl = false) (hnl : nlB fl = true) (w : World) (hE : BrEnv w A) :
    Calls Tryd.prog 7 #[.string s, .int .i64 a, .int .i64 fl] w (ReadEnd A (.ok (Br.fin false true true P) (j + 1)) w) := by
  have hjn := (Br.items_ok (bt_txt s) (by have := (bt_txt s).lt ha (by omega); have := (bt_txt s).lt (beq_iff_eq.1 ht) (by omega); omega) hR).2.1
  have hwj : IntKind.i64.wrap ((j : Int) + 1) = (j : Int) + 1 := IntWalk.i64_in _ (by omega)
  have hb2 := bit2 fl
  rw [hic] at hb2
  have hal := (bt_txt s).lt ha (by omega)
  have h0 : (0 : Int) ≤ a := by omega
  have h1 : decide (s.size ≤ a) = false := by simp; omega
  have e1 : ((s[a].toNat : Int) != 91) = false := by rw [bt_at hal, ha]; rfl
  have hw1 : IntKind.i64.wrap ((a : Int) + 1) = (a : Int) + 1 := IntWalk.i64_in _ (by omega)
  have hw2 : IntKind.i64.wrap ((a : Int) + 1 + 1) = (a : Int) + 1 + 1 := IntWalk.i64_in _ (by omega)
  have h3 : (0 : Int) ≤ (a : Int) + 1 := by omega
  have h4 : (a : Int) + 1 ≤ s.size := by omega
  have HC := Lib.hid (caret_at s (a + 1) _ ht)
  have hal2 := (bt_txt s).lt (beq_iff_eq.1 ht) (by omega)
  have hit := fun w hE => britems_any A s hs a (a + 2) (by omega) _ hR w hE
  rw [show ((a + 2 : Nat) : Int) = (a : Int) + 1 + 1 by omega] at hit
  have HI := Lib.hid hit; have HE := Lib.hid hE
  clear hit hE ha ht hR
  have HO := Lib.hid (others_nl (P) fl hnl)
  clear hnl
  clear hic
  go_enter Tryd.func7, Tryd.ntmps7
  go_wp2_with fail
  refine (HC.out _).mono ?_; rintro e w' ⟨rfl, rfl⟩
  go_wp2_with fail
  have hb0 : Below w.heap.size w ((w.alloc (.cells noSet 25)).alloc (.cells #[.string s, .int .i64 a] 45)) := by go_grown
  obtain ⟨z0, z1⟩ := two_new w (.cells noSet 25) (.cells #[.string s, .int .i64 a] 45)
  have hsz : ((w.alloc (.cells noSet 25)).alloc (.cells #[.string s, .int .i64 a] 45)).heap.size = w.heap.size + 2 := by simp
  generalize World.alloc (World.alloc _ _) _ = W at *
  have HB0 := Lib.hid hb0; have Z0 := Lib.hid z0; have HSZ := Lib.hid hsz
  clear hb0 z0 z1 hsz
  refine (HI.out _ (HE.out.below HB0.out)).mono ?_
  intro e w1 he
  obtain ⟨rfl, hb⟩ := he.ok rfl
  have hbA : Below W.heap.size W (w1.alloc (.cells #[.int .u64 (Oc.U (Oc.mk (P) 0)), .int .u64 (Oc.U (Oc.mk (P) 1)), .int .u64 (Oc.U (Oc.mk (P) 2)), .int .u64 (Oc.U (Oc.mk (P) 3))] 25)) := hb.alloc hb.size _
  have Y0 := Lib.hid (keep_blk hbA Z0.out)
  have Y1 := Lib.hid (heap_alloc_new w1 (.cells #[.int .u64 (Oc.U (Oc.mk (P) 0)), .int .u64 (Oc.U (Oc.mk (P) 1)), .int .u64 (Oc.U (Oc.mk (P) 2)), .int .u64 (Oc.U (Oc.mk (P) 3))] 25))
  have HB := Lib.hid (HB0.out.trans (hbA.mono HB0.out.size))
  have hlt : w.heap.size < w1.heap.size := by have := hb.size; have := HSZ.out; omega
  clear hb hbA he
  go_wp2_with (first
    | (refine wpList_load_row rfl 25 (.tmp 12) rfl (w1.heap.size) rfl 25 _ (0, 0) _ Y1.out Tryd.underlying25 rfl (by kernel_rfl) ?_)
    | fail)
  refine (HO.out _).mono ?_
  rintro e w3 ⟨rfl, hb⟩
  have Y0a := Lib.hid (keep_blk hb Y0.out)
  have Y1a := Lib.hid (keep_blk hb Y1.out)
  have HBa := Lib.hid (HB.out.trans (hb.mono HB.out.size))
  have Y0b : Hid ((w3.setRow w1.heap.size #[.int .u64 (Oc.U (Oc.mk (fun b => !(P) b && !(b == 10)) 0)), .int .u64 (Oc.U (Oc.mk (fun b => !(P) b && !(b == 10)) 1)), .int .u64 (Oc.U (Oc.mk (fun b => !(P) b && !(b == 10)) 2)), .int .u64 (Oc.U (Oc.mk (fun b => !(P) b && !(b == 10)) 3))]).heap[w.heap.size]? = some (.cells noSet 25)) := Lib.hid ((heap_setRow_other _ _ _ (by omega)).trans Y0a.out)
  have Y1b : Hid ((w3.setRow w1.heap.size #[.int .u64 (Oc.U (Oc.mk (fun b => !(P) b && !(b == 10)) 0)), .int .u64 (Oc.U (Oc.mk (fun b => !(P) b && !(b == 10)) 1)), .int .u64 (Oc.U (Oc.mk (fun b => !(P) b && !(b == 10)) 2)), .int .u64 (Oc.U (Oc.mk (fun b => !(P) b && !(b == 10)) 3))]).heap[w1.heap.size]? = some (.cells #[.int .u64 (Oc.U (Oc.mk (fun b => !(P) b && !(b == 10)) 0)), .int .u64 (Oc.U (Oc.mk (fun b => !(P) b && !(b == 10)) 1)), .int .u64 (Oc.U (Oc.mk (fun b => !(P) b && !(b == 10)) 2)), .int .u64 (Oc.U (Oc.mk (fun b => !(P) b && !(b == 10)) 3))] 25)) := Lib.hid (heap_setRow Y1a.out)
  have HBb : Hid (Below w.heap.size w (w3.setRow w1.heap.size #[.int .u64 (Oc.U (Oc.mk (fun b => !(P) b && !(b == 10)) 0)), .int .u64 (Oc.U (Oc.mk (fun b => !(P) b && !(b == 10)) 1)), .int .u64 (Oc.U (Oc.mk (fun b => !(P) b && !(b == 10)) 2)), .int .u64 (Oc.U (Oc.mk (fun b => !(P) b && !(b == 10)) 3))])) := Lib.hid (below_setRow HBa.out (Nat.le_of_lt hlt) _)
  clear hb
  go_wp2_with (first
    | (refine wpList_load_row rfl 25 (.tmp 12) rfl (w1.heap.size) rfl 25 _ (0, 0) _ Y1b.out Tryd.underlying25 rfl (by kernel_rfl) ?_)
    | (refine wpList_store_row rfl 25 (.tmp 12) (.tmp 62) rfl (w1.heap.size) #[.int .u64 (Oc.U (Oc.mk (fun b => !(P) b && !(b == 10)) 0)), .int .u64 (Oc.U (Oc.mk (fun b => !(P) b && !(b == 10)) 1)), .int .u64 (Oc.U (Oc.mk (fun b => !(P) b && !(b == 10)) 2)), .int .u64 (Oc.U (Oc.mk (fun b => !(P) b && !(b == 10)) 3))] rfl rfl 25 _ Y1a.out (by kernel_rfl) rfl setC_one ?_)
    | (refine wpList_store_row rfl 25 (.tmp 6) (.tmp 63) rfl (w.heap.size) #[.int .u64 (Oc.U (Oc.mk (fun b => !(P) b && !(b == 10)) 0)), .int .u64 (Oc.U (Oc.mk (fun b => !(P) b && !(b == 10)) 1)), .int .u64 (Oc.U (Oc.mk (fun b => !(P) b && !(b == 10)) 2)), .int .u64 (Oc.U (Oc.mk (fun b => !(P) b && !(b == 10)) 3))] rfl rfl 25 _ Y0b.out (by kernel_rfl) rfl setC_one ?_)
    | fail)
  exact bodyPost_ret (results_row_two rfl _ _ w.heap.size 25 #[.int .u64 (Oc.U (Oc.mk (fun b => !(P) b && !(b == 10)) 0)), .int .u64 (Oc.U (Oc.mk (fun b => !(P) b && !(b == 10)) 1)), .int .u64 (Oc.U (Oc.mk (fun b => !(P) b && !(b == 10)) 2)), .int .u64 (Oc.U (Oc.mk (fun b => !(P) b && !(b == 10)) 3))] (0, 0) _ _ _ rfl rfl rfl (heap_setRow Y0b.out) Tryd.underlying25 rfl (by kernel_rfl)) rfl ⟨by exact rfl, by exact below_setRow HBb.out (Nat.le_refl _) _⟩
set_option maxRecDepth 100000 in
set_option maxHeartbeats 4000000 in
theorem read_ok_true_ic_no (A : Nat → Addr) (s : ByteArray) (hs : s.size ≤ 4294967280) (a : Nat) (ha : bt s a = 91) (ht : (bt s (a + 1) == 94) = true) (P : Nat → Bool) (j : Nat) (hR : Br.items (bt s) s.size a (s.size + 1) (a + 2) (fun _ => false) false = .ok P j) (fl : Int) (hic : icB fl = true) (hnl : nlB fl = false) (w : World) (hE : BrEnv w A) :
    Calls Tryd.prog 7 #[.string s, .int .i64 a, .int .i64 fl] w (ReadEnd A (.ok (Br.fin true false true P) (j + 1)) w) := by
  have hjn := (Br.items_ok (bt_txt s) (by have := (bt_txt s).lt ha (by omega); have := (bt_txt s).lt (beq_iff_eq.1 ht) (by omega); omega) hR).2.1
  have hwj : IntKind.i64.wrap ((j : Int) + 1) = (j : Int) + 1 := IntWalk.i64_in _ (by omega)
  have hb2 := bit2 fl
  rw [hic] at hb2
  have hal := (bt_txt s).lt ha (by omega)
  have h0 : (0 : Int) ≤ a := by omega
  have h1 : decide (s.size ≤ a) = false := by simp; omega
  have e1 : ((s[a].toNat : Int) != 91) = false := by rw [bt_at hal, ha]; rfl
  have hw1 : IntKind.i64.wrap ((a : Int) + 1) = (a : Int) + 1 := IntWalk.i64_in _ (by omega)
  have hw2 : IntKind.i64.wrap ((a : Int) + 1 + 1) = (a : Int) + 1 + 1 := IntWalk.i64_in _ (by omega)
  have h3 : (0 : Int) ≤ (a : Int) + 1 := by omega
  have h4 : (a : Int) + 1 ≤ s.size := by omega
  have HC := Lib.hid (caret_at s (a + 1) _ ht)
  have hal2 := (bt_txt s).lt (beq_iff_eq.1 ht) (by omega)
  have hit := fun w hE => britems_any A s hs a (a + 2) (by omega) _ hR w hE
  rw [show ((a + 2 : Nat) : Int) = (a : Int) + 1 + 1 by omega] at hit
  have HI := Lib.hid hit; have HE := Lib.hid hE
  clear hit hE ha ht hR
  have HO := Lib.hid (others_no (Cl.fold P) fl hnl)
  clear hnl
  clear hic
  go_enter Tryd.func7, Tryd.ntmps7
  go_wp2_with fail
  refine (HC.out _).mono ?_; rintro e w' ⟨rfl, rfl⟩
  go_wp2_with fail
  have hb0 : Below w.heap.size w ((w.alloc (.cells noSet 25)).alloc (.cells #[.string s, .int .i64 a] 45)) := by go_grown
  obtain ⟨z0, z1⟩ := two_new w (.cells noSet 25) (.cells #[.string s, .int .i64 a] 45)
  have hsz : ((w.alloc (.cells noSet 25)).alloc (.cells #[.string s, .int .i64 a] 45)).heap.size = w.heap.size + 2 := by simp
  generalize World.alloc (World.alloc _ _) _ = W at *
  have HB0 := Lib.hid hb0; have Z0 := Lib.hid z0; have HSZ := Lib.hid hsz
  clear hb0 z0 z1 hsz
  refine (HI.out _ (HE.out.below HB0.out)).mono ?_
  intro e w1 he
  obtain ⟨rfl, hb⟩ := he.ok rfl
  have hbA : Below W.heap.size W (w1.alloc (.cells #[.int .u64 (Oc.U (Oc.mk (P) 0)), .int .u64 (Oc.U (Oc.mk (P) 1)), .int .u64 (Oc.U (Oc.mk (P) 2)), .int .u64 (Oc.U (Oc.mk (P) 3))] 25)) := hb.alloc hb.size _
  have Y0 := Lib.hid (keep_blk hbA Z0.out)
  have Y1 := Lib.hid (heap_alloc_new w1 (.cells #[.int .u64 (Oc.U (Oc.mk (P) 0)), .int .u64 (Oc.U (Oc.mk (P) 1)), .int .u64 (Oc.U (Oc.mk (P) 2)), .int .u64 (Oc.U (Oc.mk (P) 3))] 25))
  have HB := Lib.hid (HB0.out.trans (hbA.mono HB0.out.size))
  have hlt : w.heap.size < w1.heap.size := by have := hb.size; have := HSZ.out; omega
  clear hb hbA he
  go_wp2_with (first
    | (refine wpList_load_row rfl 25 (.tmp 12) rfl (w1.heap.size) rfl 25 _ (0, 0) _ Y1.out Tryd.underlying25 rfl (by kernel_rfl) ?_)
    | fail)
  refine (fold_p P _).mono ?_
  rintro e w2 ⟨rfl, hb⟩
  have Y0a := Lib.hid (keep_blk hb Y0.out)
  have Y1a := Lib.hid (keep_blk hb Y1.out)
  have HBa := Lib.hid (HB.out.trans (hb.mono HB.out.size))
  have Y0b : Hid ((w2.setRow w1.heap.size #[.int .u64 (Oc.U (Oc.mk (Cl.fold P) 0)), .int .u64 (Oc.U (Oc.mk (Cl.fold P) 1)), .int .u64 (Oc.U (Oc.mk (Cl.fold P) 2)), .int .u64 (Oc.U (Oc.mk (Cl.fold P) 3))]).heap[w.heap.size]? = some (.cells noSet 25)) := Lib.hid ((heap_setRow_other _ _ _ (by omega)).trans Y0a.out)
  have Y1b : Hid ((w2.setRow w1.heap.size #[.int .u64 (Oc.U (Oc.mk (Cl.fold P) 0)), .int .u64 (Oc.U (Oc.mk (Cl.fold P) 1)), .int .u64 (Oc.U (Oc.mk (Cl.fold P) 2)), .int .u64 (Oc.U (Oc.mk (Cl.fold P) 3))]).heap[w1.heap.size]? = some (.cells #[.int .u64 (Oc.U (Oc.mk (Cl.fold P) 0)), .int .u64 (Oc.U (Oc.mk (Cl.fold P) 1)), .int .u64 (Oc.U (Oc.mk (Cl.fold P) 2)), .int .u64 (Oc.U (Oc.mk (Cl.fold P) 3))] 25)) := Lib.hid (heap_setRow Y1a.out)
  have HBb : Hid (Below w.heap.size w (w2.setRow w1.heap.size #[.int .u64 (Oc.U (Oc.mk (Cl.fold P) 0)), .int .u64 (Oc.U (Oc.mk (Cl.fold P) 1)), .int .u64 (Oc.U (Oc.mk (Cl.fold P) 2)), .int .u64 (Oc.U (Oc.mk (Cl.fold P) 3))])) := Lib.hid (below_setRow HBa.out (Nat.le_of_lt hlt) _)
  clear hb
  go_wp2_with (first
    | (refine wpList_load_row rfl 25 (.tmp 12) rfl (w1.heap.size) rfl 25 _ (0, 0) _ Y1b.out Tryd.underlying25 rfl (by kernel_rfl) ?_)
    | (refine wpList_store_row rfl 25 (.tmp 12) (.tmp 58) rfl (w1.heap.size) #[.int .u64 (Oc.U (Oc.mk (Cl.fold P) 0)), .int .u64 (Oc.U (Oc.mk (Cl.fold P) 1)), .int .u64 (Oc.U (Oc.mk (Cl.fold P) 2)), .int .u64 (Oc.U (Oc.mk (Cl.fold P) 3))] rfl rfl 25 _ Y1a.out (by kernel_rfl) rfl setC_one ?_)
    | fail)
  refine (HO.out _).mono ?_
  rintro e w3 ⟨rfl, hb⟩
  have Y0ba := Lib.hid (keep_blk hb Y0b.out)
  have Y1ba := Lib.hid (keep_blk hb Y1b.out)
  have HBba := Lib.hid (HBb.out.trans (hb.mono HBb.out.size))
  have Y0bb : Hid ((w3.setRow w1.heap.size #[.int .u64 (Oc.U (Oc.mk (fun b => !(Cl.fold P) b) 0)), .int .u64 (Oc.U (Oc.mk (fun b => !(Cl.fold P) b) 1)), .int .u64 (Oc.U (Oc.mk (fun b => !(Cl.fold P) b) 2)), .int .u64 (Oc.U (Oc.mk (fun b => !(Cl.fold P) b) 3))]).heap[w.heap.size]? = some (.cells noSet 25)) := Lib.hid ((heap_setRow_other _ _ _ (by omega)).trans Y0ba.out)
  have Y1bb : Hid ((w3.setRow w1.heap.size #[.int .u64 (Oc.U (Oc.mk (fun b => !(Cl.fold P) b) 0)), .int .u64 (Oc.U (Oc.mk (fun b => !(Cl.fold P) b) 1)), .int .u64 (Oc.U (Oc.mk (fun b => !(Cl.fold P) b) 2)), .int .u64 (Oc.U (Oc.mk (fun b => !(Cl.fold P) b) 3))]).heap[w1.heap.size]? = some (.cells #[.int .u64 (Oc.U (Oc.mk (fun b => !(Cl.fold P) b) 0)), .int .u64 (Oc.U (Oc.mk (fun b => !(Cl.fold P) b) 1)), .int .u64 (Oc.U (Oc.mk (fun b => !(Cl.fold P) b) 2)), .int .u64 (Oc.U (Oc.mk (fun b => !(Cl.fold P) b) 3))] 25)) := Lib.hid (heap_setRow Y1ba.out)
  have HBbb : Hid (Below w.heap.size w (w3.setRow w1.heap.size #[.int .u64 (Oc.U (Oc.mk (fun b => !(Cl.fold P) b) 0)), .int .u64 (Oc.U (Oc.mk (fun b => !(Cl.fold P) b) 1)), .int .u64 (Oc.U (Oc.mk (fun b => !(Cl.fold P) b) 2)), .int .u64 (Oc.U (Oc.mk (fun b => !(Cl.fold P) b) 3))])) := Lib.hid (below_setRow HBba.out (Nat.le_of_lt hlt) _)
  clear hb
  go_wp2_with (first
    | (refine wpList_load_row rfl 25 (.tmp 12) rfl (w1.heap.size) rfl 25 _ (0, 0) _ Y1bb.out Tryd.underlying25 rfl (by kernel_rfl) ?_)
    | (refine wpList_store_row rfl 25 (.tmp 12) (.tmp 62) rfl (w1.heap.size) #[.int .u64 (Oc.U (Oc.mk (fun b => !(Cl.fold P) b) 0)), .int .u64 (Oc.U (Oc.mk (fun b => !(Cl.fold P) b) 1)), .int .u64 (Oc.U (Oc.mk (fun b => !(Cl.fold P) b) 2)), .int .u64 (Oc.U (Oc.mk (fun b => !(Cl.fold P) b) 3))] rfl rfl 25 _ Y1ba.out (by kernel_rfl) rfl setC_one ?_)
    | (refine wpList_store_row rfl 25 (.tmp 6) (.tmp 63) rfl (w.heap.size) #[.int .u64 (Oc.U (Oc.mk (fun b => !(Cl.fold P) b) 0)), .int .u64 (Oc.U (Oc.mk (fun b => !(Cl.fold P) b) 1)), .int .u64 (Oc.U (Oc.mk (fun b => !(Cl.fold P) b) 2)), .int .u64 (Oc.U (Oc.mk (fun b => !(Cl.fold P) b) 3))] rfl rfl 25 _ Y0bb.out (by kernel_rfl) rfl setC_one ?_)
    | fail)
  exact bodyPost_ret (results_row_two rfl _ _ w.heap.size 25 #[.int .u64 (Oc.U (Oc.mk (fun b => !(Cl.fold P) b) 0)), .int .u64 (Oc.U (Oc.mk (fun b => !(Cl.fold P) b) 1)), .int .u64 (Oc.U (Oc.mk (fun b => !(Cl.fold P) b) 2)), .int .u64 (Oc.U (Oc.mk (fun b => !(Cl.fold P) b) 3))] (0, 0) _ _ _ rfl rfl rfl (heap_setRow Y0bb.out) Tryd.underlying25 rfl (by kernel_rfl)) rfl ⟨by exact rfl, by exact below_setRow HBbb.out (Nat.le_refl _) _⟩
set_option maxRecDepth 100000 in
set_option maxHeartbeats 4000000 in
theorem read_ok_true_ic_nl (A : Nat → Addr) (s : ByteArray) (hs : s.size ≤ 4294967280) (a : Nat) (ha : bt s a = 91) (ht : (bt s (a + 1) == 94) = true) (P : Nat → Bool) (j : Nat) (hR : Br.items (bt s) s.size a (s.size + 1) (a + 2) (fun _ => false) false = .ok P j) (fl : Int) (hic : icB fl = true) (hnl : nlB fl = true) (w : World) (hE : BrEnv w A) :
    Calls Tryd.prog 7 #[.string s, .int .i64 a, .int .i64 fl] w (ReadEnd A (.ok (Br.fin true true true P) (j + 1)) w) := by
  have hjn := (Br.items_ok (bt_txt s) (by have := (bt_txt s).lt ha (by omega); have := (bt_txt s).lt (beq_iff_eq.1 ht) (by omega); omega) hR).2.1
  have hwj : IntKind.i64.wrap ((j : Int) + 1) = (j : Int) + 1 := IntWalk.i64_in _ (by omega)
  have hb2 := bit2 fl
  rw [hic] at hb2
  have hal := (bt_txt s).lt ha (by omega)
  have h0 : (0 : Int) ≤ a := by omega
  have h1 : decide (s.size ≤ a) = false := by simp; omega
  have e1 : ((s[a].toNat : Int) != 91) = false := by rw [bt_at hal, ha]; rfl
  have hw1 : IntKind.i64.wrap ((a : Int) + 1) = (a : Int) + 1 := IntWalk.i64_in _ (by omega)
  have hw2 : IntKind.i64.wrap ((a : Int) + 1 + 1) = (a : Int) + 1 + 1 := IntWalk.i64_in _ (by omega)
  have h3 : (0 : Int) ≤ (a : Int) + 1 := by omega
  have h4 : (a : Int) + 1 ≤ s.size := by omega
  have HC := Lib.hid (caret_at s (a + 1) _ ht)
  have hal2 := (bt_txt s).lt (beq_iff_eq.1 ht) (by omega)
  have hit := fun w hE => britems_any A s hs a (a + 2) (by omega) _ hR w hE
  rw [show ((a + 2 : Nat) : Int) = (a : Int) + 1 + 1 by omega] at hit
  have HI := Lib.hid hit; have HE := Lib.hid hE
  clear hit hE ha ht hR
  have HO := Lib.hid (others_nl (Cl.fold P) fl hnl)
  clear hnl
  clear hic
  go_enter Tryd.func7, Tryd.ntmps7
  go_wp2_with fail
  refine (HC.out _).mono ?_; rintro e w' ⟨rfl, rfl⟩
  go_wp2_with fail
  have hb0 : Below w.heap.size w ((w.alloc (.cells noSet 25)).alloc (.cells #[.string s, .int .i64 a] 45)) := by go_grown
  obtain ⟨z0, z1⟩ := two_new w (.cells noSet 25) (.cells #[.string s, .int .i64 a] 45)
  have hsz : ((w.alloc (.cells noSet 25)).alloc (.cells #[.string s, .int .i64 a] 45)).heap.size = w.heap.size + 2 := by simp
  generalize World.alloc (World.alloc _ _) _ = W at *
  have HB0 := Lib.hid hb0; have Z0 := Lib.hid z0; have HSZ := Lib.hid hsz
  clear hb0 z0 z1 hsz
  refine (HI.out _ (HE.out.below HB0.out)).mono ?_
  intro e w1 he
  obtain ⟨rfl, hb⟩ := he.ok rfl
  have hbA : Below W.heap.size W (w1.alloc (.cells #[.int .u64 (Oc.U (Oc.mk (P) 0)), .int .u64 (Oc.U (Oc.mk (P) 1)), .int .u64 (Oc.U (Oc.mk (P) 2)), .int .u64 (Oc.U (Oc.mk (P) 3))] 25)) := hb.alloc hb.size _
  have Y0 := Lib.hid (keep_blk hbA Z0.out)
  have Y1 := Lib.hid (heap_alloc_new w1 (.cells #[.int .u64 (Oc.U (Oc.mk (P) 0)), .int .u64 (Oc.U (Oc.mk (P) 1)), .int .u64 (Oc.U (Oc.mk (P) 2)), .int .u64 (Oc.U (Oc.mk (P) 3))] 25))
  have HB := Lib.hid (HB0.out.trans (hbA.mono HB0.out.size))
  have hlt : w.heap.size < w1.heap.size := by have := hb.size; have := HSZ.out; omega
  clear hb hbA he
  go_wp2_with (first
    | (refine wpList_load_row rfl 25 (.tmp 12) rfl (w1.heap.size) rfl 25 _ (0, 0) _ Y1.out Tryd.underlying25 rfl (by kernel_rfl) ?_)
    | fail)
  refine (fold_p P _).mono ?_
  rintro e w2 ⟨rfl, hb⟩
  have Y0a := Lib.hid (keep_blk hb Y0.out)
  have Y1a := Lib.hid (keep_blk hb Y1.out)
  have HBa := Lib.hid (HB.out.trans (hb.mono HB.out.size))
  have Y0b : Hid ((w2.setRow w1.heap.size #[.int .u64 (Oc.U (Oc.mk (Cl.fold P) 0)), .int .u64 (Oc.U (Oc.mk (Cl.fold P) 1)), .int .u64 (Oc.U (Oc.mk (Cl.fold P) 2)), .int .u64 (Oc.U (Oc.mk (Cl.fold P) 3))]).heap[w.heap.size]? = some (.cells noSet 25)) := Lib.hid ((heap_setRow_other _ _ _ (by omega)).trans Y0a.out)
  have Y1b : Hid ((w2.setRow w1.heap.size #[.int .u64 (Oc.U (Oc.mk (Cl.fold P) 0)), .int .u64 (Oc.U (Oc.mk (Cl.fold P) 1)), .int .u64 (Oc.U (Oc.mk (Cl.fold P) 2)), .int .u64 (Oc.U (Oc.mk (Cl.fold P) 3))]).heap[w1.heap.size]? = some (.cells #[.int .u64 (Oc.U (Oc.mk (Cl.fold P) 0)), .int .u64 (Oc.U (Oc.mk (Cl.fold P) 1)), .int .u64 (Oc.U (Oc.mk (Cl.fold P) 2)), .int .u64 (Oc.U (Oc.mk (Cl.fold P) 3))] 25)) := Lib.hid (heap_setRow Y1a.out)
  have HBb : Hid (Below w.heap.size w (w2.setRow w1.heap.size #[.int .u64 (Oc.U (Oc.mk (Cl.fold P) 0)), .int .u64 (Oc.U (Oc.mk (Cl.fold P) 1)), .int .u64 (Oc.U (Oc.mk (Cl.fold P) 2)), .int .u64 (Oc.U (Oc.mk (Cl.fold P) 3))])) := Lib.hid (below_setRow HBa.out (Nat.le_of_lt hlt) _)
  clear hb
  go_wp2_with (first
    | (refine wpList_load_row rfl 25 (.tmp 12) rfl (w1.heap.size) rfl 25 _ (0, 0) _ Y1b.out Tryd.underlying25 rfl (by kernel_rfl) ?_)
    | (refine wpList_store_row rfl 25 (.tmp 12) (.tmp 58) rfl (w1.heap.size) #[.int .u64 (Oc.U (Oc.mk (Cl.fold P) 0)), .int .u64 (Oc.U (Oc.mk (Cl.fold P) 1)), .int .u64 (Oc.U (Oc.mk (Cl.fold P) 2)), .int .u64 (Oc.U (Oc.mk (Cl.fold P) 3))] rfl rfl 25 _ Y1a.out (by kernel_rfl) rfl setC_one ?_)
    | fail)
  refine (HO.out _).mono ?_
  rintro e w3 ⟨rfl, hb⟩
  have Y0ba := Lib.hid (keep_blk hb Y0b.out)
  have Y1ba := Lib.hid (keep_blk hb Y1b.out)
  have HBba := Lib.hid (HBb.out.trans (hb.mono HBb.out.size))
  have Y0bb : Hid ((w3.setRow w1.heap.size #[.int .u64 (Oc.U (Oc.mk (fun b => !(Cl.fold P) b && !(b == 10)) 0)), .int .u64 (Oc.U (Oc.mk (fun b => !(Cl.fold P) b && !(b == 10)) 1)), .int .u64 (Oc.U (Oc.mk (fun b => !(Cl.fold P) b && !(b == 10)) 2)), .int .u64 (Oc.U (Oc.mk (fun b => !(Cl.fold P) b && !(b == 10)) 3))]).heap[w.heap.size]? = some (.cells noSet 25)) := Lib.hid ((heap_setRow_other _ _ _ (by omega)).trans Y0ba.out)
  have Y1bb : Hid ((w3.setRow w1.heap.size #[.int .u64 (Oc.U (Oc.mk (fun b => !(Cl.fold P) b && !(b == 10)) 0)), .int .u64 (Oc.U (Oc.mk (fun b => !(Cl.fold P) b && !(b == 10)) 1)), .int .u64 (Oc.U (Oc.mk (fun b => !(Cl.fold P) b && !(b == 10)) 2)), .int .u64 (Oc.U (Oc.mk (fun b => !(Cl.fold P) b && !(b == 10)) 3))]).heap[w1.heap.size]? = some (.cells #[.int .u64 (Oc.U (Oc.mk (fun b => !(Cl.fold P) b && !(b == 10)) 0)), .int .u64 (Oc.U (Oc.mk (fun b => !(Cl.fold P) b && !(b == 10)) 1)), .int .u64 (Oc.U (Oc.mk (fun b => !(Cl.fold P) b && !(b == 10)) 2)), .int .u64 (Oc.U (Oc.mk (fun b => !(Cl.fold P) b && !(b == 10)) 3))] 25)) := Lib.hid (heap_setRow Y1ba.out)
  have HBbb : Hid (Below w.heap.size w (w3.setRow w1.heap.size #[.int .u64 (Oc.U (Oc.mk (fun b => !(Cl.fold P) b && !(b == 10)) 0)), .int .u64 (Oc.U (Oc.mk (fun b => !(Cl.fold P) b && !(b == 10)) 1)), .int .u64 (Oc.U (Oc.mk (fun b => !(Cl.fold P) b && !(b == 10)) 2)), .int .u64 (Oc.U (Oc.mk (fun b => !(Cl.fold P) b && !(b == 10)) 3))])) := Lib.hid (below_setRow HBba.out (Nat.le_of_lt hlt) _)
  clear hb
  go_wp2_with (first
    | (refine wpList_load_row rfl 25 (.tmp 12) rfl (w1.heap.size) rfl 25 _ (0, 0) _ Y1bb.out Tryd.underlying25 rfl (by kernel_rfl) ?_)
    | (refine wpList_store_row rfl 25 (.tmp 12) (.tmp 62) rfl (w1.heap.size) #[.int .u64 (Oc.U (Oc.mk (fun b => !(Cl.fold P) b && !(b == 10)) 0)), .int .u64 (Oc.U (Oc.mk (fun b => !(Cl.fold P) b && !(b == 10)) 1)), .int .u64 (Oc.U (Oc.mk (fun b => !(Cl.fold P) b && !(b == 10)) 2)), .int .u64 (Oc.U (Oc.mk (fun b => !(Cl.fold P) b && !(b == 10)) 3))] rfl rfl 25 _ Y1ba.out (by kernel_rfl) rfl setC_one ?_)
    | (refine wpList_store_row rfl 25 (.tmp 6) (.tmp 63) rfl (w.heap.size) #[.int .u64 (Oc.U (Oc.mk (fun b => !(Cl.fold P) b && !(b == 10)) 0)), .int .u64 (Oc.U (Oc.mk (fun b => !(Cl.fold P) b && !(b == 10)) 1)), .int .u64 (Oc.U (Oc.mk (fun b => !(Cl.fold P) b && !(b == 10)) 2)), .int .u64 (Oc.U (Oc.mk (fun b => !(Cl.fold P) b && !(b == 10)) 3))] rfl rfl 25 _ Y0bb.out (by kernel_rfl) rfl setC_one ?_)
    | fail)
  exact bodyPost_ret (results_row_two rfl _ _ w.heap.size 25 #[.int .u64 (Oc.U (Oc.mk (fun b => !(Cl.fold P) b && !(b == 10)) 0)), .int .u64 (Oc.U (Oc.mk (fun b => !(Cl.fold P) b && !(b == 10)) 1)), .int .u64 (Oc.U (Oc.mk (fun b => !(Cl.fold P) b && !(b == 10)) 2)), .int .u64 (Oc.U (Oc.mk (fun b => !(Cl.fold P) b && !(b == 10)) 3))] (0, 0) _ _ _ rfl rfl rfl (heap_setRow Y0bb.out) Tryd.underlying25 rfl (by kernel_rfl)) rfl ⟨by exact rfl, by exact below_setRow HBbb.out (Nat.le_refl _) _⟩
theorem readDoes : BrDoes where
  read A s at_ fl w hE hs h0 h1 := by
    unfold rdI Br.read
    by_cases h : 0 ≤ at_ ∧ bt s at_.toNat = 91
    · rw [if_pos h]
      obtain ⟨a, rfl⟩ : ∃ a : Nat, at_ = a := ⟨at_.toNat, by omega⟩
      have ha : bt s a = 91 := h.2
      show Calls _ _ _ _ (ReadEnd A (Br.whole (bt s) s.size a (icB fl) (nlB fl)) w)
      unfold Br.whole
      cases ht : (bt s (a + 1) == 94) with
      | true =>
        simp only [if_true]
        cases hR : Br.items (bt s) s.size a (s.size + 1) (a + 2) (fun _ => false) false with
        | err c q => exact read_err_true A s hs a ha ht c q hR fl w hE
        | ok P j =>
          show Calls _ _ _ _ (ReadEnd A (.ok (Br.fin (icB fl) (nlB fl) true P) (j + 1)) w)
          cases hic : icB fl <;> cases hnl : nlB fl
          · exact read_ok_true_no A s hs a ha ht P j hR fl hic hnl w hE
          · exact read_ok_true_nl A s hs a ha ht P j hR fl hic hnl w hE
          · exact read_ok_true_ic_no A s hs a ha ht P j hR fl hic hnl w hE
          · exact read_ok_true_ic_nl A s hs a ha ht P j hR fl hic hnl w hE
      | false =>
        simp only [Bool.false_eq_true, if_false]
        cases hR : Br.items (bt s) s.size a (s.size + 1) (a + 1) (fun _ => false) false with
        | err c q => exact read_err_false A s hs a ha ht c q hR fl w hE
        | ok P j =>
          show Calls _ _ _ _ (ReadEnd A (.ok (Br.fin (icB fl) (nlB fl) false P) (j + 1)) w)
          cases hic : icB fl
          · exact read_ok_false A s hs a ha ht P j hR fl hic _ w hE
          · exact read_ok_false_ic A s hs a ha ht P j hR fl hic _ w hE
    · rw [if_neg h]
      by_cases hn : at_ < 0
      · exact read_neg A s hs at_ hn fl w hE
      · obtain ⟨a, rfl⟩ : ∃ a : Nat, at_ = a := ⟨at_.toNat, by omega⟩
        by_cases hf : s.size ≤ a
        · exact read_far A s hs a hf fl w hE
        · exact read_other A s hs a (by omega) (fun hh => h ⟨by omega, hh⟩) fl w hE
end Go.Proofs.YtbpecijdmhablaaDoor
/- A set of bytes, and a list of sets, as they come in among the arguments. -/
namespace Go.Proofs.YtbpecijdmhablaaDoor
open Go.ChangeShapes Go.WideShapes Go.ChangeAt Go.RowKit
theorem Tryd.cellsSet : Tryd.prog.cellsOf 25 = 4 := by kernel_rfl
theorem Tryd.cellsU64 : Tryd.prog.cellsOf 23 = 1 := by kernel_rfl
theorem word_of {n : Int} (h : (Lit.int .u64 n).wf = true) : ∃ x : BitVec 64, n = Oc.U x := by
  simp only [Lit.wf, IntKind.min, IntKind.max, IntKind.signed, IntKind.bits, Bool.and_eq_true] at h
  refine ⟨BitVec.ofInt 64 n, ?_⟩
  unfold Oc.U; rw [BitVec.toNat_ofInt]
  have h1 := h.1; have h2 := h.2
  simp at h1 h2
  omega
/-- Four cells that read as a set. -/
theorem open_words {H : Type} {enc : TypeId × Value → H} {w : World} {base : Nat} {spare : Nat → Bool} {held : Bool} {fuel : Nat} {c0 c1 c2 c3 : Value} {x : DataW H × List MemPlace}
    (h : DataW.trod enc Tryd.prog w base spare held fuel 25 [c0, c1, c2, c3] = some x) : ∃ a b c d : BitVec 64, c0 = .int .u64 (Oc.U a) ∧ c1 = .int .u64 (Oc.U b) ∧ c2 = .int .u64 (Oc.U c) ∧ c3 = .int .u64 (Oc.U d) := by
  obtain ⟨y0, y1, y2, y3, n, _, h0, h1, h2, h3⟩ := trod_array4 Tryd.underlying25 Tryd.cellsU64 h
  obtain ⟨n0, e0, -, w0⟩ := DataW.trod_int Tryd.underlying23 h0
  obtain ⟨n1, e1, -, w1⟩ := DataW.trod_int Tryd.underlying23 h1
  obtain ⟨n2, e2, -, w2⟩ := DataW.trod_int Tryd.underlying23 h2
  obtain ⟨n3, e3, -, w3⟩ := DataW.trod_int Tryd.underlying23 h3
  obtain ⟨a, rfl⟩ := word_of w0
  obtain ⟨b, rfl⟩ := word_of w1
  obtain ⟨c, rfl⟩ := word_of w2
  obtain ⟨d, rfl⟩ := word_of w3
  simp only [List.cons.injEq, and_true] at e0 e1 e2 e3
  exact ⟨a, b, c, d, e0, e1, e2, e3⟩
set_option maxRecDepth 100000 in
/-- A set among the arguments. -/
theorem open_set {H : Type} {enc : TypeId × Value → H} {w : World} {base b0 : Nat} {spare : Nat → Bool} {held : Bool} {v : Value} {y : DataW H} {ps : List MemPlace} {r : Reach}
    (hv : Value.okWide Tryd.prog w r b0 25 v) (h : DataW.Trod enc Tryd.prog w base spare held 25 v y ps) : ∃ a b c d : BitVec 64, v = (.agg #[.int .u64 (Oc.U a), .int .u64 (Oc.U b), .int .u64 (Oc.U c), .int .u64 (Oc.U d)]) := by
  unfold Value.okWide at hv
  rw [Tryd.underlying25] at hv
  obtain ⟨cs, rfl, hsz, -⟩ := hv
  rw [Tryd.cellsSet] at hsz
  obtain ⟨c0, c1, c2, c3, rfl⟩ := Joins.array4 hsz
  obtain ⟨fuel, hf⟩ := h
  obtain ⟨a, b, c, d, rfl, rfl, rfl, rfl⟩ := open_words hf
  exact ⟨a, b, c, d, rfl⟩
set_option maxRecDepth 100000 in
/-- A list of sets among the arguments. -/
theorem open_sets {H : Type} {enc : TypeId × Value → H} {w : World} {base : Nat} {spare : Nat → Bool} {held : Bool} {p : Option Addr} {len cap : Nat} {y : DataW H} {ps : List MemPlace}
    (h : DataW.Trod enc Tryd.prog w base spare held 57 (.slice p len cap) y ps) : ∃ A B C D : Nat → BitVec 64, SetsAt w p len A B C D ∧ (p = none → len = 0 ∧ cap = 0) ∧ len ≤ maxLen := by
  obtain ⟨fuel, hf⟩ := h
  rcases Deep.open_slice Tryd.underlying57 hf with ⟨hcs, _⟩ | ⟨a, l, c, m, n, D, Pl, hcs, _, hl, hm, hmm, _, hall⟩
  · simp [Value.cells] at hcs
    obtain ⟨rfl, rfl, rfl⟩ := hcs
    exact ⟨fun _ => 0#64, fun _ => 0#64, fun _ => 0#64, fun _ => 0#64, (fun i hi => by omega), (fun _ => ⟨rfl, rfl⟩), by unfold maxLen; omega⟩
  · simp [Value.cells] at hcs
    obtain ⟨rfl, rfl, rfl⟩ := hcs
    have hlm : len ≤ m := by rw [hmm]; split <;> omega
    have key : ∀ i, i < len → ∃ x : BitVec 64 × BitVec 64 × BitVec 64 × BitVec 64, w.cell? ((a.add (i * 4)).add 0) = some (.int .u64 (Oc.U x.1)) ∧ w.cell? ((a.add (i * 4)).add 1) = some (.int .u64 (Oc.U x.2.1)) ∧
        w.cell? ((a.add (i * 4)).add 2) = some (.int .u64 (Oc.U x.2.2.1)) ∧ w.cell? ((a.add (i * 4)).add 3) = some (.int .u64 (Oc.U x.2.2.2)) := by
      intro i hi
      obtain ⟨cs', hc, hr⟩ := hall i (by omega)
      rw [Tryd.cellsSet] at hc
      unfold World.cells? at hc
      split at hc
      · rw [show List.range 4 = [0, 1, 2, 3] from rfl] at hc
        simp only [List.mapM_cons, List.mapM_nil, Option.bind_eq_bind, Option.bind_eq_some_iff, Option.pure_def, Option.some.injEq] at hc
        obtain ⟨v0, g0, t0, ⟨v1, g1, t1, ⟨v2, g2, t2, ⟨v3, g3, t3, rfl, rfl⟩, rfl⟩, rfl⟩, rfl⟩ := hc
        obtain ⟨x0, x1, x2, x3, rfl, rfl, rfl, rfl⟩ := open_words hr
        exact ⟨(x0, x1, x2, x3), g0, g1, g2, g3⟩
      · cases hc
    obtain ⟨f, hf⟩ := Deep.choose_lt key
    refine ⟨fun i => (f i).1, fun i => (f i).2.1, fun i => (f i).2.2.1, fun i => (f i).2.2.2, ?_, (fun h => by cases h), by omega⟩
    intro i hi
    have hs : a.spot = none := by simpa [Addr.add] using World.cell?_spot (hf 0 (by omega)).1
    obtain ⟨g0, g1, g2, g3⟩ := hf i hi
    obtain ⟨b, o, sp⟩ := a
    subst hs
    rw [Addr.add_mid, Addr.add_mid] at g0 g1 g2 g3
    rw [Nat.add_zero] at g0
    exact ⟨b, o, rfl, block_lt_of_cell g0, g0, g1, g2, g3⟩
theorem Tryd.own : ownKnob Tryd.prog.godebug = none := by kernel_rfl
theorem Tryd.laidOut : laidOutB Tryd.prog = true := by kernel_rfl
end Go.Proofs.YtbpecijdmhablaaDoor
/- What the laws of layer 3 take of the program's variables: the type error, and, where the code has them, the table of the words and the library's powers of ten. -/
namespace Go.Proofs.YtbpecijdmhablaaDoor
open Go.RowKit
structure FaEnv (w : World) : Prop where
  ty : ErrType w
theorem FaEnv.later {w w' : World} (h : FaEnv w) (hb : Below w.heap.size w w') : FaEnv w' where
  ty := h.ty.later hb
end Go.Proofs.YtbpecijdmhablaaDoor
/- What a listed handle beside listed data gives: package errors' variable of the type error. -/
namespace Go.Proofs.YtbpecijdmhablaaDoor
open Go.ChangeShapes Go.WideShapes Go.ChangeAt Go.RowKit
theorem laid_split {P : Program} {l : List (String × DataW Unit)} {W : World} (h : laidMetH P l W) : laidMet P (l.filter fun x => x.2.handleName?.isNone) W ∧ handlesMet P (l.filter fun x => x.2.handleName?.isSome) W := by
  unfold laidMetH at h
  generalize hfl : (l.filter fun x => x.2.handleName?.isSome) = fl at h
  cases fl with
  | nil =>
    have e : (l.filter fun x => x.2.handleName?.isNone) = l := by
      rw [List.filter_eq_self]
      intro x hx
      have := List.filter_eq_nil_iff.1 hfl x hx
      cases hh : x.2.handleName? with
      | none => rfl
      | some y => rw [hh] at this; simp at this
    rw [e]
    exact ⟨h, fun x hx => by cases hx⟩
  | cons x r => exact h
theorem Tryd.errorTypeG : Tryd.prog.globalNamed "errors.errorType" = some 21 := by kernel_rfl
theorem Tryd.rtypeT : (Tryd.prog.cutTypes.find? (·.1 == "internal/reflectlite.rtype")).map (·.2) = some 89 := by kernel_rfl
theorem Tryd.errorRow : ((List.range Tryd.prog.types.size).filter fun t => Tryd.prog.rowNamed t [101, 114, 114, 111, 114]) = [27] := by kernel_rfl
theorem Tryd.errorHandle : typeHandle Tryd.prog 27 = .pointer (some ⟨Tryd.prog.globals.size, 27, none⟩) := by kernel_rfl
theorem errtype_of {l : List (String × DataW Unit)} {W : World} (h : handlesMet Tryd.prog l W) (hl : ("errors.errorType", Rows.laid_errors_errorType) ∈ l) : ErrType W := by
  obtain ⟨name, u, ty, e1, e2, e3, e4, e5⟩ := h _ hl
  have en : name = [101, 114, 114, 111, 114] := (Option.some.inj e1).symm
  subst en
  obtain rfl := Option.some.inj (Tryd.rtypeT.symm.trans e2)
  have hm : ty ∈ (List.range Tryd.prog.types.size).filter fun t => Tryd.prog.rowNamed t [101, 114, 114, 111, 114] := List.mem_filter.2 ⟨List.mem_range.2 e3, e4⟩
  rw [Tryd.errorRow] at hm
  obtain rfl := List.mem_singleton.1 hm
  rw [Tryd.errorHandle] at e5
  unfold ErrType
  simpa using World.var?_cell Tryd.errorTypeG e5 0
theorem errList_plain : ∀ x, x ∈ errList → x.2.handleName?.isNone = true := by
  have h : (errList.all fun x => x.2.handleName?.isNone) = true := by kernel_rfl
  intro x hx
  exact List.all_eq_true.1 h x hx
/-- The sentinels and the handle out of one list. -/
theorem errs_handle_of {l : List (String × DataW Unit)} {W : World} (h : laidMetH Tryd.prog l W) (hl : ∀ x, x ∈ errList → x ∈ l) (hh : ("errors.errorType", Rows.laid_errors_errorType) ∈ l) : (∃ A, Errs W A) ∧ ErrType W := by
  obtain ⟨h1, h2⟩ := laid_split h
  exact ⟨errs_of h1 fun x hx => List.mem_filter.2 ⟨hl x hx, errList_plain x hx⟩, errtype_of h2 (List.mem_filter.2 ⟨hh, rfl⟩)⟩
end Go.Proofs.YtbpecijdmhablaaDoor
/- What the listed variables give: the sentinels, the type error, the table of the words, the powers of ten. -/
namespace Go.Proofs.YtbpecijdmhablaaDoor
open Go.ChangeShapes Go.WideShapes Go.ChangeAt Go.RowKit
/-- All that the laws take, out of one list. -/
theorem fault_env_of {l : List (String × DataW Unit)} {W : World} (h : laidMetH Tryd.prog l W) (hl : ∀ x, x ∈ errList → x ∈ l) (hh : ("errors.errorType", Rows.laid_errors_errorType) ∈ l)
    : (∃ A, Errs W A) ∧ FaEnv W := by
  obtain ⟨h1, h2⟩ := errs_handle_of h hl hh
  have h3 := (laid_split h).1
  exact ⟨h1, {
    ty := h2
    }⟩
end Go.Proofs.YtbpecijdmhablaaDoor
namespace Go.Proofs.YtbpecijdmhablaaDoor.bracketStays
open Go.ChangeShapes Go.WideShapes Go.ChangeAt Go.RowKit
set_option maxRecDepth 100000 in
theorem contract (H : Type) (enc : TypeId × Value → H) (W : World) (base : Nat) (args : Array Value) (ds gs : List (DataW H)) (before : List MemPlace)
    (hval0 : ∀ (j : Nat) t v, Tryd.f4.params[j]? = some t → args[j]? = some v → Value.okWide Tryd.prog W .any base t v)
    (hW : DataW.Whole enc Tryd.prog Tryd.f4.params.toList Rows.bracketStaysSpec.vars false W args.toList ds gs before)
    (hsz0 : (DataW.weightsEach Tryd.prog (Tryd.f4.params.toList ++ Rows.bracketStaysSpec.plain.varTypes Tryd.prog) (ds ++ gs)).all (· ≤ reachBytes) = true)
    (hk : Rows.uptoSmall H (ds ++ gs) = true)
    (hL : laidMetH Tryd.prog [("errors.errorType", Rows.laid_errors_errorType), ("trawl/api.ErrBracket", Rows.laid_trawl_api_ErrBracket), ("trawl/api.ErrParen", Rows.laid_trawl_api_ErrParen), ("trawl/api.ErrBrace", Rows.laid_trawl_api_ErrBrace), ("trawl/api.ErrCount", Rows.laid_trawl_api_ErrCount), ("trawl/api.ErrRange", Rows.laid_trawl_api_ErrRange), ("trawl/api.ErrClass", Rows.laid_trawl_api_ErrClass), ("trawl/api.ErrCollate", Rows.laid_trawl_api_ErrCollate), ("trawl/api.ErrEscape", Rows.laid_trawl_api_ErrEscape), ("trawl/api.ErrRepeat", Rows.laid_trawl_api_ErrRepeat), ("trawl/api.ErrTooBig", Rows.laid_trawl_api_ErrTooBig), ("trawl/api.ErrNest", Rows.laid_trawl_api_ErrNest), ("trawl/api.ErrLong", Rows.laid_trawl_api_ErrLong), ("trawl/api.ErrTree", Rows.laid_trawl_api_ErrTree), ("trawl/api.ErrDeep", Rows.laid_trawl_api_ErrDeep), ("trawl/api.ErrArgument", Rows.laid_trawl_api_ErrArgument), ("trawl/api.ErrNoMatch", Rows.laid_trawl_api_ErrNoMatch), ("trawl/api.ErrImage", Rows.laid_trawl_api_ErrImage), ("trawl/api.ErrMany", Rows.laid_trawl_api_ErrMany), ("trawl/api.ErrOption", Rows.laid_trawl_api_ErrOption), ("trawl/api.ErrCommand", Rows.laid_trawl_api_ErrCommand), ("trawl/api.ErrClosed", Rows.laid_trawl_api_ErrClosed)] W) (hSh : W.ShapedOpen Tryd.prog) :
    Calls Tryd.prog 4 args W fun e W' => ∃ v, e = .returned v ∧ Rows.bracketStaysSpec.post enc Tryd.prog Tryd.f4 false true false false W args v W' := by
  have hval : ∀ (j : Nat) t v, Tryd.f4.params[j]? = some t → args[j]? = some v → Value.okWide Tryd.prog W .any base t v := hval0
  have hW' := hW
  have hsz := hsz0
  obtain ⟨p, q, hA0, hV, rfl, hfz, hnd⟩ := hW
  have hA : DataW.TrodAll enc Tryd.prog W 0 (fun _ => true) true Tryd.f4.params.toList args.toList ds p := hA0
  rw [Tryd.params4] at hA hval
  obtain ⟨v0, vs0, d0, ds0, p0, q0, hargs, rfl, rfl, h0, r0⟩ := trodAll_cons hA
  obtain ⟨v1, vs1, d1, ds1, p1, q1, rfl, rfl, rfl, h1, r1⟩ := trodAll_cons r0
  obtain ⟨v2, vs2, d2, ds2, p2, q2, rfl, rfl, rfl, h2, r2⟩ := trodAll_cons r1
  obtain ⟨v3, vs3, d3, ds3, p3, q3, rfl, rfl, rfl, h3, r3⟩ := trodAll_cons r2
  obtain ⟨rfl, rfl, rfl⟩ := trodAll_nil r3
  obtain rfl : args = #[v0, v1, v2, v3] := by cases args; simp_all
  obtain ⟨rfl, rfl⟩ := trodVars_none hV
  have lt0 : ∀ x ∈ p0, x.block < W.heap.size := by obtain ⟨m, hm⟩ := h0; exact DataW.trod_lt m _ _ _ hm
  have lt1 : ∀ x ∈ p1, x.block < W.heap.size := by obtain ⟨m, hm⟩ := h1; exact DataW.trod_lt m _ _ _ hm
  have lt2 : ∀ x ∈ p2, x.block < W.heap.size := by obtain ⟨m, hm⟩ := h2; exact DataW.trod_lt m _ _ _ hm
  have lt3 : ∀ x ∈ p3, x.block < W.heap.size := by obtain ⟨m, hm⟩ := h3; exact DataW.trod_lt m _ _ _ hm
  obtain ⟨p, rfl, hd0, -, -⟩ := Go.ChangeMaps.open_string Tryd.underlying9 (hval 0 9 v0 rfl rfl) h0
  obtain ⟨ahead, rfl, hd1, -, -⟩ := Go.ChangeMaps.open_string Tryd.underlying9 (hval 1 9 v1 rfl rfl) h1
  obtain ⟨behind, rfl, hd2, -, -⟩ := Go.ChangeMaps.open_string Tryd.underlying9 (hval 2 9 v2 rfl rfl) h2
  obtain ⟨fl, rfl, hd3, -, w3⟩ := open_int Tryd.underlying3 (hval 3 3 v3 rfl rfl) h3
  have hBulk := of_decide_eq_true hk
  simp only [hd0, hd1, hd2, hd3, List.append_nil, Rows.uptoBulkAll, Rows.uptoBulk] at hBulk
  rw [← show p.size = p.data.toList.length by simp] at hBulk
  rw [← show ahead.size = ahead.data.toList.length by simp] at hBulk
  rw [← show behind.size = behind.data.toList.length by simp] at hBulk
  have hs_p : p.size ≤ 140737488351232 := by
    have := sized_string (P := Tryd.prog) hsz (j := 0) (t := 9) (bytes := p.data.toList) (by rw [Tryd.params4]; rfl) (by rw [hd0]; rfl)
    simpa [reachBytes] using this
  have hs_ahead : ahead.size ≤ 140737488351232 := by
    have := sized_string (P := Tryd.prog) hsz (j := 1) (t := 9) (bytes := ahead.data.toList) (by rw [Tryd.params4]; rfl) (by rw [hd1]; rfl)
    simpa [reachBytes] using this
  have hs_behind : behind.size ≤ 140737488351232 := by
    have := sized_string (P := Tryd.prog) hsz (j := 2) (t := 9) (bytes := behind.data.toList) (by rw [Tryd.params4]; rfl) (by rw [hd2]; rfl)
    simpa [reachBytes] using this
  obtain ⟨⟨E, hE⟩, hTy⟩ := fault_env_of hL (fun x h => by
    simp only [errList, List.mem_cons, List.not_mem_nil, or_false] at h
    rcases h with rfl | rfl | rfl | rfl | rfl | rfl | rfl | rfl | rfl | rfl | rfl | rfl | rfl | rfl | rfl | rfl | rfl | rfl | rfl | rfl | rfl
    · exact (List.mem_cons_of_mem _ List.mem_cons_self)
    · exact (List.mem_cons_of_mem _ (List.mem_cons_of_mem _ List.mem_cons_self))
    · exact (List.mem_cons_of_mem _ (List.mem_cons_of_mem _ (List.mem_cons_of_mem _ List.mem_cons_self)))
    · exact (List.mem_cons_of_mem _ (List.mem_cons_of_mem _ (List.mem_cons_of_mem _ (List.mem_cons_of_mem _ List.mem_cons_self))))
    · exact (List.mem_cons_of_mem _ (List.mem_cons_of_mem _ (List.mem_cons_of_mem _ (List.mem_cons_of_mem _ (List.mem_cons_of_mem _ List.mem_cons_self)))))
    · exact (List.mem_cons_of_mem _ (List.mem_cons_of_mem _ (List.mem_cons_of_mem _ (List.mem_cons_of_mem _ (List.mem_cons_of_mem _ (List.mem_cons_of_mem _ List.mem_cons_self))))))
    · exact (List.mem_cons_of_mem _ (List.mem_cons_of_mem _ (List.mem_cons_of_mem _ (List.mem_cons_of_mem _ (List.mem_cons_of_mem _ (List.mem_cons_of_mem _ (List.mem_cons_of_mem _ List.mem_cons_self)))))))
    · exact (List.mem_cons_of_mem _ (List.mem_cons_of_mem _ (List.mem_cons_of_mem _ (List.mem_cons_of_mem _ (List.mem_cons_of_mem _ (List.mem_cons_of_mem _ (List.mem_cons_of_mem _ (List.mem_cons_of_mem _ List.mem_cons_self))))))))
    · exact (List.mem_cons_of_mem _ (List.mem_cons_of_mem _ (List.mem_cons_of_mem _ (List.mem_cons_of_mem _ (List.mem_cons_of_mem _ (List.mem_cons_of_mem _ (List.mem_cons_of_mem _ (List.mem_cons_of_mem _ (List.mem_cons_of_mem _ List.mem_cons_self)))))))))
    · exact (List.mem_cons_of_mem _ (List.mem_cons_of_mem _ (List.mem_cons_of_mem _ (List.mem_cons_of_mem _ (List.mem_cons_of_mem _ (List.mem_cons_of_mem _ (List.mem_cons_of_mem _ (List.mem_cons_of_mem _ (List.mem_cons_of_mem _ (List.mem_cons_of_mem _ List.mem_cons_self))))))))))
    · exact (List.mem_cons_of_mem _ (List.mem_cons_of_mem _ (List.mem_cons_of_mem _ (List.mem_cons_of_mem _ (List.mem_cons_of_mem _ (List.mem_cons_of_mem _ (List.mem_cons_of_mem _ (List.mem_cons_of_mem _ (List.mem_cons_of_mem _ (List.mem_cons_of_mem _ (List.mem_cons_of_mem _ List.mem_cons_self)))))))))))
    · exact (List.mem_cons_of_mem _ (List.mem_cons_of_mem _ (List.mem_cons_of_mem _ (List.mem_cons_of_mem _ (List.mem_cons_of_mem _ (List.mem_cons_of_mem _ (List.mem_cons_of_mem _ (List.mem_cons_of_mem _ (List.mem_cons_of_mem _ (List.mem_cons_of_mem _ (List.mem_cons_of_mem _ (List.mem_cons_of_mem _ List.mem_cons_self))))))))))))
    · exact (List.mem_cons_of_mem _ (List.mem_cons_of_mem _ (List.mem_cons_of_mem _ (List.mem_cons_of_mem _ (List.mem_cons_of_mem _ (List.mem_cons_of_mem _ (List.mem_cons_of_mem _ (List.mem_cons_of_mem _ (List.mem_cons_of_mem _ (List.mem_cons_of_mem _ (List.mem_cons_of_mem _ (List.mem_cons_of_mem _ (List.mem_cons_of_mem _ List.mem_cons_self)))))))))))))
    · exact (List.mem_cons_of_mem _ (List.mem_cons_of_mem _ (List.mem_cons_of_mem _ (List.mem_cons_of_mem _ (List.mem_cons_of_mem _ (List.mem_cons_of_mem _ (List.mem_cons_of_mem _ (List.mem_cons_of_mem _ (List.mem_cons_of_mem _ (List.mem_cons_of_mem _ (List.mem_cons_of_mem _ (List.mem_cons_of_mem _ (List.mem_cons_of_mem _ (List.mem_cons_of_mem _ List.mem_cons_self))))))))))))))
    · exact (List.mem_cons_of_mem _ (List.mem_cons_of_mem _ (List.mem_cons_of_mem _ (List.mem_cons_of_mem _ (List.mem_cons_of_mem _ (List.mem_cons_of_mem _ (List.mem_cons_of_mem _ (List.mem_cons_of_mem _ (List.mem_cons_of_mem _ (List.mem_cons_of_mem _ (List.mem_cons_of_mem _ (List.mem_cons_of_mem _ (List.mem_cons_of_mem _ (List.mem_cons_of_mem _ (List.mem_cons_of_mem _ List.mem_cons_self)))))))))))))))
    · exact (List.mem_cons_of_mem _ (List.mem_cons_of_mem _ (List.mem_cons_of_mem _ (List.mem_cons_of_mem _ (List.mem_cons_of_mem _ (List.mem_cons_of_mem _ (List.mem_cons_of_mem _ (List.mem_cons_of_mem _ (List.mem_cons_of_mem _ (List.mem_cons_of_mem _ (List.mem_cons_of_mem _ (List.mem_cons_of_mem _ (List.mem_cons_of_mem _ (List.mem_cons_of_mem _ (List.mem_cons_of_mem _ (List.mem_cons_of_mem _ List.mem_cons_self))))))))))))))))
    · exact (List.mem_cons_of_mem _ (List.mem_cons_of_mem _ (List.mem_cons_of_mem _ (List.mem_cons_of_mem _ (List.mem_cons_of_mem _ (List.mem_cons_of_mem _ (List.mem_cons_of_mem _ (List.mem_cons_of_mem _ (List.mem_cons_of_mem _ (List.mem_cons_of_mem _ (List.mem_cons_of_mem _ (List.mem_cons_of_mem _ (List.mem_cons_of_mem _ (List.mem_cons_of_mem _ (List.mem_cons_of_mem _ (List.mem_cons_of_mem _ (List.mem_cons_of_mem _ List.mem_cons_self)))))))))))))))))
    · exact (List.mem_cons_of_mem _ (List.mem_cons_of_mem _ (List.mem_cons_of_mem _ (List.mem_cons_of_mem _ (List.mem_cons_of_mem _ (List.mem_cons_of_mem _ (List.mem_cons_of_mem _ (List.mem_cons_of_mem _ (List.mem_cons_of_mem _ (List.mem_cons_of_mem _ (List.mem_cons_of_mem _ (List.mem_cons_of_mem _ (List.mem_cons_of_mem _ (List.mem_cons_of_mem _ (List.mem_cons_of_mem _ (List.mem_cons_of_mem _ (List.mem_cons_of_mem _ (List.mem_cons_of_mem _ List.mem_cons_self))))))))))))))))))
    · exact (List.mem_cons_of_mem _ (List.mem_cons_of_mem _ (List.mem_cons_of_mem _ (List.mem_cons_of_mem _ (List.mem_cons_of_mem _ (List.mem_cons_of_mem _ (List.mem_cons_of_mem _ (List.mem_cons_of_mem _ (List.mem_cons_of_mem _ (List.mem_cons_of_mem _ (List.mem_cons_of_mem _ (List.mem_cons_of_mem _ (List.mem_cons_of_mem _ (List.mem_cons_of_mem _ (List.mem_cons_of_mem _ (List.mem_cons_of_mem _ (List.mem_cons_of_mem _ (List.mem_cons_of_mem _ (List.mem_cons_of_mem _ List.mem_cons_self)))))))))))))))))))
    · exact (List.mem_cons_of_mem _ (List.mem_cons_of_mem _ (List.mem_cons_of_mem _ (List.mem_cons_of_mem _ (List.mem_cons_of_mem _ (List.mem_cons_of_mem _ (List.mem_cons_of_mem _ (List.mem_cons_of_mem _ (List.mem_cons_of_mem _ (List.mem_cons_of_mem _ (List.mem_cons_of_mem _ (List.mem_cons_of_mem _ (List.mem_cons_of_mem _ (List.mem_cons_of_mem _ (List.mem_cons_of_mem _ (List.mem_cons_of_mem _ (List.mem_cons_of_mem _ (List.mem_cons_of_mem _ (List.mem_cons_of_mem _ (List.mem_cons_of_mem _ List.mem_cons_self))))))))))))))))))))
    · exact (List.mem_cons_of_mem _ (List.mem_cons_of_mem _ (List.mem_cons_of_mem _ (List.mem_cons_of_mem _ (List.mem_cons_of_mem _ (List.mem_cons_of_mem _ (List.mem_cons_of_mem _ (List.mem_cons_of_mem _ (List.mem_cons_of_mem _ (List.mem_cons_of_mem _ (List.mem_cons_of_mem _ (List.mem_cons_of_mem _ (List.mem_cons_of_mem _ (List.mem_cons_of_mem _ (List.mem_cons_of_mem _ (List.mem_cons_of_mem _ (List.mem_cons_of_mem _ (List.mem_cons_of_mem _ (List.mem_cons_of_mem _ (List.mem_cons_of_mem _ (List.mem_cons_of_mem _ List.mem_cons_self)))))))))))))))))))))) List.mem_cons_self
  have hI : BrEnv W E := ⟨hE, Tryd.laysM219.s1_3 W hSh⟩
  clear hA0 hval0 hsz hsz0
  refine (brstays_any readDoes E p ahead behind fl W hI hTy.ty (by omega)).mono fun e W' ⟨he, bel⟩ => ?_
  subst he
  exact ⟨_, rfl, _, _, _, [], _, [], hW', trodAll_mk1 (shut_bool Tryd.underlying4 _),
    (trodAll_cons_mk (Below.trod Tryd.laidOut (by kernel_rfl) (of_decide_eq_true (by kernel_rfl)) h0 bel lt0) (trodAll_cons_mk (Below.trod Tryd.laidOut (by kernel_rfl) (of_decide_eq_true (by kernel_rfl)) h1 bel lt1) (trodAll_cons_mk (Below.trod Tryd.laidOut (by kernel_rfl) (of_decide_eq_true (by kernel_rfl)) h2 bel lt2) (trodAll_cons_mk (Below.trod Tryd.laidOut (by kernel_rfl) (of_decide_eq_true (by kernel_rfl)) h3 bel lt3) trodAll_mk0)))), rfl, bel.frame _, fun h => by cases h⟩
theorem reads (os : Os) {H : Type} (enc : TypeId × Value → H) : ∃ places, DataW.whole enc Tryd.prog ((World.doorLaid Tryd.prog 3000 os).forCall (fun _ _ => 0) ⟨#[], #[.string ⟨#[]⟩, .string ⟨#[]⟩, .string ⟨#[]⟩, .int .i64 0], []⟩).memory Tryd.f4.params.toList Rows.bracketStaysSpec.vars false (#[.string ⟨#[]⟩, .string ⟨#[]⟩, .string ⟨#[]⟩, .int .i64 0] : Array Value).toList 8 = some ([.lit (.string []), .lit (.string []), .lit (.string []), .lit (.int .i64 0)], [], places) :=
  ⟨[], by kernel_rfl⟩
set_option maxRecDepth 100000 in
theorem lifted (os : Os) (started : os.Started) (H : Type) (enc : TypeId × Value → H) (F : Stop.Interp) :
    ReturnsInHanded {} Tryd.checked os 4 .any ((Rows.OpenSpec.upto Rows.bracketStaysSpec).preRow enc Tryd.prog Tryd.f4 Rows.bracketStaysUptoRow.domain false Rows.bracketStaysUptoRow.laid) (((Rows.OpenSpec.upto Rows.bracketStaysSpec).at F).post enc Tryd.prog Tryd.f4 false true false false) := by
  obtain ⟨places, hx⟩ := reads os enc
  refine returnsInHanded_of_row (C := Tryd.checked) (s := (Rows.OpenSpec.upto Rows.bracketStaysSpec)) Tryd.own started (by kernel_rfl) Tryd.func4
    (witness_row_atRef (enc := enc) (C := Tryd.checked) false (World.doorLaid Tryd.prog 3000 os) #[.string ⟨#[]⟩, .string ⟨#[]⟩, .string ⟨#[]⟩, .int .i64 0] rfl (by kernel_rfl) (by kernel_rfl) (by kernel_rfl)
      (OpenSpec.preRow_of_cond 8 hx (by kernel_rfl) (fun k hk => by cases hk; kernel_rfl) (by kernel_rfl) (laidMetH_of_parts3 (fuel := 8) (laidMet_of_run' 8 (by kernel_rfl) (by kernel_rfl)) (by kernel_rfl) (by kernel_rfl)))) ?_
  intro W base args ds gs before hval hW _ hcond hsz hL hSh _
  exact contract H enc W base args ds gs before hval hW hsz (hcond _ rfl) hL hSh
theorem over : Rows.BracketStaysUptoSaid :=
  OpenClaim.holds_of_cond 4 Tryd.f4 rfl rfl rfl rfl rfl rfl rfl ⟨rfl, rfl, rfl, rfl, rfl⟩ rfl rfl rfl rfl rfl (by kernel_rfl) Tryd.func4 (by kernel_rfl)
    (of_decide_eq_true (by kernel_rfl)) (by unfold Func.isWrapper; first | (rw [if_pos (by decide +kernel)]; kernel_rfl) | (rw [if_neg (by decide +kernel)]; exact ⟨rfl, rfl⟩))
    (fun os started H enc _ F => by rw [OpenClaim.pre_eq_preRow]; exact lifted os started H enc F)
theorem proved : Rows.BracketStaysUptoCardSaid :=
  Claim7.holds_tied_plain_at .later [] [.handle, .sentinel, .sentinel, .sentinel, .sentinel, .sentinel, .sentinel, .sentinel, .sentinel, .sentinel, .sentinel, .sentinel, .sentinel, .sentinel, .sentinel, .sentinel, .sentinel, .sentinel, .sentinel, .sentinel, .sentinel, .sentinel] true Rows.bracketStaysUptoCard.stood.harness true
    over (fun _ h => by cases h) (by kernel_rfl) (fun _ h => by cases h) bracketStaysUpto_row_tie rfl ⟨rfl, rfl⟩ (by kernel_rfl) rfl
    (fun f fn hf hfn => by
      obtain rfl : f = 4 := Option.some.inj ((show Tryd.prog.funcNamed "trawl/trawllaw05.BracketStays" = some 4 by kernel_rfl).symm.trans hf) |>.symm
      obtain rfl : fn = Tryd.f4 := (Option.some.inj (Tryd.func4.symm.trans hfn)).symm
      exact ⟨by kernel_rfl, fun j t ht => by
        rw [Tryd.params4] at ht
        have hm : t ∈ ([9, 9, 9, 3] : List Nat) := by simpa using Array.mem_of_getElem? ht
        have hall : (([9, 9, 9, 3] : List Nat).all fun u => !Tryd.prog.wantsStandIn u) = true := by kernel_rfl
        exact (show Tryd.prog.wantsStandIn t = false by simpa using List.all_eq_true.1 hall t hm)⟩)
    (by kernel_rfl)
end Go.Proofs.YtbpecijdmhablaaDoor.bracketStays
