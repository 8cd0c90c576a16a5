/- The helper 'rows' of the laws: the first rows of a set, in a list of its own. -/
import Derived.Test.YtdlcnhelkjlglaaDoorOcRows
namespace Go.Proofs.YtdlcnhelkjlglaaDoor
open Go.RowKit Go.Shelf
attribute [local go_sem] Oper.semAt_some
/-- What comes if one stops at most rows. -/
def cut {α : Type} (most : Int) (l : List α) : List α := if 1 ≤ most ∧ most ≤ l.length then l.take most.toNat else l
def rowCells (l : List (Nat × Nat)) : List Value := l.flatMap fun x => [.int .u8 x.1, .int .u8 ((x.2 : Int) - 1)]
theorem rowCells_snoc (l : List (Nat × Nat)) (x : Nat × Nat) : rowCells (l ++ [x]) = rowCells l ++ [.int .u8 x.1, .int .u8 ((x.2 : Int) - 1)] := by simp [rowCells]
theorem rowCells_length (l : List (Nat × Nat)) : (rowCells l).length = l.length * 2 := by
  induction l with
  | nil => rfl
  | cons x l ih => simp [rowCells] at ih ⊢; omega
theorem Tryd.infoRow : (Tryd.prog.info? 40).map (fun i => (i.zero, i.size, i.bytes)) = some (some (.agg #[.int .u8 0, .int .u8 0]), 2, 2) := by kernel_rfl
theorem fn_nil (p : Value) (w : World) : (binOp .eql 42 (.func (.func 30) #[] #[p]) .nilFunc).run Tryd.prog w = .ok (.bool false) w := by kernel_rfl
theorem pair_at (w : World) (x y : Value) (t : TypeId) : ∀ j u, [x, y][j]? = some u → (w.alloc (.cells #[x, y] t)).cell? ((⟨w.heap.size, 0, none⟩ : Addr).add j) = some u := by
  intro j u h
  rw [Addr.add_mid, Nat.zero_add, cell_new]
  simpa using h
theorem keepsSets_append {W w1 : World} {n₀ B : Nat} {t e : TypeId} {size : Nat} {v : Value} {k : Nat} {xs : List Value} {tmp : Obj}
    (hv : Boxed W B t v) (ht : t ≠ 24) (he : e ≠ 24) (hrow : W.ownsRow n₀ e size v k xs) (h21 : 21 < n₀) (hB : n₀ ≤ B)
    (hgrow : (W.alloc tmp).grownBy w1 v.ownBlock) (v' : Value) : KeepsSets W (w1.setCell ⟨B, 0, none⟩ v') := by
  intro b c t' z hb hor
  have hlt := (Array.getElem?_eq_some_iff.1 hb).1
  have h1 : (W.alloc tmp).heap[b]? = some (.cells c t' z) := heap_alloc_lt hb
  have n1 : some b ≠ v.ownBlock := by
    intro hh
    rcases hrow.2 with ⟨rfl, _⟩ | ⟨g, cap, cur, rfl, hbase, hgb, _⟩
    · simp [Value.ownBlock] at hh
    · obtain rfl : b = g := by simpa [Value.ownBlock] using hh
      rw [hgb] at hb
      simp only [Option.some.injEq, Obj.cells.injEq] at hb
      rcases hor with h | h
      · exact he (hb.2.1.trans h)
      · omega
  have h2 := (hgrow.block b (by simp; omega) n1).trans h1
  have n2 : some b ≠ some B := by
    intro hh
    obtain rfl : b = B := by simpa using hh
    rw [show W.heap[b]? = _ from hv] at hb
    simp only [Option.some.injEq, Obj.cells.injEq] at hb
    rcases hor with h | h
    · exact ht (hb.2.1.trans h)
    · omega
  exact ((grownBy_setCell' w1 B v').block b (Array.getElem?_eq_some_iff.1 h2).1 n2).trans h2
theorem rows_tail {w W : World} {B2 B3 D n : Nat} {v : Value} {xs : List Value} (b2 : Boxed W B2 35 (.slice none 0 0)) (b3 : Boxed W B3 4 (.bool false)) (hne : B2 ≠ B3) (h2 : w.heap.size ≤ B2) (h3 : w.heap.size ≤ B3) (hD : w.heap.size ≤ D)
    (hrow : W.ownsRow w.heap.size 40 2 v n xs) (hB : Below w.heap.size w W) (hK : W.heap[D]? = some (.deferred (some []))) :
    ((W.setCell ⟨B2, 0, none⟩ v).setCell ⟨B3, 0, none⟩ (.bool true)).heap[D]? = some (.deferred (some [])) ∧
    (((W.setCell ⟨B2, 0, none⟩ v).setCell ⟨B3, 0, none⟩ (.bool true)).putObj D (.deferred none)).cell? ⟨B2, 0, none⟩ = some v ∧
    (((W.setCell ⟨B2, 0, none⟩ v).setCell ⟨B3, 0, none⟩ (.bool true)).putObj D (.deferred none)).cell? ⟨B3, 0, none⟩ = some (.bool true) ∧
    (((W.setCell ⟨B2, 0, none⟩ v).setCell ⟨B3, 0, none⟩ (.bool true)).putObj D (.deferred none)).ownsRow w.heap.size 40 2 v n xs ∧
    Below w.heap.size w (((W.setCell ⟨B2, 0, none⟩ v).setCell ⟨B3, 0, none⟩ (.bool true)).putObj D (.deferred none)) := by
  have b3n := (b3.other (show B3 ≠ B2 by omega) v)
  have c2n := (b2.set v).other hne (.bool true)
  have c3n := b3n.set (.bool true)
  have hK2 : ((W.setCell ⟨B2, 0, none⟩ v).setCell ⟨B3, 0, none⟩ (.bool true)).heap[D]? = some (.deferred (some [])) := (KeepsOthers.setCell _ _ _).same D _ ((KeepsOthers.setCell _ _ _).same D _ hK rfl) rfl
  have r1 := hrow.kept (grownBy_setCell' W B2 v) (.inr (b2.not_row (by decide) hrow).symm)
  have r2 := r1.kept (grownBy_setCell' _ B3 (.bool true)) (.inr (b3n.not_row (by decide) r1).symm)
  refine ⟨hK2, ?_, ?_, ownsRow_putObj r2 _ hK2 rfl, ?_⟩
  · exact cell_kept c2n.cell (grownBy_putObj' _ D (.deferred none)) (fun r e => by cases e; exact ⟨_, hK2, rfl⟩)
  · exact cell_kept c3n.cell (grownBy_putObj' _ D (.deferred none)) (fun r e => by cases e; exact ⟨_, hK2, rfl⟩)
  · exact ((hB.setCell (p := ⟨B2, 0, none⟩) h2 _).setCell (p := ⟨B3, 0, none⟩) h3 _).grown (grownBy_putObj' _ D (.deferred none)) (by have := (Array.getElem?_eq_some_iff.1 hK2).1; have := (((hB.setCell (p := ⟨B2, 0, none⟩) h2 v).setCell (p := ⟨B3, 0, none⟩) h3 (.bool true))).size; omega) (fun k e => by cases e; exact hD)
set_option maxRecDepth 100000 in
set_option maxHeartbeats 2000000 in
theorem rows_any (a b c d : BitVec 64) (most : Int) (w : World) (hT : TabAt 21 Lib.deBruijn64tab w) :
    Calls Tryd.prog 19 #[(.agg #[.int .u64 (Oc.U a), .int .u64 (Oc.U b), .int .u64 (Oc.U c), .int .u64 (Oc.U d)]), .int .i64 most] w fun e W' => ∃ v, e = .returned (.tuple #[v, .bool true]) ∧
      W'.ownsRow w.heap.size 40 2 v (cut most (Oc.rowsOf (Oc.mem a b c d) (Oc.mem (~~~a) (~~~b) (~~~c) (~~~d)))).length (rowCells (cut most (Oc.rowsOf (Oc.mem a b c d) (Oc.mem (~~~a) (~~~b) (~~~c) (~~~d))))) ∧ (v = .slice none 0 0 ↔ cut most (Oc.rowsOf (Oc.mem a b c d) (Oc.mem (~~~a) (~~~b) (~~~c) (~~~d))) = []) ∧ Below w.heap.size w W' := by
  have h21 := tab_lt hT
  obtain ⟨i0, hi, hz0, hz1, hz2⟩ := info_parts Tryd.infoRow
  refine (callsIn_wide (n := 9)).1 ?_
  refine callsIn_of_wp_marks Tryd.func19 rfl trivial ?_ rfl
  simp only [Tryd.ntmps19, List.size_toArray, List.length_cons, List.length_nil, Nat.reduceAdd, Nat.reduceSub, Array.replicate_succ, Array.replicate_zero, List.push_toArray, List.append_toArray, List.nil_append, List.cons_append]
  gi_wp2_with fail
  refine ⟨trivial, (rowsOf_in a b c d _ _).mono ?_⟩
  rintro e w1 ⟨rfl, rfl⟩
  have hfn := fn_nil
  gi_wp2_with fail
  obtain ⟨W0, hW0⟩ : ∃ W0, (((((w.alloc (.cells #[.int .u64 (Oc.U a), .int .u64 (Oc.U b), .int .u64 (Oc.U c), .int .u64 (Oc.U d)] 24)).alloc (.cells #[.int .i64 most] 3)).alloc (.cells #[.slice none 0 0] 35)).alloc (.cells #[.bool false] 4)).alloc (.cells #[.int .u64 (Oc.U a), .int .u64 (Oc.U b), .int .u64 (Oc.U c), .int .u64 (Oc.U d)] 24)).alloc (.cells #[.slice none 0 0] 35) = W0 := ⟨_, rfl⟩
  have b1 : Boxed W0 (w.heap.size + 1) 3 (.int .i64 most) := by
    rw [← hW0]; have := Boxed.new (w.alloc (.cells #[.int .u64 (Oc.U a), .int .u64 (Oc.U b), .int .u64 (Oc.U c), .int .u64 (Oc.U d)] 24)) 3 (.int .i64 most)
    rw [World.size_alloc] at this; exact (((this.alloc _).alloc _).alloc _).alloc _
  have b2 : Boxed W0 (w.heap.size + 1 + 1) 35 (.slice none 0 0) := by
    rw [← hW0]; have := Boxed.new ((w.alloc (.cells #[.int .u64 (Oc.U a), .int .u64 (Oc.U b), .int .u64 (Oc.U c), .int .u64 (Oc.U d)] 24)).alloc (.cells #[.int .i64 most] 3)) 35 (.slice none 0 0)
    simp only [World.size_alloc] at this; exact ((this.alloc _).alloc _).alloc _
  have b3 : Boxed W0 (w.heap.size + 1 + 1 + 1) 4 (.bool false) := by
    rw [← hW0]; have := Boxed.new (((w.alloc (.cells #[.int .u64 (Oc.U a), .int .u64 (Oc.U b), .int .u64 (Oc.U c), .int .u64 (Oc.U d)] 24)).alloc (.cells #[.int .i64 most] 3)).alloc (.cells #[.slice none 0 0] 35)) 4 (.bool false)
    simp only [World.size_alloc] at this; exact (this.alloc _).alloc _
  have b4 : W0.heap[w.heap.size + 1 + 1 + 1 + 1]? = some (.cells #[.int .u64 (Oc.U a), .int .u64 (Oc.U b), .int .u64 (Oc.U c), .int .u64 (Oc.U d)] 24) := by
    rw [← hW0]; have := heap_alloc_new ((((w.alloc (.cells #[.int .u64 (Oc.U a), .int .u64 (Oc.U b), .int .u64 (Oc.U c), .int .u64 (Oc.U d)] 24)).alloc (.cells #[.int .i64 most] 3)).alloc (.cells #[.slice none 0 0] 35)).alloc (.cells #[.bool false] 4)) (.cells #[.int .u64 (Oc.U a), .int .u64 (Oc.U b), .int .u64 (Oc.U c), .int .u64 (Oc.U d)] 24)
    simp only [World.size_alloc] at this; exact heap_alloc_lt this
  have b5 : Boxed W0 (w.heap.size + 1 + 1 + 1 + 1 + 1) 35 (.slice none 0 0) := by
    rw [← hW0]; have := Boxed.new (((((w.alloc (.cells #[.int .u64 (Oc.U a), .int .u64 (Oc.U b), .int .u64 (Oc.U c), .int .u64 (Oc.U d)] 24)).alloc (.cells #[.int .i64 most] 3)).alloc (.cells #[.slice none 0 0] 35)).alloc (.cells #[.bool false] 4)).alloc (.cells #[.int .u64 (Oc.U a), .int .u64 (Oc.U b), .int .u64 (Oc.U c), .int .u64 (Oc.U d)] 24)) 35 (.slice none 0 0)
    simp only [World.size_alloc] at this; exact this
  have hB0 : Below w.heap.size w W0 := by
    rw [← hW0]; exact (((((((Below.refl _ w).alloc (Nat.le_refl _) _).alloc (by simp) _).alloc (by simp; omega) _).alloc (by simp; omega) _).alloc (by simp; omega) _).alloc (by simp; omega) _)
  have hsz0 : W0.heap.size = w.heap.size + 6 := by rw [← hW0]; simp
  have hT0 := tab_kept hT (KeepsSets.of_below hB0)
  rw [hW0]
  clear hW0 hT hfn
  generalize hB1 : w.heap.size + 1 = B1 at *
  generalize hB2 : B1 + 1 = B2 at *
  generalize hB3 : B2 + 1 = B3 at *
  generalize hB4 : B3 + 1 = B4 at *
  generalize hB5 : B4 + 1 = B5 at *
  refine wpIn_rangeFunc_ownG rfl (by omega) (gf := 30) (lb := #[.pointer (some ⟨B4, 0, none⟩)]) rfl trivial (enters_of Tryd.func30 (by kernel_rfl) rfl)
    (rows_stops _ (by omega) B4 a b c d W0 b4 hT0) (fun h k => KeepsSets.trans h k) keepsSets_b (Below.refl _ _) (fun _ => rfl)
    (fun pre W => (∃ v, Boxed W B5 35 v ∧ W.ownsRow w.heap.size 40 2 v pre.length (rowCells pre) ∧ (v = .slice none 0 0 ↔ pre = [])) ∧ Boxed W B1 3 (.int .i64 most) ∧ Boxed W B2 35 (.slice none 0 0) ∧ Boxed W B3 4 (.bool false) ∧ (∀ k : Nat, 1 ≤ k → k ≤ pre.length → (k : Int) ≠ most) ∧ Below w.heap.size w W)
    (fun cc pre W => (cc = .exit 0 ∧ pre ≠ [] ∧ (pre.length : Int) = most) ∧ (∃ v, Boxed W B5 35 v ∧ W.ownsRow w.heap.size 40 2 v pre.length (rowCells pre) ∧ (v = .slice none 0 0 ↔ pre = [])) ∧ Boxed W B2 35 (.slice none 0 0) ∧ Boxed W B3 4 (.bool false) ∧ Below w.heap.size w W)
    (OwnFrom.and (Own.from (holdsRow_own w.heap.size B5 35 40 2 (fun pre => pre.length) rowCells (fun pre v => v = .slice none 0 0 ↔ pre = [])) _) (OwnFrom.and (Own.from (boxed_own _ _ _) _) (OwnFrom.and (Own.from (boxed_own _ _ _) _) (OwnFrom.and (Own.from (boxed_own _ _ _) _) (OwnFrom.and (ownFrom_pure _ _) (ownFrom_below (Nat.le_refl _) (by omega)))))))
    (fun cc => OwnFrom.and (ownFrom_pure _ _) (OwnFrom.and (Own.from (holdsRow_own w.heap.size B5 35 40 2 (fun pre => pre.length) rowCells (fun pre v => v = .slice none 0 0 ↔ pre = [])) _) (OwnFrom.and (Own.from (boxed_own _ _ _) _) (OwnFrom.and (Own.from (boxed_own _ _ _) _) (ownFrom_below (Nat.le_refl _) (by omega))))))
    ⟨⟨_, b5, World.ownsRow_nil _ _ _ _, by simp⟩, b1, b2, b3, fun k h1 h2 => by simp at h2; omega, hB0⟩
    (fun x => { tmps := #[(.agg #[.int .u64 (Oc.U a), .int .u64 (Oc.U b), .int .u64 (Oc.U c), .int .u64 (Oc.U d)]), .int .i64 most, .pointer (some ⟨w.heap.size, 0, none⟩), .pointer (some ⟨B1, 0, none⟩), .pointer (some ⟨B2, 0, none⟩), .pointer (some ⟨B3, 0, none⟩), .func (.func 30) #[] #[.pointer (some ⟨B4, 0, none⟩)], .pointer (some ⟨B5, 0, none⟩), .int .u8 x.1, .int .u8 ((x.2 : Int) - 1), (.agg #[.int .u64 (Oc.U a), .int .u64 (Oc.U b), .int .u64 (Oc.U c), .int .u64 (Oc.U d)]), .func (.func 30) #[] #[.pointer (some ⟨B4, 0, none⟩)], .func (.func 30) #[] #[.pointer (some ⟨B4, 0, none⟩)], .bool false, .func (.func 30) #[] #[.pointer (some ⟨B4, 0, none⟩)], .int .u8 x.1, .int .u8 ((x.2 : Int) - 1), undef, undef, undef, undef, undef, undef, undef, undef, undef, undef, undef, undef, undef, undef], defers := [] }) ?assign ?body ?done ?stop
  case assign =>
    intro l x W K hK
    dsimp only [rowArgs]
    gi_wp2
    exact hK
  case body =>
    rintro l pre x W ⟨⟨v, hv, hrow, hnil⟩, b1, b2, b3, hne, hB⟩ hlt
    have hc := hv.cell
    have hB5' : w.heap.size ≤ B5 := by omega
    have hB15 : B1 ≠ B5 := by omega
    have hB25 : B2 ≠ B5 := by omega
    have hB35 : B3 ≠ B5 := by omega
    have HNE := Lib.hid hne
    have HNIL := Lib.hid hnil
    clear hne hnil
    gi_wp2_with (gi_at_builtin; refine wpListIn_append_own _ rfl _ _ 35 rfl w.heap.size 40 i0 _ 2 2 Tryd.underlying35 hi hz0 hz1 hz2 rfl (by decide) _ _ _ rfl (hrow.alloc _) ⟨W.heap.size, 0, none⟩ 1 1 [.int .u8 x.1, .int .u8 ((x.2 : Int) - 1)] rfl rfl (pair_at _ _ _ _) (by simp [Value.oneCell']) (by unfold maxLen; omega) (by omega) (by have := hB.size; simp; omega) ?_; intro v' w5 hown' hgrow _; obtain ⟨g', cap', rfl⟩ := ownsRow_succ hown'; obtain ⟨hv1, hv2, hr2, hk2, hb2⟩ := hv.appended (by decide) hrow hB.size hB5' hown' hgrow; have hc1 := hv1.cell; have hf1 := hv1.frozen; have hc2 := hv2.cell; have hks := keepsSets_append (tmp := (.cells #[.int .u8 x.1, .int .u8 ((x.2 : Int) - 1)] 40)) hv (by decide) (by decide) hrow h21 hB5' hgrow (.slice (some ⟨g', 0, none⟩) (pre.length + 1) cap'); have b1' := ((b1.alloc _).kept hgrow (b1.not_row (by decide) hrow)).other hB15 (.slice (some ⟨g', 0, none⟩) (pre.length + 1) cap'); have b2' := ((b2.alloc _).kept hgrow (b2.not_row (by decide) hrow)).other hB25 (.slice (some ⟨g', 0, none⟩) (pre.length + 1) cap'); have b3' := ((b3.alloc _).kept hgrow (b3.not_row (by decide) hrow)).other hB35 (.slice (some ⟨g', 0, none⟩) (pre.length + 1) cap'); have hcm := b1'.cell)
    · have hx : ((pre.length : Int) + 1 == most) = true := by assumption
      rw [beq_iff_eq] at hx
      refine ⟨hk2.from _, ⟨rfl, by simp, by simp; omega⟩, ⟨_, hv2, by rw [rowCells_snoc]; simpa using hr2, by simp⟩, b2', b3', hB.trans hb2⟩
    · have hx : ((pre.length : Int) + 1 == most) = false := by assumption
      rw [beq_eq_false_iff_ne] at hx
      refine ⟨hk2.from _, hks, ⟨_, hv2, by rw [rowCells_snoc]; simpa using hr2, by simp⟩, b1', b2', b3', fun k h1 h2 => ?_, hB.trans hb2⟩
      rw [List.length_append, List.length_singleton] at h2
      by_cases hk : k ≤ pre.length
      · exact HNE.out k h1 hk
      · omega
  case done =>
    rintro D ys W hD rfl ⟨⟨v, hv, hrow, hnil⟩, b1, b2, b3, hne, hB⟩ hK
    obtain ⟨pp, ll, ccc, rfl⟩ : ∃ pp ll cc, v = .slice pp ll cc := by
      rcases hrow.2 with ⟨rfl, _⟩ | ⟨g, cap, cur, rfl, _⟩ <;> exact ⟨_, _, _, rfl⟩
    have hcut : cut most (Oc.rowsOf (Oc.mem a b c d) (Oc.mem (~~~a) (~~~b) (~~~c) (~~~d))) = Oc.rowsOf (Oc.mem a b c d) (Oc.mem (~~~a) (~~~b) (~~~c) (~~~d)) := by
      unfold cut
      rw [if_neg]
      rintro ⟨h1, h2⟩
      exact hne most.toNat (by omega) (by omega) (by omega)
    have hc := hv.cell; have f2 := b2.frozen
    have b3n := (b3.other (show B3 ≠ B2 by omega) (.slice pp ll ccc))
    have f3 := b3n.frozen
    have c3p := b3n.cell; have c2p := b2.cell
    obtain ⟨t1, t2, t3, t4, t5⟩ := rows_tail b2 b3 (show B2 ≠ B3 by omega) (by omega) (by omega) (by omega) hrow hB hK
    gi_wp2
    refine ⟨by simp, .inl ⟨_, _, rfl, run_takeDeferred t1, ?_⟩⟩
    exact ⟨.tuple #[.slice pp ll ccc, .bool true], by simp [results, Tryd.results19, go_sem, t2, t3], .slice pp ll ccc, rfl, by rw [hcut]; exact t4, by rw [hcut]; exact hnil, t5⟩
  case stop =>
    rintro D cc pre W hD hpre ⟨⟨rfl, hnn, hmo⟩, ⟨v, hv, hrow, hnil⟩, b2, b3, hB⟩ hK
    obtain ⟨pp, ll, ccc, rfl⟩ : ∃ pp ll cc, v = .slice pp ll cc := by
      rcases hrow.2 with ⟨rfl, _⟩ | ⟨g, cap, cur, rfl, _⟩ <;> exact ⟨_, _, _, rfl⟩
    obtain ⟨rest, hrest⟩ := hpre
    have hcut : cut most (Oc.rowsOf (Oc.mem a b c d) (Oc.mem (~~~a) (~~~b) (~~~c) (~~~d))) = pre := by
      have hpl : 1 ≤ pre.length := by cases pre with
        | nil => exact absurd rfl hnn
        | cons x l => simp
      rw [← hrest]
      unfold cut
      rw [if_pos ⟨by omega, by simp; omega⟩, show most.toNat = pre.length by omega]
      simp
    have hc := hv.cell; have f2 := b2.frozen
    have b3n := (b3.other (show B3 ≠ B2 by omega) (.slice pp ll ccc))
    have f3 := b3n.frozen
    have c3p := b3n.cell; have c2p := b2.cell
    obtain ⟨t1, t2, t3, t4, t5⟩ := rows_tail b2 b3 (show B2 ≠ B3 by omega) (by omega) (by omega) (by omega) hrow hB hK
    gi_wp2
    refine ⟨by simp, .inl ⟨_, _, rfl, run_takeDeferred t1, ?_⟩⟩
    exact ⟨.tuple #[.slice pp ll ccc, .bool true], by simp [results, Tryd.results19, go_sem, t2, t3], .slice pp ll ccc, rfl, by rw [hcut]; exact t4, by rw [hcut]; exact hnil, t5⟩
end Go.Proofs.YtdlcnhelkjlglaaDoor
