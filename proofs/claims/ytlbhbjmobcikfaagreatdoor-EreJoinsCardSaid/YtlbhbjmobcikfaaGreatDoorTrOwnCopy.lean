/- trawlnum.CopyNode: the copy's lists lie each in a block of its own. -/
import Derived.Test.YtlbhbjmobcikfaaGreatDoorTrCopy
import Derived.Test.YtlbhbjmobcikfaaGreatDoorTrMake
namespace Go.Proofs.YtlbhbjmobcikfaaGreatDoor
open Go.RowKit
/-- Members of a list under way: their lists lie in blocks of their own, apart from the list's block. -/
def MemsAt (w : World) (base : Nat) (v : Value) (ps : List (Tr × Value)) : Prop :=
  ∃ L : Nat → List Nat, (∀ (i : Nat) (t : Tr) (s : Value), ps[i]? = some (t, s) → Owned w s t.subs (L i)) ∧ (∀ i b, i < ps.length → b ∈ L i → base ≤ b ∧ v.ownBlock ≠ some b) ∧ (∀ i j b, i < ps.length → j < ps.length → i ≠ j → b ∈ L i → b ∉ L j)
theorem MemsAt.nil (w : World) (base : Nat) (v : Value) : MemsAt w base v [] := ⟨fun _ => [], fun i t s h => by simp at h, fun i b h => by simp at h, fun i j b h => by simp at h⟩
theorem MemsAt.step {wr w3 w4 : World} {base : Nat} {v v' : Value} {ps : List (Tr × Value)} {x : Tr} {s : Value} {F : List Nat} (h : MemsAt wr base v ps) (hb : Below wr.heap.size wr w3) (ho : Owned w3 s x.subs F) (hF : ∀ b, b ∈ F → wr.heap.size ≤ b) (hbase : base ≤ wr.heap.size)
    (hv : ∀ g, v.ownBlock = some g → g < wr.heap.size) (hg : w3.grownBy w4 v.ownBlock) (hw : v'.ownBlock = v.ownBlock ∨ v'.ownBlock = some w3.heap.size) : MemsAt w4 base v' (ps ++ [(x, s)]) := by
  obtain ⟨L, h1, h2, h3⟩ := h
  have hlt : ∀ i b, i < ps.length → b ∈ L i → b < wr.heap.size := fun i b hi hb' => (h1 i ps[i].1 ps[i].2 (List.getElem?_eq_getElem hi)).lt b hb'
  have hnew : ∀ b, b < w3.heap.size → v.ownBlock ≠ some b → v'.ownBlock ≠ some b := fun b hb' hne => by
    rcases hw with e | e
    · rw [e]; exact hne
    · rw [e]; intro h; have := Option.some.inj h; omega
  have hFv : ∀ b, b ∈ F → v.ownBlock ≠ some b := fun b hb' e => by have := hv b e; have := hF b hb'; omega
  refine ⟨pick L ps.length F, fun i t s' hi => ?_, fun i b hi hbL => ?_, fun i j b hi hj hij h5 h6 => ?_⟩
  · by_cases hip : i < ps.length
    · rw [List.getElem?_append_left hip] at hi
      rw [pick_ne _ _ _ (by omega)]
      exact ((h1 i t s' hi).later hb).keep fun b hb' => hg.block b (Nat.lt_of_lt_of_le (hlt i b hip hb') hb.size) (fun e => (h2 i b hip hb').2 e.symm)
    · rw [List.getElem?_append_right (by omega)] at hi
      have hi0 : i - ps.length = 0 := by
        by_cases h0 : i - ps.length = 0
        · exact h0
        · rw [List.getElem?_eq_none (by simp; omega)] at hi; cases hi
      rw [hi0] at hi
      simp only [List.getElem?_cons_zero, Option.some.injEq, Prod.mk.injEq] at hi
      obtain ⟨rfl, rfl⟩ := hi
      obtain rfl : i = ps.length := by omega
      rw [pick_eq]
      exact ho.keep fun b hb' => hg.block b (ho.lt b hb') (fun e => hFv b hb' e.symm)
  · rw [List.length_append] at hi
    by_cases e : i = ps.length
    · subst e; rw [pick_eq] at hbL
      exact ⟨by have := hF b hbL; omega, hnew b (ho.lt b hbL) (hFv b hbL)⟩
    · rw [pick_ne _ _ _ e] at hbL
      have hip : i < ps.length := by simp at hi; omega
      exact ⟨(h2 i b hip hbL).1, hnew b (Nat.lt_of_lt_of_le (hlt i b hip hbL) hb.size) (h2 i b hip hbL).2⟩
  · rw [List.length_append] at hi hj
    simp only [List.length_cons, List.length_nil] at hi hj
    by_cases e : i = ps.length
    · subst e
      rw [pick_eq] at h5; rw [pick_ne _ _ _ (Ne.symm hij)] at h6
      have := hF b h5; have := hlt j b (by omega) h6; omega
    · rw [pick_ne _ _ _ e] at h5
      by_cases e2 : j = ps.length
      · subst e2; rw [pick_eq] at h6
        have := hF b h6; have := hlt i b (by omega) h5; omega
      · rw [pick_ne _ _ _ e2] at h6; exact h3 i j b (by omega) (by omega) hij h5 h6
/-- A row that a call owns, its members' lists apart. -/
theorem owned_of_row {w : World} {base : Nat} {v : Value} {n : Nat} {ps : List (Tr × Value)} (h : w.ownsRow base 28 10 v n (rowOf ps)) (hn : ps.length * 96 ≤ 140737488351232) (hm : MemsAt w base v ps) :
    ∃ F, Owned w v (ps.map (·.1)) F ∧ ∀ b, b ∈ F → base ≤ b := by
  obtain ⟨L, h1, h2, h3⟩ := hm
  have hlen : ps.length = n := by have := h.1; rw [rowOf_length] at this; omega
  have hcells := fun g hv => World.ownsRow.cells h (g := g) hv
  rcases h.2 with ⟨rfl, hn0⟩ | ⟨g, cap, cur, rfl, hbg, hheap, -⟩
  · have : ps = [] := List.length_eq_zero_iff.1 (by omega)
    subst this
    exact ⟨[], Owned.nil _ _, fun b hb => by cases hb⟩
  · have hc := hcells g rfl
    have key : ∀ (i : Nat) (t : Tr) (s : Value), ps[i]? = some (t, s) → TenAt w g (0 + i * 10) t s := by
      intro i t s hi
      have get : ∀ j u, j < 10 → (t.cells s)[j]? = some u → w.cell? ⟨g, 0 + i * 10 + j, none⟩ = some u := by
        intro j u hj hu
        have := hc (i * 10 + j) u (by rw [rowOf_get ps i t s hi j hj]; exact hu)
        have ea : (⟨g, 0, none⟩ : Addr).add (i * 10 + j) = ⟨g, 0 + i * 10 + j, none⟩ := by unfold Addr.add; split <;> simp_all <;> omega
        rw [ea] at this; exact this
      exact ⟨get 0 _ (by omega) rfl, get 1 _ (by omega) rfl, get 2 _ (by omega) rfl, get 3 _ (by omega) rfl, get 4 _ (by omega) rfl, get 5 _ (by omega) rfl, get 6 _ (by omega) rfl, get 7 _ (by omega) rfl, get 8 _ (by omega) rfl, get 9 _ (by omega) rfl⟩
    have hl2 : n = (ps.map (·.1)).length := by rw [List.length_map]; omega
    rw [hl2]
    have split : ∀ (i : Nat) (t : Tr), (ps.map (·.1))[i]? = some t → ∃ s, ps[i]? = some (t, s) := by
      intro i t hi
      rw [List.getElem?_map] at hi
      cases hx : ps[i]? with
      | none => rw [hx] at hi; cases hi
      | some x => rw [hx] at hi; cases x with | mk a b => simp only [Option.map_some, Option.some.injEq] at hi; subst hi; exact ⟨b, rfl⟩
    refine ⟨_, .row g 0 cap (ps.map (·.1)) (fun i => ((ps[i]?).map (·.2)).getD undef) L (by rw [List.length_map]; exact hn) ⟨_, _, hheap⟩ (fun i t hi => ?_) (fun i t hi => ?_) (fun i hi hgL => ?_) (fun i j b hi hj => ?_), fun b hb => ?_⟩
    · obtain ⟨s, hs'⟩ := split i t hi
      simp only [hs', Option.map_some, Option.getD_some]; exact key i t s hs'
    · obtain ⟨s, hs'⟩ := split i t hi
      simp only [hs', Option.map_some, Option.getD_some]
      exact h1 i t s hs'
    · rw [List.length_map] at hi; exact (h2 i g hi hgL).2 rfl
    · rw [List.length_map] at hi hj; exact h3 i j b hi hj
    · rcases List.mem_cons.1 hb with rfl | hb
      · exact hbg
      · obtain ⟨i, hi, hb⟩ := mem_range_flatMap.1 hb
        rw [List.length_map] at hi; exact (h2 i b hi hb).1
set_option maxRecDepth 100000 in
set_option maxHeartbeats 4000000 in
theorem copynode_own : ∀ t : Tr, ∀ (w : World) (B : Nat → Prop) (v : Value), NodeV w B v t → Calls Tryz.prog 27 #[v] w (OwnEnd t w) := by
  intro t
  induction t using Tr.rec_subs with
  | h t ih =>
    intro w B v hv
    obtain ⟨s, rfl, hs⟩ := hv
    obtain ⟨p, cap, rfl, hlen⟩ := hs.slice
    cases t with | node k a b c d ts n lo hi br =>
    simp only [Tr.cells, Tr.kind, Tr.w0, Tr.w1, Tr.w2, Tr.w3, Tr.num, Tr.least, Tr.most, Tr.bare, Tr.subs] at *
    have IH := Lib.hid ih
    have HS := Lib.hid hs
    clear ih hs
    go_enter Tryz.func27, Tryz.ntmps27
    obtain ⟨ie, hi0, hz0, hz1, hz2⟩ := info_parts Tryz.infoNode
    have HI := Lib.hid hi0; have HZ0 := Lib.hid hz0; have HZ1 := Lib.hid hz1; have HZ2 := Lib.hid hz2
    clear hi0 hz0 hz1 hz2
    go_wp2
    go_loopw [9, 3] (fun iv sv wr => ∃ ps : List (Tr × Value), iv = .int .i64 ps.length ∧ ps.length ≤ ts.length ∧ Hid (ps.map (·.1) = ts.take ps.length) ∧ Hid (wr.ownsRow (w.heap.size + 2) 28 10 sv ps.length (rowOf ps)) ∧
      Hid (MemsAt wr (w.heap.size + 2) sv ps) ∧ Hid (Below w.heap.size w wr) ∧ w.heap.size + 1 < wr.heap.size ∧
      Hid (wr.heap[w.heap.size]? = some (.cells #[.int .i64 k, .int .u64 (Oc.U a), .int .u64 (Oc.U b), .int .u64 (Oc.U c), .int .u64 (Oc.U d), .slice p ts.length cap, .int .i64 n, .int .i64 lo, .int .i64 hi, .bool br] 28)) ∧ Hid (wr.heap[w.heap.size + 1]? = some (.cells #[.int .i64 0, .int .u64 0, .int .u64 0, .int .u64 0, .int .u64 0, .slice none 0 0, .int .i64 0, .int .i64 0, .int .i64 0, .bool false] 28))) (fun iv _ _ => ts.length - (intOf iv).toNat)
    case atStart =>
      exact ⟨[], rfl, Nat.zero_le _, Lib.hid (by simp), Lib.hid (World.ownsRow_nil _ _ _ _), Lib.hid (MemsAt.nil _ _ _), Lib.hid (by go_grown), by simp, Lib.hid (two_new _ _ _).1, Lib.hid (two_new _ _ _).2⟩
    case round =>
      obtain ⟨ps, rfl, hm, hmap, hown, hsubs, HB, hsz, Z0, Z1⟩ := hrel
      have wm : IntKind.i64.wrap ((ps.length : Int) + 1) = (ps.length : Int) + 1 := IntWalk.i64_in _ (by omega)
      by_cases hlt : ps.length < ts.length
      · obtain ⟨x, hx⟩ : ∃ x, ts[ps.length]? = some x := ⟨_, List.getElem?_eq_getElem hlt⟩
        obtain ⟨b1, o1, s1, rfl, -, t1, sub1⟩ := HS.out.get hx
        obtain ⟨d0, d1, d2, d3, d4, d5, d6, d7, d8, d9⟩ := t1.keep (HB.out.block _ t1.lt)
        obtain ⟨p1, c1, rfl, hl1⟩ := sub1.slice
        have HC := Lib.hid (fun w9 hb => IH.out x (List.mem_of_getElem? hx) w9 B (.agg (x.cells (.slice p1 x.subs.length c1))) ⟨_, rfl, sub1.later hb⟩)
        have HX := Lib.hid hx
        clear t1 sub1 hx
        go_wp2_with fail
        generalize hw1 : World.alloc wr _ = w1
        have hb1 : Below wr.heap.size wr w1 := by rw [← hw1]; exact (Below.refl _ _).alloc (Nat.le_refl _) _
        have hs1 : w1.heap.size = wr.heap.size + 1 := by rw [← hw1]; simp
        clear hw1
        refine (HC.out w1 (HB.out.trans (hb1.mono HB.out.size))).mono ?_
        intro e w2 he2
        obtain ⟨s2, F2, rfl, hsub2, hF2, hb2⟩ := he2
        obtain ⟨p2, c2, rfl, hl2⟩ := hsub2.slice
        have hb12 : Below wr.heap.size wr w2 := hb1.trans (hb2.mono hb1.size)
        have HB2 := Lib.hid (HB.out.trans (hb12.mono HB.out.size))
        have HB12 := Lib.hid hb12
        have hs2 : w1.heap.size ≤ w2.heap.size := hb2.size
        have hown2 := (hown.out.kept (w' := w2) (row := none) ⟨hb12.os, hb12.tape, hb12.output, hb12.size, fun k hk _ => hb12.block k hk⟩ (by
          cases h : Value.ownBlock u3 with
          | none => exact .inl rfl
          | some g => exact .inr (by simp)))
        have hlt3 := hown.out.lt
        have HOWN2 := Lib.hid (hown2.alloc (.cells (x.cells (.slice p2 x.subs.length c2)) 28))
        have HSUB2 := Lib.hid hsub2; have HF2 := Lib.hid (fun b hb => Nat.le_trans (show wr.heap.size ≤ w1.heap.size by omega) (hF2 b hb)); have HLT3 := Lib.hid hlt3
        have ND := Lib.hid (heap_alloc_new w2 (.cells (x.cells (.slice p2 x.subs.length c2)) 28))
        clear hown2 hsub2 hF2 hb1 hb2 hb12 hlt3
        have HNW : Hid (∀ (j : Nat) (u : Value), (x.cells (.slice p2 x.subs.length c2)).toList[j]? = some u → (w2.alloc (.cells (x.cells (.slice p2 x.subs.length c2)) 28)).cell? ((⟨w2.heap.size, 0, none⟩ : Addr).add j) = some u) := Lib.hid (fun j u hu => by
          have ea : (⟨w2.heap.size, 0, none⟩ : Addr).add j = ⟨w2.heap.size, j, none⟩ := by unfold Addr.add; split <;> simp_all
          rw [ea, cell_new]; simpa using hu)
        have HBA : Hid (w.heap.size + 2 ≤ (w2.alloc (.cells (x.cells (.slice p2 x.subs.length c2)) 28)).heap.size) := Lib.hid (by simp; omega)
        have hml : ps.length + 1 ≤ maxLen := by unfold maxLen; omega
        have hbyt : (ps.length + 1) * 96 ≤ 140737488355328 := by omega
        go_wp2_with (first
          | (refine wpList_node1 rfl (.tmp 15) x p2 x.subs.length c2 rfl rfl ?_)
          | (refine wpList_append_fresh _ rfl (.tmp 13) (.tmp 16) 26 rfl (w.heap.size + 2) 28 ie _ 10 96 Tryz.underlying26 HI.out HZ0.out HZ1.out HZ2.out rfl (by decide) _ _ _ rfl HOWN2.out ⟨w2.heap.size, 0, none⟩ 1 1 (x.cells (.slice p2 x.subs.length c2)).toList rfl rfl HNW.out (nodeC_one _ _ _ _) (by decide) hml hbyt HBA.out ?_; intro v' w4 hown4 hgrow4 hwhere)
          | fail)
        have HG4 := Lib.hid hgrow4; have HW4 := Lib.hid hwhere
        have hb3 : Below wr.heap.size wr (w2.alloc (.cells (x.cells (.slice p2 x.subs.length c2)) 28)) := HB12.out.alloc HB12.out.size _
        have key : ∀ k, k < wr.heap.size → k < w.heap.size + 2 → w4.heap[k]? = wr.heap[k]? := fun k hk hk2 =>
          (HG4.out.block k (Nat.lt_of_lt_of_le hk hb3.size) (fun e => by have := (HLT3.out k e.symm).1; omega)).trans (hb3.block k hk)
        refine ⟨⟨ps ++ [(x, .slice p2 x.subs.length c2)], by simp, by simp; omega, Lib.hid ?_, Lib.hid ?_, Lib.hid ?_, Lib.hid ?_, ?_, Lib.hid ((key _ (by omega) (by omega)).trans Z0.out), Lib.hid ((key _ hsz (by omega)).trans Z1.out)⟩, by simp [intOf]; omega⟩
        · rw [List.map_append, hmap.out, List.length_append]
          show List.take ps.length ts ++ [x] = List.take (ps.length + 1) ts
          rw [List.take_add_one, HX.out]; rfl
        · rw [rowOf_snoc, List.length_append]; exact hown4
        · exact hsubs.out.step hb3 (HSUB2.out.later ((Below.refl _ _).alloc (Nat.le_refl _) _)) HF2.out (by omega) (fun g hg => (HLT3.out g hg).2) HG4.out HW4.out
        · exact (HB2.out.alloc HB2.out.size _).grown HG4.out (by have := HB2.out.size; simp; omega) (fun k e => by have := (HLT3.out k e).1; omega)
        · have := HG4.out.size; have h3 := hb3.size; omega
      · have hlen2 : ps.length = ts.length := by omega
        have hmap2 : ps.map (·.1) = ts := by rw [hmap.out, hlen2, List.take_length]
        have hlt3 := hown.out.lt
        obtain ⟨F, htr, hF⟩ := owned_of_row hown.out (by omega) hsubs.out
        rw [hmap2] at htr
        have HTR := Lib.hid htr; have HFB := Lib.hid hF
        obtain ⟨f5, g5⟩ := at5 Z0.out
        have Z0s := Lib.hid (set5 (y := u3) Z0.out)
        have Z1s : Hid ((wr.setCell ⟨w.heap.size, 5, none⟩ u3).heap[w.heap.size + 1]? = some (.cells #[.int .i64 0, .int .u64 0, .int .u64 0, .int .u64 0, .int .u64 0, .slice none 0 0, .int .i64 0, .int .i64 0, .int .i64 0, .bool false] 28)) := Lib.hid (by rw [Below.heap_setCell _ _ _ _ (by simp)]; exact Z1.out)
        clear htr hlt3 hmap2 hF
        obtain ⟨q3, l3, c3, rfl⟩ : ∃ q l c, u3 = .slice q l c := by
          obtain ⟨q, c, e, -⟩ := HTR.out.slice; exact ⟨_, _, _, e⟩
        go_wp2_with (first
          | (refine wpList_load_row rfl 28 (.tmp 1) rfl w.heap.size rfl 28 _ (0, 0) _ Z0s.out Tryz.underlying28 rfl (by kernel_rfl) ?_)
          | (refine wpList_store_row rfl 28 (.tmp 2) (.tmp 21) rfl (w.heap.size + 1) #[.int .i64 k, .int .u64 (Oc.U a), .int .u64 (Oc.U b), .int .u64 (Oc.U c), .int .u64 (Oc.U d), .slice q3 l3 c3, .int .i64 n, .int .i64 lo, .int .i64 hi, .bool br] rfl rfl 28 _ Z1s.out (by kernel_rfl) rfl (by simp [Value.oneCell']) ?_)
          | fail)
        refine bodyPost_ret (results_cell_row rfl _ _ (w.heap.size + 1) 28 #[.int .i64 k, .int .u64 (Oc.U a), .int .u64 (Oc.U b), .int .u64 (Oc.U c), .int .u64 (Oc.U d), .slice q3 l3 c3, .int .i64 n, .int .i64 lo, .int .i64 hi, .bool br] (0, 0) _ rfl (heap_setRow Z1s.out) Tryz.underlying28 rfl (by kernel_rfl)) rfl ⟨_, F, rfl, ?_, (fun b hb => by have := HFB.out b hb; omega), ?_⟩
        · exact HTR.out.keep fun b hb => by
            have := HFB.out b hb
            rw [heap_setRow_other _ _ _ (by omega), Below.heap_setCell _ _ _ _ (by simp; omega)]
        · exact below_setRow (HB.out.setCell (Nat.le_refl _) _) (Nat.le_succ _) _
end Go.Proofs.YtlbhbjmobcikfaaGreatDoor
