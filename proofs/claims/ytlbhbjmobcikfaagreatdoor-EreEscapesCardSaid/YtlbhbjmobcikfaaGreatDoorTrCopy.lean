/- trawlnum.CopyNode: a tree as new memory. -/
import Derived.Test.YtlbhbjmobcikfaaGreatDoorTrRow
import Derived.Test.YtlbhbjmobcikfaaGreatDoorOcWalks
import Derived.Great.BuildSlice
import Derived.Test.YtlbhbjmobcikfaaGreatDoorAppFresh
namespace Go.Proofs.YtlbhbjmobcikfaaGreatDoor
open Go.RowKit
theorem Tryz.infoNode : (Tryz.prog.info? 28).map (fun i => (i.zero, i.size, i.bytes)) = some (some (.agg #[.int .i64 0, .int .u64 0, .int .u64 0, .int .u64 0, .int .u64 0, .slice none 0 0, .int .i64 0, .int .i64 0, .int .i64 0, .bool false]), 10, 96) := by kernel_rfl
/-- What makes a tree as new memory ends with: lists from block B on, none of them the blocks that E says. -/
def NewEnd (t : Tr) (w : World) (e : Ending) (w' : World) : Prop := ∃ v, e = .returned v ∧ NodeV w' (fun b => w.heap.size ≤ b) v t ∧ Below w.heap.size w w'
theorem NewEnd.of {t : Tr} {w : World} {e : Ending} {w' : World} (h : NewEnd t w e w') : ∃ s, e = .returned (.agg (t.cells s)) ∧ TreesAt w' (fun b => w.heap.size ≤ b) s t.subs ∧ Below w.heap.size w w' := by
  obtain ⟨v, rfl, ⟨s, rfl, hs⟩, hb⟩ := h; exact ⟨s, rfl, hs, hb⟩
theorem nodeC_one (x : Tr) (p : Option Addr) (l c : Nat) : ∀ u ∈ (x.cells (.slice p l c)).toList, u.oneCell' = true := by simp [Tr.cells, Value.oneCell']
/-- The list of one node that was just made, to be appended. -/
theorem wpList_node1 {ops : Array Oper} {rest : List Oper} {o : Oper} {a : Act} {w : World} {Q : Exit → Act → World → Prop} (hgd : o.guard = none) (x : Operand) (t : Tr) (p : Option Addr) (len cap : Nat) (ho : o.op = .buildSlice 26 1 #[(0, x)]) (hx : a.eval x = .agg (t.cells (.slice p len cap)))
    (h : wpList Tryz.prog ops Q rest (a.put o.dst (.slice (some ⟨w.heap.size, 0, none⟩) 1 1)) (w.alloc (.cells (t.cells (.slice p len cap)) 28))) : wpList Tryz.prog ops Q (o :: rest) a w := by
  refine wpList_plain hgd fun K hK => ?_
  obtain ⟨ie, hi, hz0, hz1, -⟩ := info_parts Tryz.infoNode
  refine wp_buildSlice 26 28 1 _ ho _ ie _ Tryz.underlying26 hi hz0 (by rw [hz1]; decide) (by rw [hz1]; decide) ?_ (hK _ _ h)
  rw [hz1]
  simp only [List.map_toArray, List.map_cons, List.map_nil, hx]
  kernel_rfl
/-- The lists below stay, whether append has written in place or not. -/
theorem subs_step {w3 w4 : World} {base : Nat} {v v' : Value} {s : Value} {ts : List Tr} (h : TreesAt w3 (fun b => base ≤ b ∧ v.ownBlock ≠ some b) s ts) (hg : w3.grownBy w4 v.ownBlock) (hw : v'.ownBlock = v.ownBlock ∨ v'.ownBlock = some w3.heap.size) :
    TreesAt w4 (fun b => base ≤ b ∧ v'.ownBlock ≠ some b) s ts := by
  have h1 : TreesAt w3 (fun b => (base ≤ b ∧ v.ownBlock ≠ some b) ∧ v'.ownBlock ≠ some b) s ts := h.mono fun b hb hB => ⟨hB, by
    rcases hw with e | e
    · rw [e]; exact hB.2
    · rw [e]; intro h; have := Option.some.inj h; omega⟩
  exact (h1.keep (w' := w4) fun b hb hB => hg.block b hb (fun e => hB.1.2 e.symm)).mono fun b _ hB => ⟨hB.1.1, hB.2⟩
/-- A store into one cell of a node's block. -/
theorem set5 {w : World} {b : Nat} {x0 x1 x2 x3 x4 x5 x6 x7 x8 x9 y : Value} {t : TypeId} (h : w.heap[b]? = some (.cells #[x0, x1, x2, x3, x4, x5, x6, x7, x8, x9] t)) : (w.setCell ⟨b, 5, none⟩ y).heap[b]? = some (.cells #[x0, x1, x2, x3, x4, y, x6, x7, x8, x9] t) := by
  simp [World.setCell, Array.getElem?_modify, h]
theorem at5 {w : World} {b : Nat} {x0 x1 x2 x3 x4 x5 x6 x7 x8 x9 : Value} {t : TypeId} (h : w.heap[b]? = some (.cells #[x0, x1, x2, x3, x4, x5, x6, x7, x8, x9] t)) : w.cell? ⟨b, 5, none⟩ = some x5 ∧ w.frozen? ⟨b, 5, none⟩ = false := by
  simp [World.cell?, World.frozen?, h]
set_option maxRecDepth 100000 in
set_option maxHeartbeats 4000000 in
theorem copynode_any : ∀ t : Tr, ∀ (w : World) (B : Nat → Prop) (v : Value), NodeV w B v t → Calls Tryz.prog 27 #[v] w (NewEnd t w) := by
  intro t
  induction t using Tr.rec_subs with
  | h t ih =>
    intro w B v hv
    obtain ⟨s, rfl, hs⟩ := hv
    obtain ⟨p, cap, rfl, hlen⟩ := hs.slice
    cases t with | node k a b c d ts n lo hi br =>
    simp only [Tr.cells, Tr.kind, Tr.w0, Tr.w1, Tr.w2, Tr.w3, Tr.num, Tr.least, Tr.most, Tr.bare, Tr.subs] at *
    have IH := Lib.hid ih
    have HS := Lib.hid hs
    clear ih hs
    go_enter Tryz.func27, Tryz.ntmps27
    obtain ⟨ie, hi0, hz0, hz1, hz2⟩ := info_parts Tryz.infoNode
    have HI := Lib.hid hi0; have HZ0 := Lib.hid hz0; have HZ1 := Lib.hid hz1; have HZ2 := Lib.hid hz2
    clear hi0 hz0 hz1 hz2
    go_wp2
    go_loopw [9, 3] (fun iv sv wr => ∃ ps : List (Tr × Value), iv = .int .i64 ps.length ∧ ps.length ≤ ts.length ∧ Hid (ps.map (·.1) = ts.take ps.length) ∧ Hid (wr.ownsRow (w.heap.size + 2) 28 10 sv ps.length (rowOf ps)) ∧
      Hid (∀ (i : Nat) (t : Tr) (s : Value), ps[i]? = some (t, s) → TreesAt wr (fun b => w.heap.size + 2 ≤ b ∧ sv.ownBlock ≠ some b) s t.subs) ∧ Hid (Below w.heap.size w wr) ∧ w.heap.size + 1 < wr.heap.size ∧
      Hid (wr.heap[w.heap.size]? = some (.cells #[.int .i64 k, .int .u64 (Oc.U a), .int .u64 (Oc.U b), .int .u64 (Oc.U c), .int .u64 (Oc.U d), .slice p ts.length cap, .int .i64 n, .int .i64 lo, .int .i64 hi, .bool br] 28)) ∧ Hid (wr.heap[w.heap.size + 1]? = some (.cells #[.int .i64 0, .int .u64 0, .int .u64 0, .int .u64 0, .int .u64 0, .slice none 0 0, .int .i64 0, .int .i64 0, .int .i64 0, .bool false] 28))) (fun iv _ _ => ts.length - (intOf iv).toNat)
    case atStart =>
      exact ⟨[], rfl, Nat.zero_le _, Lib.hid (by simp), Lib.hid (World.ownsRow_nil _ _ _ _), Lib.hid (fun i t s h => by simp at h), Lib.hid (by go_grown), by simp, Lib.hid (two_new _ _ _).1, Lib.hid (two_new _ _ _).2⟩
    case round =>
      obtain ⟨ps, rfl, hm, hmap, hown, hsubs, HB, hsz, Z0, Z1⟩ := hrel
      have wm : IntKind.i64.wrap ((ps.length : Int) + 1) = (ps.length : Int) + 1 := IntWalk.i64_in _ (by omega)
      by_cases hlt : ps.length < ts.length
      · obtain ⟨x, hx⟩ : ∃ x, ts[ps.length]? = some x := ⟨_, List.getElem?_eq_getElem hlt⟩
        obtain ⟨b1, o1, s1, rfl, -, t1, sub1⟩ := HS.out.get hx
        obtain ⟨d0, d1, d2, d3, d4, d5, d6, d7, d8, d9⟩ := t1.keep (HB.out.block _ t1.lt)
        obtain ⟨p1, c1, rfl, hl1⟩ := sub1.slice
        have HC := Lib.hid (fun w9 hb => IH.out x (List.mem_of_getElem? hx) w9 B (.agg (x.cells (.slice p1 x.subs.length c1))) ⟨_, rfl, sub1.later hb⟩)
        have HX := Lib.hid hx
        clear t1 sub1 hx
        go_wp2_with fail
        generalize hw1 : World.alloc wr _ = w1
        have hb1 : Below wr.heap.size wr w1 := by rw [← hw1]; exact (Below.refl _ _).alloc (Nat.le_refl _) _
        have hs1 : w1.heap.size = wr.heap.size + 1 := by rw [← hw1]; simp
        clear hw1
        refine (HC.out w1 (HB.out.trans (hb1.mono HB.out.size))).mono ?_
        intro e w2 he2
        obtain ⟨s2, rfl, hsub2, hb2⟩ := he2.of
        obtain ⟨p2, c2, rfl, hl2⟩ := hsub2.slice
        clear he2
        have hb12 : Below wr.heap.size wr w2 := hb1.trans (hb2.mono hb1.size)
        have HB2 := Lib.hid (HB.out.trans (hb12.mono HB.out.size))
        have HB12 := Lib.hid hb12
        have hs2 : w1.heap.size ≤ w2.heap.size := hb2.size
        have hown2 := (hown.out.kept (w' := w2) (row := none) ⟨hb12.os, hb12.tape, hb12.output, hb12.size, fun k hk _ => hb12.block k hk⟩ (by
          cases h : Value.ownBlock u3 with
          | none => exact .inl rfl
          | some g => exact .inr (by simp)))
        have hlt3 := hown.out.lt
        have HOWN2 := Lib.hid (hown2.alloc (.cells (x.cells (.slice p2 x.subs.length c2)) 28))
        have HSUB2 := Lib.hid hsub2; have HLT3 := Lib.hid hlt3
        have ND := Lib.hid (heap_alloc_new w2 (.cells (x.cells (.slice p2 x.subs.length c2)) 28))
        clear hown2 hsub2 hb1 hb2 hb12 hlt3
        have HNW : Hid (∀ (j : Nat) (u : Value), (x.cells (.slice p2 x.subs.length c2)).toList[j]? = some u → (w2.alloc (.cells (x.cells (.slice p2 x.subs.length c2)) 28)).cell? ((⟨w2.heap.size, 0, none⟩ : Addr).add j) = some u) := Lib.hid (fun j u hu => by
          have ea : (⟨w2.heap.size, 0, none⟩ : Addr).add j = ⟨w2.heap.size, j, none⟩ := by unfold Addr.add; split <;> simp_all
          rw [ea, cell_new]; simpa using hu)
        have HBA : Hid (w.heap.size + 2 ≤ (w2.alloc (.cells (x.cells (.slice p2 x.subs.length c2)) 28)).heap.size) := Lib.hid (by simp; omega)
        have hml : ps.length + 1 ≤ maxLen := by unfold maxLen; omega
        have hbyt : (ps.length + 1) * 96 ≤ 140737488355328 := by omega
        go_wp2_with (first
          | (refine wpList_node1 rfl (.tmp 15) x p2 x.subs.length c2 rfl rfl ?_)
          | (refine wpList_append_fresh _ rfl (.tmp 13) (.tmp 16) 26 rfl (w.heap.size + 2) 28 ie _ 10 96 Tryz.underlying26 HI.out HZ0.out HZ1.out HZ2.out rfl (by decide) _ _ _ rfl HOWN2.out ⟨w2.heap.size, 0, none⟩ 1 1 (x.cells (.slice p2 x.subs.length c2)).toList rfl rfl HNW.out (nodeC_one _ _ _ _) (by decide) hml hbyt HBA.out ?_; intro v' w4 hown4 hgrow4 hwhere)
          | fail)
        have HG4 := Lib.hid hgrow4; have HW4 := Lib.hid hwhere
        have hb3 : Below wr.heap.size wr (w2.alloc (.cells (x.cells (.slice p2 x.subs.length c2)) 28)) := HB12.out.alloc HB12.out.size _
        have key : ∀ k, k < wr.heap.size → k < w.heap.size + 2 → w4.heap[k]? = wr.heap[k]? := fun k hk hk2 =>
          (HG4.out.block k (Nat.lt_of_lt_of_le hk hb3.size) (fun e => by have := (HLT3.out k e.symm).1; omega)).trans (hb3.block k hk)
        refine ⟨⟨ps ++ [(x, .slice p2 x.subs.length c2)], by simp, by simp; omega, Lib.hid ?_, Lib.hid ?_, Lib.hid ?_, Lib.hid ?_, ?_, Lib.hid ((key _ (by omega) (by omega)).trans Z0.out), Lib.hid ((key _ hsz (by omega)).trans Z1.out)⟩, by simp [intOf]; omega⟩
        · rw [List.map_append, hmap.out, List.length_append]
          show List.take ps.length ts ++ [x] = List.take (ps.length + 1) ts
          rw [List.take_add_one, HX.out]; rfl
        · rw [rowOf_snoc, List.length_append]; exact hown4
        · intro i t s hi
          by_cases hip : i < ps.length
          · rw [List.getElem?_append_left hip] at hi
            exact subs_step ((hsubs.out i t s hi).later hb3) HG4.out HW4.out
          · rw [List.getElem?_append_right (by omega)] at hi
            have hi0 : i - ps.length = 0 := by
              by_cases h0 : i - ps.length = 0
              · exact h0
              · rw [List.getElem?_eq_none (by simp; omega)] at hi; cases hi
            rw [hi0] at hi
            simp only [List.getElem?_cons_zero, Option.some.injEq, Prod.mk.injEq] at hi
            obtain ⟨rfl, rfl⟩ := hi
            refine subs_step ?_ HG4.out HW4.out
            refine ((HSUB2.out.later ((Below.refl _ _).alloc (Nat.le_refl _) _)).mono fun b _ hb => ⟨by omega, fun e => ?_⟩)
            have := (HLT3.out b e).2
            omega
        · exact (HB2.out.alloc HB2.out.size _).grown HG4.out (by have := HB2.out.size; simp; omega) (fun k e => by have := (HLT3.out k e).1; omega)
        · have := HG4.out.size; have h3 := hb3.size; omega
      · have hlen2 : ps.length = ts.length := by omega
        have hmap2 : ps.map (·.1) = ts := by rw [hmap.out, hlen2, List.take_length]
        have hlt3 := hown.out.lt
        have htr := trees_of_row (B' := fun b => w.heap.size + 2 ≤ b) hown.out (by omega) hsubs.out (fun b hb => hb.1) (fun g hg => (hlt3 g hg).1)
        rw [hmap2] at htr
        have HTR := Lib.hid htr
        obtain ⟨f5, g5⟩ := at5 Z0.out
        have Z0s := Lib.hid (set5 (y := u3) Z0.out)
        have Z1s : Hid ((wr.setCell ⟨w.heap.size, 5, none⟩ u3).heap[w.heap.size + 1]? = some (.cells #[.int .i64 0, .int .u64 0, .int .u64 0, .int .u64 0, .int .u64 0, .slice none 0 0, .int .i64 0, .int .i64 0, .int .i64 0, .bool false] 28)) := Lib.hid (by rw [Below.heap_setCell _ _ _ _ (by simp)]; exact Z1.out)
        clear htr hlt3 hmap2
        obtain ⟨q3, l3, c3, rfl⟩ : ∃ q l c, u3 = .slice q l c := by
          obtain ⟨q, c, e, -⟩ := HTR.out.slice; exact ⟨_, _, _, e⟩
        go_wp2_with (first
          | (refine wpList_load_row rfl 28 (.tmp 1) rfl w.heap.size rfl 28 _ (0, 0) _ Z0s.out Tryz.underlying28 rfl (by kernel_rfl) ?_)
          | (refine wpList_store_row rfl 28 (.tmp 2) (.tmp 21) rfl (w.heap.size + 1) #[.int .i64 k, .int .u64 (Oc.U a), .int .u64 (Oc.U b), .int .u64 (Oc.U c), .int .u64 (Oc.U d), .slice q3 l3 c3, .int .i64 n, .int .i64 lo, .int .i64 hi, .bool br] rfl rfl 28 _ Z1s.out (by kernel_rfl) rfl (by simp [Value.oneCell']) ?_)
          | fail)
        refine bodyPost_ret (results_cell_row rfl _ _ (w.heap.size + 1) 28 #[.int .i64 k, .int .u64 (Oc.U a), .int .u64 (Oc.U b), .int .u64 (Oc.U c), .int .u64 (Oc.U d), .slice q3 l3 c3, .int .i64 n, .int .i64 lo, .int .i64 hi, .bool br] (0, 0) _ rfl (heap_setRow Z1s.out) Tryz.underlying28 rfl (by kernel_rfl)) rfl ⟨_, rfl, ⟨_, rfl, ?_⟩, ?_⟩
        · exact (HTR.out.keep fun b _ hb => by
            rw [heap_setRow_other _ _ _ (by omega), Below.heap_setCell _ _ _ _ (by simp; omega)]).mono fun b _ hb => by omega
        · exact below_setRow (HB.out.setCell (Nat.le_refl _) _) (Nat.le_succ _) _
end Go.Proofs.YtlbhbjmobcikfaaGreatDoor
