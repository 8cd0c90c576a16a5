/- trawlnum.Spoil: writes over every list of a tree, and over nothing else. -/
import Derived.Test.YtlbhbjmobcikfaaGreatDoorTrOwn
import Derived.Test.YtlbhbjmobcikfaaGreatDoorOcWalks
namespace Go.Proofs.YtlbhbjmobcikfaaGreatDoor
open Go.RowKit
theorem field5' {w : World} {b : Nat} {t : Tr} {s : Value} {ty : TypeId} (h : w.heap[b]? = some (.cells (t.cells s) ty)) : w.cell? ⟨b, 5, none⟩ = some s := by
  simp [World.cell?, h, Tr.cells]
def SpoilEnd (F : List Nat) (w : World) (e : Ending) (w' : World) : Prop := e = .returned (.tuple #[]) ∧ Touch F w w'
theorem frozen_of {w : World} {g o : Nat} (h : ∃ cs ty, w.heap[g]? = some (.cells cs ty (0, 0))) : w.frozen? ⟨g, o, none⟩ = false := by
  obtain ⟨cs, ty, h⟩ := h; simp [World.frozen?, h]
theorem TenAt.there {w : World} {g o : Nat} {t : Tr} {s : Value} (h : TenAt w g o t s) (hf : ∃ cs ty, w.heap[g]? = some (.cells cs ty (0, 0))) : w.there g o 10 := by
  intro j hj
  refine ⟨?_, frozen_of hf⟩
  have : j = 0 ∨ j = 1 ∨ j = 2 ∨ j = 3 ∨ j = 4 ∨ j = 5 ∨ j = 6 ∨ j = 7 ∨ j = 8 ∨ j = 9 := by omega
  rcases this with rfl | rfl | rfl | rfl | rfl | rfl | rfl | rfl | rfl | rfl
  · simpa using congrArg Option.isSome h.c0
  · simpa using congrArg Option.isSome h.c1
  · simpa using congrArg Option.isSome h.c2
  · simpa using congrArg Option.isSome h.c3
  · simpa using congrArg Option.isSome h.c4
  · simpa using congrArg Option.isSome h.c5
  · simpa using congrArg Option.isSome h.c6
  · simpa using congrArg Option.isSome h.c7
  · simpa using congrArg Option.isSome h.c8
  · simpa using congrArg Option.isSome h.c9
/-- A node further on is not touched by a store. -/
theorem TenAt.setCells {w : World} {g o o' : Nat} {t : Tr} {s : Value} {vs : List Value} (h : TenAt w g o t s) (hv : vs.length = 10) (ho : o' + 10 ≤ o ∨ o + 10 ≤ o') : TenAt (w.setCells g o' vs) g o t s := by
  have e : ∀ k, o ≤ k → k < o + 10 → (w.setCells g o' vs).cell? ⟨g, k, none⟩ = w.cell? ⟨g, k, none⟩ := fun k h1 h2 => World.cell?_setCells_out g vs o' w _ (fun _ _ => by simp; omega)
  exact ⟨(e _ (by omega) (by omega)).trans h.c0, (e _ (by omega) (by omega)).trans h.c1, (e _ (by omega) (by omega)).trans h.c2, (e _ (by omega) (by omega)).trans h.c3, (e _ (by omega) (by omega)).trans h.c4, (e _ (by omega) (by omega)).trans h.c5, (e _ (by omega) (by omega)).trans h.c6, (e _ (by omega) (by omega)).trans h.c7, (e _ (by omega) (by omega)).trans h.c8, (e _ (by omega) (by omega)).trans h.c9⟩
set_option maxRecDepth 100000 in
set_option maxHeartbeats 4000000 in
theorem spoil_nil (t : Tr) (w : World) (p : Option Addr) (cap : Nat) : Calls Tryz.prog 17 #[.agg (t.cells (.slice p 0 cap))] w (SpoilEnd [] w) := by
  unfold Tr.cells
  go_enter Tryz.func17, Tryz.ntmps17
  go_wp2
  go_loopw [6] (fun iv wr => iv = .int .i64 0 ∧ Hid (Below w.heap.size w wr)) (fun _ _ => 0)
  case atStart => exact ⟨rfl, Lib.hid (by go_grown)⟩
  case round =>
    obtain ⟨rfl, HB⟩ := hrel
    go_wp2
    go_end0
    exact ⟨rfl, Touch.of_below _ HB.out⟩
set_option maxRecDepth 100000 in
set_option maxHeartbeats 4000000 in
theorem spoil_any : ∀ t : Tr, ∀ (w : World) (s : Value) (F : List Nat), Owned w s t.subs F → Calls Tryz.prog 17 #[.agg (t.cells s)] w (SpoilEnd F w) := by
  intro t
  induction t using Tr.rec_subs with
  | h t ih =>
    intro w s F hO
    have IH := Lib.hid ih
    clear ih
    have hlt := hO.lt
    generalize hts : t.subs = ts at hO
    cases hO with
    | nil p cap => exact spoil_nil t w p cap
    | row g o cap _ S L hlen hf hc hs hgL hd =>
      have HC := Lib.hid hc; have HO := Lib.hid hs; have HF := Lib.hid hf; have HG := Lib.hid hgL; have HDJ := Lib.hid hd; have HTS := Lib.hid hts; have HLT := Lib.hid hlt
      have hgw : g < w.heap.size := by obtain ⟨cs, ty, h⟩ := hf; exact (Array.getElem?_eq_some_iff.1 h).1
      have hbytes : ts.length ≤ 1152921504606846976 := by omega
      clear hc hs hf hgL hd hts hlt
      unfold Tr.cells
      go_enter Tryz.func17, Tryz.ntmps17
      go_wp2
      go_loopw [6] (fun iv wr => ∃ m : Nat, iv = .int .i64 m ∧ m ≤ ts.length ∧ Hid (Touch (g :: (List.range ts.length).flatMap L) w wr) ∧ w.heap.size < wr.heap.size ∧ Hid (wr.heap[w.heap.size]? = some (.cells (t.cells (.slice (some ⟨g, o, none⟩) ts.length cap)) 28)) ∧
        Hid (∀ j u, m ≤ j → ts[j]? = some u → TenAt wr g (o + j * 10) u (S j) ∧ Owned wr (S j) u.subs (L j)) ∧ Hid (∃ cs ty, wr.heap[g]? = some (.cells cs ty (0, 0)))) (fun iv _ => ts.length - (intOf iv).toNat)
      case atStart =>
        have hb : Below w.heap.size w (w.alloc (.cells #[.int .i64 t.kind, .int .u64 (Oc.U t.w0), .int .u64 (Oc.U t.w1), .int .u64 (Oc.U t.w2), .int .u64 (Oc.U t.w3), .slice (some ⟨g, o, none⟩) ts.length cap, .int .i64 t.num, .int .i64 t.least, .int .i64 t.most, .bool t.bare] 28)) := (Below.refl _ _).alloc (Nat.le_refl _) _
        exact ⟨0, rfl, Nat.zero_le _, Lib.hid (Touch.of_below _ hb), by simp, Lib.hid (heap_alloc_new _ _), Lib.hid (fun j u _ hj => ⟨(HC.out j u hj).keep (hb.block g hgw), (HO.out j u hj).later hb⟩), Lib.hid (by obtain ⟨cs, ty, h⟩ := HF.out; exact ⟨cs, ty, (hb.block g hgw).trans h⟩)⟩
      case round =>
        obtain ⟨m, rfl, hm, HT, hsz, Z0, hrest, hfr⟩ := hrel
        have wm : IntKind.i64.wrap ((m : Int) + 1) = (m : Int) + 1 := IntWalk.i64_in _ (by omega)
        by_cases hlt : m < ts.length
        · obtain ⟨x, hx⟩ : ∃ x, ts[m]? = some x := ⟨_, List.getElem?_eq_getElem hlt⟩
          obtain ⟨t10, own1⟩ := hrest.out m x (Nat.le_refl _) hx
          obtain ⟨d0, d1, d2, d3, d4, d5, d6, d7, d8, d9⟩ := t10
          have hmem : x ∈ t.subs := by rw [HTS.out]; exact List.mem_of_getElem? hx
          have HCALL := Lib.hid (IH.out x hmem wr (S m) (L m) own1)
          have f5 := field5' Z0.out
          have OWN := Lib.hid own1
          have HX := Lib.hid hx
          clear own1 hmem hx
          go_wp2_with fail
          unfold Tr.cells at HCALL
          refine HCALL.out.mono ?_
          rintro e w2 ⟨rfl, ht2⟩
          have hgm := HG.out m hlt
          have hgr : g < wr.heap.size := Nat.lt_of_lt_of_le hgw HT.out.size
          have hg2 : w2.heap[g]? = wr.heap[g]? := ht2.block g hgr hgm
          have hwm : w.heap.size ∉ L m := fun h => by
            have := HLT.out w.heap.size (List.mem_cons_of_mem _ (mem_range_flatMap.2 ⟨m, hlt, h⟩)); omega
          have Z2 : Hid (w2.heap[w.heap.size]? = some (.cells (t.cells (.slice (some ⟨g, o, none⟩) ts.length cap)) 28)) := Lib.hid ((ht2.block _ hsz hwm).trans Z0.out)
          have hf2 : ∃ cs ty, w2.heap[g]? = some (.cells cs ty (0, 0)) := by rw [hg2]; exact hfr.out
          have HTH := Lib.hid (((hrest.out m x (Nat.le_refl _) HX.out).1.keep hg2).there hf2)
          have HT2 := Lib.hid (HT.out.trans (ht2.mono fun b hb => List.mem_cons_of_mem _ (mem_range_flatMap.2 ⟨m, hlt, hb⟩)))
          have HF2 := Lib.hid hf2; have HG2 := Lib.hid hg2; have HTT := Lib.hid ht2
          have f6 := field5' Z2.out
          have hsz2 : w.heap.size < w2.heap.size := Nat.lt_of_lt_of_le hsz ht2.size
          have hne : w.heap.size ≠ g := by omega
          clear d0 d1 d2 d3 d4 d5 d6 d7 d8 d9 f5 hg2 hf2 ht2
          go_wp2_with (first
            | (refine wpList_store_mid rfl 28 (.tmp 20) (.tmp 19) rfl g (o + m * 10) #[.int .i64 77, .int .u64 0, .int .u64 0, .int .u64 0, .int .u64 0, .slice none 0 0, .int .i64 m, .int .i64 0, .int .i64 0, .bool false] rfl rfl HTH.out (by kernel_rfl) (by simp [Value.oneCell']) ?_; generalize hw3 : World.setCells w2 _ _ _ = w3; have HW3 := Lib.hid hw3; clear hw3)
            | fail)
          rw [← HW3.out]
          refine ⟨⟨m + 1, by go_num, by omega, Lib.hid (HT2.out.setCells List.mem_cons_self _ _), by rw [size_setCells]; exact hsz2, Lib.hid ((heap_setCells_other hne _ _ _).trans Z2.out), Lib.hid ?_, Lib.hid (cells_setCells _ _ _ HF2.out)⟩, by simp [intOf]; omega⟩
          intro j u hj hu
          have hjl := lt_of_some hu
          obtain ⟨q1, q2⟩ := hrest.out j u (by omega) hu
          refine ⟨(q1.keep HG2.out).setCells rfl (by omega), ?_⟩
          have q3 : Owned w2 (S j) u.subs (L j) := q2.keep fun b hb => HTT.out.block b (q2.lt b hb) (HDJ.out j m b hjl hlt (by omega) hb)
          exact q3.keep fun b hb => heap_setCells_other (fun e => by subst e; exact HG.out j hjl hb) _ _ _
        · obtain rfl : m = ts.length := by omega
          go_wp2
          go_end0
          exact ⟨rfl, HT.out⟩
end Go.Proofs.YtlbhbjmobcikfaaGreatDoor
