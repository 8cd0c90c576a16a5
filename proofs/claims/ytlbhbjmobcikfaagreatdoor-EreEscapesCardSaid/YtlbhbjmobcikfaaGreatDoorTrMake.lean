/- tree.Copy and what is made with it: lists as new memory, each in a block of its own. -/
import Derived.Test.YtlbhbjmobcikfaaGreatDoorTrSpoil
import Derived.Test.YtlbhbjmobcikfaaGreatDoorTrCopy
import Derived.Laws.MakeOwn
namespace Go.Proofs.YtlbhbjmobcikfaaGreatDoor
open Go.RowKit
/-- What makes a tree ends with: lists from the heap's end on, each in a block of its own. -/
def OwnEnd (t : Tr) (w : World) (e : Ending) (w' : World) : Prop := ∃ s F, e = .returned (.agg (t.cells s)) ∧ Owned w' s t.subs F ∧ (∀ b, b ∈ F → w.heap.size ≤ b) ∧ Below w.heap.size w w'
/-- The same of a list. -/
def OwnsEnd (ts : List Tr) (w : World) (e : Ending) (w' : World) : Prop := ∃ v F, e = .returned v ∧ Owned w' v ts F ∧ (∀ b, b ∈ F → w.heap.size ≤ b) ∧ Below w.heap.size w w'
theorem Owned.slice {w : World} {s : Value} {ts : List Tr} {F : List Nat} (h : Owned w s ts F) : ∃ p cap, s = .slice p ts.length cap ∧ ts.length * 96 ≤ 140737488351232 := h.trees.slice
theorem nodeC_all (x : Tr) (p : Option Addr) (l c : Nat) : (x.cells (.slice p l c)).all (·.oneCell') = true := by simp [Tr.cells, Value.oneCell']
def pick {α : Type} (f : Nat → α) (m : Nat) (x : α) (i : Nat) : α := if i = m then x else f i
theorem pick_eq {α : Type} (f : Nat → α) (m : Nat) (x : α) : pick f m x m = x := if_pos rfl
theorem pick_ne {α : Type} (f : Nat → α) (m : Nat) (x : α) {i : Nat} (h : i ≠ m) : pick f m x i = f i := if_neg h
/-- The first m of a list of copies. -/
def CopiedTo (w : World) (g : Nat) (ts : List Tr) (m : Nat) : Prop :=
  ∃ (S : Nat → Value) (L : Nat → List Nat), (∀ i t, i < m → ts[i]? = some t → TenAt w g (i * 10) t (S i) ∧ Owned w (S i) t.subs (L i)) ∧ (∀ i, i < m → ∀ b, b ∈ L i → g < b) ∧
    (∀ i j b, i < m → j < m → i ≠ j → b ∈ L i → b ∉ L j) ∧ (∀ i, i < m → ∀ b, b ∈ L i → b < w.heap.size)
theorem CopiedTo.zero (w : World) (g : Nat) (ts : List Tr) : CopiedTo w g ts 0 := ⟨fun _ => undef, fun _ => [], fun i t h => by omega, fun i h => by omega, fun i j b h => by omega, fun i h => by omega⟩
theorem TenAt.of_range {w : World} {g o : Nat} {t : Tr} {s : Value} (h : w.rangeAt g o (t.cells s).toList) : TenAt w g o t s := by
  have get := fun j u (hu : (t.cells s).toList[j]? = some u) => h j u hu
  exact ⟨get 0 _ rfl, get 1 _ rfl, get 2 _ rfl, get 3 _ rfl, get 4 _ rfl, get 5 _ rfl, get 6 _ rfl, get 7 _ rfl, get 8 _ rfl, get 9 _ rfl⟩
theorem there_row {w : World} {g o n : Nat} {cs : Array Value} {ty : TypeId} (h : w.heap[g]? = some (.cells cs ty (0, 0))) (hn : o + n ≤ cs.size) : w.there g o n := by
  intro j hj
  refine ⟨?_, frozen_of ⟨cs, ty, h⟩⟩
  have hlt : o + j < cs.size := by omega
  simp [World.cell?, h, hlt]
/-- One copy more. -/
theorem CopiedTo.step {wr w2 : World} {g m : Nat} {ts : List Tr} {x : Tr} {s : Value} {F : List Nat} (h : CopiedTo wr g ts m) (hx : ts[m]? = some x) (hb : Below wr.heap.size wr w2) (hg : g < wr.heap.size)
    (ho : Owned w2 s x.subs F) (hF : ∀ b, b ∈ F → wr.heap.size ≤ b) (ht : w2.there g (m * 10) 10) : CopiedTo (w2.setCells g (m * 10) (x.cells s).toList) g ts (m + 1) := by
  obtain ⟨S, L, h1, h2, h3, h4⟩ := h
  have hg2 : w2.heap[g]? = wr.heap[g]? := hb.block g hg
  have hsz := hb.size
  have hoth : ∀ b, b ≠ g → (w2.setCells g (m * 10) (x.cells s).toList).heap[b]? = w2.heap[b]? := fun b hbg => heap_setCells_other hbg _ _ _
  refine ⟨pick S m s, pick L m F, fun i t hi hti => ?_, fun i hi b hbL => ?_, fun i j b hi hj hij h5 h6 => ?_, fun i hi b hbL => ?_⟩
  · by_cases e : i = m
    · subst e
      rw [pick_eq, pick_eq]
      rw [hx] at hti
      obtain rfl := Option.some.inj hti
      refine ⟨TenAt.of_range (World.rangeAt_setCells_same _ _ _ _ (by simpa [Tr.cells] using ht)), ho.keep fun b hb' => hoth b (fun e => by subst e; have := hF _ hb'; omega)⟩
    · rw [pick_ne _ _ _ e, pick_ne _ _ _ e]
      obtain ⟨q1, q2⟩ := h1 i t (by omega) hti
      refine ⟨(q1.keep hg2).setCells rfl (by omega), (q2.later hb).keep fun b hb' => hoth b (fun e => by subst e; exact absurd (h2 i (by omega) _ hb') (by omega))⟩
  · by_cases e : i = m
    · subst e; rw [pick_eq] at hbL; have := hF b hbL; omega
    · rw [pick_ne _ _ _ e] at hbL; exact h2 i (by omega) b hbL
  · by_cases e : i = m
    · subst e
      rw [pick_eq] at h5; rw [pick_ne _ _ _ (Ne.symm hij)] at h6
      have := hF b h5; have := h4 j (by omega) b h6; omega
    · rw [pick_ne _ _ _ e] at h5
      by_cases e2 : j = m
      · subst e2; rw [pick_eq] at h6
        have := hF b h6; have := h4 i (by omega) b h5; omega
      · rw [pick_ne _ _ _ e2] at h6; exact h3 i j b (by omega) (by omega) hij h5 h6
  · rw [size_setCells]
    by_cases e : i = m
    · subst e; rw [pick_eq] at hbL; exact ho.lt b hbL
    · rw [pick_ne _ _ _ e] at hbL; have := h4 i (by omega) b hbL; omega
theorem CopiedTo.owned {w : World} {g : Nat} {ts : List Tr} (h : CopiedTo w g ts ts.length) (hlen : ts.length * 96 ≤ 140737488351232) (hf : ∃ cs ty, w.heap[g]? = some (.cells cs ty (0, 0))) (cap : Nat) :
    ∃ F, Owned w (.slice (some ⟨g, 0, none⟩) ts.length cap) ts F ∧ ∀ b, b ∈ F → g ≤ b := by
  obtain ⟨S, L, h1, h2, h3, h4⟩ := h
  refine ⟨_, .row g 0 cap ts S L hlen hf (fun i t hi => by rw [Nat.zero_add]; exact (h1 i t (lt_of_some hi) hi).1) (fun i t hi => (h1 i t (lt_of_some hi) hi).2) (fun i hi hm => absurd (h2 i hi g hm) (by omega)) h3, fun b hb => ?_⟩
  rcases List.mem_cons.1 hb with rfl | hb
  · omega
  · obtain ⟨i, hi, hb⟩ := mem_range_flatMap.1 hb
    have := h2 i hi b hb; omega
theorem row_setCells {b n : Nat} {ty : TypeId} : ∀ {vs : List Value} {o : Nat} {w : World} {C : Array Value}, w.heap[b]? = some (.cells C ty) → C.size = n → ∃ C' : Array Value, (w.setCells b o vs).heap[b]? = some (.cells C' ty) ∧ C'.size = n
  | [], _, _, C, h, hn => ⟨C, h, hn⟩
  | v :: r, o, w, C, h, hn => by
    rw [World.setCells]
    exact row_setCells (vs := r) (o := o + 1) (C := C.setIfInBounds o v) (by simp [World.setCell, Array.getElem?_modify, h]) (by simpa using hn)
theorem setCells_below {B b : Nat} {a w : World} (h : Below B a w) (hb : B ≤ b) (o : Nat) (vs : List Value) : Below B a (w.setCells b o vs) := by
  obtain ⟨h1, h2, h3⟩ := streams_setCells b vs o w
  exact h.trans ⟨h1, h2, h3, by rw [size_setCells]; omega, fun k hk => heap_setCells_other (by omega) _ _ _⟩
/-- make of a list of nodes. -/
theorem make_nodes (n : Nat) (hn : n * 96 ≤ 140737488351232) : ∃ CS : Array Value, CS.size = n * 10 ∧ ∀ w : World, (Instr.makeSlice 26 (.int .i64 n) (.int .i64 n)).run Tryz.prog w = .ok (.slice (some ⟨w.heap.size, 0, none⟩) n n) (w.alloc (.cells CS 28)) := by
  obtain ⟨ie, hi, hz0, hz1, hz2⟩ := info_parts Tryz.infoNode
  refine ⟨madeCells (Value.agg #[.int .i64 0, .int .u64 0, .int .u64 0, .int .u64 0, .int .u64 0, .slice none 0 0, .int .i64 0, .int .i64 0, .int .i64 0, .bool false]).cells (n * 10), size_madeCells _ _, fun w => ?_⟩
  have h := run_make (P := Tryz.prog) w 26 28 ie _ Tryz.underlying26 hi hz0 .i64 .i64 n n (by omega) (Int.le_refl _) (by rw [hz2]; omega) (by omega)
  simp only [Int.toNat_natCast, hz1] at h
  exact h
set_option maxRecDepth 100000 in
set_option maxHeartbeats 4000000 in
theorem copies_of (ts : List Tr) (ih : ∀ u, u ∈ ts → ∀ (w : World) (B : Nat → Prop) (v : Value), NodeV w B v u → Calls Tryz.prog 113 #[v] w (OwnEnd u w)) (w : World) (B : Nat → Prop) (v : Value) (hs : TreesAt w B v ts) :
    Calls Tryz.prog 114 #[v] w (OwnsEnd ts w) := by
  obtain ⟨p, cap, rfl, hlen⟩ := hs.slice
  by_cases h0 : ts.length = 0
  · obtain rfl := List.length_eq_zero_iff.1 h0
    simp only [List.length_nil] at *
    clear hs
    go_enter Tryz.func114, Tryz.ntmps114
    go_wp2
    go_ret
    exact ⟨_, [], rfl, .nil _ _, fun b hb => (by cases hb), Below.refl _ _⟩
  · have e0 : ((ts.length : Int) == 0) = false := by simp; exact fun h => h0 (by rw [h]; rfl)
    obtain ⟨CS, hCS, hmk⟩ := make_nodes ts.length hlen
    have IH := Lib.hid ih; have HS := Lib.hid hs; have HCS := Lib.hid hCS; have H0 := Lib.hid h0
    clear ih hs hCS h0
    go_enter Tryz.func114, Tryz.ntmps114
    go_wp2
    go_loopw [14] (fun iv wr => ∃ m : Nat, iv = .int .i64 m ∧ m ≤ ts.length ∧ Hid (Below w.heap.size w wr) ∧ w.heap.size < wr.heap.size ∧ Hid (∃ C : Array Value, wr.heap[w.heap.size]? = some (.cells C 28) ∧ C.size = ts.length * 10) ∧ Hid (CopiedTo wr w.heap.size ts m)) (fun iv _ => ts.length - (intOf iv).toNat)
    case atStart => exact ⟨0, rfl, Nat.zero_le _, Lib.hid (by go_grown), by simp, Lib.hid ⟨CS, heap_alloc_new _ _, HCS.out⟩, Lib.hid (CopiedTo.zero _ _ _)⟩
    case round =>
      obtain ⟨m, rfl, hm, HB, hsz, HC, HD⟩ := hrel
      have wm : IntKind.i64.wrap ((m : Int) + 1) = (m : Int) + 1 := IntWalk.i64_in _ (by omega)
      by_cases hlt : m < ts.length
      · obtain ⟨x, hx⟩ : ∃ x, ts[m]? = some x := ⟨_, List.getElem?_eq_getElem hlt⟩
        obtain ⟨b1, o1, s1, rfl, -, t1, sub1⟩ := HS.out.get hx
        obtain ⟨d0, d1, d2, d3, d4, d5, d6, d7, d8, d9⟩ := t1.keep (HB.out.block _ t1.lt)
        obtain ⟨p1, c1, rfl, hl1⟩ := sub1.slice
        have HCALL := Lib.hid (fun w9 hb => IH.out x (List.mem_of_getElem? hx) w9 B (.agg (x.cells (.slice p1 x.subs.length c1))) ⟨_, rfl, sub1.later hb⟩)
        have HX := Lib.hid hx
        clear t1 sub1 hx
        go_wp2_with fail
        generalize hw1 : World.alloc wr _ = w1
        have hb1 : Below wr.heap.size wr w1 := by rw [← hw1]; exact (Below.refl _ _).alloc (Nat.le_refl _) _
        clear hw1
        refine (HCALL.out w1 (HB.out.trans (hb1.mono HB.out.size))).mono ?_
        rintro e w2 ⟨s2, F2, rfl, ho2, hF2, hb2⟩
        obtain ⟨p2, c2, rfl, hl2⟩ := ho2.slice
        have hb12 : Below wr.heap.size wr w2 := hb1.trans (hb2.mono hb1.size)
        obtain ⟨C, hC1, hC2⟩ := HC.out
        have hC3 := keep_blk hb12 hC1
        have hth : w2.there w.heap.size (m * 10) 10 := there_row hC3 (by omega)
        have HTH := Lib.hid hth
        have HST := Lib.hid (HD.out.step HX.out hb12 hsz ho2 (fun b hb => Nat.le_trans hb1.size (hF2 b hb)) hth)
        have HB2 := Lib.hid (HB.out.trans (hb12.mono HB.out.size))
        have HC4 : Hid (∃ C : Array Value, (w2.setCells w.heap.size (m * 10) (x.cells (.slice p2 x.subs.length c2)).toList).heap[w.heap.size]? = some (.cells C 28) ∧ C.size = ts.length * 10) := Lib.hid (row_setCells hC3 hC2)
        have hs2 : w.heap.size < w2.heap.size := Nat.lt_of_lt_of_le hsz hb12.size
        clear hb1 hb2 hb12 ho2 hF2 hC1 hC2 hC3 hth d0 d1 d2 d3 d4 d5 d6 d7 d8 d9
        go_wp2_with (first
          | (refine wpList_store_mid rfl 28 (.tmp 23) (.tmp 22) rfl w.heap.size (m * 10) (x.cells (.slice p2 x.subs.length c2)) rfl rfl HTH.out (by kernel_rfl) (nodeC_all _ _ _ _) ?_; generalize hw3 : World.setCells w2 _ _ _ = w3; have HW3 := Lib.hid hw3; clear hw3)
          | fail)
        rw [← HW3.out]
        refine ⟨⟨m + 1, by go_num, by omega, Lib.hid (setCells_below HB2.out (Nat.le_refl _) _ _), by rw [size_setCells]; exact hs2, HC4, HST⟩, by simp [intOf]; omega⟩
      · obtain rfl : m = ts.length := by omega
        go_wp2
        go_ret
        obtain ⟨C, hC1, -⟩ := HC.out
        obtain ⟨F, hF, hF2⟩ := HD.out.owned hlen ⟨C, _, hC1⟩ ts.length
        exact ⟨_, F, rfl, hF, hF2, HB.out⟩
set_option maxRecDepth 100000 in
set_option maxHeartbeats 4000000 in
theorem copy_any : ∀ t : Tr, ∀ (w : World) (B : Nat → Prop) (v : Value), NodeV w B v t → Calls Tryz.prog 113 #[v] w (OwnEnd t w) := by
  intro t
  induction t using Tr.rec_subs with
  | h t ih =>
    intro w B v hv
    obtain ⟨s, rfl, hs⟩ := hv
    obtain ⟨p, cap, rfl, hlen⟩ := hs.slice
    have HC := Lib.hid (fun w9 (hb : Below w.heap.size w w9) => copies_of t.subs ih w9 B _ (hs.later hb))
    cases t with | node k a b c d ts n lo hi br =>
    simp only [Tr.cells, Tr.kind, Tr.w0, Tr.w1, Tr.w2, Tr.w3, Tr.num, Tr.least, Tr.most, Tr.bare, Tr.subs] at *
    clear ih hs
    go_enter Tryz.func113, Tryz.ntmps113
    go_wp2_with fail
    obtain ⟨z0, z1⟩ := two_new w (.cells #[.int .i64 k, .int .u64 (Oc.U a), .int .u64 (Oc.U b), .int .u64 (Oc.U c), .int .u64 (Oc.U d), .slice p ts.length cap, .int .i64 n, .int .i64 lo, .int .i64 hi, .bool br] 28) (.cells #[.int .i64 0, .int .u64 0, .int .u64 0, .int .u64 0, .int .u64 0, .slice none 0 0, .int .i64 0, .int .i64 0, .int .i64 0, .bool false] 28)
    have hb1 : Below w.heap.size w ((w.alloc (.cells #[.int .i64 k, .int .u64 (Oc.U a), .int .u64 (Oc.U b), .int .u64 (Oc.U c), .int .u64 (Oc.U d), .slice p ts.length cap, .int .i64 n, .int .i64 lo, .int .i64 hi, .bool br] 28)).alloc (.cells #[.int .i64 0, .int .u64 0, .int .u64 0, .int .u64 0, .int .u64 0, .slice none 0 0, .int .i64 0, .int .i64 0, .int .i64 0, .bool false] 28)) := by go_grown
    have hs1 : ((w.alloc (.cells #[.int .i64 k, .int .u64 (Oc.U a), .int .u64 (Oc.U b), .int .u64 (Oc.U c), .int .u64 (Oc.U d), .slice p ts.length cap, .int .i64 n, .int .i64 lo, .int .i64 hi, .bool br] 28)).alloc (.cells #[.int .i64 0, .int .u64 0, .int .u64 0, .int .u64 0, .int .u64 0, .slice none 0 0, .int .i64 0, .int .i64 0, .int .i64 0, .bool false] 28)).heap.size = w.heap.size + 2 := by simp
    generalize World.alloc (World.alloc _ _) _ = w1 at *
    have Z0 := Lib.hid z0; have Z1 := Lib.hid z1; have HB1 := Lib.hid hb1
    clear z0 z1 hb1
    refine (HC.out w1 HB1.out).mono ?_
    rintro e w2 ⟨s2, F, rfl, ho, hF, hb2⟩
    obtain ⟨p2, c2, rfl, hl2⟩ := ho.slice
    have HO := Lib.hid ho; have HF := Lib.hid hF
    have Y0 := Lib.hid (keep_blk hb2 Z0.out); have Y1 := Lib.hid (keep_blk hb2 Z1.out)
    have HB2 := Lib.hid (HB1.out.trans (hb2.mono HB1.out.size))
    obtain ⟨f5, g5⟩ := at5 Y0.out
    have Y0s := Lib.hid (set5 (y := .slice p2 ts.length c2) Y0.out)
    have Y1s : Hid ((w2.setCell ⟨w.heap.size, 5, none⟩ (.slice p2 ts.length c2)).heap[w.heap.size + 1]? = some (.cells #[.int .i64 0, .int .u64 0, .int .u64 0, .int .u64 0, .int .u64 0, .slice none 0 0, .int .i64 0, .int .i64 0, .int .i64 0, .bool false] 28)) := Lib.hid (by rw [Below.heap_setCell _ _ _ _ (by simp)]; exact Y1.out)
    clear ho hF hb2
    go_wp2_with (first
      | (refine wpList_load_row rfl 28 (.tmp 1) rfl w.heap.size rfl 28 _ (0, 0) _ Y0s.out Tryz.underlying28 rfl (by kernel_rfl) ?_)
      | (refine wpList_store_row rfl 28 (.tmp 2) (.tmp 7) rfl (w.heap.size + 1) #[.int .i64 k, .int .u64 (Oc.U a), .int .u64 (Oc.U b), .int .u64 (Oc.U c), .int .u64 (Oc.U d), .slice p2 ts.length c2, .int .i64 n, .int .i64 lo, .int .i64 hi, .bool br] rfl rfl 28 _ Y1s.out (by kernel_rfl) rfl (by simp [Value.oneCell']) ?_)
      | fail)
    refine bodyPost_ret (results_cell_row rfl _ _ (w.heap.size + 1) 28 #[.int .i64 k, .int .u64 (Oc.U a), .int .u64 (Oc.U b), .int .u64 (Oc.U c), .int .u64 (Oc.U d), .slice p2 ts.length c2, .int .i64 n, .int .i64 lo, .int .i64 hi, .bool br] (0, 0) _ rfl (heap_setRow Y1s.out) Tryz.underlying28 rfl (by kernel_rfl)) rfl ⟨_, F, rfl, ?_, ?_, ?_⟩
    · exact HO.out.keep fun b hb => by
        have := HF.out b hb
        rw [heap_setRow_other _ _ _ (by omega), Below.heap_setCell _ _ _ _ (by simp; omega)]
    · intro b hb; have := HF.out b hb; omega
    · exact below_setRow (HB2.out.setCell (Nat.le_refl _) _) (Nat.le_succ _) _
theorem copies_any (ts : List Tr) (w : World) (B : Nat → Prop) (v : Value) (hs : TreesAt w B v ts) : Calls Tryz.prog 114 #[v] w (OwnsEnd ts w) :=
  copies_of ts (fun u _ w B v h => copy_any u w B v h) w B v hs
end Go.Proofs.YtlbhbjmobcikfaaGreatDoor
