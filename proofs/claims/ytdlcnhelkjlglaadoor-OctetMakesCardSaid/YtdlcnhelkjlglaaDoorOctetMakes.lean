/- OctetMakes: whatever the text, the bytes and the set, the law returns true. -/
import Derived.Test.YtdlcnhelkjlglaaDoorOcMore
import Derived.Test.YtdlcnhelkjlglaaDoorOcLives
import Derived.Test.YtdlcnhelkjlglaaDoorAppendBoth
import Derived.Test.YtdlcnhelkjlglaaDoorRegInv
import Derived.Deep.MidRow
import Derived.Laws.IdiomStrings
namespace Go.Proofs.YtdlcnhelkjlglaaDoor
open Go.RowKit
/-- The cells of a text's first n bytes. -/
def bytesOf (s : ByteArray) (n : Nat) : List Value := (List.range n).map fun i => .int .u8 (byteAt s i)
theorem bytesOf_length (s : ByteArray) (n : Nat) : (bytesOf s n).length = n := by simp [bytesOf]
theorem bytesOf_get (s : ByteArray) (n i : Nat) (h : i < n) : (bytesOf s n)[i]? = some (.int .u8 (byteAt s i)) := by
  unfold bytesOf; rw [List.getElem?_map, List.getElem?_range h]; rfl
theorem bytesOf_one (s : ByteArray) (n : Nat) : ∀ v ∈ bytesOf s n, v.oneCell' = true := by
  intro v h; simp only [bytesOf, List.mem_map] at h; obtain ⟨i, _, rfl⟩ := h; rfl
/-- A text turned into bytes: what the walk needs to know of it. -/
theorem to_bytes (s : ByteArray) (w : World) : ∃ cap w2, (convert 9 26 (.string s)).run Tryd.prog w = .ok (.slice (some ⟨w.heap.size, 0, none⟩) s.size cap) w2 ∧ Below w.heap.size w w2 ∧ w.heap.size < w2.heap.size ∧ ∀ i, i < s.size → w2.cell? ⟨w.heap.size, i, none⟩ = some (.int .u8 (byteAt s i)) := by
  refine ⟨_, _, run_bytes_of_string w 9 26 5 s Tryd.underlying9 Tryd.underlying26 Tryd.underlying5, ?_, ?_, ?_⟩
  · exact (Below.refl _ _).drew.alloc (Nat.le_refl _) _
  · simp
  · intro i hi
    generalize grownCap w s.size 0 5 = cap
    have hb : (w.drew.alloc (.cells (bytesRow s cap) 5 ((bytesRow s cap).size, (bytesRow s cap).size + 1))).heap[w.heap.size]? = some (.cells (bytesRow s cap) 5 ((bytesRow s cap).size, (bytesRow s cap).size + 1)) := heap_alloc_new w.drew _
    rw [cell_of_row _ _ _ _ _ _ hb]
    unfold bytesRow byteAt
    have hi' : i < s.data.size := hi
    rw [Array.getElem?_append_left (by simpa using hi'), Array.getElem?_map, Array.getElem?_eq_getElem hi']
    simp only [Array.getD, dif_pos hi', Option.map_some]
    rfl
/-- Bytes turned back into the text. -/
theorem of_bytes (s : ByteArray) (g cap : Nat) (w : World) (hc : ∀ i, i < s.size → w.cell? ⟨g, i, none⟩ = some (.int .u8 (byteAt s i))) : (convert 26 9 (.slice (some ⟨g, 0, none⟩) s.size cap)).run Tryd.prog w = .ok (.string s) w := by
  have hl : s.data.toList.length = s.size := by simp
  have := run_convert_bytes_back (P := Tryd.prog) w 26 9 5 ⟨g, 0, none⟩ cap s.data.toList Tryd.underlying26 Tryd.underlying5 Tryd.underlying9 (fun j hj => by
    rw [Addr.add_mid, Nat.zero_add, hc j (by rw [← hl]; exact hj)]
    have hj' : j < s.data.size := by simpa using hj
    unfold byteAt; simp only [Array.getD, dif_pos hj', Array.getElem_toList]
    rfl)
  rw [hl] at this
  exact this
set_option maxRecDepth 100000 in
theorem cut_bytes (g n m cap : Nat) (h : m ≤ cap) (w : World) : (Instr.slice 26 (.slice (some ⟨g, 0, none⟩) n cap) none (some (.int .i64 (m : Int))) none).run Tryd.prog w = .ok (.slice (some ⟨g, 0, none⟩) m cap) w := by
  have hz : (sizeOf (Tryd.prog.elem 26)).run Tryd.prog w = .ok 1 w := by kernel_rfl
  rw [run_slice_h w 26 (some ⟨g, 0, none⟩) n cap Tryd.underlying26 .i64 (m : Int) (by omega) (by omega), hz]
  simp only [Result.andThen, sliced, Option.map_some, Int.toNat_natCast, Nat.zero_mul, Nat.sub_zero, Addr.add_mid, Nat.add_zero, ite_self]
theorem seven_at (w : World) (t : TypeId) : ∀ j u, [Value.int .u8 7][j]? = some u → (w.alloc (.cells #[.int .u8 7] t)).cell? ((⟨w.heap.size, 0, none⟩ : Addr).add j) = some u := by
  intro j u h
  rw [Addr.add_mid, Nat.zero_add, cell_new]
  simpa using h
theorem bytes_in {w : World} {g : Nat} {s : ByteArray} {cur : Array Value} {e : TypeId} (hb : w.heap[g]? = some (.cells cur e)) (hc : cur.toList.take (s.size + 1) = bytesOf s s.size ++ [.int .u8 7]) :
    (∀ i, i < s.size → w.cell? ⟨g, i, none⟩ = some (.int .u8 (byteAt s i))) ∧ w.cell? ⟨g, s.size, none⟩ = some (.int .u8 7) := by
  have hl := bytesOf_length s s.size
  have key : ∀ j u, (bytesOf s s.size ++ [.int .u8 7])[j]? = some u → w.cell? ⟨g, j, none⟩ = some u := by
    intro j u hj
    rw [cell_of_row w g _ cur e _ hb, ← Array.getElem?_toList]
    rw [← hc, List.getElem?_take] at hj
    split at hj
    · exact hj
    · cases hj
  refine ⟨fun i hi => key i _ (by rw [List.getElem?_append_left (by omega)]; exact bytesOf_get s s.size i hi), key s.size _ (by rw [List.getElem?_append_right (by omega), hl, Nat.sub_self]; rfl)⟩
theorem Tryd.infoByte : (Tryd.prog.info? 5).map (fun i => (i.zero, i.size, i.bytes)) = some (some (.int .u8 0), 1, 1) := by kernel_rfl
theorem tab_below {g : Nat} {l : List Nat} {w w' : World} (h : TabAt g l w) (hb : Below w.heap.size w w') (hg : g < w.heap.size) : TabAt g l w' := fun j hj => (hb.cell (p := ⟨g, j, none⟩) hg).trans (h j hj)
set_option maxRecDepth 100000 in
set_option maxHeartbeats 1000000 in
theorem makes_any (s : ByteArray) (hs : s.size ≤ 140737488351232) (lo hi : Nat) (hlo : lo < 256) (hhi : hi < 256) (a b c d : BitVec 64) (w : World) (hT : TabAt 21 Lib.deBruijn64tab w) (hg : 21 < w.heap.size) :
    Calls Tryd.prog 3 #[.string s, .int .u8 lo, .int .u8 hi, (.agg #[.int .u64 (Oc.U a), .int .u64 (Oc.U b), .int .u64 (Oc.U c), .int .u64 (Oc.U d)])] w fun e w' => e = .returned (.bool true) ∧ Below w.heap.size w w' := by
  have he := eq4
  obtain ⟨i0, hinf, hz0, hz1, hz2⟩ := info_parts Tryd.infoByte
  have HI := Lib.hid hinf
  have HT := Lib.hid hT
  clear hinf hT
  go_enter Tryd.func3, Tryd.ntmps3
  go_wp2_with fail
  refine (lives_any _).mono ?_
  rintro e w1 ⟨rfl, hb1⟩
  have hzs : w1.heap[w.heap.size]? = some (.cells #[.int .u64 (Oc.U a), .int .u64 (Oc.U b), .int .u64 (Oc.U c), .int .u64 (Oc.U d)] 24) := (hb1.block _ (by simp)).trans (heap_alloc_new _ _)
  have hsz1 : w.heap.size < w1.heap.size := by have := hb1.size; simp at this; omega
  have hbw1 : Below w.heap.size w w1 := ((Below.refl _ _).alloc (Nat.le_refl _) _).trans (hb1.mono (by simp))
  obtain ⟨cap0, w2, hconv, hb2, hsz2, hcell2⟩ := to_bytes s w1
  have HC2 := Lib.hid hcell2
  have HZS := Lib.hid hzs
  clear hb1 hcell2 hzs
  have hnb : ∀ ad, (some ⟨w1.heap.size, 0, none⟩ : Option Addr) = some ad → ∀ j u, (bytesOf s s.size)[j]? = some u → (w2.alloc (.cells #[] 5)).cell? (ad.add j) = some u := by
    intro ad h j u hj
    cases h
    have hlt : j < s.size := by have := (List.getElem?_eq_some_iff.1 hj).1; rwa [bytesOf_length] at this
    rw [bytesOf_get s s.size j hlt] at hj
    cases hj
    rw [Addr.add_mid, Nat.zero_add]
    exact (((Below.refl w2.heap.size w2).alloc (Nat.le_refl _) (.cells #[] 5)).cell (p := ⟨w1.heap.size, j, none⟩) hsz2).trans (HC2.out j hlt)
  go_wp2_with (first
    | (at_builtin; refine append_both _ rfl (.tmp 18) (.tmp 19) _ rfl w2.heap.size 5 i0 _ 1 1 Tryd.underlying26 HI.out hz0 hz1 hz2 rfl (by decide) (.slice (some ⟨w2.heap.size, 0, none⟩) 0 0) 0 [] rfl (World.ownsRow_lit w2 #[] 0 (Nat.le_refl _) (by unfold maxLen; omega) rfl) (some ⟨w1.heap.size, 0, none⟩) s.size cap0 (bytesOf s s.size) rfl (fun h => by cases h) (by rw [bytesOf_length]; omega) hnb (bytesOf_one _ _) (by unfold maxLen; omega) (by omega) (by simp) ?_; rintro v2 w3 hown2 hgr2 -)
    | (at_builtin; refine wpList_append_own _ rfl (.tmp 20) (.tmp 21) _ rfl w2.heap.size 5 i0 _ 1 1 Tryd.underlying26 HI.out hz0 hz1 hz2 rfl (by decide) v2 _ _ rfl (hown2.alloc _) ⟨w3.heap.size, 0, none⟩ 1 1 [.int .u8 7] rfl rfl (seven_at w3 _) (by decide) (by unfold maxLen; omega) (by omega) (by have := hgr2.size; simp at this ⊢; omega) ?_; rintro v3 w4 hown3 hgr3 hne3)
    | fail)
  have bw3 : Below w2.heap.size w2 w3 := ((Below.refl _ _).alloc (Nat.le_refl _) _).grown hgr2 (by simp) (fun k h => by cases h; exact Nat.le_refl _)
  have bw4 : Below w2.heap.size w2 w4 := (bw3.alloc bw3.size _).grown hgr3 (by have := bw3.size; simp; omega) (fun k h => (hown2.lt k h).1)
  obtain ⟨g, cap3, cur, rfl, hg, hblk, hn, hcapm, hcur, htake⟩ : ∃ g cap3 cur, v3 = .slice (some ⟨g, 0, none⟩) (s.size + 1) cap3 ∧ w2.heap.size ≤ g ∧ w4.heap[g]? = some (.cells cur 5) ∧ s.size + 1 ≤ cap3 ∧ cap3 ≤ maxLen ∧ cur.size = cap3 ∧ cur.toList.take (s.size + 1) = bytesOf s s.size ++ [.int .u8 7] := by
    rcases hown3.2 with ⟨h, -⟩ | h
    · exact absurd (hne3.1 h).2 (by omega)
    · simpa using h
  have hin := bytes_in hblk htake
  have hg4 : g < w4.heap.size := (Array.getElem?_eq_some_iff.1 hblk).1
  have hbw2 : Below w.heap.size w w2 := hbw1.trans (hb2.mono (by omega))
  have hbw4 : Below w.heap.size w w4 := hbw2.trans (bw4.mono hbw2.size)
  have hza4 := keep_blk bw4 (keep_blk hb2 HZS.out)
  unfold maxLen at hcapm
  have hsl := cut_bytes g (s.size + 1) s.size cap3 (by omega)
  have HZ4 := Lib.hid hza4; have HIN := Lib.hid hin
  have hsz4 : w.heap.size < w4.heap.size := by have := hb2.size; have := bw4.size; omega
  clear hown2 hown3 hgr2 hgr3 hne3 bw3 bw4 hbw2 hblk hcur htake HI hz0 hz1 hz2 HC2 HZS hza4 hin hb2 hbw1 hconv hnb hsz1 hsz2
  go_simp
  go_wp2_with fail
  have hbn : w4.heap.size ≤ w4.heap.size := Nat.le_refl _
  refine (of_any (some ⟨g, 0, none⟩) s.size cap3 (byteAt s) (by omega) w4 (fun i _ => byteAt_lt s i) (fun i hi => ⟨g, 0, rfl, hg4, by rw [Nat.zero_add]; exact HIN.out.1 i hi⟩)).mono ?_
  rintro e w5 ⟨rfl, hb5⟩
  go_wp2_with fail
  refine (refof_any s (by unfold maxLen; omega) _).mono ?_
  rintro e w6 ⟨rfl, hb6⟩
  have hb46 : Below w4.heap.size w4 w6 := hb5.trans (hb6.mono hb5.size)
  have hbw6 : Below w.heap.size w w6 := hbw4.trans (hb46.mono hbw4.size)
  have HZ6 := Lib.hid (keep_blk hb46 HZ4.out)
  have hin6 : (∀ i, i < s.size → w6.cell? ⟨g, i, none⟩ = some (.int .u8 (byteAt s i))) ∧ w6.cell? ⟨g, s.size, none⟩ = some (.int .u8 7) := ⟨fun i hi => (hb46.cell (p := ⟨g, i, none⟩) hg4).trans (HIN.out.1 i hi), (hb46.cell (p := ⟨g, s.size, none⟩) hg4).trans HIN.out.2⟩
  have hsz6 : w.heap.size < w6.heap.size := by have := hb46.size; omega
  have hstr := of_bytes s g cap3 w6 hin6.1
  have h7 := hin6.2
  clear hb5 hb6 hbw4 HZ4 HIN hin6 hsz4
  go_simp
  go_wp2_with fail
  refine (range_any lo hi hlo hhi w6).mono ?_
  rintro e w7 ⟨rfl, hb7⟩
  go_wp2_with fail
  refine (refrange_any lo hi hlo hhi w7).mono ?_
  rintro e w8 ⟨rfl, hb8⟩
  have hb68 : Below w6.heap.size w6 w8 := hb7.trans (hb8.mono hb7.size)
  have hbw8 : Below w.heap.size w w8 := hbw6.trans (hb68.mono hbw6.size)
  have HZ8 := Lib.hid (keep_blk hb68 HZ6.out)
  have hsz8 : w.heap.size < w8.heap.size := by have := hb68.size; omega
  clear hb7 hb8 hb68 hbw6 HZ6 hstr h7 hb46 hsl hg hg4 hsz6
  go_simp
  go_wp2_with fail
  refine Ri.wp_region_frame (by kernel_rfl) (by kernel_rfl) (by kernel_rfl) (by kernel_rfl)
    (fun L v w' => Below w8.heap.size w8 w' ∧ (L 0 = true → v 0 = (.agg #[.int .u64 (Oc.U a), .int .u64 (Oc.U b), .int .u64 (Oc.U c), .int .u64 (Oc.U d)])) ∧ (L 1 = true → v 1 = .int .i64 (Oc.cnt (Oc.mem a b c d) 256)) ∧ (L 2 = true → v 2 = (.agg #[.int .u64 (Oc.U a), .int .u64 (Oc.U b), .int .u64 (Oc.U c), .int .u64 (Oc.U d)])) ∧ (L 3 = true → v 3 = .int .i64 (Oc.cnt (Oc.mem a b c d) 256)) ∧ (L 4 = true → v 4 = .bool false) ∧ (L 5 = true → v 5 = .bool false) ∧ (L 6 = true → v 6 = (.agg #[.int .u64 (Oc.U a), .int .u64 (Oc.U b), .int .u64 (Oc.U c), .int .u64 (Oc.U d)])) ∧ (L 7 = true → v 7 = .int .u8 lo) ∧ (L 8 = true → v 8 = .bool (Oc.mem a b c d lo)) ∧ (L 9 = true → v 9 = (.agg #[.int .u64 (Oc.U a), .int .u64 (Oc.U b), .int .u64 (Oc.U c), .int .u64 (Oc.U d)])) ∧ (L 10 = true → v 10 = .int .u8 lo) ∧ (L 11 = true → v 11 = .bool (Oc.mem a b c d lo)) ∧ (L 12 = true → v 12 = .bool false) ∧ (L 13 = true → v 13 = .bool false) ∧ (L 14 = true → v 14 = .bool false) ∧ (L 15 = true → v 15 = (.agg #[.int .u64 (Oc.U a), .int .u64 (Oc.U b), .int .u64 (Oc.U c), .int .u64 (Oc.U d)])) ∧ (L 16 = true → v 16 = .int .u8 hi) ∧ (L 17 = true → v 17 = .bool (Oc.mem a b c d hi)) ∧ (L 18 = true → v 18 = (.agg #[.int .u64 (Oc.U a), .int .u64 (Oc.U b), .int .u64 (Oc.U c), .int .u64 (Oc.U d)])) ∧ (L 19 = true → v 19 = .int .u8 hi) ∧ (L 20 = true → v 20 = .bool (Oc.mem a b c d hi)) ∧ (L 21 = true → v 21 = .bool false) ∧ (L 22 = true → v 22 = .bool false))
    ?_ ?_ ?_
  · exact ⟨(Below.refl _ _).drew, by simp, by simp, by simp, by simp, by simp, by simp, by simp, by simp, by simp, by simp, by simp, by simp, by simp, by simp, by simp, by simp, by simp, by simp, by simp, by simp, by simp, by simp, by simp⟩
  · intro i hi9 L v w9 x hI hL hd hv ho
    have hi' : i = 0 ∨ i = 1 ∨ i = 2 ∨ i = 3 ∨ i = 4 ∨ i = 5 ∨ i = 6 ∨ i = 7 ∨ i = 8 ∨ i = 9 ∨ i = 10 ∨ i = 11 ∨ i = 12 ∨ i = 13 ∨ i = 14 ∨ i = 15 ∨ i = 16 ∨ i = 17 ∨ i = 18 ∨ i = 19 ∨ i = 20 ∨ i = 21 ∨ i = 22 := by simp at hi9; omega
    obtain ⟨hb, q0, q1, q2, q3, q4, q5, q6, q7, q8, q9, q10, q11, q12, q13, q14, q15, q16, q17, q18, q19, q20, q21, q22⟩ := hI
    rcases hi' with rfl | rfl | rfl | rfl | rfl | rfl | rfl | rfl | rfl | rfl | rfl | rfl | rfl | rfl | rfl | rfl | rfl | rfl | rfl | rfl | rfl | rfl | rfl
    · have e8 : x.tmps.getD 7 undef = .pointer (some ⟨w.heap.size, 0, none⟩) := ho 7 (by kernel_rfl)
      refine Ri.step_plain rfl rfl (fun K' hK => ?_)
      refine wp_load_row _ _ rfl _ e8 _ _ _ _ (keep_blk hb HZ8.out) Tryd.underlying24 rfl (by kernel_rfl) ?_
      exact hK _ _ ⟨_, _, rfl, rfl, hb, fun _ => rfl, q1, q2, q3, q4, q5, q6, q7, q8, q9, q10, q11, q12, q13, q14, q15, q16, q17, q18, q19, q20, q21, q22⟩
    · have l0 : L 0 = true := by have := hd _ rfl; simp [Region.binds] at this; simp [this]
      have f0 := (hv 0 57 rfl l0).trans (q0 l0)
      refine Ri.step_plain rfl rfl (fun K' hK => ?_)
      go_simp
      refine (count_any _ _ _ _ _).mono ?_
      rintro e w10 ⟨rfl, hb8⟩
      exact hK _ _ ⟨_, _, rfl, rfl, hb.trans (hb8.mono hb.size), q0, fun _ => rfl, q2, q3, q4, q5, q6, q7, q8, q9, q10, q11, q12, q13, q14, q15, q16, q17, q18, q19, q20, q21, q22⟩
    · have e8 : x.tmps.getD 7 undef = .pointer (some ⟨w.heap.size, 0, none⟩) := ho 7 (by kernel_rfl)
      refine Ri.step_plain rfl rfl (fun K' hK => ?_)
      refine wp_load_row _ _ rfl _ e8 _ _ _ _ (keep_blk hb HZ8.out) Tryd.underlying24 rfl (by kernel_rfl) ?_
      exact hK _ _ ⟨_, _, rfl, rfl, hb, q0, q1, fun _ => rfl, q3, q4, q5, q6, q7, q8, q9, q10, q11, q12, q13, q14, q15, q16, q17, q18, q19, q20, q21, q22⟩
    · have l0 : L 2 = true := by have := hd _ rfl; simp [Region.binds] at this; simp [this]
      have f2 := (hv 2 59 rfl l0).trans (q2 l0)
      refine Ri.step_plain rfl rfl (fun K' hK => ?_)
      go_simp
      refine (refcount_any _ _ _ _ _).mono ?_
      rintro e w10 ⟨rfl, hb8⟩
      exact hK _ _ ⟨_, _, rfl, rfl, hb.trans (hb8.mono hb.size), q0, q1, q2, fun _ => rfl, q4, q5, q6, q7, q8, q9, q10, q11, q12, q13, q14, q15, q16, q17, q18, q19, q20, q21, q22⟩
    · have l0 : L 1 = true ∧ L 3 = true := by have := hd _ rfl; simp [Region.binds] at this; simp [this]
      have f1 := (hv 1 58 rfl l0.1).trans (q1 l0.1)
      have f3 := (hv 3 60 rfl l0.2).trans (q3 l0.2)
      refine Ri.step_plain rfl rfl (fun K' hK => ?_)
      go_simp
      exact hK _ _ ⟨_, _, rfl, rfl, hb, q0, q1, q2, q3, fun _ => rfl, q5, q6, q7, q8, q9, q10, q11, q12, q13, q14, q15, q16, q17, q18, q19, q20, q21, q22⟩
    · have l0 : L 4 = true := by have := hd _ rfl; simp [Region.binds] at this; simp [this]
      have f4 := (hv 4 61 rfl l0).trans (q4 l0)
      refine Ri.step_plain rfl rfl (fun K' hK => ?_)
      go_simp
      exact hK _ _ ⟨_, _, rfl, rfl, hb, q0, q1, q2, q3, q4, fun _ => rfl, q6, q7, q8, q9, q10, q11, q12, q13, q14, q15, q16, q17, q18, q19, q20, q21, q22⟩
    · have l0 : L 5 = true := by have := hd _ rfl; simp [Region.binds] at this; simp [this]
      have f5 := (hv 5 62 rfl l0).trans (q5 l0)
      have e8 : x.tmps.getD 7 undef = .pointer (some ⟨w.heap.size, 0, none⟩) := ho 7 (by kernel_rfl)
      refine Ri.step_wanted (b := false) rfl rfl rfl f5 (fun K' hK => ?_)
      refine wp_load_row _ _ rfl _ e8 _ _ _ _ (keep_blk hb HZ8.out) Tryd.underlying24 rfl (by kernel_rfl) ?_
      exact hK _ _ ⟨_, _, rfl, rfl, hb, q0, q1, q2, q3, q4, q5, fun _ => rfl, q7, q8, q9, q10, q11, q12, q13, q14, q15, q16, q17, q18, q19, q20, q21, q22⟩
    · have l0 : L 5 = true := by have := hd _ rfl; simp [Region.binds] at this; simp [this]
      have f5 := (hv 5 62 rfl l0).trans (q5 l0)
      have e8 : x.tmps.getD 1 undef = .int .u8 lo := ho 1 (by kernel_rfl)
      refine Ri.step_wanted (b := false) rfl rfl rfl f5 (fun K' hK => ?_)
      go_simp
      exact hK _ _ ⟨_, _, rfl, rfl, hb, q0, q1, q2, q3, q4, q5, q6, fun _ => rfl, q8, q9, q10, q11, q12, q13, q14, q15, q16, q17, q18, q19, q20, q21, q22⟩
    · have l0 : L 5 = true ∧ L 6 = true ∧ L 7 = true := by have := hd _ rfl; simp [Region.binds] at this; simp [this]
      have f5 := (hv 5 62 rfl l0.1).trans (q5 l0.1)
      have f6 := (hv 6 63 rfl l0.2.1).trans (q6 l0.2.1)
      have f7 := (hv 7 64 rfl l0.2.2).trans (q7 l0.2.2)
      refine Ri.step_wanted (b := false) rfl rfl rfl f5 (fun K' hK => ?_)
      go_simp
      refine (has_any _ _ _ _ _ hlo _).mono ?_
      rintro e w10 ⟨rfl, hb8⟩
      exact hK _ _ ⟨_, _, rfl, rfl, hb.trans (hb8.mono hb.size), q0, q1, q2, q3, q4, q5, q6, q7, fun _ => rfl, q9, q10, q11, q12, q13, q14, q15, q16, q17, q18, q19, q20, q21, q22⟩
    · have l0 : L 5 = true := by have := hd _ rfl; simp [Region.binds] at this; simp [this]
      have f5 := (hv 5 62 rfl l0).trans (q5 l0)
      have e8 : x.tmps.getD 7 undef = .pointer (some ⟨w.heap.size, 0, none⟩) := ho 7 (by kernel_rfl)
      refine Ri.step_wanted (b := false) rfl rfl rfl f5 (fun K' hK => ?_)
      refine wp_load_row _ _ rfl _ e8 _ _ _ _ (keep_blk hb HZ8.out) Tryd.underlying24 rfl (by kernel_rfl) ?_
      exact hK _ _ ⟨_, _, rfl, rfl, hb, q0, q1, q2, q3, q4, q5, q6, q7, q8, fun _ => rfl, q10, q11, q12, q13, q14, q15, q16, q17, q18, q19, q20, q21, q22⟩
    · have l0 : L 5 = true := by have := hd _ rfl; simp [Region.binds] at this; simp [this]
      have f5 := (hv 5 62 rfl l0).trans (q5 l0)
      have e8 : x.tmps.getD 1 undef = .int .u8 lo := ho 1 (by kernel_rfl)
      refine Ri.step_wanted (b := false) rfl rfl rfl f5 (fun K' hK => ?_)
      go_simp
      exact hK _ _ ⟨_, _, rfl, rfl, hb, q0, q1, q2, q3, q4, q5, q6, q7, q8, q9, fun _ => rfl, q11, q12, q13, q14, q15, q16, q17, q18, q19, q20, q21, q22⟩
    · have l0 : L 5 = true ∧ L 9 = true ∧ L 10 = true := by have := hd _ rfl; simp [Region.binds] at this; simp [this]
      have f5 := (hv 5 62 rfl l0.1).trans (q5 l0.1)
      have f9 := (hv 9 66 rfl l0.2.1).trans (q9 l0.2.1)
      have f10 := (hv 10 67 rfl l0.2.2).trans (q10 l0.2.2)
      refine Ri.step_wanted (b := false) rfl rfl rfl f5 (fun K' hK => ?_)
      go_simp
      refine (refhas_any _ _ _ _ _ hlo _).mono ?_
      rintro e w10 ⟨rfl, hb8⟩
      exact hK _ _ ⟨_, _, rfl, rfl, hb.trans (hb8.mono hb.size), q0, q1, q2, q3, q4, q5, q6, q7, q8, q9, q10, fun _ => rfl, q12, q13, q14, q15, q16, q17, q18, q19, q20, q21, q22⟩
    · have l0 : L 5 = true ∧ L 8 = true ∧ L 11 = true := by have := hd _ rfl; simp [Region.binds] at this; simp [this]
      have f5 := (hv 5 62 rfl l0.1).trans (q5 l0.1)
      have f8 := (hv 8 65 rfl l0.2.1).trans (q8 l0.2.1)
      have f11 := (hv 11 68 rfl l0.2.2).trans (q11 l0.2.2)
      refine Ri.step_wanted (b := false) rfl rfl rfl f5 (fun K' hK => ?_)
      go_simp
      exact hK _ _ ⟨_, _, rfl, rfl, hb, q0, q1, q2, q3, q4, q5, q6, q7, q8, q9, q10, q11, fun _ => rfl, q13, q14, q15, q16, q17, q18, q19, q20, q21, q22⟩
    · have l0 : L 5 = true ∧ L 12 = true := by have := hd _ rfl; simp [Region.binds] at this; simp [this]
      have f5 := (hv 5 62 rfl l0.1).trans (q5 l0.1)
      have f12 := (hv 12 69 rfl l0.2).trans (q12 l0.2)
      refine Ri.step_plain rfl rfl (fun K' hK => ?_)
      go_simp
      exact hK _ _ ⟨_, _, rfl, rfl, hb, q0, q1, q2, q3, q4, q5, q6, q7, q8, q9, q10, q11, q12, fun _ => rfl, q14, q15, q16, q17, q18, q19, q20, q21, q22⟩
    · have l0 : L 13 = true := by have := hd _ rfl; simp [Region.binds] at this; simp [this]
      have f13 := (hv 13 70 rfl l0).trans (q13 l0)
      refine Ri.step_plain rfl rfl (fun K' hK => ?_)
      go_simp
      exact hK _ _ ⟨_, _, rfl, rfl, hb, q0, q1, q2, q3, q4, q5, q6, q7, q8, q9, q10, q11, q12, q13, fun _ => rfl, q15, q16, q17, q18, q19, q20, q21, q22⟩
    · have l0 : L 14 = true := by have := hd _ rfl; simp [Region.binds] at this; simp [this]
      have f14 := (hv 14 71 rfl l0).trans (q14 l0)
      have e8 : x.tmps.getD 7 undef = .pointer (some ⟨w.heap.size, 0, none⟩) := ho 7 (by kernel_rfl)
      refine Ri.step_wanted (b := false) rfl rfl rfl f14 (fun K' hK => ?_)
      refine wp_load_row _ _ rfl _ e8 _ _ _ _ (keep_blk hb HZ8.out) Tryd.underlying24 rfl (by kernel_rfl) ?_
      exact hK _ _ ⟨_, _, rfl, rfl, hb, q0, q1, q2, q3, q4, q5, q6, q7, q8, q9, q10, q11, q12, q13, q14, fun _ => rfl, q16, q17, q18, q19, q20, q21, q22⟩
    · have l0 : L 14 = true := by have := hd _ rfl; simp [Region.binds] at this; simp [this]
      have f14 := (hv 14 71 rfl l0).trans (q14 l0)
      have e8 : x.tmps.getD 2 undef = .int .u8 hi := ho 2 (by kernel_rfl)
      refine Ri.step_wanted (b := false) rfl rfl rfl f14 (fun K' hK => ?_)
      go_simp
      exact hK _ _ ⟨_, _, rfl, rfl, hb, q0, q1, q2, q3, q4, q5, q6, q7, q8, q9, q10, q11, q12, q13, q14, q15, fun _ => rfl, q17, q18, q19, q20, q21, q22⟩
    · have l0 : L 14 = true ∧ L 15 = true ∧ L 16 = true := by have := hd _ rfl; simp [Region.binds] at this; simp [this]
      have f14 := (hv 14 71 rfl l0.1).trans (q14 l0.1)
      have f15 := (hv 15 72 rfl l0.2.1).trans (q15 l0.2.1)
      have f16 := (hv 16 73 rfl l0.2.2).trans (q16 l0.2.2)
      refine Ri.step_wanted (b := false) rfl rfl rfl f14 (fun K' hK => ?_)
      go_simp
      refine (has_any _ _ _ _ _ hhi _).mono ?_
      rintro e w10 ⟨rfl, hb8⟩
      exact hK _ _ ⟨_, _, rfl, rfl, hb.trans (hb8.mono hb.size), q0, q1, q2, q3, q4, q5, q6, q7, q8, q9, q10, q11, q12, q13, q14, q15, q16, fun _ => rfl, q18, q19, q20, q21, q22⟩
    · have l0 : L 14 = true := by have := hd _ rfl; simp [Region.binds] at this; simp [this]
      have f14 := (hv 14 71 rfl l0).trans (q14 l0)
      have e8 : x.tmps.getD 7 undef = .pointer (some ⟨w.heap.size, 0, none⟩) := ho 7 (by kernel_rfl)
      refine Ri.step_wanted (b := false) rfl rfl rfl f14 (fun K' hK => ?_)
      refine wp_load_row _ _ rfl _ e8 _ _ _ _ (keep_blk hb HZ8.out) Tryd.underlying24 rfl (by kernel_rfl) ?_
      exact hK _ _ ⟨_, _, rfl, rfl, hb, q0, q1, q2, q3, q4, q5, q6, q7, q8, q9, q10, q11, q12, q13, q14, q15, q16, q17, fun _ => rfl, q19, q20, q21, q22⟩
    · have l0 : L 14 = true := by have := hd _ rfl; simp [Region.binds] at this; simp [this]
      have f14 := (hv 14 71 rfl l0).trans (q14 l0)
      have e8 : x.tmps.getD 2 undef = .int .u8 hi := ho 2 (by kernel_rfl)
      refine Ri.step_wanted (b := false) rfl rfl rfl f14 (fun K' hK => ?_)
      go_simp
      exact hK _ _ ⟨_, _, rfl, rfl, hb, q0, q1, q2, q3, q4, q5, q6, q7, q8, q9, q10, q11, q12, q13, q14, q15, q16, q17, q18, fun _ => rfl, q20, q21, q22⟩
    · have l0 : L 14 = true ∧ L 18 = true ∧ L 19 = true := by have := hd _ rfl; simp [Region.binds] at this; simp [this]
      have f14 := (hv 14 71 rfl l0.1).trans (q14 l0.1)
      have f18 := (hv 18 75 rfl l0.2.1).trans (q18 l0.2.1)
      have f19 := (hv 19 76 rfl l0.2.2).trans (q19 l0.2.2)
      refine Ri.step_wanted (b := false) rfl rfl rfl f14 (fun K' hK => ?_)
      go_simp
      refine (refhas_any _ _ _ _ _ hhi _).mono ?_
      rintro e w10 ⟨rfl, hb8⟩
      exact hK _ _ ⟨_, _, rfl, rfl, hb.trans (hb8.mono hb.size), q0, q1, q2, q3, q4, q5, q6, q7, q8, q9, q10, q11, q12, q13, q14, q15, q16, q17, q18, q19, fun _ => rfl, q21, q22⟩
    · have l0 : L 14 = true ∧ L 17 = true ∧ L 20 = true := by have := hd _ rfl; simp [Region.binds] at this; simp [this]
      have f14 := (hv 14 71 rfl l0.1).trans (q14 l0.1)
      have f17 := (hv 17 74 rfl l0.2.1).trans (q17 l0.2.1)
      have f20 := (hv 20 77 rfl l0.2.2).trans (q20 l0.2.2)
      refine Ri.step_wanted (b := false) rfl rfl rfl f14 (fun K' hK => ?_)
      go_simp
      exact hK _ _ ⟨_, _, rfl, rfl, hb, q0, q1, q2, q3, q4, q5, q6, q7, q8, q9, q10, q11, q12, q13, q14, q15, q16, q17, q18, q19, q20, fun _ => rfl, q22⟩
    · have l0 : L 14 = true ∧ L 21 = true := by have := hd _ rfl; simp [Region.binds] at this; simp [this]
      have f14 := (hv 14 71 rfl l0.1).trans (q14 l0.1)
      have f21 := (hv 21 78 rfl l0.2).trans (q21 l0.2)
      refine Ri.step_plain rfl rfl (fun K' hK => ?_)
      go_simp
      exact hK _ _ ⟨_, _, rfl, rfl, hb, q0, q1, q2, q3, q4, q5, q6, q7, q8, q9, q10, q11, q12, q13, q14, q15, q16, q17, q18, q19, q20, q21, fun _ => rfl⟩
  · rintro v w9 ⟨hb, -, -, -, -, -, -, -, -, -, -, -, -, -, -, -, -, -, -, -, -, -, -, qe⟩
    have qe' : v 22 = .bool false := qe rfl
    simp only [Ri.frame, List.zipIdx, List.foldl_cons, List.foldl_nil, if_true, List.setIfInBounds_toArray, List.set_cons_zero, List.set_cons_succ, qe', Nat.reduceAdd]
    have hbw9 := hbw8.trans (hb.mono hbw8.size)
    have HZ9 := Lib.hid (keep_blk hb HZ8.out)
    have hsz9 : w.heap.size < w9.heap.size := by have := hb.size; omega
    clear qe qe' hb HZ8 hbw8 hsz8
    generalize v 0 = y0; generalize v 1 = y1; generalize v 2 = y2; generalize v 3 = y3; generalize v 4 = y4; generalize v 5 = y5; generalize v 6 = y6; generalize v 7 = y7; generalize v 8 = y8; generalize v 9 = y9; generalize v 10 = y10; generalize v 11 = y11; generalize v 12 = y12; generalize v 13 = y13; generalize v 14 = y14; generalize v 15 = y15; generalize v 16 = y16; generalize v 17 = y17; generalize v 18 = y18; generalize v 19 = y19; generalize v 20 = y20; generalize v 21 = y21
    obtain ⟨c0, c1, c2, c3, -⟩ := four HZ9.out
    go_wp2_with fail
    refine (first_any a b c d w9 (tab_below HT.out hbw9 hg) (Nat.lt_of_lt_of_le hg hbw9.size)).mono ?_
    rintro e w10 ⟨rfl, hb10⟩
    have hbw10 := hbw9.trans (hb10.mono hbw9.size)
    have HZ10 := Lib.hid (keep_blk hb10 HZ9.out)
    clear c0 c1 c2 c3
    obtain ⟨c0, c1, c2, c3, -⟩ := four HZ10.out
    clear hb10 HZ9 HZ10
    have hle := (Oc.nx_spec (Oc.mem a b c d) 0 (by omega)).2.1
    by_cases hn : Oc.nx (Oc.mem a b c d) 0 < 256
    · have hl : least (Oc.mem a b c d) = (Oc.nx (Oc.mem a b c d) 0 : Int) := if_pos hn
      rw [if_pos hn]
      generalize Oc.nx (Oc.mem a b c d) 0 = m at *
      go_wp2_with fail
      refine (reffirst_any a b c d w10).mono ?_
      rw [hl]
      rintro e w11 ⟨rfl, hb11⟩
      have hbw11 := hbw10.trans (hb11.mono hbw10.size)
      clear hb11 c0 c1 c2 c3
      go_wp2_with fail
      go_ret
      exact ⟨rfl, hbw11⟩
    · have hl : least (Oc.mem a b c d) = (-1 : Int) := if_neg hn
      rw [if_neg hn]
      go_wp2_with fail
      refine (reffirst_any a b c d w10).mono ?_
      rw [hl]
      rintro e w11 ⟨rfl, hb11⟩
      have hbw11 := hbw10.trans (hb11.mono hbw10.size)
      clear hb11 c0 c1 c2 c3
      go_wp2_with fail
      go_ret
      exact ⟨rfl, hbw11⟩
end Go.Proofs.YtdlcnhelkjlglaaDoor
