/- OctetJoins: whatever the sets, the law returns true. -/
import Derived.Test.YtdlcnhelkjlglaaOcLives
import Derived.Laws.AppendOwnNone
namespace Go.Proofs.Ytdlcnhelkjlglaa
open Go.RowKit
/-- The cells of the first n sets. -/
def cellsOf (A B C D : Nat → BitVec 64) : Nat → List Value
  | 0 => []
  | n + 1 => cellsOf A B C D n ++ [.int .u64 (Oc.U (A n)), .int .u64 (Oc.U (B n)), .int .u64 (Oc.U (C n)), .int .u64 (Oc.U (D n))]
theorem cellsOf_length (A B C D : Nat → BitVec 64) : ∀ n, (cellsOf A B C D n).length = n * 4
  | 0 => rfl
  | n + 1 => by simp only [cellsOf, List.length_append, cellsOf_length A B C D n, List.length_cons, List.length_nil]; omega
theorem cellsOf_one (A B C D : Nat → BitVec 64) : ∀ n, ∀ v ∈ cellsOf A B C D n, v.oneCell' = true
  | 0, v, h => by cases h
  | n + 1, v, h => by
    simp only [cellsOf, List.mem_append, List.mem_cons, List.not_mem_nil, or_false] at h
    rcases h with h | rfl | rfl | rfl | rfl
    · exact cellsOf_one A B C D n v h
    all_goals rfl
theorem cellsOf_get (A B C D : Nat → BitVec 64) : ∀ n i, i < n → (cellsOf A B C D n)[i * 4]? = some (.int .u64 (Oc.U (A i))) ∧ (cellsOf A B C D n)[i * 4 + 1]? = some (.int .u64 (Oc.U (B i))) ∧ (cellsOf A B C D n)[i * 4 + 2]? = some (.int .u64 (Oc.U (C i))) ∧ (cellsOf A B C D n)[i * 4 + 3]? = some (.int .u64 (Oc.U (D i)))
  | n + 1, i, h => by
    have hl := cellsOf_length A B C D n
    simp only [cellsOf]
    by_cases e : i < n
    · obtain ⟨h0, h1, h2, h3⟩ := cellsOf_get A B C D n i e
      rw [List.getElem?_append_left (by omega), List.getElem?_append_left (by omega), List.getElem?_append_left (by omega), List.getElem?_append_left (by omega)]
      exact ⟨h0, h1, h2, h3⟩
    · obtain rfl : i = n := by omega
      rw [List.getElem?_append_right (by omega), List.getElem?_append_right (by omega), List.getElem?_append_right (by omega), List.getElem?_append_right (by omega), hl]
      rw [show i * 4 - i * 4 = 0 by omega, show i * 4 + 1 - i * 4 = 1 by omega, show i * 4 + 2 - i * 4 = 2 by omega, show i * 4 + 3 - i * 4 = 3 by omega]
      exact ⟨rfl, rfl, rfl, rfl⟩
/-- A place among the cells belongs to a set. -/
theorem cellsOf_news {w : World} {p : Option Addr} {n : Nat} {A B C D : Nat → BitVec 64} {ad : Addr} (hp : p = some ad) (hs : SetsAt w p n A B C D) : ∀ j u, (cellsOf A B C D n)[j]? = some u → w.cell? (ad.add j) = some u := by
  intro j u hj
  have hlt : j < n * 4 := by have := (List.getElem?_eq_some_iff.1 hj).1; rw [cellsOf_length] at this; exact this
  obtain ⟨b, o, e, hb, h0, h1, h2, h3⟩ := hs (j / 4) (by omega)
  obtain ⟨g0, g1, g2, g3⟩ := cellsOf_get A B C D n (j / 4) (by omega)
  rw [hp] at e; cases e
  rw [Addr.add_mid]
  have : j = j / 4 * 4 ∨ j = j / 4 * 4 + 1 ∨ j = j / 4 * 4 + 2 ∨ j = j / 4 * 4 + 3 := by omega
  rcases this with e | e | e | e
  · rw [e] at hj ⊢; rw [g0] at hj; cases hj; exact h0
  · rw [e] at hj ⊢; rw [g1] at hj; cases hj; rw [← Nat.add_assoc]; exact h1
  · rw [e] at hj ⊢; rw [g2] at hj; cases hj; rw [← Nat.add_assoc]; exact h2
  · rw [e] at hj ⊢; rw [g3] at hj; cases hj; rw [← Nat.add_assoc]; exact h3
/-- Sets in an owned row. -/
theorem sets_of_row {w : World} {g n m cap : Nat} {A B C D : Nat → BitVec 64} {l : List Value} {cur : Array Value} {e : TypeId} (hb : w.heap[g]? = some (.cells cur e)) (hc : cur.toList.take m = cellsOf A B C D n ++ l) (_ : n ≤ cap) : SetsAt w (some ⟨g, 0, none⟩) n A B C D := by
  intro i hi
  obtain ⟨g0, g1, g2, g3⟩ := cellsOf_get A B C D n i hi
  have hl := cellsOf_length A B C D n
  have key : ∀ j u, (cellsOf A B C D n)[j]? = some u → w.cell? ⟨g, 0 + j, none⟩ = some u := by
    intro j u hj
    rw [cell_of_row w g _ cur e _ hb, Nat.zero_add, ← Array.getElem?_toList]
    have h2 : (cur.toList.take m)[j]? = some u := by
      rw [hc, List.getElem?_append_left (List.getElem?_eq_some_iff.1 hj).1]; exact hj
    rw [List.getElem?_take] at h2
    split at h2
    · exact h2
    · cases h2
  refine ⟨g, 0, rfl, (Array.getElem?_eq_some_iff.1 hb).1, key _ _ g0, ?_, ?_, ?_⟩
  · have := key _ _ g1; rwa [← Nat.add_assoc] at this
  · have := key _ _ g2; rwa [← Nat.add_assoc] at this
  · have := key _ _ g3; rwa [← Nat.add_assoc] at this
theorem nine_at (w : World) (t : TypeId) : ∀ j u, [Value.int .u64 9, .int .u64 0, .int .u64 0, .int .u64 0][j]? = some u → (w.alloc (.cells #[.int .u64 9, .int .u64 0, .int .u64 0, .int .u64 0] t)).cell? ((⟨w.heap.size, 0, none⟩ : Addr).add j) = some u := by
  intro j u h
  rw [Addr.add_mid, Nat.zero_add, cell_new]
  simpa using h
theorem nine_in {w : World} {g n : Nat} {A B C D : Nat → BitVec 64} {cur : Array Value} {e : TypeId} (hb : w.heap[g]? = some (.cells cur e)) (hc : cur.toList.take ((n + 1) * 4) = cellsOf A B C D n ++ [.int .u64 9, .int .u64 0, .int .u64 0, .int .u64 0]) :
    w.cell? ⟨g, n * 4, none⟩ = some (.int .u64 9) ∧ w.cell? ⟨g, n * 4 + 1, none⟩ = some (.int .u64 0) ∧ w.cell? ⟨g, n * 4 + 2, none⟩ = some (.int .u64 0) ∧ w.cell? ⟨g, n * 4 + 3, none⟩ = some (.int .u64 0) := by
  have hl := cellsOf_length A B C D n
  have key : ∀ j u, [Value.int .u64 9, .int .u64 0, .int .u64 0, .int .u64 0][j]? = some u → w.cell? ⟨g, n * 4 + j, none⟩ = some u := by
    intro j u hj
    rw [cell_of_row w g _ cur e _ hb, ← Array.getElem?_toList]
    have h2 : (cur.toList.take ((n + 1) * 4))[n * 4 + j]? = some u := by
      rw [hc, List.getElem?_append_right (by omega), hl, show n * 4 + j - n * 4 = j by omega]; exact hj
    rw [List.getElem?_take] at h2
    split at h2
    · exact h2
    · cases h2
  exact ⟨key 0 _ rfl, key 1 _ rfl, key 2 _ rfl, key 3 _ rfl⟩
theorem cut_row (g n m cap : Nat) (h : m ≤ cap) (w : World) : (Instr.slice 22 (.slice (some ⟨g, 0, none⟩) n cap) none (some (.int .i64 (m : Int))) none).run Try.prog w = .ok (.slice (some ⟨g, 0, none⟩) m cap) w := by
  have hz : (sizeOf (Try.prog.elem 22)).run Try.prog w = .ok 4 w := by kernel_rfl
  rw [run_slice_h w 22 (some ⟨g, 0, none⟩) n cap Try.underlying22 .i64 (m : Int) (by omega) (by omega), hz]
  simp only [Result.andThen, sliced, Option.map_some, Int.toNat_natCast, Nat.zero_mul, Nat.sub_zero, Addr.add_mid, Nat.add_zero, ite_self]
theorem nine_keep {w w' : World} {g n : Nat} (hb : Below w.heap.size w w') (hg : g < w.heap.size) (h : w.cell? ⟨g, n * 4, none⟩ = some (.int .u64 9) ∧ w.cell? ⟨g, n * 4 + 1, none⟩ = some (.int .u64 0) ∧ w.cell? ⟨g, n * 4 + 2, none⟩ = some (.int .u64 0) ∧ w.cell? ⟨g, n * 4 + 3, none⟩ = some (.int .u64 0)) :
    w'.cell? ⟨g, n * 4, none⟩ = some (.int .u64 9) ∧ w'.cell? ⟨g, n * 4 + 1, none⟩ = some (.int .u64 0) ∧ w'.cell? ⟨g, n * 4 + 2, none⟩ = some (.int .u64 0) ∧ w'.cell? ⟨g, n * 4 + 3, none⟩ = some (.int .u64 0) :=
  ⟨(hb.cell (p := ⟨g, _, none⟩) hg).trans h.1, (hb.cell (p := ⟨g, _, none⟩) hg).trans h.2.1, (hb.cell (p := ⟨g, _, none⟩) hg).trans h.2.2.1, (hb.cell (p := ⟨g, _, none⟩) hg).trans h.2.2.2⟩
/-- append onto an owned row, from a list that may be nil. -/
theorem append_both {P : Program} (w : World) {ops : Array Oper} {rest : List Oper} {o : Oper} {a : Act} {Q : Exit → Act → World → Prop} (hgd : o.guard = none) (s x : Operand) (t : TypeId)
    (ho : o.op = .call { callee := .builtin .append, args := #[s, x], argTypes := #[t, t] })
    (base : Nat) (e : TypeId) (i : TypeInfo) (z : Value) (size bytes : Nat) (ht : P.underlying t = some (.slice e)) (hi : P.info? e = some i) (hz : i.zero = some z)
    (hsize : i.size = size) (hby : i.bytes = bytes) (hzs : z.cells.size = size) (hsz : 0 < size)
    (v : Value) (n : Nat) (xs : List Value) (hs : a.eval s = v) (hown : w.ownsRow base e size v n xs)
    (p : Option Addr) (m c : Nat) (news : List Value) (hx : a.eval x = .slice p m c) (h0 : p = none → m = 0 ∧ c = 0) (hl : news.length = m * size) (hnews : ∀ ad, p = some ad → ∀ j u, news[j]? = some u → w.cell? (ad.add j) = some u) (h1 : ∀ u ∈ news, u.oneCell' = true)
    (h63 : n + m ≤ maxLen) (hbytes : (n + m) * bytes ≤ 140737488355328) (hbase : base ≤ w.heap.size)
    (h : ∀ v' w', w'.ownsRow base e size v' (n + m) (xs ++ news) → w.grownBy w' v.ownBlock → (v' = .slice none 0 0 ↔ v = .slice none 0 0 ∧ m = 0) → wpList P ops Q rest (a.put o.dst v') w') : wpList P ops Q (o :: rest) a w := by
  cases p with
  | some ad => exact wpList_append_own w hgd s x t ho base e i z size bytes ht hi hz hsize hby hzs hsz v n xs hs hown ad m c news hx hl (hnews ad rfl) h1 h63 hbytes hbase h
  | none =>
    obtain ⟨rfl, rfl⟩ := h0 rfl
    have hn : news = [] := List.eq_nil_of_length_eq_zero (by rw [hl]; omega)
    subst hn
    exact wpList_append_own_none hgd s x t ho base e i size ht hi v n xs hs hown hx (h v w (by simpa using hown) ⟨rfl, rfl, rfl, Nat.le_refl _, fun _ _ _ => rfl⟩ (by simp))
theorem Try.infoSet : (Try.prog.info? 25).map (fun i => (i.zero, i.size, i.bytes)) = some (some (.agg #[.int .u64 0, .int .u64 0, .int .u64 0, .int .u64 0]), 4, 32) := by kernel_rfl
set_option maxHeartbeats 1000000 in
theorem joins_no (p : Option Addr) (len cap : Nat) (a b c d a' b' c' d' : BitVec 64) (hl : 300 < len) (hlen : len ≤ 9223372036854775807) (w : World) :
    Calls Try.prog 3 #[.slice p len cap, (.agg #[.int .u64 (Oc.U a), .int .u64 (Oc.U b), .int .u64 (Oc.U c), .int .u64 (Oc.U d)]), (.agg #[.int .u64 (Oc.U a'), .int .u64 (Oc.U b'), .int .u64 (Oc.U c'), .int .u64 (Oc.U d')])] w fun e w' => e = .returned (.bool true) ∧ Below w.heap.size w w' := by
  go_enter Try.func3, Try.ntmps3
  go_wp2_with fail
  refine (lives_any _).mono ?_
  rintro e w1 ⟨rfl, hb1⟩
  have h1 : Below w.heap.size w w1 := (((Below.refl _ _).alloc (Nat.le_refl _) _).alloc (by simp) _).trans (hb1.mono (by simp; omega))
  clear hb1
  go_wp2
  go_ret
  exact ⟨rfl, h1⟩
set_option maxHeartbeats 1000000 in
theorem joins_yes (p : Option Addr) (len cap : Nat) (A B C D : Nat → BitVec 64) (a b c d a' b' c' d' : BitVec 64) (hl : len ≤ 300) (hp0 : p = none → len = 0 ∧ cap = 0) (w : World) (hs : SetsAt w p len A B C D) :
    Calls Try.prog 3 #[.slice p len cap, (.agg #[.int .u64 (Oc.U a), .int .u64 (Oc.U b), .int .u64 (Oc.U c), .int .u64 (Oc.U d)]), (.agg #[.int .u64 (Oc.U a'), .int .u64 (Oc.U b'), .int .u64 (Oc.U c'), .int .u64 (Oc.U d')])] w fun e w' => e = .returned (.bool true) ∧ Below w.heap.size w w' := by
  have he := eq4
  have hl' : decide ((300 : Int) < (len : Int)) = false := by simp; omega
  obtain ⟨i0, hi, hz0, hz1, hz2⟩ := info_parts Try.infoSet
  go_enter Try.func3, Try.ntmps3
  go_wp2_with fail
  refine (lives_any _).mono ?_
  rintro e w1 ⟨rfl, hb1⟩
  have hs1 := hs.below ((((Below.refl _ _).alloc (Nat.le_refl _) _).alloc (by simp) _).trans (hb1.mono (by simp; omega)))
  have HI := Lib.hid hi
  have HP0 := Lib.hid hp0
  clear hi hp0
  go_wp2_with (first
    | (at_builtin; refine append_both _ rfl (.tmp 19) (.tmp 20) _ rfl w1.heap.size 25 i0 _ 4 32 Try.underlying22 HI.out hz0 hz1 hz2 rfl (by decide) (.slice (some ⟨w1.heap.size, 0, none⟩) 0 0) 0 [] rfl (World.ownsRow_lit w1 #[] 0 (Nat.le_refl _) (by unfold maxLen; omega) rfl) p len cap (cellsOf A B C D len) rfl HP0.out (cellsOf_length _ _ _ _ _) (fun _ hp => cellsOf_news hp (hs1.below ((Below.refl _ _).alloc (Nat.le_refl _) _))) (cellsOf_one _ _ _ _ _) (by unfold maxLen; omega) (by omega) (by simp) ?_; rintro v2 w2 hown2 hgr2 -)
    | (at_builtin; refine wpList_append_own _ rfl (.tmp 21) (.tmp 23) _ rfl w1.heap.size 25 i0 _ 4 32 Try.underlying22 HI.out hz0 hz1 hz2 rfl (by decide) v2 _ _ rfl (hown2.alloc _) ⟨w2.heap.size, 0, none⟩ 1 1 [.int .u64 9, .int .u64 0, .int .u64 0, .int .u64 0] rfl rfl (nine_at w2 _) (by decide) (by unfold maxLen; omega) (by omega) (by have := hgr2.size; simp at this ⊢; omega) ?_; rintro v3 w3 hown3 hgr3 hne3)
    | fail)
  have bw2 : Below w1.heap.size w1 w2 := ((Below.refl _ _).alloc (Nat.le_refl _) _).grown hgr2 (by simp) (fun k h => by cases h; exact Nat.le_refl _)
  have bw3 : Below w1.heap.size w1 w3 := (bw2.alloc bw2.size _).grown hgr3 (by have := bw2.size; simp; omega) (fun k h => (hown2.lt k h).1)
  obtain ⟨g, cap3, cur, rfl, hg, hblk, hn, hcapm, hcur, htake⟩ : ∃ g cap3 cur, v3 = .slice (some ⟨g, 0, none⟩) (len + 1) cap3 ∧ w1.heap.size ≤ g ∧ w3.heap[g]? = some (.cells cur 25) ∧ len + 1 ≤ cap3 ∧ cap3 ≤ maxLen ∧ cur.size = cap3 * 4 ∧ cur.toList.take ((len + 1) * 4) = cellsOf A B C D len ++ [.int .u64 9, .int .u64 0, .int .u64 0, .int .u64 0] := by
    rcases hown3.2 with ⟨h, -⟩ | h
    · exact absurd (hne3.1 h).2 (by omega)
    · simpa using h
  have hs3 := hs1.below bw3
  have hm3 := sets_of_row (n := len) (cap := cap3) hblk htake (by omega)
  have hx9 := nine_in hblk htake
  have hbw1 : Below w.heap.size w w1 := (((Below.refl _ _).alloc (Nat.le_refl _) _).alloc (by simp) _).trans (hb1.mono (by simp; omega))
  have hsz1 : w.heap.size + 2 ≤ w1.heap.size := by have := hb1.size; simp at this; omega
  have hza : w3.heap[w.heap.size]? = some (.cells #[.int .u64 (Oc.U a), .int .u64 (Oc.U b), .int .u64 (Oc.U c), .int .u64 (Oc.U d)] 25) := (bw3.block _ (by omega)).trans ((hb1.block _ (by simp; omega)).trans (two_new _ _ _).1)
  have hzb : w3.heap[w.heap.size + 1]? = some (.cells #[.int .u64 (Oc.U a'), .int .u64 (Oc.U b'), .int .u64 (Oc.U c'), .int .u64 (Oc.U d')] 25) := (bw3.block _ (by omega)).trans ((hb1.block _ (by simp)).trans (two_new _ _ _).2)
  have hbw3 : Below w.heap.size w w3 := hbw1.trans (bw3.mono hbw1.size)
  have hg3 : g < w3.heap.size := (Array.getElem?_eq_some_iff.1 hblk).1
  unfold maxLen at hcapm
  have hsl := cut_row g (len + 1) len cap3 (by omega)
  clear hs hs1 hb1 hown2 hown3 hgr2 hgr3 hne3 bw2 bw3 hbw1 hblk hcur htake HI HP0 hz0 hz1 hz2
  have HZA := Lib.hid hza; have HZB := Lib.hid hzb; have HX := Lib.hid hx9
  clear hza hzb hx9
  go_simp
  go_wp2_with fail
  refine (refnot_any 0#64 0#64 0#64 0#64 _).mono ?_
  rintro e w4 ⟨rfl, hb4⟩
  have hbw4 : Below w.heap.size w w4 := hbw3.trans (hb4.mono hbw3.size)
  have hs4 := hs3.below hb4
  have hm4 := hm3.below hb4
  have hza4 := keep_blk hb4 HZA.out
  have hzb4 := keep_blk hb4 HZB.out
  have hg4 : g < w4.heap.size := Nat.lt_of_lt_of_le hg3 hb4.size
  have hx4 := nine_keep hb4 hg3 HX.out
  have HZA4 := Lib.hid hza4; have HZB4 := Lib.hid hzb4; have HX4 := Lib.hid hx4
  have hsz4 : w.heap.size + 2 ≤ w4.heap.size := by have := hb4.size; have := hbw3.size; omega
  clear hza4 hzb4 hx4 HZA HZB HX hs3 hm3 hbw3 hb4 hg3
  go_wp2_with fail
  go_loopw [34] (fun i wr => ∃ k : Nat, k ≤ len ∧ i = .int .i64 k ∧ Below w4.heap.size w4 wr ∧ w4.heap.size + 1 < wr.heap.size ∧ wr.heap[w4.heap.size]? = some (.cells #[.int .u64 (Oc.U (Oc.orAll A k)), .int .u64 (Oc.U (Oc.orAll B k)), .int .u64 (Oc.U (Oc.orAll C k)), .int .u64 (Oc.U (Oc.orAll D k))] 25) ∧ wr.heap[w4.heap.size + 1]? = some (.cells #[.int .u64 (Oc.U (Oc.andAll A k)), .int .u64 (Oc.U (Oc.andAll B k)), .int .u64 (Oc.U (Oc.andAll C k)), .int .u64 (Oc.U (Oc.andAll D k))] 25)) (fun i _ => len - (intOf i).toNat)
  case atStart =>
    refine ⟨0, Nat.zero_le _, rfl, by go_grown, by simp, (two_new _ _ _).1, (two_new _ _ _).2⟩
  case round =>
    obtain ⟨k, hk, rfl, hbel, hsz, hj, hm⟩ := hrel
    by_cases hlt : k < len
    · obtain ⟨b, o, rfl, hbs, h0, h1, h2, h3⟩ := hs4.below hbel k hlt
      have HJ := Lib.hid hj; have HM := Lib.hid hm
      clear hj hm
      go_wp2_with fail
      clear h0 h1 h2 h3
      have bs : Below w4.heap.size w4 (wr.alloc (.cells #[.int .u64 (Oc.U (A k)), .int .u64 (Oc.U (B k)), .int .u64 (Oc.U (C k)), .int .u64 (Oc.U (D k))] 25)) := hbel.alloc hbel.size _
      have zS := heap_alloc_new wr (.cells #[.int .u64 (Oc.U (A k)), .int .u64 (Oc.U (B k)), .int .u64 (Oc.U (C k)), .int .u64 (Oc.U (D k))] 25)
      have zJ := heap_alloc_lt (o := (.cells #[.int .u64 (Oc.U (A k)), .int .u64 (Oc.U (B k)), .int .u64 (Oc.U (C k)), .int .u64 (Oc.U (D k))] 25)) HJ.out
      have zM := heap_alloc_lt (o := (.cells #[.int .u64 (Oc.U (A k)), .int .u64 (Oc.U (B k)), .int .u64 (Oc.U (C k)), .int .u64 (Oc.U (D k))] 25)) HM.out
      have hS : w4.heap.size + 1 < wr.heap.size := hsz
      have zs : wr.heap.size < (wr.alloc (.cells #[.int .u64 (Oc.U (A k)), .int .u64 (Oc.U (B k)), .int .u64 (Oc.U (C k)), .int .u64 (Oc.U (D k))] 25)).heap.size := by simp
      generalize wr.alloc (.cells #[.int .u64 (Oc.U (A k)), .int .u64 (Oc.U (B k)), .int .u64 (Oc.U (C k)), .int .u64 (Oc.U (D k))] 25) = W at *
      have ZS := Lib.hid zS; have ZJ := Lib.hid zJ; have ZM := Lib.hid zM
      clear zS zJ zM HJ HM
      refine Ri.wp_region_frame (by kernel_rfl) (by kernel_rfl) (by kernel_rfl) (by kernel_rfl)
        (fun L v w' => Below w4.heap.size w4 w' ∧ wr.heap.size < w'.heap.size ∧ w'.heap[wr.heap.size]? = some (.cells #[.int .u64 (Oc.U (A k)), .int .u64 (Oc.U (B k)), .int .u64 (Oc.U (C k)), .int .u64 (Oc.U (D k))] 25) ∧
          w'.heap[w4.heap.size]? = some (if L 6 then (.cells #[.int .u64 (Oc.U (Oc.orAll A (k + 1))), .int .u64 (Oc.U (Oc.orAll B (k + 1))), .int .u64 (Oc.U (Oc.orAll C (k + 1))), .int .u64 (Oc.U (Oc.orAll D (k + 1)))] 25) else (.cells #[.int .u64 (Oc.U (Oc.orAll A k)), .int .u64 (Oc.U (Oc.orAll B k)), .int .u64 (Oc.U (Oc.orAll C k)), .int .u64 (Oc.U (Oc.orAll D k))] 25)) ∧ w'.heap[w4.heap.size + 1]? = some (if L 7 then (.cells #[.int .u64 (Oc.U (Oc.andAll A (k + 1))), .int .u64 (Oc.U (Oc.andAll B (k + 1))), .int .u64 (Oc.U (Oc.andAll C (k + 1))), .int .u64 (Oc.U (Oc.andAll D (k + 1)))] 25) else (.cells #[.int .u64 (Oc.U (Oc.andAll A k)), .int .u64 (Oc.U (Oc.andAll B k)), .int .u64 (Oc.U (Oc.andAll C k)), .int .u64 (Oc.U (Oc.andAll D k))] 25)) ∧
          (L 0 = true → v 0 = (.agg #[.int .u64 (Oc.U (Oc.orAll A k)), .int .u64 (Oc.U (Oc.orAll B k)), .int .u64 (Oc.U (Oc.orAll C k)), .int .u64 (Oc.U (Oc.orAll D k))])) ∧ (L 1 = true → v 1 = (.agg #[.int .u64 (Oc.U (A k)), .int .u64 (Oc.U (B k)), .int .u64 (Oc.U (C k)), .int .u64 (Oc.U (D k))])) ∧ (L 2 = true → v 2 = (.agg #[.int .u64 (Oc.U (Oc.orAll A (k + 1))), .int .u64 (Oc.U (Oc.orAll B (k + 1))), .int .u64 (Oc.U (Oc.orAll C (k + 1))), .int .u64 (Oc.U (Oc.orAll D (k + 1)))])) ∧ (L 3 = true → v 3 = (.agg #[.int .u64 (Oc.U (Oc.andAll A k)), .int .u64 (Oc.U (Oc.andAll B k)), .int .u64 (Oc.U (Oc.andAll C k)), .int .u64 (Oc.U (Oc.andAll D k))])) ∧ (L 4 = true → v 4 = (.agg #[.int .u64 (Oc.U (A k)), .int .u64 (Oc.U (B k)), .int .u64 (Oc.U (C k)), .int .u64 (Oc.U (D k))])) ∧ (L 5 = true → v 5 = (.agg #[.int .u64 (Oc.U (Oc.andAll A (k + 1))), .int .u64 (Oc.U (Oc.andAll B (k + 1))), .int .u64 (Oc.U (Oc.andAll C (k + 1))), .int .u64 (Oc.U (Oc.andAll D (k + 1)))])) ∧
          (L 6 = true → L 0 = true) ∧ (L 7 = true → L 3 = true))
        ?_ ?_ ?_
      · exact ⟨bs.drew, zs, ZS.out, ZJ.out, ZM.out, by simp, by simp, by simp, by simp, by simp, by simp, by simp, by simp⟩
      · intro i hi L v w5 x hI hL hd hv ho
        have hi' : i = 0 ∨ i = 1 ∨ i = 2 ∨ i = 3 ∨ i = 4 ∨ i = 5 ∨ i = 6 ∨ i = 7 := by simp at hi; omega
        obtain ⟨hb, hz, qS, qJ, qM, q0, q1, q2, q3, q4, q5, q6, q7⟩ := hI
        rcases hi' with rfl | rfl | rfl | rfl | rfl | rfl | rfl | rfl
        · have l6 : L 6 = false := by cases h : L 6 with | false => rfl | true => rw [q6 h] at hL; cases hL
          have e9 : x.tmps.getD 9 undef = .pointer (some ⟨w4.heap.size, 0, none⟩) := ho 9 (by kernel_rfl)
          rw [l6] at qJ
          refine Ri.step_plain rfl rfl (fun K' hK => ?_)
          refine wp_load_row _ _ rfl w4.heap.size e9 _ _ _ _ qJ Try.underlying25 rfl (by kernel_rfl) ?_
          refine hK _ _ ⟨_, _, rfl, rfl, hb, hz, qS, ?_, qM, fun _ => rfl, q1, q2, q3, q4, q5, fun _ => rfl, q7⟩
          show _ = some (if L 6 then _ else _)
          rw [l6]; exact qJ
        · have e9 : x.tmps.getD 12 undef = .pointer (some ⟨wr.heap.size, 0, none⟩) := ho 12 (by kernel_rfl)
          refine Ri.step_plain rfl rfl (fun K' hK => ?_)
          refine wp_load_row _ _ rfl wr.heap.size e9 _ _ _ _ qS Try.underlying25 rfl (by kernel_rfl) ?_
          exact hK _ _ ⟨_, _, rfl, rfl, hb, hz, qS, qJ, qM, q0, fun _ => rfl, q2, q3, q4, q5, q6, q7⟩
        · have l0 : L 0 = true ∧ L 1 = true := by have := hd _ rfl; simp [Region.binds] at this; simp [this]
          have e8 := (hv 0 38 rfl l0.1).trans (q0 l0.1)
          have e9 := (hv 1 39 rfl l0.2).trans (q1 l0.2)
          refine wpOp_step rfl (fun K' hK => ?_)
          go_simp
          refine (refjoin_any _ _ _ _ _ _ _ _ _).mono ?_
          rintro e w6 ⟨rfl, hb6⟩
          exact hK _ _ ⟨_, _, rfl, rfl, hb.trans (hb6.mono hb.size), Nat.lt_of_lt_of_le hz hb6.size, keep_blk hb6 qS, keep_blk hb6 qJ, keep_blk hb6 qM, q0, q1, fun _ => rfl, q3, q4, q5, q6, q7⟩
        · have l6 : L 7 = false := by cases h : L 7 with | false => rfl | true => rw [q7 h] at hL; cases hL
          have e9 : x.tmps.getD 10 undef = .pointer (some ⟨w4.heap.size + 1, 0, none⟩) := ho 10 (by kernel_rfl)
          rw [l6] at qM
          refine Ri.step_plain rfl rfl (fun K' hK => ?_)
          refine wp_load_row _ _ rfl (w4.heap.size + 1) e9 _ _ _ _ qM Try.underlying25 rfl (by kernel_rfl) ?_
          refine hK _ _ ⟨_, _, rfl, rfl, hb, hz, qS, qJ, ?_, q0, q1, q2, fun _ => rfl, q4, q5, q6, fun _ => rfl⟩
          show _ = some (if L 7 then _ else _)
          rw [l6]; exact qM
        · have e9 : x.tmps.getD 12 undef = .pointer (some ⟨wr.heap.size, 0, none⟩) := ho 12 (by kernel_rfl)
          refine Ri.step_plain rfl rfl (fun K' hK => ?_)
          refine wp_load_row _ _ rfl wr.heap.size e9 _ _ _ _ qS Try.underlying25 rfl (by kernel_rfl) ?_
          exact hK _ _ ⟨_, _, rfl, rfl, hb, hz, qS, qJ, qM, q0, q1, q2, q3, fun _ => rfl, q5, q6, q7⟩
        · have l0 : L 3 = true ∧ L 4 = true := by have := hd _ rfl; simp [Region.binds] at this; simp [this]
          have e8 := (hv 3 41 rfl l0.1).trans (q3 l0.1)
          have e9 := (hv 4 42 rfl l0.2).trans (q4 l0.2)
          refine wpOp_step rfl (fun K' hK => ?_)
          go_simp
          refine (refmeet_any _ _ _ _ _ _ _ _ _).mono ?_
          rintro e w6 ⟨rfl, hb6⟩
          exact hK _ _ ⟨_, _, rfl, rfl, hb.trans (hb6.mono hb.size), Nat.lt_of_lt_of_le hz hb6.size, keep_blk hb6 qS, keep_blk hb6 qJ, keep_blk hb6 qM, q0, q1, q2, q3, q4, fun _ => rfl, q6, q7⟩
        · have l0 : L 2 = true ∧ L 0 = true := by have := hd _ rfl; simp [Region.binds] at this; simp [this]
          have e8 := (hv 2 40 rfl l0.1).trans (q2 l0.1)
          have e9 : x.tmps.getD 9 undef = .pointer (some ⟨w4.heap.size, 0, none⟩) := ho 9 (by kernel_rfl)
          rw [hL] at qJ
          refine Ri.step_plain rfl rfl (fun K' hK => ?_)
          refine wp_store_row _ _ _ rfl w4.heap.size _ e9 e8 25 _ qJ (by kernel_rfl) rfl (by kernel_rfl) ?_
          exact hK _ _ ⟨_, undef, rfl, rfl, below_setRow hb (Nat.le_refl _) _, by simpa using hz, (heap_setRow_other _ _ _ (by omega)).trans qS, heap_setRow qJ, (heap_setRow_other _ _ _ (by omega)).trans qM, q0, q1, q2, q3, q4, q5, fun _ => l0.2, q7⟩
        · have l0 : L 5 = true ∧ L 3 = true := by have := hd _ rfl; simp [Region.binds] at this; simp [this]
          have e8 := (hv 5 43 rfl l0.1).trans (q5 l0.1)
          have e9 : x.tmps.getD 10 undef = .pointer (some ⟨w4.heap.size + 1, 0, none⟩) := ho 10 (by kernel_rfl)
          rw [hL] at qM
          refine Ri.step_plain rfl rfl (fun K' hK => ?_)
          refine wp_store_row _ _ _ rfl (w4.heap.size + 1) _ e9 e8 25 _ qM (by kernel_rfl) rfl (by kernel_rfl) ?_
          exact hK _ _ ⟨_, undef, rfl, rfl, below_setRow hb (by omega) _, by simpa using hz, (heap_setRow_other _ _ _ (by omega)).trans qS, (heap_setRow_other _ _ _ (by omega)).trans qJ, heap_setRow qM, q0, q1, q2, q3, q4, q5, q6, fun _ => l0.2⟩
      · rintro v w5 ⟨hb, hz, -, qJ, qM, -⟩
        simp only [Ri.frame, List.zipIdx, List.foldl_cons, List.foldl_nil, if_true, List.setIfInBounds_toArray, List.set_cons_zero, List.set_cons_succ]
        go_wp2
        exact ⟨⟨k + 1, by omega, by go_num, hb, by omega, qJ, qM⟩, by simp [intOf]; omega⟩
    · obtain rfl : k = len := by omega
      have HJ := Lib.hid hj; have HM := Lib.hid hm
      clear hj hm
      go_wp2_with fail
      refine Ri.wp_region_frame (by kernel_rfl) (by kernel_rfl) (by kernel_rfl) (by kernel_rfl)
        (fun L v w' => Below wr.heap.size wr w' ∧ (L 0 = true → v 0 = .slice (some ⟨g, 0, none⟩) k cap3) ∧ (L 1 = true → v 1 = (.agg #[.int .u64 (Oc.U (Oc.orAll A k)), .int .u64 (Oc.U (Oc.orAll B k)), .int .u64 (Oc.U (Oc.orAll C k)), .int .u64 (Oc.U (Oc.orAll D k))])) ∧ (L 2 = true → v 2 = (.agg #[.int .u64 (Oc.U (Oc.orAll A k)), .int .u64 (Oc.U (Oc.orAll B k)), .int .u64 (Oc.U (Oc.orAll C k)), .int .u64 (Oc.U (Oc.orAll D k))])) ∧ (L 3 = true → v 3 = .bool false) ∧ (L 4 = true → v 4 = .bool false) ∧ (L 5 = true → v 5 = .slice (some ⟨g, 0, none⟩) k cap3) ∧ (L 6 = true → v 6 = (.agg #[.int .u64 (Oc.U (Oc.andAll A k)), .int .u64 (Oc.U (Oc.andAll B k)), .int .u64 (Oc.U (Oc.andAll C k)), .int .u64 (Oc.U (Oc.andAll D k))])) ∧ (L 7 = true → v 7 = (.agg #[.int .u64 (Oc.U (Oc.andAll A k)), .int .u64 (Oc.U (Oc.andAll B k)), .int .u64 (Oc.U (Oc.andAll C k)), .int .u64 (Oc.U (Oc.andAll D k))])) ∧ (L 8 = true → v 8 = .bool false) ∧ (L 9 = true → v 9 = .bool false) ∧ (L 10 = true → v 10 = .bool false) ∧ (L 11 = true → v 11 = .slice (some ⟨g, 0, none⟩) (k + 1) cap3) ∧ (L 12 = true → v 12 = .slice p k cap) ∧ (L 13 = true → v 13 = .int .i64 k) ∧ (L 14 = true → v 14 = .pointer (some ⟨g, k * 4, none⟩)) ∧ (L 15 = true → v 15 = (.agg #[.int .u64 9, .int .u64 0, .int .u64 0, .int .u64 0])) ∧ (L 16 = true → v 16 = (.agg #[.int .u64 9, .int .u64 0, .int .u64 0, .int .u64 0])) ∧ (L 17 = true → v 17 = .bool false) ∧ (L 18 = true → v 18 = .bool false))
        ?_ ?_ ?_
      · exact ⟨(Below.refl _ _).drew, by simp, by simp, by simp, by simp, by simp, by simp, by simp, by simp, by simp, by simp, by simp, by simp, by simp, by simp, by simp, by simp, by simp, by simp, by simp⟩
      · intro i hi L v w5 x hI hL hd hv ho
        have hi' : i = 0 ∨ i = 1 ∨ i = 2 ∨ i = 3 ∨ i = 4 ∨ i = 5 ∨ i = 6 ∨ i = 7 ∨ i = 8 ∨ i = 9 ∨ i = 10 ∨ i = 11 ∨ i = 12 ∨ i = 13 ∨ i = 14 ∨ i = 15 ∨ i = 16 ∨ i = 17 ∨ i = 18 := by simp at hi; omega
        obtain ⟨hb, q0, q1, q2, q3, q4, q5, q6, q7, q8, q9, q10, q11, q12, q13, q14, q15, q16, q17, q18⟩ := hI
        rcases hi' with rfl | rfl | rfl | rfl | rfl | rfl | rfl | rfl | rfl | rfl | rfl | rfl | rfl | rfl | rfl | rfl | rfl | rfl | rfl
        · have e8 : x.tmps.getD 8 undef = .slice (some ⟨g, 0, none⟩) k cap3 := ho 8 (by kernel_rfl)
          refine wpOp_step rfl (fun K' hK => ?_)
          go_simp
          exact hK _ _ ⟨_, _, rfl, rfl, hb, fun _ => rfl, q1, q2, q3, q4, q5, q6, q7, q8, q9, q10, q11, q12, q13, q14, q15, q16, q17, q18⟩
        · have l0 : L 0 = true := by have := hd _ rfl; simp [Region.binds] at this; simp [this]
          have e8 := (hv 0 45 rfl l0).trans (q0 l0)
          refine wpOp_step rfl (fun K' hK => ?_)
          go_simp
          refine (join_any _ _ _ A B C D (by omega) _ (hm4.below (hbel.trans (hb.mono hbel.size)))).mono ?_
          rintro e w6 ⟨rfl, hb6⟩
          exact hK _ _ ⟨_, _, rfl, rfl, hb.trans (hb6.mono hb.size), q0, fun _ => rfl, q2, q3, q4, q5, q6, q7, q8, q9, q10, q11, q12, q13, q14, q15, q16, q17, q18⟩
        · have e8 : x.tmps.getD 9 undef = .pointer (some ⟨w4.heap.size, 0, none⟩) := ho 9 (by kernel_rfl)
          refine Ri.step_plain rfl rfl (fun K' hK => ?_)
          refine wp_load_row _ _ rfl w4.heap.size e8 _ _ _ _ ((hb.block _ (by omega)).trans HJ.out) Try.underlying25 rfl (by kernel_rfl) ?_
          exact hK _ _ ⟨_, _, rfl, rfl, hb, q0, q1, fun _ => rfl, q3, q4, q5, q6, q7, q8, q9, q10, q11, q12, q13, q14, q15, q16, q17, q18⟩
        · have l0 : L 1 = true ∧ L 2 = true := by have := hd _ rfl; simp [Region.binds] at this; simp [this]
          have e8 := (hv 1 46 rfl l0.1).trans (q1 l0.1)
          have e9 := (hv 2 47 rfl l0.2).trans (q2 l0.2)
          refine wpOp_step rfl (fun K' hK => ?_)
          go_simp
          exact hK _ _ ⟨_, _, rfl, rfl, hb, q0, q1, q2, fun _ => rfl, q4, q5, q6, q7, q8, q9, q10, q11, q12, q13, q14, q15, q16, q17, q18⟩
        · have l0 : L 3 = true := by have := hd _ rfl; simp [Region.binds] at this; simp [this]
          have e8 := (hv 3 48 rfl l0).trans (q3 l0)
          refine wpOp_step rfl (fun K' hK => ?_)
          go_simp
          exact hK _ _ ⟨_, _, rfl, rfl, hb, q0, q1, q2, q3, fun _ => rfl, q5, q6, q7, q8, q9, q10, q11, q12, q13, q14, q15, q16, q17, q18⟩
        · have l0 : L 4 = true := by have := hd _ rfl; simp [Region.binds] at this; simp [this]
          have f4 := (hv 4 49 rfl l0).trans (q4 l0)
          have e8 : x.tmps.getD 8 undef = .slice (some ⟨g, 0, none⟩) k cap3 := ho 8 (by kernel_rfl)
          refine Ri.step_wanted (b := false) rfl rfl rfl f4 (fun K' hK => ?_)
          go_simp
          exact hK _ _ ⟨_, _, rfl, rfl, hb, q0, q1, q2, q3, q4, fun _ => rfl, q6, q7, q8, q9, q10, q11, q12, q13, q14, q15, q16, q17, q18⟩
        · have l0 : L 4 = true ∧ L 5 = true := by have := hd _ rfl; simp [Region.binds] at this; simp [this]
          have f4 := (hv 4 49 rfl l0.1).trans (q4 l0.1)
          have f5 := (hv 5 50 rfl l0.2).trans (q5 l0.2)
          refine Ri.step_wanted (b := false) rfl rfl rfl f4 (fun K' hK => ?_)
          go_simp
          refine (meet_any _ _ _ A B C D (by omega) _ (hm4.below (hbel.trans (hb.mono hbel.size)))).mono ?_
          rintro e w6 ⟨rfl, hb6⟩
          exact hK _ _ ⟨_, _, rfl, rfl, hb.trans (hb6.mono hb.size), q0, q1, q2, q3, q4, q5, fun _ => rfl, q7, q8, q9, q10, q11, q12, q13, q14, q15, q16, q17, q18⟩
        · have l0 : L 4 = true := by have := hd _ rfl; simp [Region.binds] at this; simp [this]
          have f4 := (hv 4 49 rfl l0).trans (q4 l0)
          have e8 : x.tmps.getD 10 undef = .pointer (some ⟨w4.heap.size + 1, 0, none⟩) := ho 10 (by kernel_rfl)
          refine Ri.step_wanted (b := false) rfl rfl rfl f4 (fun K' hK => ?_)
          refine wp_load_row _ _ rfl (w4.heap.size + 1) e8 _ _ _ _ ((hb.block _ (by omega)).trans HM.out) Try.underlying25 rfl (by kernel_rfl) ?_
          exact hK _ _ ⟨_, _, rfl, rfl, hb, q0, q1, q2, q3, q4, q5, q6, fun _ => rfl, q8, q9, q10, q11, q12, q13, q14, q15, q16, q17, q18⟩
        · have l0 : L 4 = true ∧ L 6 = true ∧ L 7 = true := by have := hd _ rfl; simp [Region.binds] at this; simp [this]
          have f4 := (hv 4 49 rfl l0.1).trans (q4 l0.1)
          have f6 := (hv 6 51 rfl l0.2.1).trans (q6 l0.2.1)
          have f7 := (hv 7 52 rfl l0.2.2).trans (q7 l0.2.2)
          refine Ri.step_wanted (b := false) rfl rfl rfl f4 (fun K' hK => ?_)
          go_simp
          exact hK _ _ ⟨_, _, rfl, rfl, hb, q0, q1, q2, q3, q4, q5, q6, q7, fun _ => rfl, q9, q10, q11, q12, q13, q14, q15, q16, q17, q18⟩
        · have l0 : L 4 = true ∧ L 8 = true := by have := hd _ rfl; simp [Region.binds] at this; simp [this]
          have f4 := (hv 4 49 rfl l0.1).trans (q4 l0.1)
          have f8 := (hv 8 53 rfl l0.2).trans (q8 l0.2)
          refine Ri.step_plain rfl rfl (fun K' hK => ?_)
          go_simp
          exact hK _ _ ⟨_, _, rfl, rfl, hb, q0, q1, q2, q3, q4, q5, q6, q7, q8, fun _ => rfl, q10, q11, q12, q13, q14, q15, q16, q17, q18⟩
        · have l0 : L 9 = true := by have := hd _ rfl; simp [Region.binds] at this; simp [this]
          have f9 := (hv 9 54 rfl l0).trans (q9 l0)
          refine Ri.step_plain rfl rfl (fun K' hK => ?_)
          go_simp
          exact hK _ _ ⟨_, _, rfl, rfl, hb, q0, q1, q2, q3, q4, q5, q6, q7, q8, q9, fun _ => rfl, q11, q12, q13, q14, q15, q16, q17, q18⟩
        · have l0 : L 10 = true := by have := hd _ rfl; simp [Region.binds] at this; simp [this]
          have f10 := (hv 10 55 rfl l0).trans (q10 l0)
          have e8 : x.tmps.getD 7 undef = .slice (some ⟨g, 0, none⟩) (k + 1) cap3 := ho 7 (by kernel_rfl)
          refine Ri.step_wanted (b := false) rfl rfl rfl f10 (fun K' hK => ?_)
          go_simp
          exact hK _ _ ⟨_, _, rfl, rfl, hb, q0, q1, q2, q3, q4, q5, q6, q7, q8, q9, q10, fun _ => rfl, q12, q13, q14, q15, q16, q17, q18⟩
        · have l0 : L 10 = true := by have := hd _ rfl; simp [Region.binds] at this; simp [this]
          have f10 := (hv 10 55 rfl l0).trans (q10 l0)
          have e8 : x.tmps.getD 0 undef = .slice p k cap := ho 0 (by kernel_rfl)
          refine Ri.step_wanted (b := false) rfl rfl rfl f10 (fun K' hK => ?_)
          go_simp
          exact hK _ _ ⟨_, _, rfl, rfl, hb, q0, q1, q2, q3, q4, q5, q6, q7, q8, q9, q10, q11, fun _ => rfl, q13, q14, q15, q16, q17, q18⟩
        · have l0 : L 10 = true ∧ L 12 = true := by have := hd _ rfl; simp [Region.binds] at this; simp [this]
          have f10 := (hv 10 55 rfl l0.1).trans (q10 l0.1)
          have f12 := (hv 12 57 rfl l0.2).trans (q12 l0.2)
          refine Ri.step_wanted (b := false) rfl rfl rfl f10 (fun K' hK => ?_)
          go_simp
          exact hK _ _ ⟨_, _, rfl, rfl, hb, q0, q1, q2, q3, q4, q5, q6, q7, q8, q9, q10, q11, q12, fun _ => rfl, q14, q15, q16, q17, q18⟩
        · have l0 : L 10 = true ∧ L 11 = true ∧ L 13 = true := by have := hd _ rfl; simp [Region.binds] at this; simp [this]
          have f10 := (hv 10 55 rfl l0.1).trans (q10 l0.1)
          have f11 := (hv 11 56 rfl l0.2.1).trans (q11 l0.2.1)
          have f13 := (hv 13 58 rfl l0.2.2).trans (q13 l0.2.2)
          have j1 : (k : Int) < (k : Int) + 1 := by omega
          refine Ri.step_wanted (b := false) rfl rfl rfl f10 (fun K' hK => ?_)
          go_simp
          exact hK _ _ ⟨_, _, rfl, rfl, hb, q0, q1, q2, q3, q4, q5, q6, q7, q8, q9, q10, q11, q12, q13, fun _ => rfl, q15, q16, q17, q18⟩
        · have l0 : L 10 = true ∧ L 14 = true := by have := hd _ rfl; simp [Region.binds] at this; simp [this]
          have f10 := (hv 10 55 rfl l0.1).trans (q10 l0.1)
          have f14 := (hv 14 59 rfl l0.2).trans (q14 l0.2)
          obtain ⟨c0, c1, c2, c3⟩ := nine_keep (w := wr) (n := k) hb (Nat.lt_of_lt_of_le hg4 hbel.size) (nine_keep hbel hg4 HX4.out)
          refine Ri.step_wanted (b := false) rfl rfl rfl f10 (fun K' hK => ?_)
          go_simp
          exact hK _ _ ⟨_, _, rfl, rfl, hb, q0, q1, q2, q3, q4, q5, q6, q7, q8, q9, q10, q11, q12, q13, q14, fun _ => rfl, q16, q17, q18⟩
        · have l0 : L 10 = true := by have := hd _ rfl; simp [Region.binds] at this; simp [this]
          have f10 := (hv 10 55 rfl l0).trans (q10 l0)
          refine Ri.step_wanted (b := false) rfl rfl rfl f10 (fun K' hK => ?_)
          go_simp
          exact hK _ _ ⟨_, _, rfl, rfl, hb, q0, q1, q2, q3, q4, q5, q6, q7, q8, q9, q10, q11, q12, q13, q14, q15, fun _ => rfl, q17, q18⟩
        · have l0 : L 10 = true ∧ L 15 = true ∧ L 16 = true := by have := hd _ rfl; simp [Region.binds] at this; simp [this]
          have f10 := (hv 10 55 rfl l0.1).trans (q10 l0.1)
          have f15 := (hv 15 60 rfl l0.2.1).trans (q15 l0.2.1)
          have f16 := (hv 16 61 rfl l0.2.2).trans (q16 l0.2.2)
          refine Ri.step_wanted (b := false) rfl rfl rfl f10 (fun K' hK => ?_)
          go_simp
          exact hK _ _ ⟨_, _, rfl, rfl, hb, q0, q1, q2, q3, q4, q5, q6, q7, q8, q9, q10, q11, q12, q13, q14, q15, q16, fun _ => rfl, q18⟩
        · have l0 : L 10 = true ∧ L 17 = true := by have := hd _ rfl; simp [Region.binds] at this; simp [this]
          have f10 := (hv 10 55 rfl l0.1).trans (q10 l0.1)
          have f17 := (hv 17 62 rfl l0.2).trans (q17 l0.2)
          refine Ri.step_plain rfl rfl (fun K' hK => ?_)
          go_simp
          exact hK _ _ ⟨_, _, rfl, rfl, hb, q0, q1, q2, q3, q4, q5, q6, q7, q8, q9, q10, q11, q12, q13, q14, q15, q16, q17, fun _ => rfl⟩
      · rintro v w5 ⟨hb, -, -, -, -, -, -, -, -, -, -, -, -, -, -, -, -, -, -, q18⟩
        have q18' : v 18 = .bool false := q18 rfl
        simp only [Ri.frame, List.zipIdx, List.foldl_cons, List.foldl_nil, if_true, List.setIfInBounds_toArray, List.set_cons_zero, List.set_cons_succ, q18', Nat.reduceAdd]
        have hb5 := hbel.trans (hb.mono hbel.size)
        have hs5 := hs4.below hb5; have hm5 := hm4.below hb5
        have hza5 := keep_blk hb5 HZA4.out; have hzb5 := keep_blk hb5 HZB4.out
        have hbw5 := hbw4.trans (hb5.mono hbw4.size)
        have ZA := Lib.hid hza5; have ZB := Lib.hid hzb5
        clear hza5 hzb5 hb5 hb hbel HJ HM HZA4 HZB4 HX4 hs4 hm4 hsz hsz4 hbw4 q18 q18'
        generalize v 0 = y0; generalize v 1 = y1; generalize v 2 = y2; generalize v 3 = y3; generalize v 4 = y4; generalize v 5 = y5; generalize v 6 = y6; generalize v 7 = y7; generalize v 8 = y8
        generalize v 9 = y9; generalize v 10 = y10; generalize v 11 = y11; generalize v 12 = y12; generalize v 13 = y13; generalize v 14 = y14; generalize v 15 = y15; generalize v 16 = y16; generalize v 17 = y17
        go_wp2_with fail
        go_loopw [66] (fun i wr => ∃ m : Nat, m ≤ k ∧ i = .int .i64 m ∧ Below w5.heap.size w5 wr) (fun i _ => k - (intOf i).toNat)
        case atStart => exact ⟨0, Nat.zero_le _, rfl, Below.refl _ _⟩
        case round =>
          obtain ⟨m, hmk, rfl, hbel⟩ := hrel
          by_cases hlt : m < k
          · obtain ⟨b1, o1, rfl, -, h0, h1, h2, h3⟩ := hs5.below hbel m hlt
            obtain ⟨b2, o2, had2, -, g0, g1, g2, g3⟩ := hm5.below hbel m hlt
            simp only [Option.some.injEq, Addr.mk.injEq, and_true] at had2
            obtain ⟨rfl, rfl⟩ := had2
            rw [Nat.zero_add] at g0 g1 g2 g3
            clear hs5 hm5
            have j1 : (m : Int) < (k : Int) := by omega
            have j2 : (0 : Int) ≤ (m : Int) := by omega
            go_wp2_with fail
            go_quiet (fail)
            go_wp2
            exact ⟨⟨m + 1, by omega, by go_num, below_drewN hbel _⟩, by simp [intOf]; omega⟩
          · obtain rfl : m = k := by omega
            have hbw6 := hbw5.trans (hbel.mono hbw5.size)
            have ZA := Lib.hid (keep_blk hbel ZA.out); have ZB := Lib.hid (keep_blk hbel ZB.out)
            clear hs5 hm5 hbw5
            go_wp2_with fail
            refine Ri.wp_region_frame (by kernel_rfl) (by kernel_rfl) (by kernel_rfl) (by kernel_rfl)
              (fun L v w' => Below wr.heap.size wr w' ∧ (L 0 = true → v 0 = (.agg #[.int .u64 (Oc.U a), .int .u64 (Oc.U b), .int .u64 (Oc.U c), .int .u64 (Oc.U d)])) ∧ (L 1 = true → v 1 = (.agg #[.int .u64 (Oc.U a'), .int .u64 (Oc.U b'), .int .u64 (Oc.U c'), .int .u64 (Oc.U d')])) ∧ (L 2 = true → v 2 = (.agg #[.int .u64 (Oc.U (a &&& ~~~a')), .int .u64 (Oc.U (b &&& ~~~b')), .int .u64 (Oc.U (c &&& ~~~c')), .int .u64 (Oc.U (d &&& ~~~d'))])) ∧ (L 3 = true → v 3 = (.agg #[.int .u64 (Oc.U a), .int .u64 (Oc.U b), .int .u64 (Oc.U c), .int .u64 (Oc.U d)])) ∧ (L 4 = true → v 4 = (.agg #[.int .u64 (Oc.U a'), .int .u64 (Oc.U b'), .int .u64 (Oc.U c'), .int .u64 (Oc.U d')])) ∧ (L 5 = true → v 5 = (.agg #[.int .u64 (Oc.U (~~~a')), .int .u64 (Oc.U (~~~b')), .int .u64 (Oc.U (~~~c')), .int .u64 (Oc.U (~~~d'))])) ∧ (L 6 = true → v 6 = (.agg #[.int .u64 (Oc.U (a &&& ~~~a')), .int .u64 (Oc.U (b &&& ~~~b')), .int .u64 (Oc.U (c &&& ~~~c')), .int .u64 (Oc.U (d &&& ~~~d'))])) ∧ (L 7 = true → v 7 = .bool true) ∧ (L 8 = true → v 8 = .bool true) ∧ (L 9 = true → v 9 = (.agg #[.int .u64 (Oc.U a), .int .u64 (Oc.U b), .int .u64 (Oc.U c), .int .u64 (Oc.U d)])) ∧ (L 10 = true → v 10 = (.agg #[.int .u64 (Oc.U (~~~a)), .int .u64 (Oc.U (~~~b)), .int .u64 (Oc.U (~~~c)), .int .u64 (Oc.U (~~~d))])) ∧ (L 11 = true → v 11 = (.agg #[.int .u64 (Oc.U a), .int .u64 (Oc.U b), .int .u64 (Oc.U c), .int .u64 (Oc.U d)])) ∧ (L 12 = true → v 12 = (.agg #[.int .u64 (Oc.U (~~~a)), .int .u64 (Oc.U (~~~b)), .int .u64 (Oc.U (~~~c)), .int .u64 (Oc.U (~~~d))])) ∧ (L 13 = true → v 13 = .bool true) ∧ (L 14 = true → v 14 = .bool true) ∧ (L 15 = true → v 15 = .bool true))
              ?_ ?_ ?_
            · exact ⟨(Below.refl _ _).drew, by simp, by simp, by simp, by simp, by simp, by simp, by simp, by simp, by simp, by simp, by simp, by simp, by simp, by simp, by simp, by simp⟩
            · intro i hi L v w7 x hI hL hd hv ho
              have hi' : i = 0 ∨ i = 1 ∨ i = 2 ∨ i = 3 ∨ i = 4 ∨ i = 5 ∨ i = 6 ∨ i = 7 ∨ i = 8 ∨ i = 9 ∨ i = 10 ∨ i = 11 ∨ i = 12 ∨ i = 13 ∨ i = 14 ∨ i = 15 := by simp at hi; omega
              obtain ⟨hb, q0, q1, q2, q3, q4, q5, q6, q7, q8, q9, q10, q11, q12, q13, q14, q15⟩ := hI
              rcases hi' with rfl | rfl | rfl | rfl | rfl | rfl | rfl | rfl | rfl | rfl | rfl | rfl | rfl | rfl | rfl | rfl
              · have e8 : x.tmps.getD 4 undef = .pointer (some ⟨w.heap.size, 0, none⟩) := ho 4 (by kernel_rfl)
                refine Ri.step_plain rfl rfl (fun K' hK => ?_)
                refine wp_load_row _ _ rfl _ e8 _ _ _ _ (keep_blk hb ZA.out) Try.underlying25 rfl (by kernel_rfl) ?_
                exact hK _ _ ⟨_, _, rfl, rfl, hb, fun _ => rfl, q1, q2, q3, q4, q5, q6, q7, q8, q9, q10, q11, q12, q13, q14, q15⟩
              · have e8 : x.tmps.getD 5 undef = .pointer (some ⟨w.heap.size + 1, 0, none⟩) := ho 5 (by kernel_rfl)
                refine Ri.step_plain rfl rfl (fun K' hK => ?_)
                refine wp_load_row _ _ rfl _ e8 _ _ _ _ (keep_blk hb ZB.out) Try.underlying25 rfl (by kernel_rfl) ?_
                exact hK _ _ ⟨_, _, rfl, rfl, hb, q0, fun _ => rfl, q2, q3, q4, q5, q6, q7, q8, q9, q10, q11, q12, q13, q14, q15⟩
              · have l0 : L 0 = true ∧ L 1 = true := by have := hd _ rfl; simp [Region.binds] at this; simp [this]
                have f0 := (hv 0 79 rfl l0.1).trans (q0 l0.1)
                have f1 := (hv 1 80 rfl l0.2).trans (q1 l0.2)
                refine Ri.step_plain rfl rfl (fun K' hK => ?_)
                go_simp
                refine (less_any _ _ _ _ _ _ _ _ _).mono ?_
                rintro e w8 ⟨rfl, hb8⟩
                exact hK _ _ ⟨_, _, rfl, rfl, hb.trans (hb8.mono hb.size), q0, q1, fun _ => rfl, q3, q4, q5, q6, q7, q8, q9, q10, q11, q12, q13, q14, q15⟩
              · have e8 : x.tmps.getD 4 undef = .pointer (some ⟨w.heap.size, 0, none⟩) := ho 4 (by kernel_rfl)
                refine Ri.step_plain rfl rfl (fun K' hK => ?_)
                refine wp_load_row _ _ rfl _ e8 _ _ _ _ (keep_blk hb ZA.out) Try.underlying25 rfl (by kernel_rfl) ?_
                exact hK _ _ ⟨_, _, rfl, rfl, hb, q0, q1, q2, fun _ => rfl, q4, q5, q6, q7, q8, q9, q10, q11, q12, q13, q14, q15⟩
              · have e8 : x.tmps.getD 5 undef = .pointer (some ⟨w.heap.size + 1, 0, none⟩) := ho 5 (by kernel_rfl)
                refine Ri.step_plain rfl rfl (fun K' hK => ?_)
                refine wp_load_row _ _ rfl _ e8 _ _ _ _ (keep_blk hb ZB.out) Try.underlying25 rfl (by kernel_rfl) ?_
                exact hK _ _ ⟨_, _, rfl, rfl, hb, q0, q1, q2, q3, fun _ => rfl, q5, q6, q7, q8, q9, q10, q11, q12, q13, q14, q15⟩
              · have l0 : L 4 = true := by have := hd _ rfl; simp [Region.binds] at this; simp [this]
                have f4 := (hv 4 83 rfl l0).trans (q4 l0)
                refine Ri.step_plain rfl rfl (fun K' hK => ?_)
                go_simp
                refine (refnot_any _ _ _ _ _).mono ?_
                rintro e w8 ⟨rfl, hb8⟩
                exact hK _ _ ⟨_, _, rfl, rfl, hb.trans (hb8.mono hb.size), q0, q1, q2, q3, q4, fun _ => rfl, q6, q7, q8, q9, q10, q11, q12, q13, q14, q15⟩
              · have l0 : L 3 = true ∧ L 5 = true := by have := hd _ rfl; simp [Region.binds] at this; simp [this]
                have f3 := (hv 3 82 rfl l0.1).trans (q3 l0.1)
                have f5 := (hv 5 84 rfl l0.2).trans (q5 l0.2)
                refine Ri.step_plain rfl rfl (fun K' hK => ?_)
                go_simp
                refine (refmeet_any _ _ _ _ _ _ _ _ _).mono ?_
                rintro e w8 ⟨rfl, hb8⟩
                exact hK _ _ ⟨_, _, rfl, rfl, hb.trans (hb8.mono hb.size), q0, q1, q2, q3, q4, q5, fun _ => rfl, q7, q8, q9, q10, q11, q12, q13, q14, q15⟩
              · have l0 : L 2 = true ∧ L 6 = true := by have := hd _ rfl; simp [Region.binds] at this; simp [this]
                have f2 := (hv 2 81 rfl l0.1).trans (q2 l0.1)
                have f6 := (hv 6 85 rfl l0.2).trans (q6 l0.2)
                refine Ri.step_plain rfl rfl (fun K' hK => ?_)
                go_simp
                exact hK _ _ ⟨_, _, rfl, rfl, hb, q0, q1, q2, q3, q4, q5, q6, fun _ => rfl, q8, q9, q10, q11, q12, q13, q14, q15⟩
              · have l0 : L 7 = true := by have := hd _ rfl; simp [Region.binds] at this; simp [this]
                have f7 := (hv 7 86 rfl l0).trans (q7 l0)
                refine Ri.step_plain rfl rfl (fun K' hK => ?_)
                go_simp
                exact hK _ _ ⟨_, _, rfl, rfl, hb, q0, q1, q2, q3, q4, q5, q6, q7, fun _ => rfl, q9, q10, q11, q12, q13, q14, q15⟩
              · have l0 : L 8 = true := by have := hd _ rfl; simp [Region.binds] at this; simp [this]
                have f8 := (hv 8 87 rfl l0).trans (q8 l0)
                have e8 : x.tmps.getD 4 undef = .pointer (some ⟨w.heap.size, 0, none⟩) := ho 4 (by kernel_rfl)
                refine Ri.step_wanted (b := true) rfl rfl rfl f8 (fun K' hK => ?_)
                refine wp_load_row _ _ rfl _ e8 _ _ _ _ (keep_blk hb ZA.out) Try.underlying25 rfl (by kernel_rfl) ?_
                exact hK _ _ ⟨_, _, rfl, rfl, hb, q0, q1, q2, q3, q4, q5, q6, q7, q8, fun _ => rfl, q10, q11, q12, q13, q14, q15⟩
              · have l0 : L 8 = true ∧ L 9 = true := by have := hd _ rfl; simp [Region.binds] at this; simp [this]
                have f8 := (hv 8 87 rfl l0.1).trans (q8 l0.1)
                have f9 := (hv 9 88 rfl l0.2).trans (q9 l0.2)
                refine Ri.step_wanted (b := true) rfl rfl rfl f8 (fun K' hK => ?_)
                go_simp
                refine (not_any _ _ _ _ _).mono ?_
                rintro e w8 ⟨rfl, hb8⟩
                exact hK _ _ ⟨_, _, rfl, rfl, hb.trans (hb8.mono hb.size), q0, q1, q2, q3, q4, q5, q6, q7, q8, q9, fun _ => rfl, q11, q12, q13, q14, q15⟩
              · have l0 : L 8 = true := by have := hd _ rfl; simp [Region.binds] at this; simp [this]
                have f8 := (hv 8 87 rfl l0).trans (q8 l0)
                have e8 : x.tmps.getD 4 undef = .pointer (some ⟨w.heap.size, 0, none⟩) := ho 4 (by kernel_rfl)
                refine Ri.step_wanted (b := true) rfl rfl rfl f8 (fun K' hK => ?_)
                refine wp_load_row _ _ rfl _ e8 _ _ _ _ (keep_blk hb ZA.out) Try.underlying25 rfl (by kernel_rfl) ?_
                exact hK _ _ ⟨_, _, rfl, rfl, hb, q0, q1, q2, q3, q4, q5, q6, q7, q8, q9, q10, fun _ => rfl, q12, q13, q14, q15⟩
              · have l0 : L 8 = true ∧ L 11 = true := by have := hd _ rfl; simp [Region.binds] at this; simp [this]
                have f8 := (hv 8 87 rfl l0.1).trans (q8 l0.1)
                have f11 := (hv 11 90 rfl l0.2).trans (q11 l0.2)
                refine Ri.step_wanted (b := true) rfl rfl rfl f8 (fun K' hK => ?_)
                go_simp
                refine (refnot_any _ _ _ _ _).mono ?_
                rintro e w8 ⟨rfl, hb8⟩
                exact hK _ _ ⟨_, _, rfl, rfl, hb.trans (hb8.mono hb.size), q0, q1, q2, q3, q4, q5, q6, q7, q8, q9, q10, q11, fun _ => rfl, q13, q14, q15⟩
              · have l0 : L 8 = true ∧ L 10 = true ∧ L 12 = true := by have := hd _ rfl; simp [Region.binds] at this; simp [this]
                have f8 := (hv 8 87 rfl l0.1).trans (q8 l0.1)
                have f10 := (hv 10 89 rfl l0.2.1).trans (q10 l0.2.1)
                have f12 := (hv 12 91 rfl l0.2.2).trans (q12 l0.2.2)
                refine Ri.step_wanted (b := true) rfl rfl rfl f8 (fun K' hK => ?_)
                go_simp
                exact hK _ _ ⟨_, _, rfl, rfl, hb, q0, q1, q2, q3, q4, q5, q6, q7, q8, q9, q10, q11, q12, fun _ => rfl, q14, q15⟩
              · have l0 : L 8 = true ∧ L 13 = true := by have := hd _ rfl; simp [Region.binds] at this; simp [this]
                have f8 := (hv 8 87 rfl l0.1).trans (q8 l0.1)
                have f13 := (hv 13 92 rfl l0.2).trans (q13 l0.2)
                refine Ri.step_plain rfl rfl (fun K' hK => ?_)
                go_simp
                exact hK _ _ ⟨_, _, rfl, rfl, hb, q0, q1, q2, q3, q4, q5, q6, q7, q8, q9, q10, q11, q12, q13, fun _ => rfl, q15⟩
              · have l0 : L 14 = true := by have := hd _ rfl; simp [Region.binds] at this; simp [this]
                have f14 := (hv 14 93 rfl l0).trans (q14 l0)
                refine Ri.step_plain rfl rfl (fun K' hK => ?_)
                go_simp
                exact hK _ _ ⟨_, _, rfl, rfl, hb, q0, q1, q2, q3, q4, q5, q6, q7, q8, q9, q10, q11, q12, q13, q14, fun _ => rfl⟩
            · rintro v w7 ⟨hb, -, -, -, -, -, -, -, -, -, -, -, -, -, -, -, q15⟩
              have q15' : v 15 = .bool true := q15 rfl
              simp only [Ri.frame, List.zipIdx, List.foldl_cons, List.foldl_nil, if_true, List.setIfInBounds_toArray, List.set_cons_zero, List.set_cons_succ, q15', Nat.reduceAdd]
              have hbw7 := hbw6.trans (hb.mono hbw6.size)
              go_wp2
              go_ret
              exact ⟨rfl, hbw7⟩
end Go.Proofs.Ytdlcnhelkjlglaa
