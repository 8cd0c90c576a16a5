/- Rows of octet's reference: the list of the rows of a set. -/
import Derived.Test.YtdlcnhelkjlglaaDoorOcRowsFn
import Derived.Test.YtdlcnhelkjlglaaDoorOcMore
import Derived.Laws.OwnMore
import Derived.Deep.AppendLies
import Derived.Deep.Onto
namespace Go.Proofs.YtdlcnhelkjlglaaDoor
open Go.RowKit
/-- What stands in the list behind k bytes: closed rows, or an open one at its end. -/
def RefAt (p q : Nat → Bool) (k : Nat) (l : List (Nat × Nat)) : Prop :=
  ((0 < k → p (k - 1) = false) ∧ ∃ n, 256 < n + Oc.nx p k ∧ Oc.rowsOf p q = l ++ Oc.rowsFrom p q n (Oc.nx p k)) ∨
  (0 < k ∧ p (k - 1) = true ∧ ∃ L lo n, l = L ++ [(lo, k)] ∧ lo < k ∧ (∀ j, lo ≤ j → j < k → p j = true) ∧ 256 < n + lo ∧ Oc.rowsOf p q = L ++ Oc.rowsFrom p q n lo)
theorem RefAt.start (p q : Nat → Bool) : RefAt p q 0 [] := .inl ⟨fun h => by omega, 257, by omega, rfl⟩
theorem nx_skip {p : Nat → Bool} {k : Nat} (hk : k < 256) (h : p k = false) : Oc.nx p k = Oc.nx p (k + 1) := by
  obtain ⟨h1, h2, h3, h4⟩ := Oc.nx_spec p (k + 1) (by omega)
  exact Oc.nx_eq (by omega) h2 (fun i hi hj => by
    by_cases e : i = k
    · subst e; exact h
    · exact h3 i (by omega) hj) h4
theorem nx_here {p : Nat → Bool} {k : Nat} (hk : k < 256) (h : p k = true) : Oc.nx p k = k := Oc.nx_eq (Nat.le_refl _) (by omega) (fun i hi hj => by omega) (fun _ => h)
theorem RefAt.none {p q : Nat → Bool} (hq : ∀ j, q j = !p j) {k : Nat} {l : List (Nat × Nat)} (h : RefAt p q k l) (hk : k < 256) (hp : p k = false) : RefAt p q (k + 1) l := by
  rcases h with ⟨_, n, hn, he⟩ | ⟨h0, h1, L, lo, n, rfl, hlo, hall, hn, he⟩
  · exact .inl ⟨fun _ => hp, n, by rw [← nx_skip hk hp]; exact hn, by rw [← nx_skip hk hp]; exact he⟩
  · have e : Oc.nx q lo = k := Oc.nx_eq (by omega) (by omega) (fun i hi hj => by rw [hq, hall i hi hj]; rfl) (fun _ => by rw [hq, hp]; rfl)
    have hge := (Oc.nx_spec p k (by omega)).1
    obtain ⟨n', rfl⟩ : ∃ n', n = n' + 1 := ⟨n - 1, by omega⟩
    rw [Oc.rowsFrom_step _ _ _ _ (by omega), e] at he
    refine .inl ⟨fun _ => hp, n', ?_, ?_⟩
    · rw [← nx_skip hk hp]; omega
    · rw [← nx_skip hk hp, he]; simp
theorem RefAt.fresh {p q : Nat → Bool} {k : Nat} {l : List (Nat × Nat)} (h : RefAt p q k l) (hk : k < 256) (hp : p k = true) (hb : 0 < k → p (k - 1) = false) : RefAt p q (k + 1) (l ++ [(k, k + 1)]) := by
  rcases h with ⟨_, n, hn, he⟩ | ⟨h0, h1, _⟩
  · rw [nx_here hk hp] at hn he
    exact .inr ⟨by omega, by simpa using hp, l, k, n, rfl, by omega, fun j a b => by obtain rfl : j = k := by omega
                                                                                     exact hp, hn, he⟩
  · rw [hb h0] at h1; cases h1
theorem RefAt.longer {p q : Nat → Bool} {k : Nat} {l : List (Nat × Nat)} (h : RefAt p q k l) (hp : p k = true) (h0 : 0 < k) (hb : p (k - 1) = true) : ∃ L lo, l = L ++ [(lo, k)] ∧ RefAt p q (k + 1) (L ++ [(lo, k + 1)]) := by
  rcases h with ⟨hn, _⟩ | ⟨_, _, L, lo, n, rfl, hlo, hall, hn, he⟩
  · rw [hn h0] at hb; cases hb
  · exact ⟨L, lo, rfl, .inr ⟨by omega, by simpa using hp, L, lo, n, rfl, by omega, fun j a b => by
      by_cases e : j = k
      · subst e; exact hp
      · exact hall j a (by omega), hn, he⟩⟩
theorem RefAt.last {p q : Nat → Bool} (hq : ∀ j, q j = !p j) {l : List (Nat × Nat)} (h : RefAt p q 256 l) : l = Oc.rowsOf p q := by
  have e6 : Oc.nx p 256 = 256 := Oc.nx_eq (Nat.le_refl _) (Nat.le_refl _) (fun i a b => by omega) (fun h => by omega)
  rcases h with ⟨_, n, hn, he⟩ | ⟨h0, h1, L, lo, n, rfl, hlo, hall, hn, he⟩
  · rw [e6, Oc.rowsFrom_end] at he; simpa using he.symm
  · have e : Oc.nx q lo = 256 := Oc.nx_eq (by omega) (Nat.le_refl _) (fun i hi hj => by rw [hq, hall i hi hj]; rfl) (fun h => by omega)
    obtain ⟨n', rfl⟩ : ∃ n', n = n' + 1 := ⟨n - 1, by omega⟩
    rw [Oc.rowsFrom_step _ _ _ _ (by omega), e, e6, Oc.rowsFrom_end] at he
    exact he.symm
/-- The row at the end, longer by one byte. -/
theorem rowCells_longer (L : List (Nat × Nat)) (lo k : Nat) : (rowCells (L ++ [(lo, k)])).set (L.length * 2 + 1) (.int .u8 (k : Int)) = rowCells (L ++ [(lo, k + 1)]) := by
  rw [rowCells_snoc, rowCells_snoc, List.set_append_right _ _ (by rw [rowCells_length]; omega), rowCells_length]
  rw [show L.length * 2 + 1 - L.length * 2 = 1 by omega]
  simp
set_option maxRecDepth 100000 in
set_option maxHeartbeats 1000000 in
theorem refrows_any (a b c d : BitVec 64) (w : World) :
    Calls Tryd.prog 18 #[(.agg #[.int .u64 (Oc.U a), .int .u64 (Oc.U b), .int .u64 (Oc.U c), .int .u64 (Oc.U d)])] w fun e w' => ∃ v, e = .returned v ∧ w'.ownsRow w.heap.size 40 2 v (Oc.rowsOf (Oc.mem a b c d) (Oc.mem (~~~a) (~~~b) (~~~c) (~~~d))).length (rowCells (Oc.rowsOf (Oc.mem a b c d) (Oc.mem (~~~a) (~~~b) (~~~c) (~~~d)))) ∧ Below w.heap.size w w' := by
  have hz : ∀ w, (zeroValue 49).run Tryd.prog w = .ok (.agg (bools fun _ => false)) w := fun _ => by kernel_rfl
  obtain ⟨i0, hi, hz0, hz1, hz2⟩ := info_parts Tryd.infoRow
  go_enter Tryd.func18, Tryd.ntmps18
  go_wp2_with fail
  refine (bits_any _ _ _ _ _).mono ?_
  rintro e w1 ⟨rfl, hb1⟩
  have hbw1 : Below w.heap.size w w1 := ((Below.refl _ _).alloc (Nat.le_refl _) _).trans (hb1.mono (by simp))
  clear hb1
  obtain ⟨hbw2, hl⟩ := lay_bits (f := Oc.mem a b c d) hbw1
  have HL := Lib.hid hl
  clear hl
  go_wp2_with (first
    | (refine wpList_store_row rfl 49 (.tmp 3) (.tmp 7) rfl w1.heap.size (bools (Oc.mem a b c d)) rfl rfl 49 (bools fun _ => false) (heap_alloc_new _ _) (by rw [bools_size]; kernel_rfl) (by rw [bools_size, bools_size]) (bools_one _) ?_)
    | fail)
  have hsz1 := hbw1.size
  generalize hW0 : World.setRow _ _ _ = W0
  have hs0 : w1.heap.size + 1 = W0.heap.size := by rw [← hW0]; simp
  rw [hW0] at HL hbw2
  clear hW0 hbw1
  generalize hB : w1.heap.size = B at *
  go_loopw [4, 5] (fun v i wr => ∃ (k : Nat) (l : List (Nat × Nat)), k ≤ 256 ∧ i = .int .i64 k ∧ l.length ≤ k ∧ Hid (RefAt (Oc.mem a b c d) (Oc.mem (~~~a) (~~~b) (~~~c) (~~~d)) k l) ∧ wr.ownsRow (B + 1) 40 2 v l.length (rowCells l) ∧ Below (B + 1) W0 wr) (fun _ i _ => 256 - (intOf i).toNat)
  case atStart => exact ⟨0, [], Nat.zero_le _, rfl, Nat.le_refl _, RefAt.start _ _, World.ownsRow_nil _ _ _ _, Below.refl _ _⟩
  case round =>
    obtain ⟨k, l, hk, rfl, hll, HR, hown, hbel⟩ := hrel
    have hszr := hbel.size
    have HLr := Lib.hid ((hbel.block B (by omega)).trans HL.out)
    by_cases hlt : k < 256
    · have l0 := (one_cell hlt HLr.out).1
      cases hm : Oc.mem a b c d k with
      | false =>
        rw [hm] at l0
        have HN := Lib.hid (RefAt.none (fun j => Oc.mem_not a b c d j) HR.out hlt hm)
        clear hm
        go_wp2
        go_roundw
        case rel => exact ⟨k + 1, l, by omega, by go_num, by omega, HN.out, hown, hbel⟩
        case measure => simp [intOf]; omega
      | true =>
        rw [hm] at l0
        by_cases hb : 0 < k ∧ Oc.mem a b c d (k - 1) = true
        · obtain ⟨h0, hp⟩ := hb
          obtain ⟨L, lo, rfl, HR2⟩ := HR.out.longer hm h0 hp
          have l1 := (one_cell (show k - 1 < 256 by omega) HLr.out).1
          rw [hp] at l1
          obtain ⟨g, cap, rfl, hg, hgs⟩ := hown.form (by simp)
          have hst := hown.stored (L.length * 2 + 1) (.int .u8 (k : Int))
          rw [rowCells_longer] at hst
          have hc1 : wr.cell? ⟨g, L.length * 2 + 1, none⟩ = some (.int .u8 ((k : Int) - 1)) := by rw [hown.cellAt _ (by simp; omega), rowCells_snoc, List.getElem?_append_right (by rw [rowCells_length]; omega), rowCells_length, show L.length * 2 + 1 - L.length * 2 = 1 by omega]; rfl
          have hf1 := hown.frozenAt (L.length * 2 + 1)
          have HST := Lib.hid hst
          have d0 : decide ((0 : Int) < (k : Int)) = true := decide_eq_true (by omega)
          have s1 : IntKind.i64.wrap ((k : Int) - 1) = ((k - 1 : Nat) : Int) := (IntWalk.i64_in _ (by omega)).trans (by omega)
          have hL : (L.length : Int) ≤ 256 := by simp at hll; omega
          have hL0 : (0 : Int) ≤ (L.length : Int) := by omega
          clear hst hm hp hown HL
          go_wp2
          go_roundw
          case rel => exact ⟨k + 1, L ++ [(lo, k + 1)], by omega, by go_num, by simp at hll ⊢; omega, HR2, by simpa using HST.out.1, hbel.setCell (by omega) _⟩
          case measure => simp [intOf]; omega
        · have hb' : 0 < k → Oc.mem a b c d (k - 1) = false := fun h0 => by
            cases e : Oc.mem a b c d (k - 1) with
            | false => rfl
            | true => exact absurd ⟨h0, e⟩ hb
          have HR2 := Lib.hid (HR.out.fresh hlt hm hb')
          have hL : (l.length : Int) ≤ 256 := by omega
          by_cases h0 : 0 < k
          · have l1 := (one_cell (show k - 1 < 256 by omega) HLr.out).1
            rw [hb' h0] at l1
            have d0 : decide ((0 : Int) < (k : Int)) = true := decide_eq_true (by omega)
            have s1 : IntKind.i64.wrap ((k : Int) - 1) = ((k - 1 : Nat) : Int) := (IntWalk.i64_in _ (by omega)).trans (by omega)
            clear hm hb hb' HL
            go_wp2_with (at_builtin; refine wpList_append_own _ rfl _ _ 35 rfl (B + 1) 40 i0 _ 2 2 Tryd.underlying35 hi hz0 hz1 hz2 rfl (by decide) _ _ _ rfl (hown.alloc _) ⟨wr.heap.size, 0, none⟩ 1 1 [.int .u8 k, .int .u8 k] rfl rfl (pair_at _ _ _ _) (by simp [Value.oneCell']) (by unfold maxLen; omega) (by omega) (by simp; omega) ?_; intro v' w5 hown' hgrow _)
            go_roundw
            case rel => exact ⟨k + 1, l ++ [(k, k + 1)], by omega, by go_num, by simp; omega, HR2.out, by rw [rowCells_snoc]; simpa using hown', (hbel.alloc (by omega) _).grown hgrow (by simp; omega) (fun z hz => (hown.lt z hz).1)⟩
            case measure => simp [intOf]; omega
          · have d0 : decide ((0 : Int) < (k : Int)) = false := decide_eq_false (by omega)
            clear hm hb hb' HL
            go_wp2_with (at_builtin; refine wpList_append_own _ rfl _ _ 35 rfl (B + 1) 40 i0 _ 2 2 Tryd.underlying35 hi hz0 hz1 hz2 rfl (by decide) _ _ _ rfl (hown.alloc _) ⟨wr.heap.size, 0, none⟩ 1 1 [.int .u8 k, .int .u8 k] rfl rfl (pair_at _ _ _ _) (by simp [Value.oneCell']) (by unfold maxLen; omega) (by omega) (by simp; omega) ?_; intro v' w5 hown' hgrow _)
            go_roundw
            case rel => exact ⟨k + 1, l ++ [(k, k + 1)], by omega, by go_num, by simp; omega, HR2.out, by rw [rowCells_snoc]; simpa using hown', (hbel.alloc (by omega) _).grown hgrow (by simp; omega) (fun z hz => (hown.lt z hz).1)⟩
            case measure => simp [intOf]; omega
    · obtain rfl : k = 256 := by omega
      obtain rfl := HR.out.last (fun j => Oc.mem_not a b c d j)
      have HO := Lib.hid hown
      clear hown
      go_wp2
      go_ret
      exact ⟨_, rfl, World.ownsRow.mono HO.out (by omega), hbw2.trans (hbel.mono (by omega))⟩
end Go.Proofs.YtdlcnhelkjlglaaDoor
