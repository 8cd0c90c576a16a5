/- What is proved: whatever the patterns and the flags, the law EreJoins returns true, and each argument reads behind the call as it read before. Conditions: the listed variables read as the program's text says (tied). -/
import Derived.Test.YtlbhbjmobcikfaaGreatDoorEpA
import Derived.Test.YtlbhbjmobcikfaaGreatDoorEpB
import Derived.Test.YtlbhbjmobcikfaaGreatDoorTrOwnCopy
import Derived.Great.BuildSlice
import Derived.Laws.IdiomStrings
import Derived.Deep.MidRow
import Derived.Test.YtlbhbjmobcikfaaGreatDoorOcWalks2
import Derived.ProofKit
import Derived.OpenShut
import Derived.ChangeOld
import Derived.Deep.Slices
import Derived.Laws.IdiomArrays
import Derived.Lib.SmallJoins
import Derived.Test.YtlbhbjmobcikfaaGreatDoorErPlace
import Derived.Lib.LaidTab
import Derived.Lib.ItoaNum
import Derived.Lib.AppendIntMem
import Derived.Test.YtlbhbjmobcikfaaGreatDoorErAll
import Derived.LaidHandle
import Derived.LaidLaws
import Derived.Test.YtlbhbjmobcikfaaGreatDoorCards
import Derived.Test.YtlbhbjmobcikfaaGreatDoorTie
import Derived.SizedLaws
import Derived.ChangeMaps5
import Derived.SevenTiedAt
import Derived.Deep.DeepWitnessRowRef
/- What a read pattern is: its faults lie in the text, its tree isn't deep, has no repeats in repeats, and its groups are numbered from the left. Plain facts: nothing of the program. -/
namespace Go.Proofs.YtlbhbjmobcikfaaGreatDoor
namespace Tr
mutual
/-- How deep a tree is. -/
def dpT : Tr → Nat
  | .node k _ _ _ _ s _ lo hi _ => if s.length = 0 then 1 else dpS s + (if k = 8 ∧ ¬ (lo = 0 ∧ (hi = 1 ∨ hi = -1)) then 2 else 1)
def dpS : List Tr → Nat
  | [] => 0
  | t :: l => max (dpT t) (dpS l)
end
mutual
/-- The groups that are met behind g of them; none: a bare repeat, a repeat in a repeat (r) or a group out of its turn. -/
def tdT : Tr → Nat → Bool → Option Nat
  | .node k _ _ _ _ s m _ _ br, g, r => if br = true ∨ (r = true ∧ k = 8) then none else if k = 7 then (if m = (g + 1 : Nat) then tdS s (g + 1) (decide (k = 8)) else none) else tdS s g (decide (k = 8))
def tdS : List Tr → Nat → Bool → Option Nat
  | [], g, _ => some g
  | t :: l, g, r => match tdT t g r with
    | some g' => tdS l g' r
    | none => none
end
theorem dpS_append : ∀ (l m : List Tr), dpS (l ++ m) = max (dpS l) (dpS m)
  | [], m => by simp [dpS]
  | t :: l, m => by rw [List.cons_append, dpS, dpS, dpS_append l m]; omega
theorem tdS_append : ∀ (l m : List Tr) (g : Nat) (r : Bool), tdS (l ++ m) g r = match tdS l g r with
    | some g' => tdS m g' r
    | none => none
  | [], m, g, r => by simp [tdS]
  | t :: l, m, g, r => by
    rw [List.cons_append, tdS, tdS]
    cases tdT t g r with
    | none => rfl
    | some g' => exact tdS_append l m g' r
theorem dpS_take (l : List Tr) (m : Nat) (x : Tr) (h : l[m]? = some x) : dpS (l.take (m + 1)) = max (dpS (l.take m)) (dpT x) := by
  rw [List.take_add_one, h, Option.toList_some, dpS_append, dpS, dpS]; omega
theorem dpT_le_dpS {l : List Tr} {x : Tr} (h : x ∈ l) : dpT x ≤ dpS l := by
  induction l with
  | nil => cases h
  | cons a l ih =>
    rw [dpS]
    rcases List.mem_cons.1 h with rfl | h
    · omega
    · have := ih h; omega
theorem tdT_weak {t : Tr} {g g' : Nat} (h : tdT t g true = some g') : tdT t g false = some g' := by
  cases t with
  | node k a b c d s m lo hi br =>
    rw [tdT] at h ⊢
    split at h
    · cases h
    · rename_i hc
      rw [if_neg (by
        rintro (h1 | ⟨h1, -⟩)
        · exact hc (.inl h1)
        · cases h1)]
      exact h
end Tr
namespace Br
theorem whole_at {f : Nat → Nat} {n a c : Nat} {ic nl : Bool} {p : Int} (hf : Txt f n) (ha : a < n) (h : whole f n a ic nl = .err c p) : 0 ≤ p ∧ p ≤ n := by
  have hit : ∀ {i c : Nat} {p : Int}, i < n → item f n i a = .err c p → 0 ≤ p ∧ p ≤ n := by
    intro i c p hi h
    unfold item at h
    split at h
    · injection h with h1 h2; omega
    split at h
    · unfold classed at h
      split at h
      · injection h with h1 h2; omega
      · unfold named at h
        split at h
        · injection h with h1 h2; omega
        · cases h
    split at h
    · unfold ranged at h
      split at h
      · rename_i hd
        have : f (i + 2) = 91 := by
          unfold dotted at hd
          simp only [Bool.and_eq_true, beq_iff_eq] at hd
          exact hd.1
        have := hf.lt this (by omega)
        injection h with h1 h2; omega
      split at h
      · injection h with h1 h2; omega
      · cases h
    · cases h
  have hits : ∀ (k : Nat) {i c : Nat} {p : Int} {P : Nat → Bool} {b : Bool}, i ≤ n → items f n a k i P b = .err c p → 0 ≤ p ∧ p ≤ n := by
    intro k
    induction k with
    | zero => intro i c p P b hi h; unfold items at h; injection h with h1 h2; omega
    | succ k ih =>
      intro i c p P b hi h
      unfold items at h
      split at h
      · cases h
      split at h
      · injection h with h1 h2; omega
      · rename_i hn
        cases hm : item f n i a with
        | err c' p' =>
          rw [hm] at h
          injection h with h1 h2
          subst h1 h2
          exact hit (by omega) hm
        | ok Q j =>
          rw [hm] at h
          exact ih (item_next (by omega) hm).2 h
  unfold whole at h
  simp only at h
  generalize hi : (if f (a + 1) == 94 then a + 2 else a + 1) = i at h
  have hi2 : i ≤ n := by
    rw [← hi]; split
    · rename_i hc; have := hf.lt (beq_iff_eq.1 hc) (by omega); omega
    · omega
  cases hr : items f n a (n + 1) i (fun _ => false) false with
  | ok Q j => rw [hr] at h; cases h
  | err c' p' =>
    rw [hr] at h
    unfold ends at h
    injection h with h1 h2
    subst h1 h2
    exact hits _ hi2 hr
end Br
namespace Ep
/-- A fault lies in a text of n bytes, or at its end. -/
def Plc (n : Nat) (O : Out) : Prop := ∀ c p, O = .err c p → 0 ≤ p ∧ p ≤ n
theorem plc_err {n c : Nat} {p : Int} (h0 : 0 ≤ p) (h1 : p ≤ n) : Plc n (.err c p) := fun c' p' h => by
  injection h with h2 h3; omega
theorem plc_ok {n i g : Nat} {t : Tr} : Plc n (.ok t i g) := fun c' p' h => by cases h
theorem counted_plc {n p q g : Nat} {t : Tr} {a b : Int} (h : p ≤ n) : Plc n (counted t a b p q g) := by
  unfold counted
  split
  · exact plc_err (by omega) (by omega)
  · exact plc_ok
theorem rep_plc {f : Nat → Nat} {n i g : Nat} {t : Tr} (h : i ≤ n) : Plc n (rep f n t i g) := by
  unfold rep
  split
  · exact counted_plc h
  split
  · exact counted_plc h
  split
  · exact counted_plc h
  split
  · split
    · exact plc_err (by omega) (by omega)
    · split
      · exact plc_err (by omega) (by omega)
      · exact counted_plc h
  · exact plc_ok
def Plcs (n : Nat) (H : Nat → Nat → Out) : Prop := ∀ i g, i < n → Plc n (H i g)
theorem atom_plc {f : Nat → Nat} {n i g : Nat} {ic nl : Bool} {H : Nat → Nat → Out} (hf : Br.Txt f n) (hH : Plcs n H) (hi : i < n) : Plc n (atom f n ic nl H i g) := by
  unfold atom
  split
  · exact hH i g hi
  split
  · cases hw : Br.whole f n i ic nl with
    | ok P j => exact plc_ok
    | err c p => exact plc_err (Br.whole_at hf hi hw).1 (Br.whole_at hf hi hw).2
  split
  · split
    · exact plc_ok
    · exact plc_err (by omega) (by omega)
  split
  · exact plc_ok
  · exact plc_ok
theorem piece_plc {f : Nat → Nat} {n i g : Nat} {ic nl : Bool} {H : Nat → Nat → Out} (hf : Br.Txt f n) (hA : Ahead n H) (hH : Plcs n H) (hi : i < n) : Plc n (piece f n ic nl H i g) := by
  unfold piece
  split
  · exact plc_ok
  split
  · exact plc_ok
  split
  · exact plc_err (by omega) (by omega)
  have h1 := atom_plc (ic := ic) (nl := nl) (g := g) hf hH hi
  cases ha : atom f n ic nl H i g with
  | err c p => rw [ha] at h1; exact h1
  | ok u k g2 => exact rep_plc (atom_next hf hA hi ha).2
theorem branch_plc {f : Nat → Nat} {n : Nat} {ic nl : Bool} {H : Nat → Nat → Out} (hf : Br.Txt f n) (hA : Ahead n H) (hH : Plcs n H) : ∀ (k : Nat) (l : List Tr) (i g : Nat), i ≤ n → Plc n (branch f n ic nl H k l i g)
  | 0, _, _, _, _ => plc_err (by omega) (by omega)
  | k + 1, l, i, g, hi => by
    unfold branch
    split
    · exact plc_ok
    · rename_i hc
      have h1 := piece_plc (ic := ic) (nl := nl) (g := g) hf hA hH (i := i) (by omega)
      cases hp : piece f n ic nl H i g with
      | err c p => rw [hp] at h1; exact h1
      | ok u m g2 => exact branch_plc hf hA hH k _ m g2 (piece_next hf hA (by omega) hp).2
theorem alts_plc {f : Nat → Nat} {n : Nat} {ic nl : Bool} {H : Nat → Nat → Out} (hf : Br.Txt f n) (hA : Ahead n H) (hH : Plcs n H) : ∀ (k : Nat) (l : List Tr) (i g : Nat), i ≤ n → Plc n (alts f n ic nl H k l i g)
  | 0, _, _, _, _ => plc_err (by omega) (by omega)
  | k + 1, l, i, g, hi => by
    unfold alts
    have h1 := branch_plc (ic := ic) (nl := nl) hf hA hH (n + 1) [] i g hi
    cases hp : branch f n ic nl H (n + 1) [] i g with
    | err c p => rw [hp] at h1; exact h1
    | ok u m g2 =>
      have h2 := branch_next hf hA hi hp
      simp only
      split
      · rename_i hc
        have := hf.lt hc (by omega)
        exact alts_plc hf hA hH k _ (m + 1) g2 (by omega)
      · exact plc_ok
theorem group_plc {f : Nat → Nat} {n : Nat} {ic nl : Bool} (hf : Br.Txt f n) : ∀ r, Plcs n (group f n ic nl r)
  | 0 => fun i g hi => plc_err (by omega) (by omega)
  | r + 1 => fun i g hi => by
    unfold group
    have h1 := alts_plc (ic := ic) (nl := nl) hf (group_next hf r) (group_plc (ic := ic) (nl := nl) hf r) (n + 1) [] (i + 1) (g + 1) (by omega)
    cases hp : alts f n ic nl (group f n ic nl r) (n + 1) [] (i + 1) (g + 1) with
    | err c p => rw [hp] at h1; exact h1
    | ok u m g2 =>
      simp only
      split
      · exact plc_ok
      · exact plc_err (by omega) (by omega)
/-- The place of a fault lies in the pattern, or at its end. -/
theorem parse_plc {f : Nat → Nat} {n : Nat} {ic nl : Bool} (hf : Br.Txt f n) : Plc n (parse f n ic nl) := by
  unfold parse
  split
  · exact plc_err (by omega) (by omega)
  unfold whole pat
  have h1 := alts_plc (ic := ic) (nl := nl) hf (group_next (ic := ic) (nl := nl) hf 32) (group_plc hf 32) (n + 1) [] 0 0 (by omega)
  cases hp : alts f n ic nl (group f n ic nl 32) (n + 1) [] 0 0 with
  | err c p => rw [hp] at h1; exact h1
  | ok u m g2 =>
    simp only
    split
    · exact plc_err (by omega) (by omega)
    split
    · exact plc_err (by omega) (by omega)
    · exact plc_ok
/-- What H reads is at most m deep, and tidy. -/
def Shallow (m : Nat) (H : Nat → Nat → Out) : Prop := ∀ i g t j g', H i g = .ok t j g' → t.dpT ≤ m ∧ t.tdT g true = some g'
theorem dp_leaf (k : Int) : (Tr.leaf k).dpT = 1 := rfl
theorem dp_bytes (P : Nat → Bool) : (Tr.bytes P).dpT = 1 := rfl
theorem td_leaf (k : Int) (h : k ≠ 7) (h8 : k ≠ 8) (g : Nat) (r : Bool) : (Tr.leaf k).tdT g r = some g := by
  unfold Tr.leaf
  rw [Tr.tdT, if_neg (by simp [h8]), if_neg h]; rfl
theorem td_bytes (P : Nat → Bool) (g : Nat) (r : Bool) : (Tr.bytes P).tdT g r = some g := by
  unfold Tr.bytes
  rw [Tr.tdT, if_neg (by simp), if_neg (by decide)]; rfl
theorem atom_tidy {f : Nat → Nat} {n m i g j g' : Nat} {ic nl : Bool} {H : Nat → Nat → Out} {t : Tr} (hH : Shallow m H) (hm : 1 ≤ m) (h : atom f n ic nl H i g = .ok t j g') : t.dpT ≤ m ∧ t.tdT g true = some g' := by
  unfold atom at h
  split at h
  · exact hH i g t j g' h
  split at h
  · cases hw : Br.whole f n i ic nl with
    | err c p => rw [hw] at h; cases h
    | ok P k =>
      rw [hw] at h
      injection h with h1 h2 h3
      subst h1 h2 h3
      exact ⟨by rw [dp_bytes]; exact hm, td_bytes _ _ _⟩
  split at h
  · split at h
    · injection h with h1 h2 h3
      subst h1 h2 h3
      exact ⟨by unfold one; rw [dp_bytes]; exact hm, td_bytes _ _ _⟩
    · cases h
  split at h
  · injection h with h1 h2 h3
    subst h1 h2 h3
    exact ⟨by unfold dot; rw [dp_bytes]; exact hm, td_bytes _ _ _⟩
  · injection h with h1 h2 h3
    subst h1 h2 h3
    exact ⟨by unfold one; rw [dp_bytes]; exact hm, td_bytes _ _ _⟩
theorem dp_rep (a b : Int) (t : Tr) : (Tr.rep a b t).dpT ≤ t.dpT + 2 := by
  unfold Tr.rep
  rw [Tr.dpT, Tr.dpS, Tr.dpS]
  split
  · omega
  · split <;> omega
theorem td_rep (a b : Int) (t : Tr) (g g' : Nat) (h : t.tdT g true = some g') : (Tr.rep a b t).tdT g false = some g' := by
  unfold Tr.rep
  rw [Tr.tdT, if_neg (by simp), if_neg (by decide), Tr.tdS, show (decide ((8 : Int) = 8)) = true from rfl, h]; rfl
theorem piece_tidy {f : Nat → Nat} {n m i g j g' : Nat} {ic nl : Bool} {H : Nat → Nat → Out} {t : Tr} (hf : Br.Txt f n) (hA : Ahead n H) (hH : Shallow m H) (hm : 1 ≤ m) (hi : i < n) (h : piece f n ic nl H i g = .ok t j g') : t.dpT ≤ m + 2 ∧ t.tdT g false = some g' := by
  unfold piece at h
  split at h
  · injection h with h1 h2 h3; subst h1 h2 h3; exact ⟨by rw [dp_leaf]; omega, td_leaf 3 (by decide) (by decide) _ _⟩
  split at h
  · injection h with h1 h2 h3; subst h1 h2 h3; exact ⟨by rw [dp_leaf]; omega, td_leaf 4 (by decide) (by decide) _ _⟩
  split at h
  · cases h
  cases ha : atom f n ic nl H i g with
  | err c p => rw [ha] at h; cases h
  | ok u k g2 =>
    rw [ha] at h
    have h1 := atom_next hf hA hi ha
    have h3 := atom_tidy hH hm ha
    obtain ⟨-, -, rfl, rfl | ⟨a, b, rfl, -⟩⟩ := rep_ok h hf h1.2
    · exact ⟨by omega, Tr.tdT_weak h3.2⟩
    · exact ⟨by have := dp_rep a b u; omega, td_rep a b u _ _ h3.2⟩
theorem dp_several (k : Int) (h8 : k ≠ 8) (l : List Tr) (m : Nat) (h : Tr.dpS l ≤ m) : (Tr.several k l).dpT ≤ m + 1 := by
  match l, h with
  | [], _ => have := dp_leaf 1; show (Tr.leaf 1).dpT ≤ m + 1; omega
  | [t], h => rw [Tr.dpS, Tr.dpS] at h; show t.dpT ≤ m + 1; omega
  | a :: b :: r, h =>
    show (Tr.many k (a :: b :: r)).dpT ≤ m + 1
    unfold Tr.many
    rw [Tr.dpT, if_neg (by simp), if_neg (by rintro ⟨h1, -⟩; exact h8 h1)]
    omega
theorem td_several (k : Int) (h7 : k ≠ 7) (h8 : k ≠ 8) (l : List Tr) (g g' : Nat) (h : Tr.tdS l g false = some g') : (Tr.several k l).tdT g false = some g' := by
  match l, h with
  | [], h => rw [Tr.tdS] at h; injection h with h; subst h; exact td_leaf 1 (by decide) (by decide) _ _
  | [t], h =>
    show t.tdT g false = some g'
    rw [Tr.tdS] at h
    cases ht : t.tdT g false with
    | none => rw [ht] at h; cases h
    | some g2 => rw [ht] at h; exact h
  | a :: b :: r, h =>
    show (Tr.many k (a :: b :: r)).tdT g false = some g'
    unfold Tr.many
    rw [Tr.tdT, if_neg (by simp), if_neg h7, show (decide (k = 8)) = false from by simpa using h8]
    exact h
theorem branch_tidy {f : Nat → Nat} {n m : Nat} {ic nl : Bool} {H : Nat → Nat → Out} (hf : Br.Txt f n) (hA : Ahead n H) (hH : Shallow m H) (hm : 1 ≤ m) (g0 : Nat) : ∀ {k : Nat} {l : List Tr} {i g j g' : Nat} {t : Tr}, i ≤ n → Tr.dpS l ≤ m + 2 → Tr.tdS l g0 false = some g → branch f n ic nl H k l i g = .ok t j g' → t.dpT ≤ m + 3 ∧ t.tdT g0 false = some g'
  | 0, _, _, _, _, _, _, _, _, _, h => by cases h
  | k + 1, l, i, g, j, g', t, hi, hl, hg, h => by
    unfold branch at h
    split at h
    · injection h with h1 h2 h3; subst h1 h2 h3; exact ⟨dp_several 5 (by decide) l (m + 2) hl, td_several 5 (by decide) (by decide) l _ _ hg⟩
    · rename_i hc
      cases hp : piece f n ic nl H i g with
      | err c p => rw [hp] at h; cases h
      | ok u q g2 =>
        rw [hp] at h
        have h1 := piece_next hf hA (by omega) hp
        have h2 := piece_tidy hf hA hH hm (by omega) hp
        refine branch_tidy hf hA hH hm g0 h1.2 ?_ ?_ h
        · rw [Tr.dpS_append, Tr.dpS, Tr.dpS]; omega
        · rw [Tr.tdS_append, hg]; simp only [Tr.tdS, h2.2]
theorem alts_tidy {f : Nat → Nat} {n m : Nat} {ic nl : Bool} {H : Nat → Nat → Out} (hf : Br.Txt f n) (hA : Ahead n H) (hH : Shallow m H) (hm : 1 ≤ m) (g0 : Nat) : ∀ {k : Nat} {l : List Tr} {i g j g' : Nat} {t : Tr}, i ≤ n → Tr.dpS l ≤ m + 3 → Tr.tdS l g0 false = some g → alts f n ic nl H k l i g = .ok t j g' → t.dpT ≤ m + 4 ∧ t.tdT g0 false = some g'
  | 0, _, _, _, _, _, _, _, _, _, h => by cases h
  | k + 1, l, i, g, j, g', t, hi, hl, hg, h => by
    unfold alts at h
    cases hp : branch f n ic nl H (n + 1) [] i g with
    | err c p => rw [hp] at h; cases h
    | ok u q g2 =>
      rw [hp] at h
      have h1 := branch_next hf hA hi hp
      have h2 := branch_tidy hf hA hH hm g hi (by rw [Tr.dpS]; omega) rfl hp
      have hl2 : Tr.dpS (l ++ [u]) ≤ m + 3 := by rw [Tr.dpS_append, Tr.dpS, Tr.dpS]; omega
      have hg2 : Tr.tdS (l ++ [u]) g0 false = some g2 := by rw [Tr.tdS_append, hg]; simp only [Tr.tdS, h2.2]
      simp only at h
      split at h
      · rename_i hc
        have := hf.lt hc (by omega)
        exact alts_tidy hf hA hH hm g0 (by omega) hl2 hg2 h
      · injection h with h3 h4 h5; subst h3 h4 h5; exact ⟨dp_several 6 (by decide) _ (m + 3) hl2, td_several 6 (by decide) (by decide) _ _ _ hg2⟩
theorem dp_grp (m : Int) (t : Tr) : (Tr.grp m t).dpT = t.dpT + 1 := by
  unfold Tr.grp
  rw [Tr.dpT, if_neg (by simp), if_neg (by rintro ⟨h1, -⟩; exact absurd h1 (by decide)), Tr.dpS, Tr.dpS]; omega
theorem td_grp (t : Tr) (g g' : Nat) (r : Bool) (h : t.tdT (g + 1) false = some g') : (Tr.grp (g + 1 : Nat) t).tdT g r = some g' := by
  unfold Tr.grp
  rw [Tr.tdT, if_neg (by simp), if_pos rfl, if_pos rfl, Tr.tdS, show (decide ((7 : Int) = 8)) = false from rfl, h]; rfl
theorem group_tidy {f : Nat → Nat} {n : Nat} {ic nl : Bool} (hf : Br.Txt f n) : ∀ r, Shallow (5 * r + 1) (group f n ic nl r)
  | 0 => fun i g t j g' h => by cases h
  | r + 1 => fun i g t j g' h => by
    unfold group at h
    cases hp : alts f n ic nl (group f n ic nl r) (n + 1) [] (i + 1) (g + 1) with
    | err c p => rw [hp] at h; cases h
    | ok u m g2 =>
      rw [hp] at h
      simp only at h
      split at h
      · rename_i hc
        injection h with h3 h4 h5
        subst h3 h4 h5
        by_cases hi : i + 1 ≤ n
        · have h2 := alts_tidy hf (group_next hf r) (group_tidy hf r) (by omega) (g + 1) hi (by rw [Tr.dpS]; omega) rfl hp
          exact ⟨by rw [dp_grp]; omega, td_grp u g g2 true h2.2⟩
        · exfalso
          have hb : branch f n ic nl (group f n ic nl r) (n + 1) [] (i + 1) (g + 1) = .ok (.several 5 []) (i + 1) (g + 1) := by
            unfold branch; rw [if_pos (.inl (by omega))]
          unfold alts at hp
          rw [hb] at hp
          simp only at hp
          rw [hf.2 (i + 1) (by omega)] at hp
          simp only [show ¬ (256 = 124) from by decide, if_false] at hp
          injection hp with h6 h7 h8
          subst h7
          rw [hf.2 (i + 1) (by omega)] at hc
          exact absurd hc (by decide)
      · cases h
/-- What is read is in form, small, shallow, and tidy; the groups are told. -/
theorem parse_right {f : Nat → Nat} {n : Nat} {ic nl : Bool} (hf : Br.Txt f n) {t : Tr} {j g : Nat} (h : parse f n ic nl = .ok t j g) : n ≤ 1024 ∧ t.InForm ∧ t.szT ≤ 2000 ∧ t.dpT ≤ 200 ∧ t.tdT 0 false = some g ∧ g ≤ 999 := by
  unfold parse at h
  split at h
  · cases h
  rename_i hn
  unfold whole pat at h
  cases hp : alts f n ic nl (group f n ic nl 32) (n + 1) [] 0 0 with
  | err c p => rw [hp] at h; cases h
  | ok u m g2 =>
    rw [hp] at h
    simp only at h
    split at h
    · cases h
    rename_i hj
    split at h
    · cases h
    rename_i hs
    injection h with h1 h2 h3
    subst h1 h2 h3
    have h4 := alts_next hf (group_next hf 32) (by omega) hp
    have h5 := alts_form hf (group_next hf 32) (group_right hf (by omega) 32 0 (by omega)) (by omega) (fun x hx => by cases hx) (by omega) hp
    have h6 := alts_tidy hf (group_next hf 32) (group_tidy hf 32) (by omega) 0 (by omega) (by rw [Tr.dpS]; omega) rfl hp
    exact ⟨by omega, h5.1, by omega, by omega, h6.2, by omega⟩
end Ep
end Go.Proofs.YtlbhbjmobcikfaaGreatDoor
/- tree.Depth and tree.Check of trees that are right. -/
namespace Go.Proofs.YtlbhbjmobcikfaaGreatDoor
open Go.RowKit
theorem cells10 {w : World} {b : Nat} {x0 x1 x2 x3 x4 x5 x6 x7 x8 x9 : Value} {t : TypeId} (h : w.heap[b]? = some (.cells #[x0, x1, x2, x3, x4, x5, x6, x7, x8, x9] t)) : w.cell? ⟨b, 0, none⟩ = some x0 ∧ w.cell? ⟨b, 5, none⟩ = some x5 ∧ w.cell? ⟨b, 6, none⟩ = some x6 ∧ w.cell? ⟨b, 9, none⟩ = some x9 := by
  simp [World.cell?, h]
theorem allTen {w : World} {b : Nat} {x0 x1 x2 x3 x4 x5 x6 x7 x8 x9 : Value} {t : TypeId} (h : w.heap[b]? = some (.cells #[x0, x1, x2, x3, x4, x5, x6, x7, x8, x9] t)) : w.cell? ⟨b, 0, none⟩ = some x0 ∧ w.cell? ⟨b, 1, none⟩ = some x1 ∧ w.cell? ⟨b, 2, none⟩ = some x2 ∧ w.cell? ⟨b, 3, none⟩ = some x3 ∧ w.cell? ⟨b, 4, none⟩ = some x4 ∧ w.cell? ⟨b, 5, none⟩ = some x5 ∧ w.cell? ⟨b, 6, none⟩ = some x6 ∧ w.cell? ⟨b, 7, none⟩ = some x7 ∧ w.cell? ⟨b, 8, none⟩ = some x8 ∧ w.cell? ⟨b, 9, none⟩ = some x9 := by
  simp [World.cell?, h]
theorem Tr.dpT_eq (t : Tr) : t.dpT = if t.subs.length = 0 then 1 else Tr.dpS t.subs + (if t.kind = 8 ∧ ¬ (t.least = 0 ∧ (t.most = 1 ∨ t.most = -1)) then 2 else 1) := by
  cases t; rw [Tr.dpT]; rfl
set_option maxRecDepth 100000 in
set_option maxHeartbeats 4000000 in
theorem treedepth_any : ∀ t : Tr, t.dpT ≤ 1000 → ∀ (w : World) (B : Nat → Prop) (v : Value), NodeV w B v t → Calls Tryz.prog 36 #[v] w (SizeEnd t.dpT w) := by
  intro t
  induction t using Tr.rec_subs with
  | h t ih =>
    intro hd w B v hv
    obtain ⟨s, rfl, hs⟩ := hv
    obtain ⟨p, cap, rfl, hlen⟩ := hs.slice
    have heq := Tr.dpT_eq t
    rw [heq] at hd ⊢
    have HST := Lib.hid (fun w' => stays_is t (.slice p t.subs.length cap) ⟨_, _, _, rfl⟩ _ rfl w')
    clear heq
    generalize hts : t.subs = ts at *
    have HTS := Lib.hid hts; have IH := Lib.hid ih; have HS := Lib.hid hs
    clear ih hs hts
    unfold Tr.cells at *
    by_cases h0 : ts.length = 0
    · rw [if_pos h0]
      rw [h0]
      clear hd hlen HST HTS IH HS
      go_enter Tryz.func36, Tryz.ntmps36
      go_wp2
      go_ret
      exact ⟨rfl, by go_grown⟩
    · rw [if_neg h0] at hd ⊢
      generalize hD : Tr.dpS ts + (if t.kind = 8 ∧ ¬ (t.least = 0 ∧ (t.most = 1 ∨ t.most = -1)) then 2 else 1) = D at hd ⊢
      have HD := Lib.hid (show D ≤ 1000 ∧ Tr.dpS ts + 1 ≤ D ∧ D ≤ Tr.dpS ts + 2 from ⟨hd, by rw [← hD]; split <;> omega, by rw [← hD]; split <;> omega⟩)
      have HDE := Lib.hid hD
      have e0 : ((ts.length : Int) == 0) = false := by simpa using h0
      have e0' : (ts.length == 0) = false := by simpa using h0
      have Z0 := Lib.hid (heap_alloc_new w (.cells #[.int .i64 t.kind, .int .u64 (Oc.U t.w0), .int .u64 (Oc.U t.w1), .int .u64 (Oc.U t.w2), .int .u64 (Oc.U t.w3), .slice p ts.length cap, .int .i64 t.num, .int .i64 t.least, .int .i64 t.most, .bool t.bare] 28))
      have HW := Lib.hid (show Below w.heap.size w (w.alloc (.cells #[.int .i64 t.kind, .int .u64 (Oc.U t.w0), .int .u64 (Oc.U t.w1), .int .u64 (Oc.U t.w2), .int .u64 (Oc.U t.w3), .slice p ts.length cap, .int .i64 t.num, .int .i64 t.least, .int .i64 t.most, .bool t.bare] 28)) from (Below.refl _ _).alloc (Nat.le_refl _) _)
      have hz : w.heap.size < (w.alloc (.cells #[.int .i64 t.kind, .int .u64 (Oc.U t.w0), .int .u64 (Oc.U t.w1), .int .u64 (Oc.U t.w2), .int .u64 (Oc.U t.w3), .slice p ts.length cap, .int .i64 t.num, .int .i64 t.least, .int .i64 t.most, .bool t.bare] 28)).heap.size := by simp
      clear hd h0 hD
      go_enter Tryz.func36, Tryz.ntmps36
      go_wp2
      generalize w.alloc (.cells #[.int .i64 t.kind, .int .u64 (Oc.U t.w0), .int .u64 (Oc.U t.w1), .int .u64 (Oc.U t.w2), .int .u64 (Oc.U t.w3), .slice p ts.length cap, .int .i64 t.num, .int .i64 t.least, .int .i64 t.most, .bool t.bare] 28) = W0 at *
      go_loopw [3, 13] (fun gv iv wr => ∃ m : Nat, iv = .int .i64 m ∧ m ≤ ts.length ∧ gv = .int .i64 (Tr.dpS (ts.take m) : Nat) ∧ Hid (Below W0.heap.size W0 wr)) (fun _ iv _ => ts.length - (intOf iv).toNat)
      case atStart => exact ⟨0, rfl, Nat.zero_le _, rfl, Lib.hid (Below.refl _ _)⟩
      case round =>
        obtain ⟨m, rfl, hm, rfl, HB⟩ := hrel
        have wm : IntKind.i64.wrap ((m : Int) + 1) = (m : Int) + 1 := IntWalk.i64_in _ (by omega)
        have HBW := Lib.hid (HW.out.trans (HB.out.mono HW.out.size))
        by_cases hlt : m < ts.length
        · obtain ⟨x, hx⟩ : ∃ x, ts[m]? = some x := ⟨_, List.getElem?_eq_getElem hlt⟩
          obtain ⟨b1, o1, s1, rfl, -, t1, sub1⟩ := HS.out.get hx
          obtain ⟨d0, d1, d2, d3, d4, d5, d6, d7, d8, d9⟩ := t1.keep (HBW.out.block _ t1.lt)
          have hmem := List.mem_of_getElem? hx
          obtain ⟨p1, c1, rfl, hl1⟩ := sub1.slice
          have hdx : x.dpT ≤ 1000 := by have := Tr.dpT_le_dpS hmem; have := HD.out; omega
          have HC := Lib.hid (fun w9 hb => IH.out x hmem hdx w9 B (.agg (x.cells (.slice p1 x.subs.length c1))) ⟨_, rfl, sub1.later hb⟩)
          have HSTP := Lib.hid (Tr.dpS_take ts m x hx)
          clear t1 sub1 hmem hx hdx
          generalize hn : Tr.dpS (ts.take m) = n at *
          clear hn
          unfold Tr.cells at HC
          go_wp2_with fail
          generalize hw1 : World.alloc wr _ = w1
          have hb1 : Below wr.heap.size wr w1 := by rw [← hw1]; exact (Below.refl _ _).alloc (Nat.le_refl _) _
          clear hw1
          refine (HC.out w1 (HBW.out.trans (hb1.mono HBW.out.size))).mono ?_
          rintro e w2 ⟨rfl, hb2⟩
          have HB2 := Lib.hid (HB.out.trans ((hb1.trans (hb2.mono hb1.size)).mono HB.out.size))
          clear d0 d1 d2 d3 d4 d5 d6 d7 d8 d9 hb1 hb2 HC
          generalize x.dpT = N at *
          go_wp2
          all_goals
            exact ⟨⟨m + 1, by go_num, by omega, by rw [HSTP.out]; simp; try omega, HB2⟩, by simp [intOf]; omega⟩
        · obtain rfl : m = ts.length := by omega
          rw [List.take_length] at *
          have Z1 := Lib.hid (keep_blk (HB.out.mono (Nat.le_refl _)) Z0.out)
          have hdp := HD.out
          have w2' : IntKind.i64.wrap ((Tr.dpS ts : Int) + 2) = (Tr.dpS ts : Int) + 2 := IntWalk.i64_in _ (by omega)
          have w1' : IntKind.i64.wrap ((Tr.dpS ts : Int) + 1) = (Tr.dpS ts : Int) + 1 := IntWalk.i64_in _ (by omega)
          have hde := HDE.out
          clear hdp
          obtain ⟨d0, d1, d2, d3, d4, d5, d6, d7, d8, d9⟩ := allTen Z1.out
          by_cases h8 : t.kind = 8
          · rw [h8] at HST Z1 HDE d0 hde
            by_cases hst : t.least = 0 ∧ (t.most = 1 ∨ t.most = -1)
            · have hst' : decide (t.least = 0 ∧ (t.most = 1 ∨ t.most = -1)) = true := by simpa using hst
              rw [hst'] at HST
              rw [if_neg (by intro h; exact h.2 hst)] at hde
              have HDF := Lib.hid hde
              clear hst hst' hde
              go_wp2_with fail
              refine (HST.out _).mono ?_
              rintro e w5 ⟨rfl, hb5⟩
              have HB5 := Lib.hid (HBW.out.trans (hb5.mono HBW.out.size))
              clear hb5
              go_wp2
              go_ret
              exact ⟨ret_int (by have := HDF.out; omega), HB5.out⟩
            · have hst' : decide (t.least = 0 ∧ (t.most = 1 ∨ t.most = -1)) = false := by simpa using hst
              rw [hst'] at HST
              rw [if_pos ⟨rfl, hst⟩] at hde
              have HDF := Lib.hid hde
              clear hst hst' hde
              go_wp2_with fail
              refine (HST.out _).mono ?_
              rintro e w5 ⟨rfl, hb5⟩
              have HB5 := Lib.hid (HBW.out.trans (hb5.mono HBW.out.size))
              clear hb5
              go_wp2
              go_ret
              exact ⟨ret_int (by have := HDF.out; omega), HB5.out⟩
          · rw [if_neg (by intro h; exact h8 h.1)] at hde
            have e8 : (t.kind == 8) = false := by simpa using h8
            have HDF := Lib.hid hde
            clear h8 hde
            go_wp2
            go_ret
            exact ⟨ret_int (by have := HDF.out; omega), HBW.out⟩
set_option maxHeartbeats 1000000 in
/-- tree.Check of a right tree. -/
theorem check_any (t : Tr) (hf : t.InForm) (hd : t.dpT ≤ 200) (hz : t.szT ≤ 2000) (w : World) (B : Nat → Prop) (v : Value) (hv : NodeV w B v t) : Calls Tryz.prog 18 #[v] w fun e w' => e = .returned .nilIface ∧ Below w.heap.size w w' := by
  obtain ⟨s, rfl, hs⟩ := hv
  have H1 := Lib.hid (fun w' hb => inform_yes t hf w' B (.agg (t.cells s)) ⟨s, rfl, TreesAt.later (w' := w') hs hb⟩)
  have H2 := Lib.hid (fun w' hb => treedepth_any t (by omega) w' B (.agg (t.cells s)) ⟨s, rfl, TreesAt.later (w' := w') hs hb⟩)
  have H3 := Lib.hid (fun w' hb => treesize_any t hf w' B (.agg (t.cells s)) ⟨s, rfl, TreesAt.later (w' := w') hs hb⟩)
  obtain ⟨p, cap, rfl, hlen⟩ := hs.slice
  have z0 := heap_alloc_new w (.cells (t.cells (.slice p t.subs.length cap)) 28)
  have Z0 := Lib.hid z0
  have e1 : decide ((200 : Int) < t.dpT) = false := by simp; omega
  have e2 : decide ((2000 : Int) < t.szT) = false := by simp; omega
  have e1' : decide (200 < t.dpT) = false := by simp; omega
  have e2' : decide (2000 < t.szT) = false := by simp; omega
  clear hs hf z0 hd hz
  unfold Tr.cells at *
  go_enter Tryz.func18, Tryz.ntmps18
  go_wp2_with (first
    | (refine wpList_load_row rfl 28 (.tmp 1) rfl w.heap.size rfl 28 _ (0, 0) _ Z0.out Tryz.underlying28 rfl (by kernel_rfl) ?_)
    | fail)
  refine (H1.out _ ((Below.refl _ _).alloc (Nat.le_refl _) _)).mono ?_
  rintro e w1 ⟨rfl, hb1⟩
  have Z1 := Lib.hid (keep_blk hb1 Z0.out)
  have HB1 := Lib.hid (((Below.refl w.heap.size w).alloc (Nat.le_refl _) _).trans (hb1.mono (by simp)))
  clear hb1 Z0
  go_wp2_with (first
    | (refine wpList_load_row rfl 28 (.tmp 1) rfl w.heap.size rfl 28 _ (0, 0) _ Z1.out Tryz.underlying28 rfl (by kernel_rfl) ?_)
    | fail)
  refine (H2.out _ HB1.out).mono ?_
  rintro e w2 ⟨rfl, hb2⟩
  have Z2 := Lib.hid (keep_blk hb2 Z1.out)
  have HB2 := Lib.hid (HB1.out.trans (hb2.mono HB1.out.size))
  clear hb2 Z1
  go_wp2_with (first
    | (refine wpList_load_row rfl 28 (.tmp 1) rfl w.heap.size rfl 28 _ (0, 0) _ Z2.out Tryz.underlying28 rfl (by kernel_rfl) ?_)
    | fail)
  refine (H3.out _ HB2.out).mono ?_
  rintro e w3 ⟨rfl, hb3⟩
  have HB3 := Lib.hid (HB2.out.trans (hb3.mono HB2.out.size))
  clear hb3
  go_wp2
  go_ret
  exact ⟨rfl, HB3.out⟩
end Go.Proofs.YtlbhbjmobcikfaaGreatDoor
/- What the reader of extended patterns answers of a branch. -/
namespace Go.Proofs.YtlbhbjmobcikfaaGreatDoor
open Go.RowKit
/-- A list of nodes that a call has made so far, the lists below lying elsewhere. -/
structure RowAt (w : World) (base : Nat) (v : Value) (ps : List (Tr × Value)) : Prop where
  own : w.ownsRow base 28 10 v ps.length (rowOf ps)
  subs : ∀ (i : Nat) (t : Tr) (s : Value), ps[i]? = some (t, s) → TreesAt w (fun b => base ≤ b ∧ v.ownBlock ≠ some b) s t.subs
theorem RowAt.nil (w : World) (base : Nat) : RowAt w base (.slice none 0 0) [] := ⟨World.ownsRow_nil _ _ _ _, fun i t s h => by simp at h⟩
theorem RowAt.touch {w w' : World} {base : Nat} {v : Value} {ps : List (Tr × Value)} {R : Nat} (h : RowAt w base v ps) (ht : Touch [R] w w') (hR : R < base) : RowAt w' base v ps := by
  refine ⟨h.own.kept (w' := w') (row := some R) ⟨ht.os, ht.tape, ht.output, ht.size, fun k hk hne => ht.block k hk (by simp; exact fun e => hne (by rw [e]))⟩ ?_, fun i t s hi => (h.subs i t s hi).keep fun b hb hB => ht.block b hb (by simp; omega)⟩
  cases hv : v.ownBlock with
  | none => exact .inl rfl
  | some g => exact .inr fun e => by have := (h.own.lt g hv).1; have := Option.some.inj e; omega
theorem RowAt.later {w w' : World} {base : Nat} {v : Value} {ps : List (Tr × Value)} (h : RowAt w base v ps) (hb : Below w.heap.size w w') : RowAt w' base v ps := by
  refine ⟨h.own.kept (w' := w') (row := none) ⟨hb.os, hb.tape, hb.output, hb.size, fun k hk _ => hb.block k hk⟩ ?_, fun i t s hi => (h.subs i t s hi).later hb⟩
  cases hv : v.ownBlock with
  | none => exact .inl rfl
  | some g => exact .inr (by simp)
theorem RowAt.trees {w : World} {base : Nat} {v : Value} {ps : List (Tr × Value)} (h : RowAt w base v ps) (hn : ps.length * 96 ≤ 140737488351232) : TreesAt w (fun b => base ≤ b) v (ps.map (·.1)) :=
  trees_of_row h.own hn h.subs (fun _ hb => hb.1) (fun g hg => (h.own.lt g hg).1)
theorem RowAt.snoc {w w4 : World} {base : Nat} {v v' : Value} {ps : List (Tr × Value)} {x : Tr} {s : Value} (h : RowAt w base v ps) (hx : TreesAt w (fun b => base ≤ b ∧ v.ownBlock ≠ some b) s x.subs)
    (ho : w4.ownsRow base 28 10 v' (ps.length + 1) (rowOf ps ++ (x.cells s).toList)) (hg : w.grownBy w4 v.ownBlock) (hw : v'.ownBlock = v.ownBlock ∨ v'.ownBlock = some w.heap.size) : RowAt w4 base v' (ps ++ [(x, s)]) := by
  refine ⟨by rw [rowOf_snoc, List.length_append]; exact ho, fun i t s' hi => ?_⟩
  by_cases hip : i < ps.length
  · rw [List.getElem?_append_left hip] at hi
    exact subs_step (h.subs i t s' hi) hg hw
  · rw [List.getElem?_append_right (by omega)] at hi
    have hi0 : i - ps.length = 0 := by
      by_cases h0 : i - ps.length = 0
      · exact h0
      · rw [List.getElem?_eq_none (by simp; omega)] at hi; cases hi
    rw [hi0] at hi
    simp only [List.getElem?_cons_zero, Option.some.injEq, Prod.mk.injEq] at hi
    obtain ⟨rfl, rfl⟩ := hi
    exact subs_step hx hg hw
theorem RowAt.len {w : World} {base : Nat} {v : Value} {ps : List (Tr × Value)} (h : RowAt w base v ps) : ∃ q c, v = .slice q ps.length c := by
  rcases h.own.2 with ⟨rfl, hn⟩ | ⟨g, cap, cur, rfl, -⟩
  · exact ⟨none, 0, by rw [hn]⟩
  · exact ⟨_, _, rfl⟩
theorem Touch.grown {F : List Nat} {a w w' : World} {row : Option Nat} (h : Touch F a w) (hg : w.grownBy w' row) (hr : ∀ k, row = some k → a.heap.size ≤ k) : Touch F a w' :=
  ⟨hg.os.trans h.os, hg.tape.trans h.tape, hg.output.trans h.output, Nat.le_trans h.size hg.size, fun k hk hn => (hg.block k (Nat.lt_of_lt_of_le hk h.size) (fun e => by have := hr k e.symm; omega)).trans (h.block k hk hn)⟩
theorem place_of {w : World} {R : Nat} {s : ByteArray} {fl : Int} {i g d : Nat} (h : w.heap[R]? = some (.cells (rdC s fl i g d) 54)) : (match w.cell? ⟨R, 2, none⟩ with | some (.int _ n) => n.toNat | _ => 0) = i := by
  rw [(rd5 h).2.2.1]; simp
/-- The place that the reader has reached, as a number. -/
def placeOf (R : Nat) (w : World) : Nat := match w.cell? ⟨R, 2, none⟩ with | some (.int _ n) => n.toNat | _ => 0
theorem placeOf_is {w : World} {R : Nat} {s : ByteArray} {fl : Int} {i g d : Nat} (h : w.heap[R]? = some (.cells (rdC s fl i g d) 54)) : placeOf R w = i := place_of h
set_option maxRecDepth 100000 in
set_option maxHeartbeats 8000000 in
theorem branch_any (w0 : World) (A : Nat → Addr) (w : World) (R : Nat) (s : ByteArray) (hs : s.size ≤ 4294967280) (fl : Int) (i0 g0 d : Nat) (hR : RdAt w0 A w R s fl i0 g0 d) (hi : i0 ≤ s.size) (H : Nat → Nat → Ep.Out) (hA : Ep.Ahead s.size H) (hH : Ep.Right s.size d H) (hg : 2 * g0 ≤ i0 + d)
    (HG : ∀ i g w, i < s.size → 2 * g ≤ i + d → bt s i = 40 → RdAt w0 A w R s fl i g d → Calls Tryz.prog 132 #[.pointer (some ⟨R, 0, none⟩)] w (NdEnd A R s fl d (H i g) w))
    (O : Ep.Out) (hO : Ep.branch (bt s) s.size (icB fl) (nlB fl) H (s.size + 1) [] i0 g0 = O) :
    Calls Tryz.prog 68 #[.pointer (some ⟨R, 0, none⟩)] w (NdEnd A R s fl d O w) := by
  have hlt := hR.lt
  have hb0 : Below w.heap.size w (w.alloc (.cells noNode 28)) := (Below.refl _ _).alloc (Nat.le_refl _) _
  have HR1 := Lib.hid (hR.later hb0)
  have Z0 := Lib.hid (heap_alloc_new w (.cells noNode 28))
  have HB0 := Lib.hid hb0
  have HO := Lib.hid hO; have HAA := Lib.hid hA; have HHH := Lib.hid hH; have HGG := Lib.hid HG
  clear hR hb0 hO hA hH HG
  go_enter Tryz.func68, Tryz.ntmps68
  obtain ⟨ie, hi0, hz0, hz1, hz2⟩ := info_parts Tryz.infoNode
  have HI := Lib.hid hi0; have HZ0 := Lib.hid hz0; have HZ1 := Lib.hid hz1; have HZ2 := Lib.hid hz2
  clear hi0 hz0 hz1 hz2
  go_wp2
  go_loopw [4] (fun sv wr => ∃ (k : Nat) (ps : List (Tr × Value)) (i g : Nat), s.size - i < k ∧ i ≤ s.size ∧ 2 * g ≤ i + d ∧ ps.length ≤ i ∧ Hid (Ep.branch (bt s) s.size (icB fl) (nlB fl) H k (ps.map (·.1)) i g = O) ∧ Hid (RdAt w0 A wr R s fl i g d) ∧ Hid (Touch [R] w wr) ∧
    Hid (wr.heap[w.heap.size]? = some (.cells noNode 28)) ∧ w.heap.size < wr.heap.size ∧ Hid (RowAt wr (w.heap.size + 1) sv ps)) (fun _ wr => s.size - placeOf R wr)
  case atStart => exact ⟨s.size + 1, [], i0, g0, by omega, hi, hg, Nat.zero_le _, HO, HR1, Lib.hid (Touch.of_below _ HB0.out), Z0, by simp, Lib.hid (RowAt.nil _ _)⟩
  case round =>
    obtain ⟨k, ps, i, g, hk, hil, hgl, hpl, HBR, HR, HT, Z, hsz, HROW⟩ := hrel
    obtain ⟨k, rfl⟩ : ∃ m, k = m + 1 := ⟨k - 1, by omega⟩
    have hbr := HBR.out
    unfold Ep.branch at hbr
    obtain ⟨c0, c1, c2, -, -⟩ := rd5 HR.out.cell
    have HPL := Lib.hid (placeOf_is HR.out.cell)
    have hsx : ∀ n, (wr.drewN n).heap.size = wr.heap.size := fun _ => rfl
    by_cases hend : s.size ≤ i ∨ bt s i = 124 ∨ bt s i = 41
    · rw [if_pos hend] at hbr
      subst hbr
      obtain ⟨q4, c4, hu4⟩ := HROW.out.len
      subst hu4
      have hcase : (s.size ≤ i) ∨ (i < s.size ∧ [124, 41].any (fun c : UInt8 => c.toNat == bt s i) = true) := by
        rcases hend with h | h | h
        · exact .inl h
        · exact .inr ⟨(bt_txt s).lt h (by omega), by rw [h]; decide⟩
        · exact .inr ⟨(bt_txt s).lt h (by omega), by rw [h]; decide⟩
      clear hend
      rcases hcase with hge | ⟨hlt2, hany⟩
      · have hd : decide ((i : Int) < s.size) = false := by simp; omega
        have hd' : decide (i < s.size) = false := by simp; omega
        go_wp2
        go_quiet (fail)
        have HROW2 := Lib.hid ((HROW.out.later (drewN_below (Below.refl _ _) nq)).trees (by omega))
        have HR2 := Lib.hid (HR.out.later (drewN_below (Below.refl _ _) nq))
        have HT2 := Lib.hid (HT.out.drewN nq)
        have Z2 : Hid ((wr.drewN nq).heap[w.heap.size]? = some (.cells noNode 28)) := Lib.hid Z.out
        have hsz2 : w.heap.size < (wr.drewN nq).heap.size := hsz
        clear c0 c1 c2 HROW HR HT Z HPL HBR hsx
        generalize World.drewN _ _ = W at *
        go_wp2_with fail
        have hlm : (ps.map (·.1)).length = ps.length := List.length_map _
        rw [← hlm] at HROW2
        have hseq := seq_any (ps.map (·.1)) W _ _ HROW2.out
        obtain ⟨T, hTE⟩ : ∃ T, Tr.several 5 (ps.map (·.1)) = T := ⟨_, rfl⟩
        rw [hTE, hlm] at hseq
        have HTE := Lib.hid hTE
        clear hTE hlm
        refine hseq.mono ?_
        rintro e w3 ⟨s3, F3, rfl, ho3, hF3, hb3⟩
        obtain ⟨p3, c3, rfl, hl3⟩ := ho3.slice
        have HO3 := Lib.hid ho3
        have HF3 := Lib.hid hF3
        have Z3 := Lib.hid (keep_blk hb3 Z2.out)
        have HR3 := Lib.hid (HR2.out.later hb3)
        have HT3 := Lib.hid (HT2.out.later hb3)
        have hRne : R ≠ w.heap.size := by omega
        have hk1 : ∀ b, b ∈ F3 → b ≠ w.heap.size := fun b hb => by have := hF3 b hb; omega
        have hk2 : ∀ b, b ∈ F3 → w.heap.size ≤ b := fun b hb => by have := hF3 b hb; omega
        have HK1 := Lib.hid hk1; have HK2 := Lib.hid hk2
        clear hseq hk1 hk2 ho3 hF3 hb3 HROW2 HR2 HT2 Z2
        unfold Tr.cells
        go_wp2_with (first
            | (refine wpList_store_row rfl 28 (.tmp 2) (.tmp 36) rfl w.heap.size #[.int .i64 (T).kind, .int .u64 (Oc.U (T).w0), .int .u64 (Oc.U (T).w1), .int .u64 (Oc.U (T).w2), .int .u64 (Oc.U (T).w3), .slice p3 T.subs.length c3, .int .i64 (T).num, .int .i64 (T).least, .int .i64 (T).most, .bool (T).bare] rfl rfl 28 _ Z3.out (by kernel_rfl) rfl (by simp [Value.oneCell']) ?_)
            | fail)
        refine bodyPost_ret (results_row_1 rfl _ _ w.heap.size 28 #[.int .i64 (T).kind, .int .u64 (Oc.U (T).w0), .int .u64 (Oc.U (T).w1), .int .u64 (Oc.U (T).w2), .int .u64 (Oc.U (T).w3), .slice p3 T.subs.length c3, .int .i64 (T).num, .int .i64 (T).least, .int .i64 (T).most, .bool (T).bare] (0, 0) _ _ rfl rfl (heap_setRow Z3.out) Tryz.underlying28 rfl (by kernel_rfl)) rfl ⟨⟨.slice p3 T.subs.length c3, F3, ?_, ?_, HK2.out, (heap_setRow_other _ _ _ hRne).trans HR3.out.cell⟩, HT3.out.setRow_new (Nat.le_refl _) _⟩
        · rw [HTE.out]; rfl
        · rw [HTE.out]; exact HO3.out.keep fun b hb => heap_setRow_other _ _ _ (HK1.out b hb)
      · have hd : decide ((i : Int) < s.size) = true := by simp; omega
        have hd' : decide (i < s.size) = true := by simp; omega
        have HST := Lib.hid (fun n => stands_any [124, 41] true w0 A (wr.drewN n) R s fl i g d (HR.out.later (drewN_below (Below.refl _ _) n)) hany)
        clear hany
        go_wp2
        go_quiet ((go_at_call 69; exact Calls.quiet_of (HST.out _)))
        have HROW2 := Lib.hid ((HROW.out.later (drewN_below (Below.refl _ _) nq)).trees (by omega))
        have HR2 := Lib.hid (HR.out.later (drewN_below (Below.refl _ _) nq))
        have HT2 := Lib.hid (HT.out.drewN nq)
        have Z2 : Hid ((wr.drewN nq).heap[w.heap.size]? = some (.cells noNode 28)) := Lib.hid Z.out
        have hsz2 : w.heap.size < (wr.drewN nq).heap.size := hsz
        clear c0 c1 c2 HROW HR HT Z HPL HBR hsx
        generalize World.drewN _ _ = W at *
        go_wp2_with fail
        have hlm : (ps.map (·.1)).length = ps.length := List.length_map _
        rw [← hlm] at HROW2
        have hseq := seq_any (ps.map (·.1)) W _ _ HROW2.out
        obtain ⟨T, hTE⟩ : ∃ T, Tr.several 5 (ps.map (·.1)) = T := ⟨_, rfl⟩
        rw [hTE, hlm] at hseq
        have HTE := Lib.hid hTE
        clear hTE hlm
        refine hseq.mono ?_
        rintro e w3 ⟨s3, F3, rfl, ho3, hF3, hb3⟩
        obtain ⟨p3, c3, rfl, hl3⟩ := ho3.slice
        have HO3 := Lib.hid ho3
        have HF3 := Lib.hid hF3
        have Z3 := Lib.hid (keep_blk hb3 Z2.out)
        have HR3 := Lib.hid (HR2.out.later hb3)
        have HT3 := Lib.hid (HT2.out.later hb3)
        have hRne : R ≠ w.heap.size := by omega
        have hk1 : ∀ b, b ∈ F3 → b ≠ w.heap.size := fun b hb => by have := hF3 b hb; omega
        have hk2 : ∀ b, b ∈ F3 → w.heap.size ≤ b := fun b hb => by have := hF3 b hb; omega
        have HK1 := Lib.hid hk1; have HK2 := Lib.hid hk2
        clear hseq hk1 hk2 ho3 hF3 hb3 HROW2 HR2 HT2 Z2
        unfold Tr.cells
        go_wp2_with (first
            | (refine wpList_store_row rfl 28 (.tmp 2) (.tmp 36) rfl w.heap.size #[.int .i64 (T).kind, .int .u64 (Oc.U (T).w0), .int .u64 (Oc.U (T).w1), .int .u64 (Oc.U (T).w2), .int .u64 (Oc.U (T).w3), .slice p3 T.subs.length c3, .int .i64 (T).num, .int .i64 (T).least, .int .i64 (T).most, .bool (T).bare] rfl rfl 28 _ Z3.out (by kernel_rfl) rfl (by simp [Value.oneCell']) ?_)
            | fail)
        refine bodyPost_ret (results_row_1 rfl _ _ w.heap.size 28 #[.int .i64 (T).kind, .int .u64 (Oc.U (T).w0), .int .u64 (Oc.U (T).w1), .int .u64 (Oc.U (T).w2), .int .u64 (Oc.U (T).w3), .slice p3 T.subs.length c3, .int .i64 (T).num, .int .i64 (T).least, .int .i64 (T).most, .bool (T).bare] (0, 0) _ _ rfl rfl (heap_setRow Z3.out) Tryz.underlying28 rfl (by kernel_rfl)) rfl ⟨⟨.slice p3 T.subs.length c3, F3, ?_, ?_, HK2.out, (heap_setRow_other _ _ _ hRne).trans HR3.out.cell⟩, HT3.out.setRow_new (Nat.le_refl _) _⟩
        · rw [HTE.out]; rfl
        · rw [HTE.out]; exact HO3.out.keep fun b hb => heap_setRow_other _ _ _ (HK1.out b hb)
    · rw [if_neg hend] at hbr
      have hlt2 : i < s.size := by omega
      have hany : [124, 41].any (fun c : UInt8 => c.toNat == bt s i) = false := by
        simp only [List.any_cons, List.any_nil, Bool.or_false]
        simp only [show (124 : UInt8).toNat = 124 from rfl, show (41 : UInt8).toNat = 41 from rfl]
        simp; omega
      have hd : decide ((i : Int) < s.size) = true := by simp; omega
      have hd' : decide (i < s.size) = true := by simp; omega
      have HST := Lib.hid (fun n => stands_any [124, 41] false w0 A (wr.drewN n) R s fl i g d (HR.out.later (drewN_below (Below.refl _ _) n)) hany)
      have HPC := Lib.hid (fun w9 hR9 => piece_any w0 A w9 R s hs fl i g d hR9 hlt2 H HAA.out HHH.out hgl (fun h40 w8 hR8 => HGG.out i g w8 hlt2 hgl h40 hR8))
      have HBR2 := Lib.hid hbr
      clear hany hbr hend
      go_wp2
      go_quiet ((go_at_call 69; exact Calls.quiet_of (HST.out _)))
      have HROW2 := Lib.hid (HROW.out.later (drewN_below (Below.refl _ _) nq))
      have HR2 := Lib.hid (HR.out.later (drewN_below (Below.refl _ _) nq))
      have HT2 := Lib.hid (HT.out.drewN nq)
      have Z2 : Hid ((wr.drewN nq).heap[w.heap.size]? = some (.cells noNode 28)) := Lib.hid Z.out
      have hsz2 : w.heap.size < (wr.drewN nq).heap.size := hsz
      clear c0 c1 c2 HROW HR HT Z HBR hsx HST hd hd'
      generalize World.drewN _ _ = W at *
      go_wp2_with fail
      refine (HPC.out W HR2.out).mono ?_
      intro e w3 he
      cases hp : Ep.piece (bt s) s.size (icB fl) (nlB fl) H i g with
      | err c q =>
        rw [hp] at HBR2
        have hO2 := HBR2.out
        simp only at hO2
        subst hO2
        obtain ⟨v, rfl, hv, ht3⟩ := he.err hp
        obtain ⟨x, rfl⟩ := hv.iface
        have hbA : Below w3.heap.size w3 (w3.alloc (.cells noNode 28)) := (Below.refl _ _).alloc (Nat.le_refl _) _
        have HV := Lib.hid (hv.later hbA)
        have Z3 := Lib.hid (keep_blk hbA ((ht3.block w.heap.size hsz2 (by simp; omega)).trans Z2.out))
        have HT3 := Lib.hid ((HT2.out.trans ht3).later hbA)
        clear hv ht3 he hbA hp HBR2 HPC
        go_wp2_with (first
          | (refine wpList_store_row rfl 28 (.tmp 2) (.tmp 29) rfl w.heap.size noNode rfl rfl 28 _ Z3.out (by kernel_rfl) rfl (by simp [Value.oneCell']) ?_)
          | fail)
        exact bodyPost_ret (results_row_1 rfl _ _ w.heap.size 28 noNode (0, 0) _ _ rfl rfl (heap_setRow Z3.out) Tryz.underlying28 rfl (by kernel_rfl)) rfl ⟨⟨_, rfl, by exact (HV.out.setRow hsz2 noNode).down (Nat.le_of_lt hsz2)⟩, by exact HT3.out.setRow_new (Nat.le_refl _) _⟩
      | ok x j g2 =>
        rw [hp] at HBR2
        have hO2 := HBR2.out
        simp only at hO2
        obtain ⟨v, F, rfl, ho, hF, hr3, ht3⟩ := he.ok hp
        obtain ⟨p, c, rfl, hl⟩ := ho.slice
        have hnx := Ep.piece_next (bt_txt s) HAA.out hlt2 hp
        have hfm := Ep.piece_form (bt_txt s) HAA.out HHH.out hlt2 hgl hp
        have hbA : Below w3.heap.size w3 (w3.alloc (.cells (x.cells (.slice p x.subs.length c)) 28)) := (Below.refl _ _).alloc (Nat.le_refl _) _
        have HROW3 := Lib.hid ((HROW2.out.touch ht3 (by omega)).later hbA)
        have hown := HROW2.out.own.lt
        have HX3 : Hid (TreesAt (w3.alloc (.cells (x.cells (.slice p x.subs.length c)) 28)) (fun b => w.heap.size + 1 ≤ b ∧ (Value.ownBlock u4) ≠ some b) (.slice p x.subs.length c) x.subs) :=
          Lib.hid ((ho.later hbA).trees.mono fun b _ hb => ⟨by have := hF b hb; omega, fun e => by have := (hown b e).2; have := hF b hb; omega⟩)
        have Z3 := Lib.hid (keep_blk hbA ((ht3.block w.heap.size hsz2 (by simp; omega)).trans Z2.out))
        have HT3 := Lib.hid ((HT2.out.trans ht3).later hbA)
        have HR3 := Lib.hid ((HR2.out.next ht3 hr3).later hbA)
        have Y3 := Lib.hid (heap_alloc_new w3 (.cells (x.cells (.slice p x.subs.length c)) 28))
        have hsz3 : w.heap.size < (w3.alloc (.cells (x.cells (.slice p x.subs.length c)) 28)).heap.size := Nat.lt_of_lt_of_le hsz2 (Nat.le_trans ht3.size hbA.size)
        have HBR3 := Lib.hid hO2; have HNX := Lib.hid hnx; have HFM := Lib.hid hfm
        clear ho hF hr3 ht3 he hp hO2 HBR2 hown HROW2 HR2 HT2 Z2 hbA hnx hfm HPC
        unfold Tr.cells at Y3 ⊢
        go_upto_region 6 with (fail)
        have hw3 : w3.heap.size < (w3.alloc (.cells (x.cells (.slice p x.subs.length c)) 28)).heap.size := by simp
        unfold Tr.cells at hw3 HROW3 HX3 Z3 HT3 HR3 hsz3
        generalize World.alloc w3 _ = W3 at *
        have HBC : Below W3.heap.size W3 (W3.alloc (.cells (x.cells (.slice p x.subs.length c)) 28)) := (Below.refl _ _).alloc (Nat.le_refl _) _
        have HROW4 := Lib.hid (HROW3.out.later HBC)
        have HOWN := Lib.hid HROW4.out.own
        have HX4 := Lib.hid (HX3.out.later HBC)
        have HT4 := Lib.hid (HT3.out.later HBC)
        have HR4 := Lib.hid (HR3.out.later HBC)
        have Z4 := Lib.hid (keep_blk HBC Z3.out)
        have hsz4 : w.heap.size + 1 < (W3.alloc (.cells (x.cells (.slice p x.subs.length c)) 28)).heap.size := by simp; omega
        have HNW : Hid (∀ (j : Nat) (u : Value), (x.cells (.slice p x.subs.length c)).toList[j]? = some u → (W3.alloc (.cells (x.cells (.slice p x.subs.length c)) 28)).cell? ((⟨W3.heap.size, 0, none⟩ : Addr).add j) = some u) := Lib.hid (fun j u hu => by
          have ea : (⟨W3.heap.size, 0, none⟩ : Addr).add j = ⟨W3.heap.size, j, none⟩ := by unfold Addr.add; split <;> simp_all
          rw [ea, cell_new]; simpa using hu)
        have HBA : Hid (w.heap.size + 1 ≤ (W3.alloc (.cells (x.cells (.slice p x.subs.length c)) 28)).heap.size) := Lib.hid (by omega)
        have hml : ps.length + 1 ≤ maxLen := by unfold maxLen; omega
        have hbyt : (ps.length + 1) * 96 ≤ 140737488355328 := by omega
        have hlx := HROW4.out.own.lt
        have HLX := Lib.hid hlx
        clear hlx HBC
        go_wp2_with (first
          | (refine wpList_load_row rfl 28 (.tmp 5) rfl w3.heap.size rfl 28 _ (0, 0) _ Y3.out Tryz.underlying28 rfl (by kernel_rfl) ?_)
          | (refine wpList_node1 rfl (.tmp 32) x p x.subs.length c rfl rfl ?_)
          | (refine wpList_append_fresh _ rfl (.tmp 31) (.tmp 33) 26 rfl (w.heap.size + 1) 28 ie _ 10 96 Tryz.underlying26 HI.out HZ0.out HZ1.out HZ2.out rfl (by decide) _ _ _ rfl HOWN.out ⟨W3.heap.size, 0, none⟩ 1 1 (x.cells (.slice p x.subs.length c)).toList rfl rfl HNW.out (nodeC_one _ _ _ _) (by decide) hml hbyt HBA.out ?_; intro v' w4 hown4 hgrow4 hwhere)
          | fail)
        have HG4 := Lib.hid hgrow4; have HW4 := Lib.hid hwhere; have HN4 := Lib.hid hown4
        clear hgrow4 hwhere hown4
        have hrow : ∀ k, Value.ownBlock u4 = some k → w.heap.size + 1 ≤ k := fun k e => (HLX.out k e).1
        have hRb : w4.heap[R]? = some (.cells (rdC s fl j g2 d) 54) := (HG4.out.block R HR4.out.lt (fun e => by have := hrow R e.symm; omega)).trans HR4.out.cell
        have hZ4 : w4.heap[w.heap.size]? = some (.cells noNode 28) := (HG4.out.block _ (by omega) (fun e => by have := hrow _ e.symm; omega)).trans Z4.out
        have hRd : RdAt w0 A w4 R s fl j g2 d := ⟨HR4.out.env, HR4.out.old, HR4.out.bel.grown HG4.out HR4.out.bel.size (fun k e => by have := hrow k e; have := HR4.out.old; omega), hRb⟩
        have hnx := HNX.out
        have hfm := HFM.out
        refine ⟨⟨k, ps ++ [(x, .slice p x.subs.length c)], j, g2, by omega, hnx.2, hfm.2, by simp; omega, Lib.hid ?_, Lib.hid hRd, Lib.hid (HT4.out.grown HG4.out fun k e => by have := hrow k e; omega), Lib.hid hZ4, by have := HG4.out.size; omega, Lib.hid (HROW4.out.snoc HX4.out HN4.out HG4.out HW4.out)⟩, ?_⟩
        · rw [List.map_append]; exact HBR3.out
        · rw [placeOf_is hRb, HPL.out]; omega
end Go.Proofs.YtlbhbjmobcikfaaGreatDoor
/- What the reader of extended patterns answers of a pattern. -/
namespace Go.Proofs.YtlbhbjmobcikfaaGreatDoor
open Go.RowKit
set_option maxRecDepth 100000 in
set_option maxHeartbeats 8000000 in
theorem pattern_any (w0 : World) (A : Nat → Addr) (w : World) (R : Nat) (s : ByteArray) (hs : s.size ≤ 4294967280) (fl : Int) (i0 g0 d : Nat) (hR : RdAt w0 A w R s fl i0 g0 d) (hi : i0 ≤ s.size) (H : Nat → Nat → Ep.Out) (hA : Ep.Ahead s.size H) (hH : Ep.Right s.size d H) (hg : 2 * g0 ≤ i0 + d)
    (HG : ∀ i g w, i < s.size → 2 * g ≤ i + d → bt s i = 40 → RdAt w0 A w R s fl i g d → Calls Tryz.prog 132 #[.pointer (some ⟨R, 0, none⟩)] w (NdEnd A R s fl d (H i g) w))
    (O : Ep.Out) (hO : Ep.alts (bt s) s.size (icB fl) (nlB fl) H (s.size + 1) [] i0 g0 = O) :
    Calls Tryz.prog 44 #[.pointer (some ⟨R, 0, none⟩)] w (NdEnd A R s fl d O w) := by
  have hlt := hR.lt
  have hb0 : Below w.heap.size w (w.alloc (.cells noNode 28)) := (Below.refl _ _).alloc (Nat.le_refl _) _
  have HR1 := Lib.hid (hR.later hb0)
  have Z0 := Lib.hid (heap_alloc_new w (.cells noNode 28))
  have HB0 := Lib.hid hb0
  have HO := Lib.hid hO; have HAA := Lib.hid hA; have HHH := Lib.hid hH; have HGG := Lib.hid HG
  clear hR hb0 hO hA hH HG
  go_enter Tryz.func44, Tryz.ntmps44
  obtain ⟨ie, hi0, hz0, hz1, hz2⟩ := info_parts Tryz.infoNode
  have HI := Lib.hid hi0; have HZ0 := Lib.hid hz0; have HZ1 := Lib.hid hz1; have HZ2 := Lib.hid hz2
  clear hi0 hz0 hz1 hz2
  go_wp2
  go_loopw [4] (fun sv wr => ∃ (k : Nat) (ps : List (Tr × Value)) (i g : Nat), s.size - i < k ∧ i ≤ s.size ∧ 2 * g ≤ i + d ∧ ps.length ≤ i ∧ Hid (Ep.alts (bt s) s.size (icB fl) (nlB fl) H k (ps.map (·.1)) i g = O) ∧ Hid (RdAt w0 A wr R s fl i g d) ∧ Hid (Touch [R] w wr) ∧
    Hid (wr.heap[w.heap.size]? = some (.cells noNode 28)) ∧ w.heap.size < wr.heap.size ∧ Hid (RowAt wr (w.heap.size + 1) sv ps)) (fun _ wr => s.size - placeOf R wr)
  case atStart => exact ⟨s.size + 1, [], i0, g0, by omega, hi, hg, Nat.zero_le _, HO, HR1, Lib.hid (Touch.of_below _ HB0.out), Z0, by simp, Lib.hid (RowAt.nil _ _)⟩
  case round =>
    obtain ⟨k, ps, i, g, hk, hil, hgl, hpl, HBR, HR, HT, Z, hsz, HROW⟩ := hrel
    obtain ⟨k, rfl⟩ : ∃ m, k = m + 1 := ⟨k - 1, by omega⟩
    have hbr := HBR.out
    unfold Ep.alts at hbr
    have HPL := Lib.hid (placeOf_is HR.out.cell)
    have HPC := Lib.hid (branch_any w0 A wr R s hs fl i g d HR.out hil H HAA.out HHH.out hgl HGG.out _ rfl)
    have HBR2 := Lib.hid hbr
    clear hbr HBR
    go_wp2_with fail
    refine HPC.out.mono ?_
    intro e w3 he
    cases hp : Ep.branch (bt s) s.size (icB fl) (nlB fl) H (s.size + 1) [] i g with
    | err c q =>
      rw [hp] at HBR2
      have hO2 := HBR2.out
      simp only at hO2
      subst hO2
      obtain ⟨v, rfl, hv, ht3⟩ := he.err hp
      obtain ⟨x, rfl⟩ := hv.iface
      have hbA : Below w3.heap.size w3 (w3.alloc (.cells noNode 28)) := (Below.refl _ _).alloc (Nat.le_refl _) _
      have HV := Lib.hid (hv.later hbA)
      have Z3 := Lib.hid (keep_blk hbA ((ht3.block w.heap.size hsz (by simp; omega)).trans Z.out))
      have HT3 := Lib.hid ((HT.out.trans ht3).later hbA)
      clear hv ht3 he hbA hp HBR2 HPC
      go_wp2_with (first
        | (refine wpList_store_row rfl 28 (.tmp 2) (.tmp 14) rfl w.heap.size noNode rfl rfl 28 _ Z3.out (by kernel_rfl) rfl (by simp [Value.oneCell']) ?_)
        | fail)
      exact bodyPost_ret (results_row_1 rfl _ _ w.heap.size 28 noNode (0, 0) _ _ rfl rfl (heap_setRow Z3.out) Tryz.underlying28 rfl (by kernel_rfl)) rfl ⟨⟨_, rfl, by exact (HV.out.setRow hsz noNode).down (Nat.le_of_lt hsz)⟩, by exact HT3.out.setRow_new (Nat.le_refl _) _⟩
    | ok x j g2 =>
      rw [hp] at HBR2
      have hO2 := HBR2.out
      simp only at hO2
      obtain ⟨v, F, rfl, ho, hF, hr3, ht3⟩ := he.ok hp
      obtain ⟨p, c, rfl, hl⟩ := ho.slice
      have hnx := Ep.branch_next (bt_txt s) HAA.out hil hp
      have hfm := Ep.branch_form (bt_txt s) HAA.out HHH.out hil (fun u hu => by cases hu) hgl hp
      have hbA : Below w3.heap.size w3 (w3.alloc (.cells (x.cells (.slice p x.subs.length c)) 28)) := (Below.refl _ _).alloc (Nat.le_refl _) _
      have HROW3 := Lib.hid ((HROW.out.touch ht3 (by omega)).later hbA)
      have hown := HROW.out.own.lt
      have HX3 : Hid (TreesAt (w3.alloc (.cells (x.cells (.slice p x.subs.length c)) 28)) (fun b => w.heap.size + 1 ≤ b ∧ (Value.ownBlock u4) ≠ some b) (.slice p x.subs.length c) x.subs) :=
        Lib.hid ((ho.later hbA).trees.mono fun b _ hb => ⟨by have := hF b hb; omega, fun e => by have := (hown b e).2; have := hF b hb; omega⟩)
      have Z3 := Lib.hid (keep_blk hbA ((ht3.block w.heap.size hsz (by simp; omega)).trans Z.out))
      have HT3 := Lib.hid ((HT.out.trans ht3).later hbA)
      have HR3 := Lib.hid ((HR.out.next ht3 hr3).later hbA)
      have Y3 := Lib.hid (heap_alloc_new w3 (.cells (x.cells (.slice p x.subs.length c)) 28))
      have hsz3 : w.heap.size < (w3.alloc (.cells (x.cells (.slice p x.subs.length c)) 28)).heap.size := Nat.lt_of_lt_of_le hsz (Nat.le_trans ht3.size hbA.size)
      have HBR3 := Lib.hid hO2; have HNX := Lib.hid hnx; have HFM := Lib.hid hfm.2
      clear ho hF hr3 ht3 he hp hO2 HBR2 hown HROW HR HT Z hbA hnx hfm HPC
      unfold Tr.cells at Y3 ⊢
      go_upto_region 5 with (fail)
      have hw3 : w3.heap.size < (w3.alloc (.cells (x.cells (.slice p x.subs.length c)) 28)).heap.size := by simp
      unfold Tr.cells at hw3 HROW3 HX3 Z3 HT3 HR3 hsz3
      generalize World.alloc w3 _ = W3 at *
      have HBC : Below W3.heap.size W3 (W3.alloc (.cells (x.cells (.slice p x.subs.length c)) 28)) := (Below.refl _ _).alloc (Nat.le_refl _) _
      have HROW4 := Lib.hid (HROW3.out.later HBC)
      have HOWN := Lib.hid HROW4.out.own
      have HX4 := Lib.hid (HX3.out.later HBC)
      have HT4 := Lib.hid (HT3.out.later HBC)
      have HR4 := Lib.hid (HR3.out.later HBC)
      have Z4 := Lib.hid (keep_blk HBC Z3.out)
      have hsz4 : w.heap.size + 1 < (W3.alloc (.cells (x.cells (.slice p x.subs.length c)) 28)).heap.size := by simp; omega
      have HNW : Hid (∀ (j : Nat) (u : Value), (x.cells (.slice p x.subs.length c)).toList[j]? = some u → (W3.alloc (.cells (x.cells (.slice p x.subs.length c)) 28)).cell? ((⟨W3.heap.size, 0, none⟩ : Addr).add j) = some u) := Lib.hid (fun j u hu => by
        have ea : (⟨W3.heap.size, 0, none⟩ : Addr).add j = ⟨W3.heap.size, j, none⟩ := by unfold Addr.add; split <;> simp_all
        rw [ea, cell_new]; simpa using hu)
      have HBA : Hid (w.heap.size + 1 ≤ (W3.alloc (.cells (x.cells (.slice p x.subs.length c)) 28)).heap.size) := Lib.hid (by omega)
      have hml : ps.length + 1 ≤ maxLen := by unfold maxLen; omega
      have hbyt : (ps.length + 1) * 96 ≤ 140737488355328 := by omega
      have hlx := HROW4.out.own.lt
      have HLX := Lib.hid hlx
      clear hlx HBC
      go_upto_region 6 with (first
        | (refine wpList_load_row rfl 28 (.tmp 5) rfl w3.heap.size rfl 28 _ (0, 0) _ Y3.out Tryz.underlying28 rfl (by kernel_rfl) ?_)
        | (refine wpList_node1 rfl (.tmp 17) x p x.subs.length c rfl rfl ?_)
        | (refine wpList_append_fresh _ rfl (.tmp 16) (.tmp 18) 26 rfl (w.heap.size + 1) 28 ie _ 10 96 Tryz.underlying26 HI.out HZ0.out HZ1.out HZ2.out rfl (by decide) _ _ _ rfl HOWN.out ⟨W3.heap.size, 0, none⟩ 1 1 (x.cells (.slice p x.subs.length c)).toList rfl rfl HNW.out (nodeC_one _ _ _ _) (by decide) hml hbyt HBA.out ?_; intro v' w4 hown4 hgrow4 hwhere)
        | fail)
      have HG4 := Lib.hid hgrow4; have HW4 := Lib.hid hwhere; have HN4 := Lib.hid hown4
      clear hgrow4 hwhere hown4
      have hrow : ∀ k, Value.ownBlock u4 = some k → w.heap.size + 1 ≤ k := fun k e => (HLX.out k e).1
      have hRb : w4.heap[R]? = some (.cells (rdC s fl j g2 d) 54) := (HG4.out.block R HR4.out.lt (fun e => by have := hrow R e.symm; omega)).trans HR4.out.cell
      have hZ4 : w4.heap[w.heap.size]? = some (.cells noNode 28) := (HG4.out.block _ (by omega) (fun e => by have := hrow _ e.symm; omega)).trans Z4.out
      have HRd : Hid (RdAt w0 A w4 R s fl j g2 d) := Lib.hid ⟨HR4.out.env, HR4.out.old, HR4.out.bel.grown HG4.out HR4.out.bel.size (fun k e => by have := hrow k e; have := HR4.out.old; omega), hRb⟩
      have HT5 := Lib.hid (HT4.out.grown HG4.out fun k e => by have := hrow k e; omega)
      have HROW5 := Lib.hid (HROW4.out.snoc HX4.out HN4.out HG4.out HW4.out)
      have Z5 := Lib.hid hZ4
      have hsz5 : w.heap.size < w4.heap.size := by have := HG4.out.size; omega
      clear HG4 HW4 HN4 hrow hRb hZ4 HR4 HT4 HROW4 HX4 Z4 HOWN HNW HBA HLX Y3 hw3
      by_cases hbar : bt s j = 124
      · have hO3 := HBR3.out
        rw [if_pos hbar] at hO3
        have HBR4 := Lib.hid hO3
        have hjl := (bt_txt s).lt hbar (by omega)
        have HST := Lib.hid (stands_any [124] true w0 A w4 R s fl j g2 d HRd.out (by rw [hbar]; decide))
        clear hO3 HBR3
        go_wp2_with fail
        refine HST.out.mono ?_
        rintro e w5 ⟨rfl, n, rfl⟩
        have HRe := Lib.hid (HRd.out.later (drewN_below (Below.refl _ _) n))
        have HTe := Lib.hid (HT5.out.drewN n)
        have HROWe := Lib.hid (HROW5.out.later (drewN_below (Below.refl _ _) n))
        have Ze : Hid ((w4.drewN n).heap[w.heap.size]? = some (.cells noNode 28)) := Lib.hid Z5.out
        have hsze : w.heap.size < (w4.drewN n).heap.size := hsz5
        clear HRd HT5 HROW5 Z5
        generalize World.drewN _ _ = W5 at *
        obtain ⟨-, -, c2, -, -⟩ := rd5 HRe.out.cell
        obtain ⟨f2, -, -⟩ := rdf HRe.out.cell
        have hw : IntKind.i64.wrap ((j : Int) + 1) = (j : Int) + 1 := IntWalk.i64_in _ (by omega)
        have hP := rd_place HRe.out.cell (j + 1) (v := (j : Int) + 1) (by omega)
        have HP := Lib.hid hP
        have HRf := Lib.hid (HRe.out.next ((Touch.refl [R] W5).setCell List.mem_cons_self 2 _) hP)
        have HTf := Lib.hid (HTe.out.setCell List.mem_cons_self 2 (.int .i64 ((j : Int) + 1)))
        have HROWf := Lib.hid (HROWe.out.touch ((Touch.refl [R] W5).setCell List.mem_cons_self 2 (.int .i64 ((j : Int) + 1))) (by omega))
        have Zf := Lib.hid ((Below.heap_setCell W5 ⟨R, 2, none⟩ (.int .i64 ((j : Int) + 1)) w.heap.size (by simp; omega)).trans Ze.out)
        have hszf : w.heap.size < (W5.setCell ⟨R, 2, none⟩ (.int .i64 ((j : Int) + 1))).heap.size := by simpa using hsze
        clear hP HRe HTe HROWe Ze
        go_wp2
        refine ⟨⟨k, ps ++ [(x, .slice p x.subs.length c)], j + 1, g2, by have := HNX.out; omega, by omega, by have := HFM.out; omega, by have := HNX.out; simp; omega, Lib.hid ?_, HRf, HTf, Zf, hszf, HROWf⟩, ?_⟩
        · rw [List.map_append]; exact HBR4.out
        · rw [placeOf_is HP.out, HPL.out]; have := HNX.out; omega
      · have hO3 := HBR3.out
        rw [if_neg hbar] at hO3
        subst hO3
        have HST := Lib.hid (stands_any [124] false w0 A w4 R s fl j g2 d HRd.out (by simp only [List.any_cons, List.any_nil, Bool.or_false, show (124 : UInt8).toNat = 124 from rfl]; simp; omega))
        clear HBR3
        obtain ⟨q4, c4, hu4⟩ := HROW5.out.len
        subst hu4
        go_wp2_with fail
        refine HST.out.mono ?_
        rintro e w5 ⟨rfl, n, rfl⟩
        have HRe := Lib.hid (HRd.out.later (drewN_below (Below.refl _ _) n))
        have HTe := Lib.hid (HT5.out.drewN n)
        have hpl2 : (ps ++ [(x, Value.slice p x.subs.length c)]).length * 96 ≤ 140737488351232 := by simp; omega
        have HROWe := (HROW5.out.later (drewN_below (Below.refl _ _) n)).trees hpl2
        have Ze : Hid ((w4.drewN n).heap[w.heap.size]? = some (.cells noNode 28)) := Lib.hid Z5.out
        have hsze : w.heap.size < (w4.drewN n).heap.size := hsz5
        have hlm : ((ps ++ [(x, Value.slice p x.subs.length c)]).map (·.1)).length = (ps ++ [(x, Value.slice p x.subs.length c)]).length := List.length_map _
        rw [← hlm] at HROWe
        generalize World.drewN _ _ = W5 at *
        have hseq := alt_any _ (by simp) W5 _ _ HROWe
        have hmm : (ps ++ [(x, Value.slice p x.subs.length c)]).map (·.1) = ps.map (·.1) ++ [x] := by simp
        rw [hmm] at hseq
        obtain ⟨T, hTE⟩ : ∃ T, Tr.several 6 (ps.map (·.1) ++ [x]) = T := ⟨_, rfl⟩
        rw [hTE] at hseq
        have hl2 : (ps.map (·.1) ++ [x]).length = ps.length + 1 := by simp
        rw [hl2] at hseq
        have HTE := Lib.hid hTE; have HSEQ := Lib.hid hseq
        clear hTE hseq hlm hmm HROWe hl2 HRd HT5 HROW5 Z5 hpl2
        go_wp2_with fail
        refine HSEQ.out.mono ?_
        rintro e w6 ⟨s6, F3, rfl, ho3, hF3, hb3⟩
        obtain ⟨p3, c3, rfl, hl3⟩ := ho3.slice
        have HO3 := Lib.hid ho3
        have Z6 := Lib.hid (keep_blk hb3 Ze.out)
        have HR6 := Lib.hid (HRe.out.later hb3)
        have HT6 := Lib.hid (HTe.out.later hb3)
        have hRne : R ≠ w.heap.size := by omega
        have hk1 : ∀ b, b ∈ F3 → b ≠ w.heap.size := fun b hb => by have := hF3 b hb; omega
        have hk2 : ∀ b, b ∈ F3 → w.heap.size ≤ b := fun b hb => by have := hF3 b hb; omega
        have HK1 := Lib.hid hk1; have HK2 := Lib.hid hk2
        clear hk1 hk2 ho3 hF3 hb3 HRe HTe Ze HSEQ
        unfold Tr.cells
        go_wp2_with (first
          | (refine wpList_store_row rfl 28 (.tmp 2) (.tmp 24) rfl w.heap.size #[.int .i64 (T).kind, .int .u64 (Oc.U (T).w0), .int .u64 (Oc.U (T).w1), .int .u64 (Oc.U (T).w2), .int .u64 (Oc.U (T).w3), .slice p3 T.subs.length c3, .int .i64 (T).num, .int .i64 (T).least, .int .i64 (T).most, .bool (T).bare] rfl rfl 28 _ Z6.out (by kernel_rfl) rfl (by simp [Value.oneCell']) ?_)
          | fail)
        refine bodyPost_ret (results_row_1 rfl _ _ w.heap.size 28 #[.int .i64 (T).kind, .int .u64 (Oc.U (T).w0), .int .u64 (Oc.U (T).w1), .int .u64 (Oc.U (T).w2), .int .u64 (Oc.U (T).w3), .slice p3 T.subs.length c3, .int .i64 (T).num, .int .i64 (T).least, .int .i64 (T).most, .bool (T).bare] (0, 0) _ _ rfl rfl (heap_setRow Z6.out) Tryz.underlying28 rfl (by kernel_rfl)) rfl ⟨⟨.slice p3 T.subs.length c3, F3, ?_, ?_, HK2.out, (heap_setRow_other _ _ _ hRne).trans HR6.out.cell⟩, HT6.out.setRow_new (Nat.le_refl _) _⟩
        · rw [HTE.out]; rfl
        · rw [HTE.out]; exact HO3.out.keep fun b hb => heap_setRow_other _ _ _ (HK1.out b hb)
end Go.Proofs.YtlbhbjmobcikfaaGreatDoor
/- What the reader of extended patterns answers of a group. -/
namespace Go.Proofs.YtlbhbjmobcikfaaGreatDoor
open Go.RowKit
set_option maxRecDepth 100000 in
set_option maxHeartbeats 4000000 in
theorem egroup_deep (w0 : World) (A : Nat → Addr) (w : World) (R : Nat) (s : ByteArray) (_hs : s.size ≤ 4294967280) (fl : Int) (i g d : Nat) (hR : RdAt w0 A w R s fl i g d) (_hi : i < s.size) (hd : d = 32) :
    Calls Tryz.prog 132 #[.pointer (some ⟨R, 0, none⟩)] w (NdEnd A R s fl d (.err 11 i) w) := by
  have hlt := hR.lt
  have hb0 : Below w.heap.size w (w.alloc (.cells noNode 28)) := (Below.refl _ _).alloc (Nat.le_refl _) _
  have HR := Lib.hid (hR.later hb0)
  have Z1 := Lib.hid (heap_alloc_new w (.cells noNode 28))
  have HB0 := Lib.hid hb0
  have hsW : w.heap.size < (w.alloc (.cells noNode 28)).heap.size := by simp
  clear hR hb0
  go_enter Tryz.func132, Tryz.ntmps132
  go_upto_region 1 with (fail)
  generalize World.alloc _ _ = W at *
  have hRne : R ≠ w.heap.size := by omega
  obtain ⟨-, -, -, -, c4⟩ := rd5 HR.out.cell
  have ce : W.cell? ⟨11, 0, none⟩ = some (.iface 184 (.pointer (some (A 10)))) := (HR.out.now.errs 10 (by omega)).1
  have e4 : ((d : Int) == 32) = true := by simp; omega
  clear hd
  go_wp2_with fail
  refine (fails_any w0 A 10 (by omega) W R s fl i g d HR.out).mono ?_
  intro e w2 he
  have he' := he
  obtain ⟨v, rfl, hv, ht2⟩ := he.err rfl
  have HE := Lib.hid he'
  have Z2 := Lib.hid ((ht2.block w.heap.size hsW (by simp; omega)).trans Z1.out)
  clear hv ht2 he he' ce
  go_wp2_with (first
    | (refine wpList_store_row rfl 28 (.tmp 2) (.tmp 16) rfl w.heap.size noNode rfl rfl 28 _ Z2.out (by kernel_rfl) rfl (by simp [Value.oneCell']) ?_)
    | fail)
  exact bodyPost_ret (results_row_1 rfl _ _ w.heap.size 28 noNode (0, 0) _ _ rfl rfl (heap_setRow Z2.out) Tryz.underlying28 rfl (by kernel_rfl)) rfl (by exact (HE.out.b.pass (Touch.of_below [R] HB0.out) hsW (Nat.le_refl _) (Nat.le_of_lt hsW) hRne _).nd)
set_option maxRecDepth 100000 in
set_option maxHeartbeats 4000000 in
theorem egroup_err (w0 : World) (A : Nat → Addr) (w : World) (R : Nat) (s : ByteArray) (hs : s.size ≤ 4294967280) (fl : Int) (i g d : Nat) (hR : RdAt w0 A w R s fl i g d) (hi : i < s.size) (hd : d < 32) (hg : g ≤ 4294967280) (c : Nat) (q : Int) (HC : ∀ w, RdAt w0 A w R s fl (i + 1) (g + 1) (d + 1) → Calls Tryz.prog 44 #[.pointer (some ⟨R, 0, none⟩)] w (NdEnd A R s fl (d + 1) (.err c q) w)) :
    Calls Tryz.prog 132 #[.pointer (some ⟨R, 0, none⟩)] w (NdEnd A R s fl d (.err c q) w) := by
  have HC := Lib.hid HC
  have hlt := hR.lt
  have hb0 : Below w.heap.size w (w.alloc (.cells noNode 28)) := (Below.refl _ _).alloc (Nat.le_refl _) _
  have HR := Lib.hid (hR.later hb0)
  have Z1 := Lib.hid (heap_alloc_new w (.cells noNode 28))
  have HB0 := Lib.hid hb0
  have hsW : w.heap.size < (w.alloc (.cells noNode 28)).heap.size := by simp
  clear hR hb0
  go_enter Tryz.func132, Tryz.ntmps132
  go_upto_region 1 with (fail)
  generalize World.alloc _ _ = W at *
  have hRne : R ≠ w.heap.size := by omega
  obtain ⟨-, -, c2, c3, c4⟩ := rd5 HR.out.cell
  obtain ⟨f2, f3, f4⟩ := rdf HR.out.cell
  have e4 : ((d : Int) == 32) = false := by rw [beq_eq_false_iff_ne]; omega
  have wg : IntKind.i64.wrap ((g : Int) + 1) = (g : Int) + 1 := IntWalk.i64_in _ (by omega)
  have wd : IntKind.i64.wrap ((d : Int) + 1) = (d : Int) + 1 := IntWalk.i64_in _ (by omega)
  have wi : IntKind.i64.wrap ((i : Int) + 1) = (i : Int) + 1 := IntWalk.i64_in _ (by omega)
  go_upto_region 5 with (fail)
  have hP1 := rd_groups HR.out.cell (g + 1) (v := (g : Int) + 1) (by omega)
  have HR1 := Lib.hid (HR.out.next ((Touch.refl [R] W).setCell List.mem_cons_self 3 (.int .i64 ((g : Int) + 1))) hP1)
  have HT1 := Lib.hid ((Touch.of_below [R] HB0.out).setCell List.mem_cons_self 3 (.int .i64 ((g : Int) + 1)))
  have Z2 := Lib.hid ((Below.heap_setCell W ⟨R, 3, none⟩ (.int .i64 ((g : Int) + 1)) w.heap.size (Ne.symm hRne)).trans Z1.out)
  have hs1 : w.heap.size < (W.setCell ⟨R, 3, none⟩ (.int .i64 ((g : Int) + 1))).heap.size := by simpa using hsW
  clear hP1 c2 c3 c4 f2 f3 f4 HB0 Z1 HR
  generalize World.setCell W _ _ = W1 at *
  obtain ⟨-, -, c2, c3, c4⟩ := rd5 HR1.out.cell
  obtain ⟨f2, f3, f4⟩ := rdf HR1.out.cell
  go_upto_region 6 with (fail)
  have hP2 := rd_open HR1.out.cell (d + 1) (v := (d : Int) + 1) (by omega)
  have HR2 := Lib.hid (HR1.out.next ((Touch.refl [R] W1).setCell List.mem_cons_self 4 (.int .i64 ((d : Int) + 1))) hP2)
  have HT2 := Lib.hid (HT1.out.setCell List.mem_cons_self 4 (.int .i64 ((d : Int) + 1)))
  have Z3 := Lib.hid ((Below.heap_setCell W1 ⟨R, 4, none⟩ (.int .i64 ((d : Int) + 1)) w.heap.size (Ne.symm hRne)).trans Z2.out)
  have hs2 : w.heap.size < (W1.setCell ⟨R, 4, none⟩ (.int .i64 ((d : Int) + 1))).heap.size := by simpa using hs1
  clear hP2 c2 c3 c4 f2 f3 f4 HT1 Z2 HR1
  generalize World.setCell W1 _ _ = W2 at *
  obtain ⟨-, -, c2, c3, c4⟩ := rd5 HR2.out.cell
  obtain ⟨f2, f3, f4⟩ := rdf HR2.out.cell
  have c3' : W2.cell? ⟨R, 3, none⟩ = some (.int .i64 ((g : Int) + 1)) := c3
  clear c3
  go_upto_region 8 with (fail)
  have hP3 := rd_place HR2.out.cell (i + 1) (v := (i : Int) + 1) (by omega)
  have HR3 := Lib.hid (HR2.out.next ((Touch.refl [R] W2).setCell List.mem_cons_self 2 (.int .i64 ((i : Int) + 1))) hP3)
  have HT3 := Lib.hid (HT2.out.setCell List.mem_cons_self 2 (.int .i64 ((i : Int) + 1)))
  have Z4 := Lib.hid ((Below.heap_setCell W2 ⟨R, 2, none⟩ (.int .i64 ((i : Int) + 1)) w.heap.size (Ne.symm hRne)).trans Z3.out)
  have hs3 : w.heap.size < (W2.setCell ⟨R, 2, none⟩ (.int .i64 ((i : Int) + 1))).heap.size := by simpa using hs2
  clear hP3 c2 c3' c4 f2 f3 f4 HT2 Z3 HR2
  generalize World.setCell W2 _ _ = W3 at *
  go_wp2_with fail
  refine (HC.out W3 HR3.out).mono ?_
  intro e w4 he
  obtain ⟨v, rfl, hv, ht4⟩ := he.err rfl
  obtain ⟨x, rfl⟩ := hv.iface
  have hbA : Below w4.heap.size w4 (w4.alloc (.cells noNode 28)) := (Below.refl _ _).alloc (Nat.le_refl _) _
  have HV := Lib.hid (hv.later hbA)
  have Z5 := Lib.hid (keep_blk hbA ((ht4.block w.heap.size hs3 (by simp; omega)).trans Z4.out))
  have HT4 := Lib.hid ((HT3.out.trans ht4).later hbA)
  clear hv ht4 he hbA
  go_wp2_with (first
    | (refine wpList_store_row rfl 28 (.tmp 2) (.tmp 54) rfl w.heap.size noNode rfl rfl 28 _ Z5.out (by kernel_rfl) rfl (by simp [Value.oneCell']) ?_)
    | fail)
  exact bodyPost_ret (results_row_1 rfl _ _ w.heap.size 28 noNode (0, 0) _ _ rfl rfl (heap_setRow Z5.out) Tryz.underlying28 rfl (by kernel_rfl)) rfl ⟨⟨_, rfl, by exact (HV.out.setRow hs3 noNode).down (Nat.le_of_lt hs3)⟩, by exact HT4.out.setRow_new (Nat.le_refl _) _⟩
set_option maxRecDepth 100000 in
set_option maxHeartbeats 4000000 in
theorem egroup_open (w0 : World) (A : Nat → Addr) (w : World) (R : Nat) (s : ByteArray) (hs : s.size ≤ 4294967280) (fl : Int) (i g d : Nat) (hR : RdAt w0 A w R s fl i g d) (hi : i < s.size) (hd : d < 32) (hg : g ≤ 4294967280) (x : Tr) (j g' : Nat) (hb : bt s j ≠ 41) (HC : ∀ w, RdAt w0 A w R s fl (i + 1) (g + 1) (d + 1) → Calls Tryz.prog 44 #[.pointer (some ⟨R, 0, none⟩)] w (NdEnd A R s fl (d + 1) (.ok x j g') w)) :
    Calls Tryz.prog 132 #[.pointer (some ⟨R, 0, none⟩)] w (NdEnd A R s fl d (.err 2 i) w) := by
  have HC := Lib.hid HC
  have hlt := hR.lt
  have hb0 : Below w.heap.size w (w.alloc (.cells noNode 28)) := (Below.refl _ _).alloc (Nat.le_refl _) _
  have HR := Lib.hid (hR.later hb0)
  have Z1 := Lib.hid (heap_alloc_new w (.cells noNode 28))
  have HB0 := Lib.hid hb0
  have hsW : w.heap.size < (w.alloc (.cells noNode 28)).heap.size := by simp
  clear hR hb0
  go_enter Tryz.func132, Tryz.ntmps132
  go_upto_region 1 with (fail)
  generalize World.alloc _ _ = W at *
  have hRne : R ≠ w.heap.size := by omega
  obtain ⟨-, -, c2, c3, c4⟩ := rd5 HR.out.cell
  obtain ⟨f2, f3, f4⟩ := rdf HR.out.cell
  have e4 : ((d : Int) == 32) = false := by rw [beq_eq_false_iff_ne]; omega
  have wg : IntKind.i64.wrap ((g : Int) + 1) = (g : Int) + 1 := IntWalk.i64_in _ (by omega)
  have wd : IntKind.i64.wrap ((d : Int) + 1) = (d : Int) + 1 := IntWalk.i64_in _ (by omega)
  have wi : IntKind.i64.wrap ((i : Int) + 1) = (i : Int) + 1 := IntWalk.i64_in _ (by omega)
  go_upto_region 5 with (fail)
  have hP1 := rd_groups HR.out.cell (g + 1) (v := (g : Int) + 1) (by omega)
  have HR1 := Lib.hid (HR.out.next ((Touch.refl [R] W).setCell List.mem_cons_self 3 (.int .i64 ((g : Int) + 1))) hP1)
  have HT1 := Lib.hid ((Touch.of_below [R] HB0.out).setCell List.mem_cons_self 3 (.int .i64 ((g : Int) + 1)))
  have Z2 := Lib.hid ((Below.heap_setCell W ⟨R, 3, none⟩ (.int .i64 ((g : Int) + 1)) w.heap.size (Ne.symm hRne)).trans Z1.out)
  have hs1 : w.heap.size < (W.setCell ⟨R, 3, none⟩ (.int .i64 ((g : Int) + 1))).heap.size := by simpa using hsW
  clear hP1 c2 c3 c4 f2 f3 f4 HB0 Z1 HR
  generalize World.setCell W _ _ = W1 at *
  obtain ⟨-, -, c2, c3, c4⟩ := rd5 HR1.out.cell
  obtain ⟨f2, f3, f4⟩ := rdf HR1.out.cell
  go_upto_region 6 with (fail)
  have hP2 := rd_open HR1.out.cell (d + 1) (v := (d : Int) + 1) (by omega)
  have HR2 := Lib.hid (HR1.out.next ((Touch.refl [R] W1).setCell List.mem_cons_self 4 (.int .i64 ((d : Int) + 1))) hP2)
  have HT2 := Lib.hid (HT1.out.setCell List.mem_cons_self 4 (.int .i64 ((d : Int) + 1)))
  have Z3 := Lib.hid ((Below.heap_setCell W1 ⟨R, 4, none⟩ (.int .i64 ((d : Int) + 1)) w.heap.size (Ne.symm hRne)).trans Z2.out)
  have hs2 : w.heap.size < (W1.setCell ⟨R, 4, none⟩ (.int .i64 ((d : Int) + 1))).heap.size := by simpa using hs1
  clear hP2 c2 c3 c4 f2 f3 f4 HT1 Z2 HR1
  generalize World.setCell W1 _ _ = W2 at *
  obtain ⟨-, -, c2, c3, c4⟩ := rd5 HR2.out.cell
  obtain ⟨f2, f3, f4⟩ := rdf HR2.out.cell
  have c3' : W2.cell? ⟨R, 3, none⟩ = some (.int .i64 ((g : Int) + 1)) := c3
  clear c3
  go_upto_region 8 with (fail)
  have hP3 := rd_place HR2.out.cell (i + 1) (v := (i : Int) + 1) (by omega)
  have HR3 := Lib.hid (HR2.out.next ((Touch.refl [R] W2).setCell List.mem_cons_self 2 (.int .i64 ((i : Int) + 1))) hP3)
  have HT3 := Lib.hid (HT2.out.setCell List.mem_cons_self 2 (.int .i64 ((i : Int) + 1)))
  have Z4 := Lib.hid ((Below.heap_setCell W2 ⟨R, 2, none⟩ (.int .i64 ((i : Int) + 1)) w.heap.size (Ne.symm hRne)).trans Z3.out)
  have hs3 : w.heap.size < (W2.setCell ⟨R, 2, none⟩ (.int .i64 ((i : Int) + 1))).heap.size := by simpa using hs2
  clear hP3 c2 c3' c4 f2 f3 f4 HT2 Z3 HR2
  generalize World.setCell W2 _ _ = W3 at *
  go_wp2_with fail
  refine (HC.out W3 HR3.out).mono ?_
  intro e w4 he
  obtain ⟨v, F, rfl, ho, hF, hr4, ht4⟩ := he.ok rfl
  obtain ⟨p, c, rfl, hl⟩ := ho.slice
  have hw4 : w.heap.size < w4.heap.size := Nat.lt_of_lt_of_le hs3 ht4.size
  have hbA : Below w4.heap.size w4 (w4.alloc (.cells (x.cells (.slice p x.subs.length c)) 28)) := (Below.refl _ _).alloc (Nat.le_refl _) _
  have HO5 := Lib.hid (ho.later hbA)
  have HF5 := Lib.hid hF
  have Z5 := Lib.hid (keep_blk hbA ((ht4.block w.heap.size hs3 (by simp; omega)).trans Z4.out))
  have HT5 := Lib.hid ((HT3.out.trans ht4).later hbA)
  have HR5 := Lib.hid ((HR3.out.next ht4 hr4).later hbA)
  have Y5 := Lib.hid (heap_alloc_new w4 (.cells (x.cells (.slice p x.subs.length c)) 28))
  have hs5 : w.heap.size < (w4.alloc (.cells (x.cells (.slice p x.subs.length c)) 28)).heap.size := Nat.lt_of_lt_of_le hs3 (Nat.le_trans ht4.size hbA.size)
  have HST := Lib.hid (stands_any [41] false w0 A _ R s fl j g' (d + 1) HR5.out (by simp only [List.any_cons, List.any_nil, Bool.or_false, show (41 : UInt8).toNat = 41 from rfl]; simp; omega))
  clear ho hF hr4 ht4 he hbA Z4 HT3 HR3
  unfold Tr.cells at *
  go_wp2_with fail
  generalize hW5 : World.alloc w4 _ = W5 at *
  refine HST.out.mono ?_
  rintro e w6 ⟨rfl, n, rfl⟩
  have hbn : Below W5.heap.size W5 (W5.drewN n) := drewN_below (Below.refl _ _) n
  have HR6 := Lib.hid (HR5.out.later hbn)
  have HT6 := Lib.hid (HT5.out.drewN n)
  have Z6 : Hid ((W5.drewN n).heap[w.heap.size]? = some (.cells noNode 28)) := Lib.hid Z5.out
  have Y6 : Hid ((W5.drewN n).heap[w4.heap.size]? = some (.cells #[.int .i64 (x).kind, .int .u64 (Oc.U (x).w0), .int .u64 (Oc.U (x).w1), .int .u64 (Oc.U (x).w2), .int .u64 (Oc.U (x).w3), .slice p x.subs.length c, .int .i64 (x).num, .int .i64 (x).least, .int .i64 (x).most, .bool (x).bare] 28)) := Lib.hid Y5.out
  have HO6 := Lib.hid (HO5.out.later hbn)
  have hs6 : w.heap.size < (W5.drewN n).heap.size := hs5
  clear hbn HR5 HT5 Z5 Y5 HO5 HST hW5 hs5
  generalize World.drewN W5 n = W6 at *
  have ce : W6.cell? ⟨2, 0, none⟩ = some (.iface 184 (.pointer (some (A 1)))) := (HR6.out.now.errs 1 (by omega)).1
  go_wp2_with fail
  refine (at_err A 1 (by omega) i _).mono ?_
  rintro e w7 ⟨v7, rfl, hv7, hb7⟩
  have Z7 := Lib.hid (keep_blk hb7 Z6.out)
  have HT7 := Lib.hid (HT6.out.later hb7)
  have HV7 := Lib.hid hv7
  clear hb7 hv7 ce
  go_wp2_with (first
    | (refine wpList_store_row rfl 28 (.tmp 2) (.tmp 59) rfl w.heap.size noNode rfl rfl 28 _ Z7.out (by kernel_rfl) rfl (by simp [Value.oneCell']) ?_)
    | fail)
  exact bodyPost_ret (results_row_1 rfl _ _ w.heap.size 28 noNode (0, 0) _ _ rfl rfl (heap_setRow Z7.out) Tryz.underlying28 rfl (by kernel_rfl)) rfl ⟨⟨_, rfl, by exact (HV7.out.setRow hs6 noNode).down (Nat.le_of_lt hs6)⟩, by exact HT7.out.setRow_new (Nat.le_refl _) _⟩
set_option maxRecDepth 100000 in
set_option maxHeartbeats 4000000 in
theorem egroup_ok (w0 : World) (A : Nat → Addr) (w : World) (R : Nat) (s : ByteArray) (hs : s.size ≤ 4294967280) (fl : Int) (i g d : Nat) (hR : RdAt w0 A w R s fl i g d) (hi : i < s.size) (hd : d < 32) (hg : g ≤ 4294967280) (x : Tr) (j g' : Nat) (hb : bt s j = 41) (HC : ∀ w, RdAt w0 A w R s fl (i + 1) (g + 1) (d + 1) → Calls Tryz.prog 44 #[.pointer (some ⟨R, 0, none⟩)] w (NdEnd A R s fl (d + 1) (.ok x j g') w)) :
    Calls Tryz.prog 132 #[.pointer (some ⟨R, 0, none⟩)] w (NdEnd A R s fl d (.ok (.grp (g + 1 : Nat) x) (j + 1) g') w) := by
  have hjl := (bt_txt s).lt hb (by omega)
  have HC := Lib.hid HC
  have hlt := hR.lt
  have hb0 : Below w.heap.size w (w.alloc (.cells noNode 28)) := (Below.refl _ _).alloc (Nat.le_refl _) _
  have HR := Lib.hid (hR.later hb0)
  have Z1 := Lib.hid (heap_alloc_new w (.cells noNode 28))
  have HB0 := Lib.hid hb0
  have hsW : w.heap.size < (w.alloc (.cells noNode 28)).heap.size := by simp
  clear hR hb0
  go_enter Tryz.func132, Tryz.ntmps132
  go_upto_region 1 with (fail)
  generalize World.alloc _ _ = W at *
  have hRne : R ≠ w.heap.size := by omega
  obtain ⟨-, -, c2, c3, c4⟩ := rd5 HR.out.cell
  obtain ⟨f2, f3, f4⟩ := rdf HR.out.cell
  have e4 : ((d : Int) == 32) = false := by rw [beq_eq_false_iff_ne]; omega
  have wg : IntKind.i64.wrap ((g : Int) + 1) = (g : Int) + 1 := IntWalk.i64_in _ (by omega)
  have wd : IntKind.i64.wrap ((d : Int) + 1) = (d : Int) + 1 := IntWalk.i64_in _ (by omega)
  have wi : IntKind.i64.wrap ((i : Int) + 1) = (i : Int) + 1 := IntWalk.i64_in _ (by omega)
  go_upto_region 5 with (fail)
  have hP1 := rd_groups HR.out.cell (g + 1) (v := (g : Int) + 1) (by omega)
  have HR1 := Lib.hid (HR.out.next ((Touch.refl [R] W).setCell List.mem_cons_self 3 (.int .i64 ((g : Int) + 1))) hP1)
  have HT1 := Lib.hid ((Touch.of_below [R] HB0.out).setCell List.mem_cons_self 3 (.int .i64 ((g : Int) + 1)))
  have Z2 := Lib.hid ((Below.heap_setCell W ⟨R, 3, none⟩ (.int .i64 ((g : Int) + 1)) w.heap.size (Ne.symm hRne)).trans Z1.out)
  have hs1 : w.heap.size < (W.setCell ⟨R, 3, none⟩ (.int .i64 ((g : Int) + 1))).heap.size := by simpa using hsW
  clear hP1 c2 c3 c4 f2 f3 f4 HB0 Z1 HR
  generalize World.setCell W _ _ = W1 at *
  obtain ⟨-, -, c2, c3, c4⟩ := rd5 HR1.out.cell
  obtain ⟨f2, f3, f4⟩ := rdf HR1.out.cell
  go_upto_region 6 with (fail)
  have hP2 := rd_open HR1.out.cell (d + 1) (v := (d : Int) + 1) (by omega)
  have HR2 := Lib.hid (HR1.out.next ((Touch.refl [R] W1).setCell List.mem_cons_self 4 (.int .i64 ((d : Int) + 1))) hP2)
  have HT2 := Lib.hid (HT1.out.setCell List.mem_cons_self 4 (.int .i64 ((d : Int) + 1)))
  have Z3 := Lib.hid ((Below.heap_setCell W1 ⟨R, 4, none⟩ (.int .i64 ((d : Int) + 1)) w.heap.size (Ne.symm hRne)).trans Z2.out)
  have hs2 : w.heap.size < (W1.setCell ⟨R, 4, none⟩ (.int .i64 ((d : Int) + 1))).heap.size := by simpa using hs1
  clear hP2 c2 c3 c4 f2 f3 f4 HT1 Z2 HR1
  generalize World.setCell W1 _ _ = W2 at *
  obtain ⟨-, -, c2, c3, c4⟩ := rd5 HR2.out.cell
  obtain ⟨f2, f3, f4⟩ := rdf HR2.out.cell
  have c3' : W2.cell? ⟨R, 3, none⟩ = some (.int .i64 ((g : Int) + 1)) := c3
  clear c3
  go_upto_region 8 with (fail)
  have hP3 := rd_place HR2.out.cell (i + 1) (v := (i : Int) + 1) (by omega)
  have HR3 := Lib.hid (HR2.out.next ((Touch.refl [R] W2).setCell List.mem_cons_self 2 (.int .i64 ((i : Int) + 1))) hP3)
  have HT3 := Lib.hid (HT2.out.setCell List.mem_cons_self 2 (.int .i64 ((i : Int) + 1)))
  have Z4 := Lib.hid ((Below.heap_setCell W2 ⟨R, 2, none⟩ (.int .i64 ((i : Int) + 1)) w.heap.size (Ne.symm hRne)).trans Z3.out)
  have hs3 : w.heap.size < (W2.setCell ⟨R, 2, none⟩ (.int .i64 ((i : Int) + 1))).heap.size := by simpa using hs2
  clear hP3 c2 c3' c4 f2 f3 f4 HT2 Z3 HR2
  generalize World.setCell W2 _ _ = W3 at *
  go_wp2_with fail
  refine (HC.out W3 HR3.out).mono ?_
  intro e w4 he
  obtain ⟨v, F, rfl, ho, hF, hr4, ht4⟩ := he.ok rfl
  obtain ⟨p, c, rfl, hl⟩ := ho.slice
  have hw4 : w.heap.size < w4.heap.size := Nat.lt_of_lt_of_le hs3 ht4.size
  have hbA : Below w4.heap.size w4 (w4.alloc (.cells (x.cells (.slice p x.subs.length c)) 28)) := (Below.refl _ _).alloc (Nat.le_refl _) _
  have HO5 := Lib.hid (ho.later hbA)
  have HF5 := Lib.hid hF
  have Z5 := Lib.hid (keep_blk hbA ((ht4.block w.heap.size hs3 (by simp; omega)).trans Z4.out))
  have HT5 := Lib.hid ((HT3.out.trans ht4).later hbA)
  have HR5 := Lib.hid ((HR3.out.next ht4 hr4).later hbA)
  have Y5 := Lib.hid (heap_alloc_new w4 (.cells (x.cells (.slice p x.subs.length c)) 28))
  have hs5 : w.heap.size < (w4.alloc (.cells (x.cells (.slice p x.subs.length c)) 28)).heap.size := Nat.lt_of_lt_of_le hs3 (Nat.le_trans ht4.size hbA.size)
  have HST := Lib.hid (stands_any [41] true w0 A _ R s fl j g' (d + 1) HR5.out (by rw [hb]; decide))
  clear ho hF hr4 ht4 he hbA Z4 HT3 HR3
  unfold Tr.cells at *
  go_wp2_with fail
  generalize hW5 : World.alloc w4 _ = W5 at *
  refine HST.out.mono ?_
  rintro e w6 ⟨rfl, n, rfl⟩
  have hbn : Below W5.heap.size W5 (W5.drewN n) := drewN_below (Below.refl _ _) n
  have HR6 := Lib.hid (HR5.out.later hbn)
  have HT6 := Lib.hid (HT5.out.drewN n)
  have Z6 : Hid ((W5.drewN n).heap[w.heap.size]? = some (.cells noNode 28)) := Lib.hid Z5.out
  have Y6 : Hid ((W5.drewN n).heap[w4.heap.size]? = some (.cells #[.int .i64 (x).kind, .int .u64 (Oc.U (x).w0), .int .u64 (Oc.U (x).w1), .int .u64 (Oc.U (x).w2), .int .u64 (Oc.U (x).w3), .slice p x.subs.length c, .int .i64 (x).num, .int .i64 (x).least, .int .i64 (x).most, .bool (x).bare] 28)) := Lib.hid Y5.out
  have HO6 := Lib.hid (HO5.out.later hbn)
  have hs6 : w.heap.size < (W5.drewN n).heap.size := hs5
  clear hbn HR5 HT5 Z5 Y5 HO5 HST hW5 hs5
  generalize World.drewN W5 n = W6 at *
  obtain ⟨-, -, c2, c3, c4⟩ := rd5 HR6.out.cell
  obtain ⟨f2, f3, f4⟩ := rdf HR6.out.cell
  have c4' : W6.cell? ⟨R, 4, none⟩ = some (.int .i64 ((d : Int) + 1)) := c4
  have wd2 : IntKind.i64.wrap ((d : Int) + 1 - 1) = (d : Int) := by rw [show (d : Int) + 1 - 1 = d by omega]; exact IntWalk.i64_in _ (by omega)
  have wj : IntKind.i64.wrap ((j : Int) + 1) = (j : Int) + 1 := IntWalk.i64_in _ (by omega)
  clear c4 c3 hb
  go_upto_region 14 with (fail)
  have hP7 := rd_open HR6.out.cell d (v := (d : Int)) rfl
  have HT7 := Lib.hid (HT6.out.setCell List.mem_cons_self 4 (.int .i64 (d : Int)))
  have HR7 := Lib.hid (HR6.out.next ((Touch.refl [R] W6).setCell List.mem_cons_self 4 (.int .i64 (d : Int))) hP7)
  have Z7 := Lib.hid ((Below.heap_setCell W6 ⟨R, 4, none⟩ (.int .i64 (d : Int)) w.heap.size (Ne.symm hRne)).trans Z6.out)
  have hs7 : w.heap.size < (W6.setCell ⟨R, 4, none⟩ (.int .i64 (d : Int))).heap.size := by simpa using hs6
  have HO7 := Lib.hid (HO6.out.touch HF5.out (by omega) ((Touch.refl [R] W6).setCell List.mem_cons_self 4 (.int .i64 (d : Int))))
  have h4w : w4.heap.size ≠ R := by omega
  have Y7 := Lib.hid ((Below.heap_setCell W6 ⟨R, 4, none⟩ (.int .i64 (d : Int)) w4.heap.size h4w).trans Y6.out)
  clear hP7 c2 c4' f2 f3 f4 HT6 HR6 Z6 Y6 HO6 hs6
  generalize World.setCell W6 _ _ = W7 at *
  obtain ⟨-, -, c2, -, -⟩ := rd5 HR7.out.cell
  obtain ⟨f2, -, -⟩ := rdf HR7.out.cell
  have hP8 := rd_place HR7.out.cell (j + 1) (v := (j : Int) + 1) (by omega)
  have HP8 := Lib.hid hP8
  have HT8 := Lib.hid (HT7.out.setCell List.mem_cons_self 2 (.int .i64 ((j : Int) + 1)))
  have Z8 := Lib.hid ((Below.heap_setCell W7 ⟨R, 2, none⟩ (.int .i64 ((j : Int) + 1)) w.heap.size (Ne.symm hRne)).trans Z7.out)
  have hs8 : w.heap.size < (W7.setCell ⟨R, 2, none⟩ (.int .i64 ((j : Int) + 1))).heap.size := by simpa using hs7
  have HO8 := Lib.hid (HO7.out.touch HF5.out (by omega) ((Touch.refl [R] W7).setCell List.mem_cons_self 2 (.int .i64 ((j : Int) + 1))))
  have Y8 := Lib.hid ((Below.heap_setCell W7 ⟨R, 2, none⟩ (.int .i64 ((j : Int) + 1)) w4.heap.size h4w).trans Y7.out)
  clear hP8 HT7 HR7 Z7 HO7 Y7 hs7
  obtain ⟨T, hT⟩ : ∃ T, Tr.grp ((g + 1 : Nat) : Int) x = T := ⟨_, rfl⟩
  have hT2 : Tr.grp ((g : Int) + 1) x = T := by rw [← hT, Int.natCast_add]; rfl
  have hgr := fun w B v hv => group_any x ((g : Int) + 1) w B v hv
  rw [hT2] at hgr
  have HGR := Lib.hid hgr; have HT9 := Lib.hid hT
  clear hgr hT hT2
  go_wp2_with (first
    | (refine wpList_load_row rfl 28 (.tmp 6) rfl w4.heap.size rfl 28 _ (0, 0) _ Y8.out Tryz.underlying28 rfl (by kernel_rfl) ?_)
    | fail)
  refine (HGR.out _ (fun b => b ∈ F) _ ⟨_, rfl, HO8.out.trees⟩).mono ?_
  rintro e w9 ⟨s8, F8, rfl, ho8, hF8, hb8⟩
  obtain ⟨p8, c8, rfl, hl8⟩ := ho8.slice
  have HO9 := Lib.hid ho8
  have Z9 := Lib.hid (keep_blk hb8 Z8.out)
  have HP9 := Lib.hid (keep_blk hb8 HP8.out)
  have HTT := Lib.hid (HT8.out.later hb8)
  have hk1 : ∀ b, b ∈ F8 → b ≠ w.heap.size := fun b hb => by have := hF8 b hb; omega
  have hk2 : ∀ b, b ∈ F8 → w.heap.size ≤ b := fun b hb => by have := hF8 b hb; omega
  have HK1 := Lib.hid hk1; have HK2 := Lib.hid hk2
  clear hk1 hk2 ho8 hF8 hb8 Z8 HP8 HT8 HO8 Y8 c2 f2
  unfold Tr.cells at *
  go_wp2_with (first
    | (refine wpList_store_row rfl 28 (.tmp 2) (.tmp 79) rfl w.heap.size #[.int .i64 (T).kind, .int .u64 (Oc.U (T).w0), .int .u64 (Oc.U (T).w1), .int .u64 (Oc.U (T).w2), .int .u64 (Oc.U (T).w3), .slice p8 T.subs.length c8, .int .i64 (T).num, .int .i64 (T).least, .int .i64 (T).most, .bool (T).bare] rfl rfl 28 _ Z9.out (by kernel_rfl) rfl (by simp [Value.oneCell']) ?_)
    | fail)
  refine bodyPost_ret (results_row_1 rfl _ _ w.heap.size 28 #[.int .i64 (T).kind, .int .u64 (Oc.U (T).w0), .int .u64 (Oc.U (T).w1), .int .u64 (Oc.U (T).w2), .int .u64 (Oc.U (T).w3), .slice p8 T.subs.length c8, .int .i64 (T).num, .int .i64 (T).least, .int .i64 (T).most, .bool (T).bare] (0, 0) _ _ rfl rfl (heap_setRow Z9.out) Tryz.underlying28 rfl (by kernel_rfl)) rfl ⟨⟨.slice p8 T.subs.length c8, F8, ?_, ?_, HK2.out, (heap_setRow_other _ _ _ hRne).trans HP9.out⟩, HTT.out.setRow_new (Nat.le_refl _) _⟩
  · rw [HT9.out]; rfl
  · rw [HT9.out]; exact HO9.out.keep fun b hb => heap_setRow_other _ _ _ (HK1.out b hb)
/-- What group answers. -/
theorem egroup_any (w0 : World) (A : Nat → Addr) (R : Nat) (s : ByteArray) (hs : s.size ≤ 1024) (fl : Int) : ∀ (r d : Nat), r + d = 32 → ∀ (i g : Nat) (w : World), i < s.size → 2 * g ≤ i + d → bt s i = 40 → RdAt w0 A w R s fl i g d →
    Calls Tryz.prog 132 #[.pointer (some ⟨R, 0, none⟩)] w (NdEnd A R s fl d (Ep.group (bt s) s.size (icB fl) (nlB fl) r i g) w) := by
  intro r
  induction r with
  | zero =>
    intro d hd i g w hi _ _ hR
    exact egroup_deep w0 A w R s (by omega) fl i g d hR hi (by omega)
  | succ r ih =>
    intro d hd i g w hi hg hc hR
    have hpat : ∀ O, Ep.alts (bt s) s.size (icB fl) (nlB fl) (Ep.group (bt s) s.size (icB fl) (nlB fl) r) (s.size + 1) [] (i + 1) (g + 1) = O → ∀ w, RdAt w0 A w R s fl (i + 1) (g + 1) (d + 1) → Calls Tryz.prog 44 #[.pointer (some ⟨R, 0, none⟩)] w (NdEnd A R s fl (d + 1) O w) := fun O hO w hR =>
      pattern_any w0 A w R s (by omega) fl (i + 1) (g + 1) (d + 1) hR (by omega) _ (Ep.group_next (bt_txt s) r) (Ep.group_right (bt_txt s) hs r (d + 1) (by omega)) (by omega) (fun i' g' w' hi' hg' hc' hR' => ih (d + 1) (by omega) i' g' w' hi' hg' hc' hR') O hO
    unfold Ep.group
    cases hO : Ep.alts (bt s) s.size (icB fl) (nlB fl) (Ep.group (bt s) s.size (icB fl) (nlB fl) r) (s.size + 1) [] (i + 1) (g + 1) with
    | err c q => exact egroup_err w0 A w R s (by omega) fl i g d hR hi (by omega) (by omega) c q (hpat _ hO)
    | ok x j g' =>
      by_cases hb : bt s j = 41
      · simp only [hb, if_true]
        exact egroup_ok w0 A w R s (by omega) fl i g d hR hi (by omega) (by omega) x j g' hb (hpat _ hO)
      · simp only [hb, if_false]
        exact egroup_open w0 A w R s (by omega) fl i g d hR hi (by omega) (by omega) x j g' hb (hpat _ hO)
/-- What pattern answers at the front. -/
theorem pat_any (w0 : World) (A : Nat → Addr) (w : World) (R : Nat) (s : ByteArray) (hs : s.size ≤ 1024) (fl : Int) (hR : RdAt w0 A w R s fl 0 0 0) (O : Ep.Out) (hO : Ep.pat (bt s) s.size (icB fl) (nlB fl) 32 0 0 = O) :
    Calls Tryz.prog 44 #[.pointer (some ⟨R, 0, none⟩)] w (NdEnd A R s fl 0 O w) :=
  pattern_any w0 A w R s (by omega) fl 0 0 0 hR (by omega) _ (Ep.group_next (bt_txt s) 32) (Ep.group_right (bt_txt s) hs 32 0 (by omega)) (by omega) (fun i g w hi hg hc hR => egroup_any w0 A R s hs fl 32 0 (by omega) i g w hi hg hc hR) O hO
end Go.Proofs.YtlbhbjmobcikfaaGreatDoor
/- What Parse of ere answers: what chapter 6 promises. -/
namespace Go.Proofs.YtlbhbjmobcikfaaGreatDoor
open Go.RowKit
set_option maxRecDepth 100000 in
set_option maxHeartbeats 4000000 in
theorem whole_err (w0 : World) (A : Nat → Addr) (w : World) (R : Nat) (s : ByteArray) (fl : Int) (hR : RdAt w0 A w R s fl 0 0 0) (c : Nat) (q : Int) (HC : ∀ w, RdAt w0 A w R s fl 0 0 0 → Calls Tryz.prog 44 #[.pointer (some ⟨R, 0, none⟩)] w (NdEnd A R s fl 0 (.err c q) w)) :
    Calls Tryz.prog 30 #[.pointer (some ⟨R, 0, none⟩)] w (NdEnd A R s fl 0 (.err c q) w) := by
  have HC := Lib.hid HC
  have hlt := hR.lt
  have hb0 : Below w.heap.size w (w.alloc (.cells noNode 28)) := (Below.refl _ _).alloc (Nat.le_refl _) _
  have HR := Lib.hid (hR.later hb0)
  have Z1 := Lib.hid (heap_alloc_new w (.cells noNode 28))
  have HB0 := Lib.hid hb0
  have hsW : w.heap.size < (w.alloc (.cells noNode 28)).heap.size := by simp
  have hRne : R ≠ w.heap.size := by omega
  clear hR hb0
  go_enter Tryz.func30, Tryz.ntmps30
  go_wp2_with fail
  generalize World.alloc _ _ = W at *
  refine (HC.out W HR.out).mono ?_
  intro e w2 he
  obtain ⟨v, rfl, hv, ht2⟩ := he.err rfl
  obtain ⟨x, rfl⟩ := hv.iface
  have hbA : Below w2.heap.size w2 (w2.alloc (.cells noNode 28)) := (Below.refl _ _).alloc (Nat.le_refl _) _
  have HV := Lib.hid (hv.later hbA)
  have Z2 := Lib.hid (keep_blk hbA ((ht2.block w.heap.size hsW (by simp; omega)).trans Z1.out))
  have HT := Lib.hid (((Touch.of_below [R] HB0.out).trans ht2).later hbA)
  clear hv ht2 he hbA
  go_wp2_with (first
    | (refine wpList_store_row rfl 28 (.tmp 2) (.tmp 13) rfl w.heap.size noNode rfl rfl 28 _ Z2.out (by kernel_rfl) rfl (by simp [Value.oneCell']) ?_)
    | fail)
  exact bodyPost_ret (results_row_1 rfl _ _ w.heap.size 28 noNode (0, 0) _ _ rfl rfl (heap_setRow Z2.out) Tryz.underlying28 rfl (by kernel_rfl)) rfl ⟨⟨_, rfl, by exact (HV.out.setRow hsW noNode).down (Nat.le_of_lt hsW)⟩, by exact HT.out.setRow_new (Nat.le_refl _) _⟩
set_option maxRecDepth 100000 in
set_option maxHeartbeats 4000000 in
theorem whole_paren (w0 : World) (A : Nat → Addr) (w : World) (R : Nat) (s : ByteArray) (fl : Int) (hR : RdAt w0 A w R s fl 0 0 0) (x : Tr) (j g : Nat) (hj : j < s.size) (HC : ∀ w, RdAt w0 A w R s fl 0 0 0 → Calls Tryz.prog 44 #[.pointer (some ⟨R, 0, none⟩)] w (NdEnd A R s fl 0 (.ok x j g) w)) :
    Calls Tryz.prog 30 #[.pointer (some ⟨R, 0, none⟩)] w (NdEnd A R s fl 0 (.err 2 j) w) := by
  have HC := Lib.hid HC
  have hlt := hR.lt
  have hb0 : Below w.heap.size w (w.alloc (.cells noNode 28)) := (Below.refl _ _).alloc (Nat.le_refl _) _
  have HR := Lib.hid (hR.later hb0)
  have Z1 := Lib.hid (heap_alloc_new w (.cells noNode 28))
  have HB0 := Lib.hid hb0
  have hsW : w.heap.size < (w.alloc (.cells noNode 28)).heap.size := by simp
  have hRne : R ≠ w.heap.size := by omega
  clear hR hb0
  go_enter Tryz.func30, Tryz.ntmps30
  go_wp2_with fail
  generalize World.alloc _ _ = W at *
  refine (HC.out W HR.out).mono ?_
  intro e w2 he
  obtain ⟨v, F, rfl, ho, hF, hr2, ht2⟩ := he.ok rfl
  obtain ⟨p, c, rfl, hl⟩ := ho.slice
  have hbA : Below w2.heap.size w2 (w2.alloc (.cells (x.cells (.slice p x.subs.length c)) 28)) := (Below.refl _ _).alloc (Nat.le_refl _) _
  have HO3 := Lib.hid (ho.later hbA)
  have HF3 := Lib.hid hF
  have Z3 := Lib.hid (keep_blk hbA ((ht2.block w.heap.size hsW (by simp; omega)).trans Z1.out))
  have HT3 := Lib.hid (((Touch.of_below [R] HB0.out).trans ht2).later hbA)
  have HR3 := Lib.hid ((HR.out.next ht2 hr2).later hbA)
  have Y3 := Lib.hid (heap_alloc_new w2 (.cells (x.cells (.slice p x.subs.length c)) 28))
  have hs3 : w.heap.size < (w2.alloc (.cells (x.cells (.slice p x.subs.length c)) 28)).heap.size := Nat.lt_of_lt_of_le hsW (Nat.le_trans ht2.size hbA.size)
  clear ho hF hr2 ht2 he hbA HR Z1 HB0
  unfold Tr.cells at *
  go_upto_region 4 with (fail)
  generalize World.alloc w2 _ = W3 at *
  obtain ⟨c0, c1, c2, -, -⟩ := rd5 HR3.out.cell
  have dj : decide ((j : Int) < s.size) = true := by simp; omega
  have dj' : decide (j < s.size) = true := by simp; omega
  go_quiet (fail)
  have hbn : Below W3.heap.size W3 (W3.drewN nq) := drewN_below (Below.refl _ _) nq
  have HO4 := Lib.hid (HO3.out.later hbn)
  have Z4 : Hid ((W3.drewN nq).heap[w.heap.size]? = some (.cells noNode 28)) := Lib.hid Z3.out
  have Y4 : Hid ((W3.drewN nq).heap[w2.heap.size]? = some (.cells #[.int .i64 (x).kind, .int .u64 (Oc.U (x).w0), .int .u64 (Oc.U (x).w1), .int .u64 (Oc.U (x).w2), .int .u64 (Oc.U (x).w3), .slice p x.subs.length c, .int .i64 (x).num, .int .i64 (x).least, .int .i64 (x).most, .bool (x).bare] 28)) := Lib.hid Y3.out
  have HT4 := Lib.hid (HT3.out.drewN nq)
  have HR4 := Lib.hid (HR3.out.later hbn)
  have hs4 : w.heap.size < (W3.drewN nq).heap.size := hs3
  clear hbn HO3 Z3 Y3 HT3 HR3 hs3 c0 c1 c2
  generalize World.drewN W3 nq = W4 at *
  have HRx := HR4
  have ce : W4.cell? ⟨2, 0, none⟩ = some (.iface 184 (.pointer (some (A 1)))) := (HRx.out.now.errs 1 (by omega)).1
  go_wp2_with fail
  refine (fails_any w0 A 1 (by omega) W4 R s fl j g 0 HRx.out).mono ?_
  intro e w7 he
  have he' := he
  obtain ⟨v, rfl, hv, ht7⟩ := he.err rfl
  have HE := Lib.hid he'
  have Z7 := Lib.hid ((ht7.block w.heap.size hs4 (by simp; omega)).trans Z4.out)
  clear hv ht7 he he' ce
  go_wp2_with (first
    | (refine wpList_store_row rfl 28 (.tmp 2) (.tmp 28) rfl w.heap.size noNode rfl rfl 28 _ Z7.out (by kernel_rfl) rfl (by simp [Value.oneCell']) ?_)
    | fail)
  exact bodyPost_ret (results_row_1 rfl _ _ w.heap.size 28 noNode (0, 0) _ _ rfl rfl (heap_setRow Z7.out) Tryz.underlying28 rfl (by kernel_rfl)) rfl (by exact (HE.out.b.pass HT4.out hs4 (Nat.le_refl _) (Nat.le_of_lt hs4) hRne _).nd)
set_option maxRecDepth 100000 in
set_option maxHeartbeats 4000000 in
theorem whole_big (w0 : World) (A : Nat → Addr) (w : World) (R : Nat) (s : ByteArray) (fl : Int) (hR : RdAt w0 A w R s fl 0 0 0) (x : Tr) (j g : Nat) (hj : j = s.size) (hf : x.InForm) (hbig : 2000 < x.szT) (HC : ∀ w, RdAt w0 A w R s fl 0 0 0 → Calls Tryz.prog 44 #[.pointer (some ⟨R, 0, none⟩)] w (NdEnd A R s fl 0 (.ok x j g) w)) :
    Calls Tryz.prog 30 #[.pointer (some ⟨R, 0, none⟩)] w (NdEnd A R s fl 0 (.err 10 j) w) := by
  have HC := Lib.hid HC
  have hlt := hR.lt
  have hb0 : Below w.heap.size w (w.alloc (.cells noNode 28)) := (Below.refl _ _).alloc (Nat.le_refl _) _
  have HR := Lib.hid (hR.later hb0)
  have Z1 := Lib.hid (heap_alloc_new w (.cells noNode 28))
  have HB0 := Lib.hid hb0
  have hsW : w.heap.size < (w.alloc (.cells noNode 28)).heap.size := by simp
  have hRne : R ≠ w.heap.size := by omega
  clear hR hb0
  go_enter Tryz.func30, Tryz.ntmps30
  go_wp2_with fail
  generalize World.alloc _ _ = W at *
  refine (HC.out W HR.out).mono ?_
  intro e w2 he
  obtain ⟨v, F, rfl, ho, hF, hr2, ht2⟩ := he.ok rfl
  obtain ⟨p, c, rfl, hl⟩ := ho.slice
  have hbA : Below w2.heap.size w2 (w2.alloc (.cells (x.cells (.slice p x.subs.length c)) 28)) := (Below.refl _ _).alloc (Nat.le_refl _) _
  have HO3 := Lib.hid (ho.later hbA)
  have HF3 := Lib.hid hF
  have Z3 := Lib.hid (keep_blk hbA ((ht2.block w.heap.size hsW (by simp; omega)).trans Z1.out))
  have HT3 := Lib.hid (((Touch.of_below [R] HB0.out).trans ht2).later hbA)
  have HR3 := Lib.hid ((HR.out.next ht2 hr2).later hbA)
  have Y3 := Lib.hid (heap_alloc_new w2 (.cells (x.cells (.slice p x.subs.length c)) 28))
  have hs3 : w.heap.size < (w2.alloc (.cells (x.cells (.slice p x.subs.length c)) 28)).heap.size := Nat.lt_of_lt_of_le hsW (Nat.le_trans ht2.size hbA.size)
  clear ho hF hr2 ht2 he hbA HR Z1 HB0
  unfold Tr.cells at *
  go_upto_region 4 with (fail)
  generalize World.alloc w2 _ = W3 at *
  obtain ⟨c0, c1, c2, -, -⟩ := rd5 HR3.out.cell
  have dj : decide ((j : Int) < s.size) = false := by simp; omega
  have dj' : decide (j < s.size) = false := by simp; omega
  go_quiet (fail)
  have hbn : Below W3.heap.size W3 (W3.drewN nq) := drewN_below (Below.refl _ _) nq
  have HO4 := Lib.hid (HO3.out.later hbn)
  have Z4 : Hid ((W3.drewN nq).heap[w.heap.size]? = some (.cells noNode 28)) := Lib.hid Z3.out
  have Y4 : Hid ((W3.drewN nq).heap[w2.heap.size]? = some (.cells #[.int .i64 (x).kind, .int .u64 (Oc.U (x).w0), .int .u64 (Oc.U (x).w1), .int .u64 (Oc.U (x).w2), .int .u64 (Oc.U (x).w3), .slice p x.subs.length c, .int .i64 (x).num, .int .i64 (x).least, .int .i64 (x).most, .bool (x).bare] 28)) := Lib.hid Y3.out
  have HT4 := Lib.hid (HT3.out.drewN nq)
  have HR4 := Lib.hid (HR3.out.later hbn)
  have hs4 : w.heap.size < (W3.drewN nq).heap.size := hs3
  clear hbn HO3 Z3 Y3 HT3 HR3 hs3 c0 c1 c2
  generalize World.drewN W3 nq = W4 at *
  have HSZ := Lib.hid (treeSize_any x hf W4 (fun b => b ∈ F) _ ⟨_, rfl, HO4.out.trees⟩)
  have hle := Tr.szT_le x
  have hd : decide ((2000 : Int) < x.szT) = true := by simp; omega
  have hd' : decide (2000 < x.szT) = true := by simp; omega
  generalize x.szT = N at *
  clear hf hbig hle
  unfold Tr.cells at *
  go_wp2_with (first
    | (refine wpList_load_row rfl 28 (.tmp 4) rfl w2.heap.size rfl 28 _ (0, 0) _ Y4.out Tryz.underlying28 rfl (by kernel_rfl) ?_)
    | fail)
  refine HSZ.out.mono ?_
  rintro e w5 ⟨rfl, hb5⟩
  have HO5 := Lib.hid (HO4.out.later hb5)
  have Z5 := Lib.hid (keep_blk hb5 Z4.out)
  have Y5 := Lib.hid (keep_blk hb5 Y4.out)
  have HT5 := Lib.hid (HT4.out.later hb5)
  have HRx := Lib.hid (HR4.out.later hb5)
  have hs5 : w.heap.size < w5.heap.size := Nat.lt_of_lt_of_le hs4 hb5.size
  clear hb5 HO4 Z4 Y4 HT4 HR4 HSZ
  have ce : w5.cell? ⟨10, 0, none⟩ = some (.iface 184 (.pointer (some (A 9)))) := (HRx.out.now.errs 9 (by omega)).1
  go_wp2_with fail
  refine (fails_any w0 A 9 (by omega) w5 R s fl j g 0 HRx.out).mono ?_
  intro e w7 he
  have he' := he
  obtain ⟨v, rfl, hv, ht7⟩ := he.err rfl
  have HE := Lib.hid he'
  have Z7 := Lib.hid ((ht7.block w.heap.size hs5 (by simp; omega)).trans Z5.out)
  clear hv ht7 he he' ce
  go_wp2_with (first
    | (refine wpList_store_row rfl 28 (.tmp 2) (.tmp 36) rfl w.heap.size noNode rfl rfl 28 _ Z7.out (by kernel_rfl) rfl (by simp [Value.oneCell']) ?_)
    | fail)
  exact bodyPost_ret (results_row_1 rfl _ _ w.heap.size 28 noNode (0, 0) _ _ rfl rfl (heap_setRow Z7.out) Tryz.underlying28 rfl (by kernel_rfl)) rfl (by exact (HE.out.b.pass HT5.out hs5 (Nat.le_refl _) (Nat.le_of_lt hs5) hRne _).nd)
set_option maxRecDepth 100000 in
set_option maxHeartbeats 4000000 in
theorem whole_ok (w0 : World) (A : Nat → Addr) (w : World) (R : Nat) (s : ByteArray) (fl : Int) (hR : RdAt w0 A w R s fl 0 0 0) (x : Tr) (j g : Nat) (hj : j = s.size) (hf : x.InForm) (hbig : x.szT ≤ 2000) (HC : ∀ w, RdAt w0 A w R s fl 0 0 0 → Calls Tryz.prog 44 #[.pointer (some ⟨R, 0, none⟩)] w (NdEnd A R s fl 0 (.ok x j g) w)) :
    Calls Tryz.prog 30 #[.pointer (some ⟨R, 0, none⟩)] w (NdEnd A R s fl 0 (.ok x j g) w) := by
  have HC := Lib.hid HC
  have hlt := hR.lt
  have hb0 : Below w.heap.size w (w.alloc (.cells noNode 28)) := (Below.refl _ _).alloc (Nat.le_refl _) _
  have HR := Lib.hid (hR.later hb0)
  have Z1 := Lib.hid (heap_alloc_new w (.cells noNode 28))
  have HB0 := Lib.hid hb0
  have hsW : w.heap.size < (w.alloc (.cells noNode 28)).heap.size := by simp
  have hRne : R ≠ w.heap.size := by omega
  clear hR hb0
  go_enter Tryz.func30, Tryz.ntmps30
  go_wp2_with fail
  generalize World.alloc _ _ = W at *
  refine (HC.out W HR.out).mono ?_
  intro e w2 he
  obtain ⟨v, F, rfl, ho, hF, hr2, ht2⟩ := he.ok rfl
  obtain ⟨p, c, rfl, hl⟩ := ho.slice
  have hbA : Below w2.heap.size w2 (w2.alloc (.cells (x.cells (.slice p x.subs.length c)) 28)) := (Below.refl _ _).alloc (Nat.le_refl _) _
  have HO3 := Lib.hid (ho.later hbA)
  have HF3 := Lib.hid hF
  have Z3 := Lib.hid (keep_blk hbA ((ht2.block w.heap.size hsW (by simp; omega)).trans Z1.out))
  have HT3 := Lib.hid (((Touch.of_below [R] HB0.out).trans ht2).later hbA)
  have HR3 := Lib.hid ((HR.out.next ht2 hr2).later hbA)
  have Y3 := Lib.hid (heap_alloc_new w2 (.cells (x.cells (.slice p x.subs.length c)) 28))
  have hs3 : w.heap.size < (w2.alloc (.cells (x.cells (.slice p x.subs.length c)) 28)).heap.size := Nat.lt_of_lt_of_le hsW (Nat.le_trans ht2.size hbA.size)
  clear ho hF hr2 ht2 he hbA HR Z1 HB0
  unfold Tr.cells at *
  go_upto_region 4 with (fail)
  generalize World.alloc w2 _ = W3 at *
  obtain ⟨c0, c1, c2, -, -⟩ := rd5 HR3.out.cell
  have dj : decide ((j : Int) < s.size) = false := by simp; omega
  have dj' : decide (j < s.size) = false := by simp; omega
  go_quiet (fail)
  have hbn : Below W3.heap.size W3 (W3.drewN nq) := drewN_below (Below.refl _ _) nq
  have HO4 := Lib.hid (HO3.out.later hbn)
  have Z4 : Hid ((W3.drewN nq).heap[w.heap.size]? = some (.cells noNode 28)) := Lib.hid Z3.out
  have Y4 : Hid ((W3.drewN nq).heap[w2.heap.size]? = some (.cells #[.int .i64 (x).kind, .int .u64 (Oc.U (x).w0), .int .u64 (Oc.U (x).w1), .int .u64 (Oc.U (x).w2), .int .u64 (Oc.U (x).w3), .slice p x.subs.length c, .int .i64 (x).num, .int .i64 (x).least, .int .i64 (x).most, .bool (x).bare] 28)) := Lib.hid Y3.out
  have HT4 := Lib.hid (HT3.out.drewN nq)
  have HR4 := Lib.hid (HR3.out.later hbn)
  have hs4 : w.heap.size < (W3.drewN nq).heap.size := hs3
  clear hbn HO3 Z3 Y3 HT3 HR3 hs3 c0 c1 c2
  generalize World.drewN W3 nq = W4 at *
  have HSZ := Lib.hid (treeSize_any x hf W4 (fun b => b ∈ F) _ ⟨_, rfl, HO4.out.trees⟩)
  have hle := Tr.szT_le x
  have hd : decide ((2000 : Int) < x.szT) = false := by simp; omega
  have hd' : decide (2000 < x.szT) = false := by simp; omega
  generalize x.szT = N at *
  clear hf hbig hle
  unfold Tr.cells at *
  go_wp2_with (first
    | (refine wpList_load_row rfl 28 (.tmp 4) rfl w2.heap.size rfl 28 _ (0, 0) _ Y4.out Tryz.underlying28 rfl (by kernel_rfl) ?_)
    | fail)
  refine HSZ.out.mono ?_
  rintro e w5 ⟨rfl, hb5⟩
  have HO5 := Lib.hid (HO4.out.later hb5)
  have Z5 := Lib.hid (keep_blk hb5 Z4.out)
  have Y5 := Lib.hid (keep_blk hb5 Y4.out)
  have HT5 := Lib.hid (HT4.out.later hb5)
  have HRx := Lib.hid (HR4.out.later hb5)
  have hs5 : w.heap.size < w5.heap.size := Nat.lt_of_lt_of_le hs4 hb5.size
  clear hb5 HO4 Z4 Y4 HT4 HR4 HSZ
  have hk1 : ∀ b, b ∈ F → b ≠ w.heap.size := fun b hb => by have := HF3.out b hb; omega
  have hk2 : ∀ b, b ∈ F → w.heap.size ≤ b := fun b hb => by have := HF3.out b hb; omega
  have HK1 := Lib.hid hk1; have HK2 := Lib.hid hk2
  clear hk1 hk2
  go_wp2_with (first
    | (refine wpList_load_row rfl 28 (.tmp 4) rfl w2.heap.size rfl 28 _ (0, 0) _ Y5.out Tryz.underlying28 rfl (by kernel_rfl) ?_)
    | (refine wpList_store_row rfl 28 (.tmp 2) (.tmp 38) rfl w.heap.size #[.int .i64 (x).kind, .int .u64 (Oc.U (x).w0), .int .u64 (Oc.U (x).w1), .int .u64 (Oc.U (x).w2), .int .u64 (Oc.U (x).w3), .slice p x.subs.length c, .int .i64 (x).num, .int .i64 (x).least, .int .i64 (x).most, .bool (x).bare] rfl rfl 28 _ Z5.out (by kernel_rfl) rfl (by simp [Value.oneCell']) ?_)
    | fail)
  exact bodyPost_ret (results_row_1 rfl _ _ w.heap.size 28 #[.int .i64 (x).kind, .int .u64 (Oc.U (x).w0), .int .u64 (Oc.U (x).w1), .int .u64 (Oc.U (x).w2), .int .u64 (Oc.U (x).w3), .slice p x.subs.length c, .int .i64 (x).num, .int .i64 (x).least, .int .i64 (x).most, .bool (x).bare] (0, 0) _ _ rfl rfl (heap_setRow Z5.out) Tryz.underlying28 rfl (by kernel_rfl)) rfl ⟨⟨.slice p x.subs.length c, F, rfl, HO5.out.keep fun b hb => heap_setRow_other _ _ _ (HK1.out b hb), HK2.out, (heap_setRow_other _ _ _ hRne).trans HRx.out.cell⟩, HT5.out.setRow_new (Nat.le_refl _) _⟩
/-- What whole answers. -/
theorem ewhole_any (w0 : World) (A : Nat → Addr) (w : World) (R : Nat) (s : ByteArray) (hs : s.size ≤ 1024) (fl : Int) (hR : RdAt w0 A w R s fl 0 0 0) :
    Calls Tryz.prog 30 #[.pointer (some ⟨R, 0, none⟩)] w (NdEnd A R s fl 0 (Ep.whole (bt s) s.size (icB fl) (nlB fl)) w) := by
  have hp : ∀ O, Ep.pat (bt s) s.size (icB fl) (nlB fl) 32 0 0 = O → ∀ w, RdAt w0 A w R s fl 0 0 0 → Calls Tryz.prog 44 #[.pointer (some ⟨R, 0, none⟩)] w (NdEnd A R s fl 0 O w) := fun O hO w hR => pat_any w0 A w R s hs fl hR O hO
  unfold Ep.whole
  cases hO : Ep.pat (bt s) s.size (icB fl) (nlB fl) 32 0 0 with
  | err c q => exact whole_err w0 A w R s fl hR c q (hp _ hO)
  | ok x j g =>
    have hn := Ep.alts_next (bt_txt s) (Ep.group_next (bt_txt s) 32) (by omega) hO
    have hf := Ep.alts_form (bt_txt s) (Ep.group_next (bt_txt s) 32) (Ep.group_right (bt_txt s) hs 32 0 (by omega)) (by omega) (fun u hu => by cases hu) (by omega) hO
    by_cases hj : j < s.size
    · simp only [hj, if_true]; exact whole_paren w0 A w R s fl hR x j g hj (hp _ hO)
    · simp only [hj, if_false]
      have hjs : j = s.size := by omega
      by_cases hb : 2000 < x.szT
      · simp only [hb, if_true]; rw [← hjs]; exact whole_big w0 A w R s fl hR x j g hjs hf.1 hb (hp _ hO)
      · simp only [hb, if_false]; exact whole_ok w0 A w R s fl hR x j g hjs hf.1 (by omega) (hp _ hO)
/-- What Parse ends with. -/
def PaEnd (A : Nat → Addr) (O : Ep.Out) (w : World) (e : Ending) (w' : World) : Prop :=
  (match O with
  | .ok t _ g => ∃ v F, e = .returned (.tuple #[.agg (t.cells v), .int .i64 g, .nilIface]) ∧ Owned w' v t.subs F ∧ (∀ b, b ∈ F → w.heap.size ≤ b)
  | .err c q => ∃ v, e = .returned (.tuple #[.agg noNode, .int .i64 0, v]) ∧ ErrOne A w.heap.size w' v c q) ∧ Below w.heap.size w w'
theorem PaEnd.ok {A : Nat → Addr} {O : Ep.Out} {w : World} {e : Ending} {w' : World} (h : PaEnd A O w e w') {t : Tr} {j g : Nat} (hO : O = .ok t j g) :
    ∃ v F, e = .returned (.tuple #[.agg (t.cells v), .int .i64 g, .nilIface]) ∧ Owned w' v t.subs F ∧ (∀ b, b ∈ F → w.heap.size ≤ b) ∧ Below w.heap.size w w' := by
  subst hO; obtain ⟨⟨v, F, h1, h2, h3⟩, h4⟩ := h; exact ⟨v, F, h1, h2, h3, h4⟩
theorem PaEnd.err {A : Nat → Addr} {O : Ep.Out} {w : World} {e : Ending} {w' : World} (h : PaEnd A O w e w') {c : Nat} {q : Int} (hO : O = .err c q) :
    ∃ v, e = .returned (.tuple #[.agg noNode, .int .i64 0, v]) ∧ ErrOne A w.heap.size w' v c q ∧ Below w.heap.size w w' := by
  subst hO; obtain ⟨⟨v, h1, h2⟩, h4⟩ := h; exact ⟨v, h1, h2, h4⟩
theorem all_oneCell_node (t : Tr) (p : Option Addr) (l c : Nat) : (#[.int .i64 t.kind, .int .u64 (Oc.U t.w0), .int .u64 (Oc.U t.w1), .int .u64 (Oc.U t.w2), .int .u64 (Oc.U t.w3), .slice p l c, .int .i64 t.num, .int .i64 t.least, .int .i64 t.most, .bool t.bare] : Array Value).all (·.oneCell') = true := nodeC_all t p l c
set_option maxRecDepth 100000 in
set_option maxHeartbeats 4000000 in
theorem parse_long (A : Nat → Addr) (w : World) (s : ByteArray) (fl : Int) (hE : BrEnv w A) (hl : 1024 < s.size) :
    Calls Tryz.prog 12 #[.string s, .int .i64 fl] w (PaEnd A (.err 12 1024) w) := by
  have hb0 : Below w.heap.size w (w.alloc (.cells noNode 28)) := (Below.refl _ _).alloc (Nat.le_refl _) _
  have hE1 := hE.below hb0
  have ce : (w.alloc (.cells noNode 28)).cell? ⟨0, 0, none⟩ = some (.iface 184 (.pointer (some (A 11)))) := (hE1.errs 11 (by omega)).1
  have Z1 := Lib.hid (heap_alloc_new w (.cells noNode 28))
  have HB0 := Lib.hid hb0
  have hd : decide ((1024 : Int) < s.size) = true := by simp; omega
  have hd' : decide (1024 < s.size) = true := by simp; omega
  clear hE hb0 hE1 hl
  go_enter Tryz.func12, Tryz.ntmps12
  go_wp2_with fail
  refine (at_err A 11 (by omega) 1024 _).mono ?_
  rintro e w2 ⟨v, rfl, hv, hb⟩
  have Z2 := Lib.hid (keep_blk hb Z1.out)
  have HB := Lib.hid (HB0.out.trans (hb.mono HB0.out.size))
  have HV := Lib.hid (hv.setRow (show w.heap.size < (w.alloc (.cells noNode 28)).heap.size by simp) noNode)
  clear hb hv ce HB0 Z1
  go_wp2_with (first
    | (refine wpList_store_row rfl 28 (.tmp 4) (.tmp 13) rfl w.heap.size noNode rfl rfl 28 _ Z2.out (by kernel_rfl) rfl (by simp [Value.oneCell']) ?_)
    | fail)
  exact bodyPost_ret (results_row_two rfl _ _ w.heap.size 28 noNode (0, 0) _ _ _ rfl rfl rfl (heap_setRow Z2.out) Tryz.underlying28 rfl (by kernel_rfl)) rfl ⟨⟨_, rfl, by exact HV.out.down (by simp)⟩, by exact below_setRow HB.out (Nat.le_refl _) _⟩
set_option maxRecDepth 100000 in
set_option maxHeartbeats 4000000 in
theorem parse_err (A : Nat → Addr) (w : World) (s : ByteArray) (fl : Int) (hE : BrEnv w A) (hl : s.size ≤ 1024) (c : Nat) (q : Int) (HC : ∀ w' R, RdAt w A w' R s fl 0 0 0 → Calls Tryz.prog 30 #[.pointer (some ⟨R, 0, none⟩)] w' (NdEnd A R s fl 0 (.err c q) w')) :
    Calls Tryz.prog 12 #[.string s, .int .i64 fl] w (PaEnd A (.err c q) w) := by
  have HC := Lib.hid HC
  have hd : decide ((1024 : Int) < s.size) = false := by simp; omega
  have hd' : decide (1024 < s.size) = false := by simp; omega
  have hb0 : Below w.heap.size w ((w.alloc (.cells noNode 28)).alloc (.cells (rdC s fl 0 0 0) 54)) := by go_grown
  have hz := two_new w (.cells noNode 28) (.cells (rdC s fl 0 0 0) 54)
  have HR := Lib.hid (RdAt.mk hE (Nat.le_succ _) hb0 hz.2)
  have Z1 := Lib.hid hz.1
  have HB0 := Lib.hid hb0
  have hs1 : ((w.alloc (.cells noNode 28)).alloc (.cells (rdC s fl 0 0 0) 54)).heap.size = w.heap.size + 2 := by simp
  clear hE hb0 hl hz
  go_enter Tryz.func12, Tryz.ntmps12
  go_wp2_with fail
  refine (HC.out _ (w.heap.size + 1) HR.out).mono ?_
  intro e w2 he
  generalize World.alloc (World.alloc _ _) _ = W at *
  obtain ⟨v, rfl, hv, ht2⟩ := he.err rfl
  obtain ⟨x, rfl⟩ := hv.iface
  have hbA : Below w2.heap.size w2 (w2.alloc (.cells noNode 28)) := (Below.refl _ _).alloc (Nat.le_refl _) _
  have HV := Lib.hid (hv.later hbA)
  have Z2 := Lib.hid (keep_blk hbA ((ht2.block w.heap.size (by omega) (by simp)).trans Z1.out))
  have hb2 : Below w.heap.size w w2 := HB0.out.trans (ht2.below (fun k hk => by rw [List.mem_singleton.1 hk]; omega) HB0.out.size)
  have HB2 := Lib.hid (hb2.trans (hbA.mono hb2.size))
  have HV2 := Lib.hid ((hv.later hbA).setRow (show w.heap.size < W.heap.size by omega) noNode)
  clear hv ht2 he hbA hb2
  go_wp2_with (first
    | (refine wpList_store_row rfl 28 (.tmp 4) (.tmp 25) rfl w.heap.size noNode rfl rfl 28 _ Z2.out (by kernel_rfl) rfl (by simp [Value.oneCell']) ?_)
    | fail)
  exact bodyPost_ret (results_row_two rfl _ _ w.heap.size 28 noNode (0, 0) _ _ _ rfl rfl rfl (heap_setRow Z2.out) Tryz.underlying28 rfl (by kernel_rfl)) rfl ⟨⟨_, rfl, by exact HV2.out.down (by omega)⟩, by exact below_setRow HB2.out (Nat.le_refl _) _⟩
set_option maxRecDepth 100000 in
set_option maxHeartbeats 4000000 in
theorem parse_ok (A : Nat → Addr) (w : World) (s : ByteArray) (fl : Int) (hE : BrEnv w A) (hl : s.size ≤ 1024) (x : Tr) (j g : Nat) (HC : ∀ w' R, RdAt w A w' R s fl 0 0 0 → Calls Tryz.prog 30 #[.pointer (some ⟨R, 0, none⟩)] w' (NdEnd A R s fl 0 (.ok x j g) w')) :
    Calls Tryz.prog 12 #[.string s, .int .i64 fl] w (PaEnd A (.ok x j g) w) := by
  have HC := Lib.hid HC
  have hd : decide ((1024 : Int) < s.size) = false := by simp; omega
  have hd' : decide (1024 < s.size) = false := by simp; omega
  have hb0 : Below w.heap.size w ((w.alloc (.cells noNode 28)).alloc (.cells (rdC s fl 0 0 0) 54)) := by go_grown
  have hz := two_new w (.cells noNode 28) (.cells (rdC s fl 0 0 0) 54)
  have HR := Lib.hid (RdAt.mk hE (Nat.le_succ _) hb0 hz.2)
  have Z1 := Lib.hid hz.1
  have HB0 := Lib.hid hb0
  have hs1 : ((w.alloc (.cells noNode 28)).alloc (.cells (rdC s fl 0 0 0) 54)).heap.size = w.heap.size + 2 := by simp
  clear hE hb0 hl hz
  go_enter Tryz.func12, Tryz.ntmps12
  go_wp2_with fail
  refine (HC.out _ (w.heap.size + 1) HR.out).mono ?_
  intro e w2 he
  generalize World.alloc (World.alloc _ _) _ = W at *
  obtain ⟨v, F, rfl, ho, hF, hr2, ht2⟩ := he.ok rfl
  obtain ⟨p, c, rfl, hl⟩ := ho.slice
  have hbA : Below w2.heap.size w2 (w2.alloc (.cells (x.cells (.slice p x.subs.length c)) 28)) := (Below.refl _ _).alloc (Nat.le_refl _) _
  have HO3 := Lib.hid (ho.later hbA)
  have HF3 := Lib.hid hF
  have Z3 := Lib.hid (keep_blk hbA ((ht2.block w.heap.size (by omega) (by simp)).trans Z1.out))
  have HP3 := Lib.hid (keep_blk hbA hr2)
  have Y3 := Lib.hid (heap_alloc_new w2 (.cells (x.cells (.slice p x.subs.length c)) 28))
  have hb2 : Below w.heap.size w w2 := HB0.out.trans (ht2.below (fun k hk => by rw [List.mem_singleton.1 hk]; omega) HB0.out.size)
  have HB3 := Lib.hid (hb2.trans (hbA.mono hb2.size))
  have hs2 : w.heap.size + 2 ≤ w2.heap.size := by have := ht2.size; omega
  have hs3 : w.heap.size < (w2.alloc (.cells (x.cells (.slice p x.subs.length c)) 28)).heap.size := by have := hbA.size; omega
  clear ho hF hr2 ht2 he hbA Z1 HB0 HR hb2
  unfold Tr.cells at *
  go_upto_region 7 with (fail)
  generalize World.alloc w2 _ = W3 at *
  refine Ri.wp_region_frame (by kernel_rfl) (by kernel_rfl) (by kernel_rfl) (by kernel_rfl)
    (fun L v w' => Below w.heap.size w w' ∧ W3.heap.size ≤ w'.heap.size ∧ (L 3 = true → w'.heap[w.heap.size]? = some (.cells #[.int .i64 (x).kind, .int .u64 (Oc.U (x).w0), .int .u64 (Oc.U (x).w1), .int .u64 (Oc.U (x).w2), .int .u64 (Oc.U (x).w3), .slice p x.subs.length c, .int .i64 (x).num, .int .i64 (x).least, .int .i64 (x).most, .bool (x).bare] 28)) ∧ (L 3 = false → w'.heap[w.heap.size]? = some (.cells noNode 28)) ∧ w'.heap[(w.heap.size + 1)]? = some (.cells (rdC s fl j g 0) 54) ∧ w'.heap[w2.heap.size]? = some (.cells #[.int .i64 (x).kind, .int .u64 (Oc.U (x).w0), .int .u64 (Oc.U (x).w1), .int .u64 (Oc.U (x).w2), .int .u64 (Oc.U (x).w3), .slice p x.subs.length c, .int .i64 (x).num, .int .i64 (x).least, .int .i64 (x).most, .bool (x).bare] 28) ∧ (∀ k, k < W3.heap.size → k ≠ w.heap.size → w'.heap[k]? = W3.heap[k]?) ∧ (L 0 = true → v 0 = .agg #[.int .i64 (x).kind, .int .u64 (Oc.U (x).w0), .int .u64 (Oc.U (x).w1), .int .u64 (Oc.U (x).w2), .int .u64 (Oc.U (x).w3), .slice p x.subs.length c, .int .i64 (x).num, .int .i64 (x).least, .int .i64 (x).most, .bool (x).bare]) ∧ (L 1 = true → v 1 = .pointer (some ⟨w.heap.size + 1, 3, none⟩)) ∧ (L 2 = true → v 2 = .int .i64 g) ∧ (L 4 = true → v 4 = .int .i64 g) ∧ (L 5 = true → v 5 = .nilIface))
    ?_ ?_ ?_
  · exact ⟨HB3.out.drew, Nat.le_refl _, (by simp), (fun _ => Z3.out), HP3.out, Y3.out, fun _ _ _ => rfl, by simp, by simp, by simp, by simp, by simp⟩
  · intro i hi9 L v w9 xa hI hL hd hv ho
    have hi' : i = 0 ∨ i = 1 ∨ i = 2 ∨ i = 3 ∨ i = 4 ∨ i = 5 := by simp at hi9; omega
    obtain ⟨hb, hz, qn, qo, k0, k1, kf, q0, q1, q2, q4, q5⟩ := hI
    rcases hi' with rfl | rfl | rfl | rfl | rfl | rfl
    · have e8 : xa.tmps.getD 8 undef = .pointer (some ⟨w2.heap.size, 0, none⟩) := ho 8 (by kernel_rfl)
      refine Ri.step_plain rfl rfl (fun K' hK => ?_)
      refine wp_load_row _ _ rfl _ e8 _ _ _ _ k1 Tryz.underlying28 rfl (by kernel_rfl) ?_
      exact hK _ _ ⟨_, _, rfl, rfl, hb, hz, qn, qo, k0, k1, kf, fun _ => rfl, q1, q2, q4, q5⟩
    · have e7 : xa.tmps.getD 7 undef = .pointer (some ⟨w.heap.size + 1, 0, none⟩) := ho 7 (by kernel_rfl)
      refine Ri.step_plain rfl rfl (fun K' hK => ?_)
      go_simp
      exact hK _ _ ⟨_, _, rfl, rfl, hb, hz, qn, qo, k0, k1, kf, q0, fun _ => rfl, q2, q4, q5⟩
    · have l0 : L 1 = true := by have := hd _ rfl; simp [Region.binds] at this; simp [this]
      have f1 := (hv 1 28 rfl l0).trans (q1 l0)
      refine Ri.step_plain rfl rfl (fun K' hK => ?_)
      obtain ⟨_, _, _, k3, _⟩ := rd5 k0
      go_simp
      exact hK _ _ ⟨_, _, rfl, rfl, hb, hz, qn, qo, k0, k1, kf, q0, q1, fun _ => rfl, q4, q5⟩
    · have l0 : L 0 = true := by have := hd _ rfl; simp [Region.binds] at this; simp [this]
      have f0 := (hv 0 27 rfl l0).trans (q0 l0)
      have e4 : xa.tmps.getD 4 undef = .pointer (some ⟨w.heap.size, 0, none⟩) := ho 4 (by kernel_rfl)
      refine Ri.step_plain rfl rfl (fun K' hK => ?_)
      refine wp_store_row _ _ _ rfl w.heap.size #[.int .i64 (x).kind, .int .u64 (Oc.U (x).w0), .int .u64 (Oc.U (x).w1), .int .u64 (Oc.U (x).w2), .int .u64 (Oc.U (x).w3), .slice p x.subs.length c, .int .i64 (x).num, .int .i64 (x).least, .int .i64 (x).most, .bool (x).bare] e4 f0 28 _ (qo hL) (by kernel_rfl) (by kernel_rfl) (all_oneCell_node x p x.subs.length c) ?_
      exact hK _ _ ⟨_, undef, rfl, rfl, below_setRow hb (Nat.le_refl _) _, by simpa using hz, (fun _ => heap_setRow (qo hL)), (fun h => by cases h), (heap_setRow_other _ _ _ (by omega)).trans k0, (heap_setRow_other _ _ _ (by omega)).trans k1, (fun k hk hn => (heap_setRow_other _ _ _ hn).trans (kf k hk hn)), q0, q1, q2, q4, q5⟩
    · have l0 : L 2 = true := by have := hd _ rfl; simp [Region.binds] at this; simp [this]
      have f2 := (hv 2 29 rfl l0).trans (q2 l0)
      refine Ri.step_plain rfl rfl (fun K' hK => ?_)
      go_simp
      exact hK _ _ ⟨_, _, rfl, rfl, hb, hz, qn, qo, k0, k1, kf, q0, q1, q2, fun _ => rfl, q5⟩
    · refine Ri.step_plain rfl rfl (fun K' hK => ?_)
      go_simp
      exact hK _ _ ⟨_, _, rfl, rfl, hb, hz, qn, qo, k0, k1, kf, q0, q1, q2, q4, fun _ => rfl⟩
  · rintro v w9 ⟨hb, hz, qn, -, k0, k1, kf, -, -, -, q4, q5⟩
    have zN := qn rfl; clear qn
    have q4' : v 4 = .int .i64 g := q4 rfl
    have q5' : v 5 = .nilIface := q5 rfl
    simp only [Ri.frame, List.zipIdx, List.foldl_cons, List.foldl_nil, if_true, List.setIfInBounds_toArray, List.set_cons_zero, List.set_cons_succ, Nat.reduceAdd, q4', q5']
    clear q4 q4' q5 q5'
    generalize v 0 = y0; generalize v 1 = y1; generalize v 2 = y2
    have HOw := Lib.hid (HO3.out.keep (w' := w9) fun b hb => kf b (HO3.out.lt b hb) (by have := HF3.out b hb; omega))
    have HK2 : Hid (∀ b, b ∈ F → w.heap.size ≤ b) := Lib.hid fun b hb => by have := HF3.out b hb; omega
    have HBw := Lib.hid hb
    have ZN := Lib.hid zN
    clear hb zN kf
    go_wp2
    exact bodyPost_ret (results_row_two rfl _ _ w.heap.size 28 #[.int .i64 (x).kind, .int .u64 (Oc.U (x).w0), .int .u64 (Oc.U (x).w1), .int .u64 (Oc.U (x).w2), .int .u64 (Oc.U (x).w3), .slice p x.subs.length c, .int .i64 (x).num, .int .i64 (x).least, .int .i64 (x).most, .bool (x).bare] (0, 0) _ _ _ rfl rfl rfl ZN.out Tryz.underlying28 rfl (by kernel_rfl)) rfl ⟨⟨.slice p x.subs.length c, F, by exact rfl, HOw.out, HK2.out⟩, HBw.out⟩
/-- What Parse answers: what chapter 6 promises. -/
theorem parse_does (A : Nat → Addr) (w : World) (s : ByteArray) (fl : Int) (hE : BrEnv w A) :
    Calls Tryz.prog 12 #[.string s, .int .i64 fl] w (PaEnd A (Ep.parse (bt s) s.size (icB fl) (nlB fl)) w) := by
  unfold Ep.parse
  by_cases hl : 1024 < s.size
  · rw [if_pos hl]; exact parse_long A w s fl hE hl
  · rw [if_neg hl]
    have hw : ∀ O, Ep.whole (bt s) s.size (icB fl) (nlB fl) = O → ∀ w' R, RdAt w A w' R s fl 0 0 0 → Calls Tryz.prog 30 #[.pointer (some ⟨R, 0, none⟩)] w' (NdEnd A R s fl 0 O w') := fun O hO w' R hR => by
      rw [← hO]; exact ewhole_any w A w' R s (by omega) fl hR
    cases hO : Ep.whole (bt s) s.size (icB fl) (nlB fl) with
    | err c q => exact parse_err A w s fl hE (by omega) c q (hw _ hO)
    | ok x j g => exact parse_ok A w s fl hE (by omega) x j g (hw _ hO)
end Go.Proofs.YtlbhbjmobcikfaaGreatDoor
/- The fixed facts that every statement of ere begins with. -/
namespace Go.Proofs.YtlbhbjmobcikfaaGreatDoor
open Go.RowKit
theorem ten3 {w : World} {b : Nat} {x0 x1 x2 x3 x4 x5 x6 x7 x8 x9 : Value} {t : TypeId} (h : w.heap[b]? = some (.cells #[x0, x1, x2, x3, x4, x5, x6, x7, x8, x9] t)) : w.cell? ⟨b, 0, none⟩ = some x0 ∧ w.cell? ⟨b, 7, none⟩ = some x7 ∧ w.cell? ⟨b, 8, none⟩ = some x8 := by
  simp [World.cell?, h]
def epT1 : ByteArray := ⟨#[40, 97, 42, 41, 43]⟩
def epT2 : ByteArray := ⟨#[97, 42, 42]⟩
def epR1 : Tr := .rep 1 (-1) (.grp (1 : Nat) (.rep 0 (-1) (Ep.one false 97)))
theorem ic0 : icB 0 = false := by decide
theorem nl0 : nlB 0 = false := by decide
theorem ep1 : Ep.parse (bt epT1) epT1.size (icB 0) (nlB 0) = .ok epR1 5 1 := by
  rw [ic0, nl0]
  rfl
theorem ep2 : Ep.parse (bt epT2) epT2.size (icB 0) (nlB 0) = .err 9 2 := by
  rw [ic0, nl0]
  rfl
set_option maxRecDepth 100000 in
set_option maxHeartbeats 2000000 in
theorem eplives_any (A : Nat → Addr) (w : World) (hE : BrEnv w A) (hT : ErrType w) : Calls Tryz.prog 11 #[] w fun e w' => e = .returned (.bool true) ∧ Below w.heap.size w w' := by
  have HE := Lib.hid hE; have HT := Lib.hid hT
  have HD := Lib.hid parse_does
  clear hE hT
  go_enter Tryz.func11, Tryz.ntmps11
  go_wp2_with fail
  refine (HD.out A _ epT1 0 HE.out).mono ?_
  intro e w1 he
  obtain ⟨v1, F1, rfl, ho1, -, hb1⟩ := he.ok ep1
  obtain ⟨p1, c1, rfl, hl1⟩ := ho1.slice
  have hbA := hb1.alloc hb1.size (.cells (epR1.cells (.slice p1 epR1.subs.length c1)) 28)
  have Z1 := Lib.hid (heap_alloc_new w1 (.cells (epR1.cells (.slice p1 epR1.subs.length c1)) 28))
  have HB1 := Lib.hid hbA
  clear he ho1 hb1 hbA hl1
  unfold Tr.cells at *
  have k1 : epR1.kind = 8 := rfl
  have k2 : epR1.least = 1 := rfl
  have k3 : epR1.most = -1 := rfl
  rw [k1, k2, k3] at *
  clear k1 k2 k3
  generalize epR1.w0 = x0 at *
  generalize epR1.w1 = x1 at *
  generalize epR1.w2 = x2 at *
  generalize epR1.w3 = x3 at *
  generalize epR1.subs.length = xl at *
  generalize epR1.num = xn at *
  generalize epR1.bare = xb at *
  go_wp2_with fail
  refine (HD.out A _ epT2 0 (HE.out.below HB1.out)).mono ?_
  intro e w2 he
  obtain ⟨v, rfl, hv, hb2⟩ := he.err ep2
  obtain ⟨q2, rfl⟩ := hv.iface
  have hbB : Below _ _ (w2.alloc (.cells noNode 28)) := hb2.alloc hb2.size _
  have Z2 := Lib.hid (keep_blk hbB Z1.out)
  have HB2 := Lib.hid (HB1.out.trans (hbB.mono HB1.out.size))
  have HV := Lib.hid (hv.at.later ((Below.refl w2.heap.size w2).alloc (Nat.le_refl _) (.cells noNode 28)))
  have HE2 := Lib.hid (HE.out.below HB2.out); have HT2 := Lib.hid (HT.out.later HB2.out)
  obtain ⟨d0, d7, d8⟩ := ten3 Z2.out
  clear he hb2 hbB hv
  go_wp2_with fail
  refine (HV.out.num HE2.out).mono ?_; rintro e w6 ⟨rfl, hb6⟩
  have HB6 := Lib.hid (HB2.out.trans (hb6.mono HB2.out.size)); have HT6 := Lib.hid (HT2.out.later hb6); have HV6 := Lib.hid (HV.out.later hb6)
  clear hb6 d0 d7 d8
  go_wp2_with fail
  refine (HV6.out.place HT6.out).mono ?_; rintro e w7 ⟨rfl, hb7⟩
  have HB7 := Lib.hid (HB6.out.trans (hb7.mono HB6.out.size))
  clear hb7
  go_wp2
  go_ret
  exact ⟨rfl, HB7.out⟩
end Go.Proofs.YtlbhbjmobcikfaaGreatDoor
/- A pattern inside a longer one: what is read of it stays, shifted, its groups' numbers raised. Plain facts: nothing of the program. -/
namespace Go.Proofs.YtlbhbjmobcikfaaGreatDoor
namespace Tr
mutual
/-- A tree with all its groups' numbers k more. -/
def rzT (k : Nat) : Tr → Tr
  | .node kd a b c d s n lo hi br => .node kd a b c d (rzS k s) (if kd = 7 then n + k else n) lo hi br
def rzS (k : Nat) : List Tr → List Tr
  | [] => []
  | t :: l => rzT k t :: rzS k l
end
theorem rzS_map (k : Nat) : ∀ l : List Tr, rzS k l = l.map (rzT k)
  | [] => rfl
  | t :: l => by rw [rzS, rzS_map k l, List.map_cons]
theorem rzT_eq (k : Nat) (t : Tr) : t.rzT k = .node t.kind t.w0 t.w1 t.w2 t.w3 (t.subs.map (rzT k)) (if t.kind = 7 then t.num + k else t.num) t.least t.most t.bare := by
  cases t; rw [rzT, rzS_map]; rfl
theorem rzT_zero : ∀ t : Tr, t.rzT 0 = t := by
  intro t
  induction t using Tr.rec_subs with
  | h t ih =>
    rw [rzT_eq]
    have hm : t.subs.map (rzT 0) = t.subs := by
      refine List.ext_getElem? fun i => ?_
      rw [List.getElem?_map]
      cases h : t.subs[i]? with
      | none => rfl
      | some u => rw [Option.map_some, ih u (List.mem_of_getElem? h)]
    rw [hm, show (if t.kind = 7 then t.num + ((0 : Nat) : Int) else t.num) = t.num by split <;> simp]
    exact (Tr.eta t).symm
theorem sz_rz (k : Nat) : ∀ t : Tr, (t.rzT k).szT = t.szT := by
  intro t
  induction t using Tr.rec_subs with
  | h t ih =>
    have hs : ∀ l : List Tr, (∀ u, u ∈ l → (u.rzT k).szT = u.szT) → szS (l.map (rzT k)) = szS l := by
      intro l
      induction l with
      | nil => intro _; rfl
      | cons a l ih2 =>
        intro h
        rw [List.map_cons, szS, szS, h a List.mem_cons_self, ih2 fun u hu => h u (List.mem_cons_of_mem _ hu)]
    cases t with
    | node kd a b c d s n lo hi br =>
      rw [rzT, rzS_map, szT, szT]
      split
      · cases s with
        | nil => rfl
        | cons x l => rw [List.map_cons, szH, szH, ih x (by simp [subs])]
      · rw [hs s fun u hu => ih u (by simpa [subs] using hu)]
theorem rz_bytes (k : Nat) (P : Nat → Bool) : (Tr.bytes P).rzT k = Tr.bytes P := by
  unfold Tr.bytes; rw [rzT, rzS, if_neg (by decide)]
theorem rz_leaf (k : Nat) (q : Int) (h : q ≠ 7) : (Tr.leaf q).rzT k = Tr.leaf q := by
  unfold Tr.leaf; rw [rzT, rzS, if_neg h]
theorem rz_rep (k : Nat) (a b : Int) (t : Tr) : (Tr.rep a b t).rzT k = Tr.rep a b (t.rzT k) := by
  unfold Tr.rep; rw [rzT, rzS, rzS, if_neg (by decide)]
theorem rz_grp (k g : Nat) (t : Tr) : (Tr.grp (g : Nat) t).rzT k = Tr.grp ((g + k : Nat) : Int) (t.rzT k) := by
  unfold Tr.grp; rw [rzT, rzS, rzS, if_pos rfl]; simp
theorem rz_several (k : Nat) (q : Int) (h : q ≠ 7) (l : List Tr) : (Tr.several q l).rzT k = Tr.several q (l.map (rzT k)) := by
  match l with
  | [] => exact rz_leaf k 1 (by decide)
  | [t] => rfl
  | a :: b :: r =>
    show (Tr.many q (a :: b :: r)).rzT k = Tr.many q _
    unfold Tr.many; rw [rzT, rzS_map, if_neg h]; rfl
end Tr
namespace Br
/-- A bracket expression that is read well inside a longer text. -/
theorem whole_in {f F : Nat → Nat} {n N s a j : Nat} {ic nl : Bool} {P : Nat → Bool} (hf : Txt f n) (hw : Within f F n N s) (ha : a < n) (h : whole f n a ic nl = .ok P j) : whole F N (a + s) ic nl = .ok P (j + s) := by
  have hfit := hw.fit
  have h1 : a + 1 < n := by
    by_cases h1 : a + 1 < n
    · exact h1
    · exfalso
      have he : a + 1 = n := by omega
      unfold whole at h
      simp only at h
      rw [hf.2 (a + 1) (by omega)] at h
      simp only [show ((256 : Nat) == 94) = false from rfl, Bool.false_eq_true, if_false] at h
      unfold items at h
      rw [if_neg (by simp), if_pos (by omega)] at h
      cases h
  have hs := hw.same (a + 1) h1
  unfold whole at h ⊢
  simp only at h ⊢
  rw [show a + s + 1 = a + 1 + s by omega, hs]
  generalize hi : (if f (a + 1) == 94 then a + 2 else a + 1) = i at h
  have hi2 : i ≤ n := by rw [← hi]; split <;> omega
  rw [show (if f (a + 1) == 94 then a + s + 2 else a + 1 + s) = i + s by rw [← hi]; split <;> omega]
  cases hr : items f n a (n + 1) i (fun _ => false) false with
  | err c p => rw [hr] at h; cases h
  | ok Q j' =>
    rw [hr] at h
    unfold ends at h
    injection h with h2 h3
    rcases items_in (a' := a + s) (k := n + 1) (k' := N + 1) hf hw hi2 (by omega) (fun p => by rw [hr]; intro h; cases h) with ⟨i', -, h5, -⟩ | ⟨-, h5⟩
    · rw [hr] at h5; cases h5
    · rw [h5, hr, ← h2, ← h3]
      show ends ic nl _ (.ok Q (j' + s)) = _
      unfold ends
      rw [show j' + 1 + s = j' + s + 1 by omega]
end Br
namespace Ep
/-- Text f of n bytes stands in F of N bytes, s places on; behind it a ')', a '|' or the end. -/
structure Lies (f F : Nat → Nat) (n N s : Nat) : Prop where
  txt : Br.Txt f n
  txtF : Br.Txt F N
  hw : Br.Within f F n N s
  tail : F (n + s) = 41 ∨ F (n + s) = 124 ∨ F (n + s) = 256
variable {f F : Nat → Nat} {n N s k : Nat}
theorem find_in (hw : Br.Within f F n N s) (c : Nat) : ∀ q i, i + q ≤ n → find F c q (i + s) = (find f c q i).map (· + s)
  | 0, i, _ => rfl
  | q + 1, i, h => by
    unfold find
    rw [hw.same i (by omega)]
    split
    · rfl
    · rw [show i + s + 1 = i + 1 + s by omega]; exact find_in hw c q (i + 1) (by omega)
theorem find_more {g : Nat → Nat} {c : Nat} : ∀ {q i e q' : Nat}, q ≤ q' → find g c q i = some e → find g c q' i = some e
  | 0, _, _, _, _, h => by cases h
  | q + 1, i, e, 0, hq, h => by omega
  | q + 1, i, e, q' + 1, hq, h => by
    unfold find at h ⊢
    split
    · rename_i hc; rw [if_pos hc] at h; exact h
    · rename_i hc; rw [if_neg hc] at h; exact find_more (by omega) h
theorem digs_in (hw : Br.Within f F n N s) : ∀ q i a, i + q ≤ n → digs F q (i + s) a = digs f q i a
  | 0, _, _, _ => rfl
  | q + 1, i, a, h => by
    unfold digs
    rw [hw.same i (by omega)]
    split
    · rw [show i + s + 1 = i + 1 + s by omega]; exact digs_in hw q (i + 1) _ (by omega)
    · rfl
theorem num_in (hw : Br.Within f F n N s) {i e : Nat} (he : e ≤ n) : num F (i + s) (e + s) = num f i e := by
  unfold num
  by_cases hc : e ≤ i ∨ i + 3 < e
  · rw [if_pos hc, if_pos (by omega)]
  · rw [if_neg hc, if_neg (by omega), show e + s - (i + s) = e - i by omega, digs_in hw _ _ _ (by omega)]
theorem counts_in (hw : Br.Within f F n N s) {i e : Nat} (he : e ≤ n) : counts F (i + s) (e + s) = counts f i e := by
  unfold counts
  rw [show e + s - (i + s) = e - i by omega]
  by_cases hi : i ≤ e
  · rw [find_in hw 44 (e - i) i (by omega)]
    cases hm : find f 44 (e - i) i with
    | none => rw [Option.map_none]; simp only [num_in hw he]
    | some m =>
      obtain ⟨h1, h2, -, -⟩ := find_some hm
      rw [Option.map_some]
      simp only [num_in hw (show m ≤ n by omega), show m + s + 1 = m + 1 + s by omega, num_in hw he, show (m + 1 + s = e + s) = (m + 1 = e) from propext (by omega)]
  · rw [show e - i = 0 by omega]
    simp only [find, num_in hw he]
theorem counted_in {t u : Tr} {a b : Int} {p q p' q' g j g' : Nat} (h : counted t a b p q g = .ok u j g') (hq : q' = q + s) : counted (t.rzT k) a b p' q' (g + k) = .ok (u.rzT k) (j + s) (g' + k) := by
  unfold counted at h ⊢
  rw [← Tr.rz_rep, Tr.sz_rz]
  split at h
  · cases h
  · rename_i hc
    injection h with h1 h2 h3
    subst h1 h2 h3 hq
    rw [if_neg hc]
theorem Lies.tail_no (h : Lies f F n N s) {i : Nat} (hi : i ≤ n) (hn : ¬ i < n) {c : Nat} (h1 : c ≠ 41) (h2 : c ≠ 124) (h3 : c ≠ 256) : F (i + s) ≠ c := by
  obtain rfl : i = n := by omega
  rcases h.tail with e | e | e <;> rw [e] <;> omega
theorem rep_in (hl : Lies f F n N s) {t u : Tr} {i g j g' : Nat} (hi : i ≤ n) (h : rep f n t i g = .ok u j g') : rep F N (t.rzT k) (i + s) (g + k) = .ok (u.rzT k) (j + s) (g' + k) := by
  have hfit := hl.hw.fit
  by_cases hn : i < n
  · have hs := hl.hw.same i hn
    unfold rep at h ⊢
    rw [hs]
    split
    · rename_i hc; rw [if_pos hc] at h; exact counted_in h (by omega)
    rename_i c1; rw [if_neg c1] at h
    split
    · rename_i hc; rw [if_pos hc] at h; exact counted_in h (by omega)
    rename_i c2; rw [if_neg c2] at h
    split
    · rename_i hc; rw [if_pos hc] at h; exact counted_in h (by omega)
    rename_i c3; rw [if_neg c3] at h
    split
    · rename_i hc
      rw [if_pos hc] at h
      cases he : find f 125 (n - (i + 1)) (i + 1) with
      | none => rw [he] at h; cases h
      | some e =>
        rw [he] at h
        obtain ⟨h1, h2, -, -⟩ := find_some he
        have hF : find F 125 (N - (i + s + 1)) (i + s + 1) = some (e + s) := by
          rw [show i + s + 1 = i + 1 + s by omega]
          refine find_more (q := n - (i + 1)) (by omega) ?_
          rw [find_in hl.hw 125 _ _ (by omega), he]; rfl
        rw [hF]
        simp only at h ⊢
        rw [show i + s + 1 = i + 1 + s by omega, counts_in hl.hw (by omega)]
        cases hab : counts f (i + 1) e with
        | none => rw [hab] at h; cases h
        | some ab => rw [hab] at h; exact counted_in h (by omega)
    · rename_i hc
      rw [if_neg hc] at h
      injection h with h1 h2 h3
      subst h1 h2 h3; rfl
  · have hT := fun c h1 h2 h3 => hl.tail_no hi hn (c := c) h1 h2 h3
    obtain rfl : i = n := by omega
    unfold rep at h ⊢
    have h256 := hl.txt.2 i (Nat.le_refl _)
    rw [h256] at h
    simp only [show ¬ (256 = 42) from by decide, show ¬ (256 = 43) from by decide, show ¬ (256 = 63) from by decide, show ¬ (256 = 123) from by decide, if_false] at h
    rw [if_neg (hT 42 (by decide) (by decide) (by decide)), if_neg (hT 43 (by decide) (by decide) (by decide)), if_neg (hT 63 (by decide) (by decide) (by decide)), if_neg (hT 123 (by decide) (by decide) (by decide))]
    injection h with h1 h2 h3
    subst h1 h2 h3; rfl
/-- What is read well is read so again, s places and k groups on; or, if E allows, groups lie too deep. -/
def Rel (E : Prop) (s k : Nat) (O O' : Out) : Prop := ∀ t j g', O = .ok t j g' → O' = .ok (t.rzT k) (j + s) (g' + k) ∨ (E ∧ ∃ p, O' = .err 11 p)
def RelH (E : Prop) (n s k : Nat) (H H' : Nat → Nat → Out) : Prop := ∀ i g, i < n → Rel E s k (H i g) (H' (i + s) (g + k))
variable {E : Prop} {ic nl : Bool} {H H' : Nat → Nat → Out}
theorem atom_in (hl : Lies f F n N s) (hH : RelH E n s k H H') {i g : Nat} (hi : i < n) : Rel E s k (atom f n ic nl H i g) (atom F N ic nl H' (i + s) (g + k)) := by
  intro t j g' h
  have hs := hl.hw.same i hi
  unfold atom at h ⊢
  rw [hs]
  split
  · rename_i hc; rw [if_pos hc] at h; exact hH i g hi t j g' h
  rename_i c1; rw [if_neg c1] at h
  split
  · rename_i hc
    rw [if_pos hc] at h
    cases hw : Br.whole f n i ic nl with
    | err c p => rw [hw] at h; cases h
    | ok P q =>
      rw [hw] at h
      rw [Br.whole_in hl.txt hl.hw hi hw]
      injection h with h1 h2 h3
      subst h1 h2 h3
      exact .inl (by rw [Tr.rz_bytes])
  rename_i c2; rw [if_neg c2] at h
  split
  · rename_i hc
    rw [if_pos hc] at h
    by_cases hcl : Cl.cls 8 (f (i + 1)) = true
    · rw [if_pos hcl] at h
      have hn : i + 1 < n := by
        by_cases hn : i + 1 < n
        · exact hn
        · rw [hl.txt.2 (i + 1) (by omega)] at hcl; exact absurd hcl (by decide)
      rw [show i + s + 1 = i + 1 + s by omega, hl.hw.same (i + 1) hn, if_pos hcl]
      injection h with h1 h2 h3
      subst h1 h2 h3
      exact .inl (by unfold one; rw [Tr.rz_bytes, show i + 2 + s = i + s + 2 by omega])
    · rw [if_neg hcl] at h; cases h
  rename_i c3; rw [if_neg c3] at h
  split
  · rename_i hc
    rw [if_pos hc] at h
    injection h with h1 h2 h3
    subst h1 h2 h3
    exact .inl (by unfold dot; rw [Tr.rz_bytes, show i + 1 + s = i + s + 1 by omega])
  · rename_i hc
    rw [if_neg hc] at h
    injection h with h1 h2 h3
    subst h1 h2 h3
    exact .inl (by unfold one; rw [Tr.rz_bytes, show i + 1 + s = i + s + 1 by omega])
theorem piece_in (hl : Lies f F n N s) (hA : Ahead n H) (hH : RelH E n s k H H') {i g : Nat} (hi : i < n) : Rel E s k (piece f n ic nl H i g) (piece F N ic nl H' (i + s) (g + k)) := by
  intro t j g' h
  have hs := hl.hw.same i hi
  unfold piece at h ⊢
  rw [hs]
  split
  · rename_i hc
    rw [if_pos hc] at h
    injection h with h1 h2 h3
    subst h1 h2 h3
    exact .inl (by rw [Tr.rz_leaf _ _ (by decide), show i + 1 + s = i + s + 1 by omega])
  rename_i c1; rw [if_neg c1] at h
  split
  · rename_i hc
    rw [if_pos hc] at h
    injection h with h1 h2 h3
    subst h1 h2 h3
    exact .inl (by rw [Tr.rz_leaf _ _ (by decide), show i + 1 + s = i + s + 1 by omega])
  rename_i c2; rw [if_neg c2] at h
  split
  · rename_i hc; rw [if_pos hc] at h; cases h
  rename_i c3; rw [if_neg c3] at h
  cases ha : atom f n ic nl H i g with
  | err c p => rw [ha] at h; cases h
  | ok u q g2 =>
    rw [ha] at h
    rcases atom_in (ic := ic) (nl := nl) (g := g) hl hH hi u q g2 ha with e | ⟨hE, p, e⟩
    · rw [e]; exact .inl (rep_in hl (atom_next hl.txt hA hi ha).2 h)
    · rw [e]; exact .inr ⟨hE, p, rfl⟩
theorem branch_in (hl : Lies f F n N s) (hA : Ahead n H) (hH : RelH E n s k H H') : ∀ (q q' : Nat) (l : List Tr) (i g : Nat), q ≤ q' → i ≤ n → Rel E s k (branch f n ic nl H q l i g) (branch F N ic nl H' q' (l.map (Tr.rzT k)) (i + s) (g + k))
  | 0, _, _, _, _, _, _ => fun t j g' h => by cases h
  | q + 1, 0, _, _, _, hq, _ => by omega
  | q + 1, q' + 1, l, i, g, hq, hi => fun t j g' h => by
    have hfit := hl.hw.fit
    unfold branch at h ⊢
    by_cases hc : n ≤ i ∨ f i = 124 ∨ f i = 41
    · rw [if_pos hc] at h
      have hc' : N ≤ i + s ∨ F (i + s) = 124 ∨ F (i + s) = 41 := by
        by_cases hn : i < n
        · rw [hl.hw.same i hn]; omega
        · obtain rfl : i = n := by omega
          rcases hl.tail with e | e | e
          · exact .inr (.inr e)
          · exact .inr (.inl e)
          · left
            by_cases hN : i + s < N
            · have := hl.txtF.1 _ hN; omega
            · omega
      rw [if_pos hc']
      injection h with h1 h2 h3
      subst h1 h2 h3
      exact .inl (by rw [Tr.rz_several _ _ (by decide)])
    · rw [if_neg hc] at h
      have hs := hl.hw.same i (by omega)
      rw [if_neg (by rw [hs]; omega)]
      cases hp : piece f n ic nl H i g with
      | err c p => rw [hp] at h; cases h
      | ok u m g2 =>
        rw [hp] at h
        rcases piece_in (ic := ic) (nl := nl) (g := g) hl hA hH (show i < n by omega) u m g2 hp with e | ⟨hE, p, e⟩
        · rw [e]
          have := branch_in hl hA hH q q' (l ++ [u]) m g2 (by omega) (piece_next hl.txt hA (by omega) hp).2 t j g' h
          rw [List.map_append] at this
          exact this
        · rw [e]; exact .inr ⟨hE, p, rfl⟩
theorem alts_in (hl : Lies f F n N s) (hA : Ahead n H) (hH : RelH E n s k H H') : ∀ (q q' : Nat) (l : List Tr) (i g : Nat), q ≤ q' → i ≤ n → ∀ t j g', (j < n ∨ F (n + s) ≠ 124) → alts f n ic nl H q l i g = .ok t j g' →
    alts F N ic nl H' q' (l.map (Tr.rzT k)) (i + s) (g + k) = .ok (t.rzT k) (j + s) (g' + k) ∨ (E ∧ ∃ p, alts F N ic nl H' q' (l.map (Tr.rzT k)) (i + s) (g + k) = .err 11 p)
  | 0, _, _, _, _, _, _ => fun t j g' _ h => by cases h
  | q + 1, 0, _, _, _, hq, _ => by omega
  | q + 1, q' + 1, l, i, g, hq, hi => fun t j g' hj h => by
    have hfit := hl.hw.fit
    unfold alts at h ⊢
    cases hp : branch f n ic nl H (n + 1) [] i g with
    | err c p => rw [hp] at h; cases h
    | ok u m g2 =>
      rw [hp] at h
      have hm := branch_next hl.txt hA hi hp
      rcases branch_in (ic := ic) (nl := nl) hl hA hH (n + 1) (N + 1) [] i g (by omega) hi u m g2 hp with e | ⟨hE, p, e⟩
      · rw [List.map_nil] at e
        rw [e]
        simp only at h ⊢
        by_cases hc : f m = 124
        · rw [if_pos hc] at h
          have hlt := hl.txt.lt hc (by decide)
          rw [hl.hw.same m hlt, if_pos hc]
          have := alts_in hl hA hH q q' (l ++ [u]) (m + 1) g2 (by omega) (by omega) t j g' hj h
          rw [List.map_append, show m + 1 + s = m + s + 1 by omega] at this
          exact this
        · rw [if_neg hc] at h
          injection h with h1 h2 h3
          subst h1 h2 h3
          have hc' : F (m + s) ≠ 124 := by
            by_cases hlt : m < n
            · rw [hl.hw.same m hlt]; exact hc
            · obtain rfl : m = n := by omega
              rcases hj with hj | hj
              · omega
              · exact hj
          rw [if_neg hc']
          exact .inl (by rw [Tr.rz_several _ _ (by decide), List.map_append]; rfl)
      · rw [List.map_nil] at e
        rw [e]; exact .inr ⟨hE, p, rfl⟩
theorem group_in (hl : Lies f F n N s) : ∀ r r', (r = r' ∨ E) → RelH E n s k (group f n ic nl r) (group F N ic nl r')
  | 0, _, _ => fun i g _ t j g' h => by cases h
  | r + 1, 0, hr => fun i g _ t j g' h => by
    rcases hr with hr | hr
    · omega
    · exact .inr ⟨hr, _, rfl⟩
  | r + 1, r' + 1, hr => fun i g hi t j g' h => by
    have hfit := hl.hw.fit
    unfold group at h ⊢
    cases hp : alts f n ic nl (group f n ic nl r) (n + 1) [] (i + 1) (g + 1) with
    | err c p => rw [hp] at h; cases h
    | ok u m g2 =>
      rw [hp] at h
      simp only at h
      split at h
      · rename_i hc
        injection h with h1 h2 h3
        subst h1 h2 h3
        have hlt := hl.txt.lt hc (by decide)
        have := alts_in (ic := ic) (nl := nl) hl (group_next hl.txt r) (group_in hl r r' (hr.imp (fun h => by omega) id)) (n + 1) (N + 1) [] (i + 1) (g + 1) (by omega) (by omega) u m g2 (.inl hlt) hp
        rw [List.map_nil, show i + 1 + s = i + s + 1 by omega, show g + 1 + k = g + k + 1 by omega] at this
        rcases this with e | ⟨hE, p, e⟩
        · rw [e]
          simp only [hl.hw.same m hlt, hc, if_true]
          exact .inl (by rw [Tr.rz_grp, show m + 1 + s = m + s + 1 by omega, show g + 1 + k = g + k + 1 by omega])
        · rw [e]; exact .inr ⟨hE, p, rfl⟩
      · cases h
end Ep
end Go.Proofs.YtlbhbjmobcikfaaGreatDoor
/- A pattern in brackets, and two with a bar between. Plain facts: nothing of the program. -/
namespace Go.Proofs.YtlbhbjmobcikfaaGreatDoor
namespace Ep
theorem whole_ok {f : Nat → Nat} {n : Nat} {ic nl : Bool} (hf : Br.Txt f n) {t : Tr} {j g : Nat} (h : parse f n ic nl = .ok t j g) : n ≤ 1024 ∧ j = n ∧ pat f n ic nl 32 0 0 = .ok t n g := by
  unfold parse at h
  split at h
  · cases h
  rename_i hn
  unfold whole at h
  cases hp : pat f n ic nl 32 0 0 with
  | err c p => rw [hp] at h; cases h
  | ok u m g2 =>
    rw [hp] at h
    simp only at h
    split at h
    · cases h
    rename_i hj
    split at h
    · cases h
    injection h with h1 h2 h3
    subst h1 h2 h3
    have h4 := alts_next hf (group_next hf 32) (by omega) hp
    obtain rfl : m = n := by omega
    exact ⟨by omega, rfl, rfl⟩
/-- A pattern in brackets. -/
theorem parse_paren {f F : Nat → Nat} {n : Nat} {ic nl : Bool} (hf : Br.Txt f n) (hF : Br.Txt F (n + 2)) (h0 : F 0 = 40) (hs : ∀ j, j < n → F (j + 1) = f j) (h9 : F (n + 1) = 41) (hn : n ≤ 1000) {t : Tr} {j g : Nat} (h : parse f n ic nl = .ok t j g) :
    (∃ p, parse F (n + 2) ic nl = .err 10 p) ∨ (∃ p, parse F (n + 2) ic nl = .err 11 p) ∨ parse F (n + 2) ic nl = .ok (.grp (1 : Nat) (t.rzT 1)) (n + 2) (g + 1) := by
  obtain ⟨-, -, hp⟩ := whole_ok hf h
  have hL : Lies f F n (n + 2) 1 := ⟨hf, hF, ⟨by omega, hs⟩, .inl h9⟩
  have h256 : F (n + 2) = 256 := hF.2 _ (Nat.le_refl _)
  have ha := alts_in (E := True) (ic := ic) (nl := nl) (k := 1) hL (group_next hf 32) (group_in hL 32 31 (.inr trivial)) (n + 1) (n + 3) [] 0 0 (by omega) (by omega) t n g (.inr (by rw [h9]; decide)) hp
  rw [List.map_nil] at ha
  have hgr : (∃ p, group F (n + 2) ic nl 32 0 0 = .err 11 p) ∨ group F (n + 2) ic nl 32 0 0 = .ok (.grp (1 : Nat) (t.rzT 1)) (n + 2) (g + 1) := by
    rw [group]
    rcases ha with e | ⟨-, p, e⟩
    · rw [e]; right; simp only [h9, if_true]
    · rw [e]; exact .inl ⟨p, rfl⟩
  have hpc : (∃ p, piece F (n + 2) ic nl (group F (n + 2) ic nl 32) 0 0 = .err 11 p) ∨ piece F (n + 2) ic nl (group F (n + 2) ic nl 32) 0 0 = .ok (.grp (1 : Nat) (t.rzT 1)) (n + 2) (g + 1) := by
    have ea : atom F (n + 2) ic nl (group F (n + 2) ic nl 32) 0 0 = group F (n + 2) ic nl 32 0 0 := by unfold atom; rw [if_pos h0]
    have hr0 : isRep (F 0) = false := by rw [h0]; decide
    unfold piece
    rw [if_neg (by omega), if_neg (by omega), hr0, ea]
    simp only [Bool.false_eq_true, if_false]
    rcases hgr with ⟨p, e⟩ | e
    · rw [e]; exact .inl ⟨p, rfl⟩
    · rw [e]
      right
      simp only [rep, h256, show ¬ (256 = 42) from by decide, show ¬ (256 = 43) from by decide, show ¬ (256 = 63) from by decide, show ¬ (256 = 123) from by decide, if_false]
  have hal : (∃ p, pat F (n + 2) ic nl 32 0 0 = .err 11 p) ∨ pat F (n + 2) ic nl 32 0 0 = .ok (.grp (1 : Nat) (t.rzT 1)) (n + 2) (g + 1) := by
    rw [pat, alts, branch, if_neg (by omega)]
    rcases hpc with ⟨p, e⟩ | e
    · rw [e]; exact .inl ⟨p, rfl⟩
    · rw [e]
      right
      simp only
      rw [branch, if_pos (.inl (Nat.le_refl _))]
      simp only [h256, show ¬ (256 = 124) from by decide, if_false, List.nil_append, Tr.several]
  unfold parse
  rw [if_neg (by omega)]
  unfold whole
  rcases hal with ⟨p, e⟩ | e
  · rw [e]; exact .inr (.inl ⟨p, rfl⟩)
  · rw [e]
    simp only [Nat.lt_irrefl, if_false]
    split
    · exact .inl ⟨_, rfl⟩
    · exact .inr (.inr rfl)
theorem alts_many {f : Nat → Nat} {n : Nat} {ic nl : Bool} {H : Nat → Nat → Out} : ∀ {q : Nat} {l : List Tr} {i g j g' : Nat} {t : Tr}, l ≠ [] → alts f n ic nl H q l i g = .ok t j g' → t.kind = 6
  | 0, _, _, _, _, _, _, _, h => by cases h
  | q + 1, l, i, g, j, g', t, hl, h => by
    unfold alts at h
    cases hp : branch f n ic nl H (n + 1) [] i g with
    | err c p => rw [hp] at h; cases h
    | ok u m g2 =>
      rw [hp] at h
      simp only at h
      split at h
      · exact alts_many (by simp) h
      · injection h with h1 h2 h3
        match l, hl with
        | a :: r, _ =>
          rw [← h1]
          cases r with
          | nil => rfl
          | cons b r => rfl
/-- A pattern that has no bar of its own is one branch. -/
theorem pat_one {f : Nat → Nat} {n : Nat} {ic nl : Bool} {t : Tr} {j g : Nat} (h : pat f n ic nl 32 0 0 = .ok t j g) (hk : t.kind ≠ 6) : branch f n ic nl (group f n ic nl 32) (n + 1) [] 0 0 = .ok t j g := by
  rw [pat, alts] at h
  cases hp : branch f n ic nl (group f n ic nl 32) (n + 1) [] 0 0 with
  | err c p => rw [hp] at h; cases h
  | ok u m g2 =>
    rw [hp] at h
    simp only at h
    split at h
    · exact absurd (alts_many (by simp) h) hk
    · exact h
theorem alts_pos {f : Nat → Nat} {n : Nat} {ic nl : Bool} {H : Nat → Nat → Out} {q : Nat} {l : List Tr} {i g : Nat} (hq : 0 < q) : alts f n ic nl H q l i g = match branch f n ic nl H (n + 1) [] i g with
    | .err c p => .err c p
    | .ok t j g' => if f j = 124 then alts f n ic nl H (q - 1) (l ++ [t]) (j + 1) g' else .ok (.several 6 (l ++ [t])) j g' := by
  cases q with
  | zero => omega
  | succ q => rw [alts]; rfl
/-- Two patterns with a bar between. -/
theorem parse_bar {f f' F : Nat → Nat} {n m : Nat} {ic nl : Bool} (hf : Br.Txt f n) (hf' : Br.Txt f' m) (hF : Br.Txt F (n + 1 + m)) (hs : ∀ j, j < n → F j = f j) (h9 : F n = 124) (hs' : ∀ j, j < m → F (j + (n + 1)) = f' j) (hn : n + m ≤ 1000)
    {t u : Tr} {j j' g g' : Nat} (h : parse f n ic nl = .ok t j g) (h' : parse f' m ic nl = .ok u j' g') (ht : t.kind ≠ 6) (hu : u.kind ≠ 6) :
    parse F (n + 1 + m) ic nl = .err 10 (n + 1 + m : Nat) ∨ parse F (n + 1 + m) ic nl = .ok (.many 6 [t, u.rzT g]) (n + 1 + m) (g' + g) := by
  obtain ⟨-, -, hp⟩ := whole_ok hf h
  obtain ⟨-, -, hp'⟩ := whole_ok hf' h'
  have hb := pat_one hp ht
  have hb' := pat_one hp' hu
  have h256 : F (n + 1 + m) = 256 := hF.2 _ (Nat.le_refl _)
  have hL : Lies f F n (n + 1 + m) 0 := ⟨hf, hF, ⟨by omega, hs⟩, .inr (.inl h9)⟩
  have hL' : Lies f' F m (n + 1 + m) (n + 1) := ⟨hf', hF, ⟨by omega, hs'⟩, .inr (.inr (by rw [show m + (n + 1) = n + 1 + m by omega]; exact h256))⟩
  have h1 := branch_in (E := False) (ic := ic) (nl := nl) (k := 0) hL (group_next hf 32) (group_in hL 32 32 (.inl rfl)) (n + 1) (n + 1 + m + 1) [] 0 0 (by omega) (by omega) t n g hb
  have h2 := branch_in (E := False) (ic := ic) (nl := nl) (k := g) hL' (group_next hf' 32) (group_in hL' 32 32 (.inl rfl)) (m + 1) (n + 1 + m + 1) [] 0 0 (by omega) (by omega) u m g' hb'
  rcases h1 with h1 | ⟨h1, -⟩
  rcases h2 with h2 | ⟨h2, -⟩
  · rw [List.map_nil, Tr.rzT_zero] at h1
    rw [List.map_nil] at h2
    simp only [Nat.add_zero, Nat.zero_add] at h1 h2
    have hal : pat F (n + 1 + m) ic nl 32 0 0 = .ok (.many 6 [t, u.rzT g]) (n + 1 + m) (g' + g) := by
      rw [pat, alts, h1]
      simp only [h9, if_true]
      rw [alts_pos (by omega), h2]
      simp only [show m + (n + 1) = n + 1 + m by omega, h256, show ¬ (256 = 124) from by decide, if_false]
      rfl
    unfold parse
    rw [if_neg (by omega)]
    unfold whole
    rw [hal]
    simp only [Nat.lt_irrefl, if_false]
    split
    · exact .inl rfl
    · exact .inr rfl
  · exact h2.elim
  · exact h1.elim
end Ep
end Go.Proofs.YtlbhbjmobcikfaaGreatDoor
/- The law's raise and raised: the numbers of all groups of a tree, k more. -/
namespace Go.Proofs.YtlbhbjmobcikfaaGreatDoor
open Go.RowKit
/-- What raise ends with: the node at the place, and its lists, hold the raised tree; nothing else of the node's block has turned. -/
structure RaiseEnd (k : Nat) (t : Tr) (b o : Nat) (s : Value) (F : List Nat) (w : World) (e : Ending) (w' : World) : Prop where
  ret : e = .returned (.tuple #[])
  touch : Touch (b :: F) w w'
  ten : TenAt w' b o (t.rzT k) s
  own : Owned w' s (t.rzT k).subs F
  rest : ∀ j, (j < o ∨ o + 10 ≤ j) → w'.cell? ⟨b, j, none⟩ = w.cell? ⟨b, j, none⟩
  blk : ∃ cs ty, w'.heap[b]? = some (.cells cs ty (0, 0))
theorem rzT_subs (k : Nat) (t : Tr) : (t.rzT k).subs = t.subs.map (Tr.rzT k) := by rw [Tr.rzT_eq]; rfl
theorem TenAt.plain {w : World} {b o : Nat} {t : Tr} {s : Value} (h : TenAt w b o t s) (k : Nat) (h7 : t.kind ≠ 7) : TenAt w b o (t.rzT k) s := by
  rw [Tr.rzT_eq, if_neg h7]
  exact ⟨h.c0, h.c1, h.c2, h.c3, h.c4, h.c5, h.c6, h.c7, h.c8, h.c9⟩
theorem cell_set_out {w : World} {b j : Nat} {v : Value} {i : Nat} (h : i ≠ j) : (w.setCell ⟨b, j, none⟩ v).cell? ⟨b, i, none⟩ = w.cell? ⟨b, i, none⟩ :=
  World.cell?_setCells_out b [v] j w ⟨b, i, none⟩ (fun _ _ => by simp; omega)
theorem TenAt.raised {w : World} {b o : Nat} {t : Tr} {s : Value} (h : TenAt w b o t s) (hf : ∃ cs ty, w.heap[b]? = some (.cells cs ty (0, 0))) (k : Nat) (h7 : t.kind = 7) : TenAt (w.setCell ⟨b, o + 6, none⟩ (.int .i64 (t.num + k))) b o (t.rzT k) s := by
  rw [Tr.rzT_eq, if_pos h7]
  have hth : w.there b (o + 6) 1 := fun j hj => by
    obtain rfl : j = 0 := by omega
    exact ⟨by simpa using congrArg Option.isSome h.c6, frozen_of hf⟩
  have hs : (w.setCell ⟨b, o + 6, none⟩ (.int .i64 (t.num + k))).cell? ⟨b, o + 6, none⟩ = some (.int .i64 (t.num + k)) := World.rangeAt_setCells_same w b (o + 6) [.int .i64 (t.num + k)] (by simpa using hth) 0 _ rfl
  exact ⟨(cell_set_out (by omega)).trans h.c0, (cell_set_out (by omega)).trans h.c1, (cell_set_out (by omega)).trans h.c2, (cell_set_out (by omega)).trans h.c3, (cell_set_out (by omega)).trans h.c4, (cell_set_out (by omega)).trans h.c5, hs, (cell_set_out (by omega)).trans h.c7, (cell_set_out (by omega)).trans h.c8, (cell_set_out (by omega)).trans h.c9⟩
/-- A store of one cell turns its block alone. -/
theorem set_touch (w : World) (b j : Nat) (v : Value) (F : List Nat) : Touch (b :: F) w (w.setCell ⟨b, j, none⟩ v) := (Touch.of_below (b :: F) (Below.refl w.heap.size w)).setCells List.mem_cons_self j [v]
theorem set_blk {w : World} {b : Nat} (h : ∃ cs ty, w.heap[b]? = some (.cells cs ty (0, 0))) (j : Nat) (v : Value) : ∃ cs ty, (w.setCell ⟨b, j, none⟩ v).heap[b]? = some (.cells cs ty (0, 0)) := cells_setCells [v] j w h
theorem set_other {w : World} {b j g : Nat} {v : Value} (h : g ≠ b) : (w.setCell ⟨b, j, none⟩ v).heap[g]? = w.heap[g]? := heap_setCells_other h [v] j w
/-- The members of a list while the first m of them have been raised. -/
def Halfway (k m : Nat) (ts : List Tr) (g o : Nat) (S : Nat → Value) (L : Nat → List Nat) (w : World) : Prop :=
  ∀ j u, ts[j]? = some u → TenAt w g (o + j * 10) (if j < m then u.rzT k else u) (S j) ∧ Owned w (S j) (if j < m then u.rzT k else u).subs (L j)
theorem Halfway.start {k : Nat} {ts : List Tr} {g o : Nat} {S : Nat → Value} {L : Nat → List Nat} {w w' : World} (hc : ∀ j u, ts[j]? = some u → TenAt w g (o + j * 10) u (S j)) (hs : ∀ j u, ts[j]? = some u → Owned w (S j) u.subs (L j)) (hb : ∀ q, q = g ∨ (∃ i, i < ts.length ∧ q ∈ L i) → w'.heap[q]? = w.heap[q]?) : Halfway k 0 ts g o S L w' :=
  fun j u hj => by
    simp only [Nat.not_lt_zero, if_false]
    exact ⟨(hc j u hj).keep (hb g (.inl rfl)), (hs j u hj).keep fun q hq => hb q (.inr ⟨j, lt_of_some hj, hq⟩)⟩
theorem Halfway.step {k m : Nat} {ts : List Tr} {g o : Nat} {S : Nat → Value} {L : Nat → List Nat} {w w2 : World} {x : Tr} {e : Ending} (h : Halfway k m ts g o S L w) (hx : ts[m]? = some x) (hr : RaiseEnd k x g (o + m * 10) (S m) (L m) w e w2)
    (hg : ∀ i, i < ts.length → g ∉ L i) (hd : ∀ i j b, i < ts.length → j < ts.length → i ≠ j → b ∈ L i → b ∉ L j) : Halfway k (m + 1) ts g o S L w2 := fun j u hj => by
  have hjl := lt_of_some hj
  by_cases e : j = m
  · subst e
    rw [hx] at hj
    obtain rfl := Option.some.inj hj
    rw [if_pos (by omega)]
    exact ⟨hr.ten, hr.own⟩
  · obtain ⟨q1, q2⟩ := h j u hj
    have hif : (if j < m + 1 then u.rzT k else u) = (if j < m then u.rzT k else u) := by
      by_cases h : j < m
      · rw [if_pos h, if_pos (by omega)]
      · rw [if_neg h, if_neg (by omega)]
    rw [hif]
    have c : ∀ i, i < 10 → w2.cell? ⟨g, o + j * 10 + i, none⟩ = w.cell? ⟨g, o + j * 10 + i, none⟩ := fun i hi => hr.rest _ (by omega)
    refine ⟨⟨(c 0 (by omega)).trans q1.c0, (c 1 (by omega)).trans q1.c1, (c 2 (by omega)).trans q1.c2, (c 3 (by omega)).trans q1.c3, (c 4 (by omega)).trans q1.c4, (c 5 (by omega)).trans q1.c5, (c 6 (by omega)).trans q1.c6, (c 7 (by omega)).trans q1.c7, (c 8 (by omega)).trans q1.c8, (c 9 (by omega)).trans q1.c9⟩, ?_⟩
    exact q2.keep fun b hb => hr.touch.block b (q2.lt b hb) (fun hm => by
      rcases List.mem_cons.1 hm with rfl | hm
      · exact hg j hjl hb
      · exact hd j m b hjl (lt_of_some hx) e hb hm)
theorem Halfway.done {k : Nat} {ts : List Tr} {g o cap : Nat} {S : Nat → Value} {L : Nat → List Nat} {w : World} (h : Halfway k ts.length ts g o S L w) (hlen : ts.length * 96 ≤ 140737488351232) (hf : ∃ cs ty, w.heap[g]? = some (.cells cs ty (0, 0)))
    (hg : ∀ i, i < ts.length → g ∉ L i) (hd : ∀ i j b, i < ts.length → j < ts.length → i ≠ j → b ∈ L i → b ∉ L j) : Owned w (.slice (some ⟨g, o, none⟩) ts.length cap) (ts.map (Tr.rzT k)) (g :: (List.range ts.length).flatMap L) := by
  have get : ∀ (i : Nat) (t : Tr), (ts.map (Tr.rzT k))[i]? = some t → ∃ u : Tr, ts[i]? = some u ∧ t = u.rzT k := fun i t hi => by
    rw [List.getElem?_map] at hi
    cases hx : ts[i]? with
    | none => rw [hx] at hi; cases hi
    | some u => rw [hx] at hi; exact ⟨u, rfl, (Option.some.inj hi).symm⟩
  have : Owned w (.slice (some ⟨g, o, none⟩) (ts.map (Tr.rzT k)).length cap) (ts.map (Tr.rzT k)) (g :: (List.range (ts.map (Tr.rzT k)).length).flatMap L) :=
    .row g o cap (ts.map (Tr.rzT k)) S L (by rw [List.length_map]; exact hlen) hf (fun i t hi => by
      obtain ⟨u, hu, rfl⟩ := get i t hi
      have := (h i u hu).1
      rw [if_pos (lt_of_some hu)] at this; exact this) (fun i t hi => by
      obtain ⟨u, hu, rfl⟩ := get i t hi
      have := (h i u hu).2
      rw [if_pos (lt_of_some hu)] at this; exact this) (fun i hi => hg i (by rwa [List.length_map] at hi)) (fun i j b hi hj => hd i j b (by rwa [List.length_map] at hi) (by rwa [List.length_map] at hj))
  rw [List.length_map] at this
  exact this
set_option maxRecDepth 100000 in
set_option maxHeartbeats 8000000 in
theorem raise_any (k : Nat) (hk : k ≤ 2000) : ∀ t : Tr, t.InForm → ∀ (w : World) (b o : Nat) (s : Value) (F : List Nat), TenAt w b o t s → Owned w s t.subs F → b ∉ F → (∃ cs ty, w.heap[b]? = some (.cells cs ty (0, 0))) →
    Calls Tryz.prog 38 #[.pointer (some ⟨b, o, none⟩), .int .i64 (k : Int)] w (RaiseEnd k t b o s F w) := by
  intro t
  induction t using Tr.rec_subs with
  | h t ih =>
    intro hform w b o s F hten hO hbF hblk
    have hnum : t.kind = 7 → 1 ≤ t.num ∧ t.num ≤ 999 := fun h7 => by
      have hfl := hform.fields
      unfold Tr.fieldsOk at hfl
      rcases hfl with h | h | h | h | h <;> omega
    have hlt := hO.lt
    generalize hts : t.subs = ts at hO
    cases hO with
    | nil p cap =>
      clear hlt
      by_cases h7 : t.kind = 7
      ·
        have hT1 := hten.raised hblk k h7
        have ht0 := set_touch w b (o + 6) (.int .i64 (t.num + (k : Int))) []
        have hr0 : ∀ j, (j < o ∨ o + 10 ≤ j) → (w.setCell ⟨b, o + 6, none⟩ (.int .i64 (t.num + (k : Int)))).cell? ⟨b, j, none⟩ = w.cell? ⟨b, j, none⟩ := fun j hj => cell_set_out (by omega)
        have hk0 := set_blk hblk (o + 6) (.int .i64 (t.num + (k : Int)))
        have hb0 : ∀ q, q ≠ b → (w.setCell ⟨b, o + 6, none⟩ (.int .i64 (t.num + (k : Int)))).heap[q]? = w.heap[q]? := fun q hq => set_other hq
        have gz := frozen_of (o := o + 6) hblk
        have wn : IntKind.i64.wrap (t.num + (k : Int)) = t.num + (k : Int) := IntWalk.i64_in _ (by have := hnum h7; omega)
        obtain ⟨d0, d1, d2, d3, d4, d5, d6, d7, d8, d9⟩ := hten
        rw [h7] at d0
        have e5 := hT1.c5
        have HT1 := Lib.hid hT1; have HT0 := Lib.hid ht0; have HR0 := Lib.hid hr0; have HK0 := Lib.hid hk0
        clear hT1 ht0 hr0 hk0 hb0 hblk hnum ih hbF hform
        go_enter Tryz.func38, Tryz.ntmps38
        go_wp2
        generalize hW1 : (w.setCell ⟨b, o + 6, none⟩ (.int .i64 (t.num + (k : Int)))) = W1 at *
        clear hW1
        go_loopw [23] (fun iv wr => iv = .int .i64 0 ∧ wr = W1) (fun _ _ => 0)
        case atStart => exact ⟨rfl, rfl⟩
        case round =>
          obtain ⟨rfl, rfl⟩ := hrel
          go_wp2
          go_end0
          exact ⟨rfl, HT0.out, HT1.out, by rw [rzT_subs, hts]; exact .nil p cap, HR0.out, HK0.out⟩
      ·
        have hT1 := hten.plain k h7
        have ht0 := Touch.of_below [b] (Below.refl w.heap.size w)
        have hr0 : ∀ j, (j < o ∨ o + 10 ≤ j) → w.cell? ⟨b, j, none⟩ = w.cell? ⟨b, j, none⟩ := fun _ _ => rfl
        have hk0 := hblk
        have hb0 : ∀ q, q ≠ b → w.heap[q]? = w.heap[q]? := fun _ _ => rfl
        have e7 : (t.kind == 7) = false := by simpa using h7
        obtain ⟨d0, d1, d2, d3, d4, d5, d6, d7, d8, d9⟩ := hten
        have HT1 := Lib.hid hT1; have HT0 := Lib.hid ht0; have HR0 := Lib.hid hr0; have HK0 := Lib.hid hk0
        clear hT1 ht0 hr0 hk0 hb0 hblk hnum ih hbF hform
        go_enter Tryz.func38, Tryz.ntmps38
        go_wp2
        have e5 := d5
        go_loopw [23] (fun iv wr => iv = .int .i64 0 ∧ wr = w) (fun _ _ => 0)
        case atStart => exact ⟨rfl, rfl⟩
        case round =>
          obtain ⟨rfl, rfl⟩ := hrel
          go_wp2
          go_end0
          exact ⟨rfl, HT0.out, HT1.out, by rw [rzT_subs, hts]; exact .nil p cap, (fun _ _ => rfl), HK0.out⟩
    | row g o2 cap _ S L hlen hf hc hs hgL hd =>
      by_cases h7 : t.kind = 7
      ·
        have hT1 := hten.raised hblk k h7
        have ht0 := set_touch w b (o + 6) (.int .i64 (t.num + (k : Int))) (g :: (List.range ts.length).flatMap L)
        have hr0 : ∀ j, (j < o ∨ o + 10 ≤ j) → (w.setCell ⟨b, o + 6, none⟩ (.int .i64 (t.num + (k : Int)))).cell? ⟨b, j, none⟩ = w.cell? ⟨b, j, none⟩ := fun j hj => cell_set_out (by omega)
        have hk0 := set_blk hblk (o + 6) (.int .i64 (t.num + (k : Int)))
        have hb0 : ∀ q, q ≠ b → (w.setCell ⟨b, o + 6, none⟩ (.int .i64 (t.num + (k : Int)))).heap[q]? = w.heap[q]? := fun q hq => set_other hq
        have gz := frozen_of (o := o + 6) hblk
        have wn : IntKind.i64.wrap (t.num + (k : Int)) = t.num + (k : Int) := IntWalk.i64_in _ (by have := hnum h7; omega)
        obtain ⟨d0, d1, d2, d3, d4, d5, d6, d7, d8, d9⟩ := hten
        rw [h7] at d0
        have e5 := hT1.c5
        have hH := Halfway.start (k := k) (w' := (w.setCell ⟨b, o + 6, none⟩ (.int .i64 (t.num + (k : Int))))) hc hs (fun q hq => hb0 q (fun e => hbF (by subst e; rcases hq with rfl | ⟨i, hi, hq⟩; exact List.mem_cons_self; exact List.mem_cons_of_mem _ (mem_range_flatMap.2 ⟨i, hi, hq⟩))))
        have hgb : g ≠ b := fun e => hbF (by subst e; exact List.mem_cons_self)
        have hf0 : ∃ cs ty, (w.setCell ⟨b, o + 6, none⟩ (.int .i64 (t.num + (k : Int)))).heap[g]? = some (.cells cs ty (0, 0)) := by rw [hb0 g hgb]; exact hf
        have HT1 := Lib.hid hT1; have HT0 := Lib.hid ht0; have HR0 := Lib.hid hr0; have HK0 := Lib.hid hk0
        have HH := Lib.hid hH; have HF0 := Lib.hid hf0; have HGL := Lib.hid hgL; have HD := Lib.hid hd; have HBF := Lib.hid hbF; have HLEN := Lib.hid hlen; have HFM := Lib.hid hform; have HTS := Lib.hid hts; have IH := Lib.hid ih; have HOB := Lib.hid hlt
        clear hT1 ht0 hr0 hk0 hb0 hblk hnum ih hbF hform hH hf0 hc hs hf hgL hd hlt hts
        go_enter Tryz.func38, Tryz.ntmps38
        go_wp2
        generalize hW1 : (w.setCell ⟨b, o + 6, none⟩ (.int .i64 (t.num + (k : Int)))) = W1 at *
        clear hW1
        go_loopw [23] (fun iv wr => ∃ m : Nat, iv = .int .i64 m ∧ m ≤ ts.length ∧ Hid (Touch (b :: g :: (List.range ts.length).flatMap L) w wr) ∧ Hid (TenAt wr b o (t.rzT k) (.slice (some ⟨g, o2, none⟩) ts.length cap)) ∧ Hid (∀ j, (j < o ∨ o + 10 ≤ j) → wr.cell? ⟨b, j, none⟩ = w.cell? ⟨b, j, none⟩) ∧ Hid (∃ cs ty, wr.heap[b]? = some (.cells cs ty (0, 0))) ∧ Hid (∃ cs ty, wr.heap[g]? = some (.cells cs ty (0, 0))) ∧ Hid (Halfway k m ts g o2 S L wr)) (fun iv _ => ts.length - (intOf iv).toNat)
        case atStart => exact ⟨0, rfl, Nat.zero_le _, HT0, HT1, HR0, HK0, HF0, HH⟩
        case round =>
          obtain ⟨m, rfl, hm, HT, HTEN, HR, HK, HF, HM⟩ := hrel
          have wm : IntKind.i64.wrap ((m : Int) + 1) = (m : Int) + 1 := IntWalk.i64_in _ (by have := HLEN.out; omega)
          by_cases hlt : m < ts.length
          · obtain ⟨x, hx⟩ : ∃ x, ts[m]? = some x := ⟨_, List.getElem?_eq_getElem hlt⟩
            have hmem : x ∈ t.subs := by rw [HTS.out]; exact List.mem_of_getElem? hx
            obtain ⟨q1, q2⟩ := HM.out m x hx
            rw [if_neg (Nat.lt_irrefl m)] at q1 q2
            have HC := Lib.hid (IH.out x hmem (HFM.out.sub hmem) wr g (o2 + m * 10) (S m) (L m) q1 q2 (HGL.out m hlt) HF.out)
            have f5 := HTEN.out.c5
            have HX := Lib.hid hx
            have hbytes := HLEN.out
            clear hmem q1 q2 hx
            go_wp2_with fail
            refine HC.out.mono ?_
            intro e w2 he
            obtain rfl := he.ret
            have hbm : b ∉ g :: L m := fun h => HBF.out (by
              rcases List.mem_cons.1 h with rfl | h
              · exact List.mem_cons_self
              · exact List.mem_cons_of_mem _ (mem_range_flatMap.2 ⟨m, hlt, h⟩))
            have hkb : w2.heap[b]? = wr.heap[b]? := he.touch.block b HTEN.out.lt hbm
            have HT2 := Lib.hid (HT.out.trans (he.touch.mono fun q hq => by
              rcases List.mem_cons.1 hq with rfl | hq
              · exact List.mem_cons_of_mem _ List.mem_cons_self
              · exact List.mem_cons_of_mem _ (List.mem_cons_of_mem _ (mem_range_flatMap.2 ⟨m, hlt, hq⟩))))
            have HTEN2 := Lib.hid (HTEN.out.keep hkb)
            have HR2 := Lib.hid (fun j hj => (show w2.cell? ⟨b, j, none⟩ = wr.cell? ⟨b, j, none⟩ by unfold World.cell?; rw [hkb]).trans (HR.out j hj))
            have HK2 : Hid (∃ cs ty, w2.heap[b]? = some (.cells cs ty (0, 0))) := Lib.hid (by rw [hkb]; exact HK.out)
            have HF2 := Lib.hid he.blk
            have HM2 := Lib.hid (HM.out.step HX.out he HGL.out HD.out)
            clear he hbm hkb f5
            go_wp2
            exact ⟨⟨m + 1, by go_num, by omega, HT2, HTEN2, HR2, HK2, HF2, HM2⟩, by simp [intOf]; omega⟩
          · obtain rfl : m = ts.length := by omega
            go_wp2
            go_end0
            exact ⟨rfl, HT.out, HTEN.out, by rw [rzT_subs, HTS.out]; exact HM.out.done HLEN.out HF.out HGL.out HD.out, HR.out, HK.out⟩
      ·
        have hT1 := hten.plain k h7
        have ht0 := Touch.of_below (b :: g :: (List.range ts.length).flatMap L) (Below.refl w.heap.size w)
        have hr0 : ∀ j, (j < o ∨ o + 10 ≤ j) → w.cell? ⟨b, j, none⟩ = w.cell? ⟨b, j, none⟩ := fun _ _ => rfl
        have hk0 := hblk
        have hb0 : ∀ q, q ≠ b → w.heap[q]? = w.heap[q]? := fun _ _ => rfl
        have e7 : (t.kind == 7) = false := by simpa using h7
        obtain ⟨d0, d1, d2, d3, d4, d5, d6, d7, d8, d9⟩ := hten
        have hH := Halfway.start (k := k) (w' := w) hc hs (fun q hq => hb0 q (fun e => hbF (by subst e; rcases hq with rfl | ⟨i, hi, hq⟩; exact List.mem_cons_self; exact List.mem_cons_of_mem _ (mem_range_flatMap.2 ⟨i, hi, hq⟩))))
        have hgb : g ≠ b := fun e => hbF (by subst e; exact List.mem_cons_self)
        have hf0 : ∃ cs ty, w.heap[g]? = some (.cells cs ty (0, 0)) := by rw [hb0 g hgb]; exact hf
        have HT1 := Lib.hid hT1; have HT0 := Lib.hid ht0; have HR0 := Lib.hid hr0; have HK0 := Lib.hid hk0
        have HH := Lib.hid hH; have HF0 := Lib.hid hf0; have HGL := Lib.hid hgL; have HD := Lib.hid hd; have HBF := Lib.hid hbF; have HLEN := Lib.hid hlen; have HFM := Lib.hid hform; have HTS := Lib.hid hts; have IH := Lib.hid ih; have HOB := Lib.hid hlt
        clear hT1 ht0 hr0 hk0 hb0 hblk hnum ih hbF hform hH hf0 hc hs hf hgL hd hlt hts
        go_enter Tryz.func38, Tryz.ntmps38
        go_wp2
        have e5 := d5
        go_loopw [23] (fun iv wr => ∃ m : Nat, iv = .int .i64 m ∧ m ≤ ts.length ∧ Hid (Touch (b :: g :: (List.range ts.length).flatMap L) w wr) ∧ Hid (TenAt wr b o (t.rzT k) (.slice (some ⟨g, o2, none⟩) ts.length cap)) ∧ Hid (∀ j, (j < o ∨ o + 10 ≤ j) → wr.cell? ⟨b, j, none⟩ = w.cell? ⟨b, j, none⟩) ∧ Hid (∃ cs ty, wr.heap[b]? = some (.cells cs ty (0, 0))) ∧ Hid (∃ cs ty, wr.heap[g]? = some (.cells cs ty (0, 0))) ∧ Hid (Halfway k m ts g o2 S L wr)) (fun iv _ => ts.length - (intOf iv).toNat)
        case atStart => exact ⟨0, rfl, Nat.zero_le _, HT0, HT1, Lib.hid (fun _ _ => rfl), HK0, HF0, HH⟩
        case round =>
          obtain ⟨m, rfl, hm, HT, HTEN, HR, HK, HF, HM⟩ := hrel
          have wm : IntKind.i64.wrap ((m : Int) + 1) = (m : Int) + 1 := IntWalk.i64_in _ (by have := HLEN.out; omega)
          by_cases hlt : m < ts.length
          · obtain ⟨x, hx⟩ : ∃ x, ts[m]? = some x := ⟨_, List.getElem?_eq_getElem hlt⟩
            have hmem : x ∈ t.subs := by rw [HTS.out]; exact List.mem_of_getElem? hx
            obtain ⟨q1, q2⟩ := HM.out m x hx
            rw [if_neg (Nat.lt_irrefl m)] at q1 q2
            have HC := Lib.hid (IH.out x hmem (HFM.out.sub hmem) wr g (o2 + m * 10) (S m) (L m) q1 q2 (HGL.out m hlt) HF.out)
            have f5 := HTEN.out.c5
            have HX := Lib.hid hx
            have hbytes := HLEN.out
            clear hmem q1 q2 hx
            go_wp2_with fail
            refine HC.out.mono ?_
            intro e w2 he
            obtain rfl := he.ret
            have hbm : b ∉ g :: L m := fun h => HBF.out (by
              rcases List.mem_cons.1 h with rfl | h
              · exact List.mem_cons_self
              · exact List.mem_cons_of_mem _ (mem_range_flatMap.2 ⟨m, hlt, h⟩))
            have hkb : w2.heap[b]? = wr.heap[b]? := he.touch.block b HTEN.out.lt hbm
            have HT2 := Lib.hid (HT.out.trans (he.touch.mono fun q hq => by
              rcases List.mem_cons.1 hq with rfl | hq
              · exact List.mem_cons_of_mem _ List.mem_cons_self
              · exact List.mem_cons_of_mem _ (List.mem_cons_of_mem _ (mem_range_flatMap.2 ⟨m, hlt, hq⟩))))
            have HTEN2 := Lib.hid (HTEN.out.keep hkb)
            have HR2 := Lib.hid (fun j hj => (show w2.cell? ⟨b, j, none⟩ = wr.cell? ⟨b, j, none⟩ by unfold World.cell?; rw [hkb]).trans (HR.out j hj))
            have HK2 : Hid (∃ cs ty, w2.heap[b]? = some (.cells cs ty (0, 0))) := Lib.hid (by rw [hkb]; exact HK.out)
            have HF2 := Lib.hid he.blk
            have HM2 := Lib.hid (HM.out.step HX.out he HGL.out HD.out)
            clear he hbm hkb f5
            go_wp2
            exact ⟨⟨m + 1, by go_num, by omega, HT2, HTEN2, HR2, HK2, HF2, HM2⟩, by simp [intOf]; omega⟩
          · obtain rfl : m = ts.length := by omega
            go_wp2
            go_end0
            exact ⟨rfl, HT.out, HTEN.out, by rw [rzT_subs, HTS.out]; exact HM.out.done HLEN.out HF.out HGL.out HD.out, HR.out, HK.out⟩
set_option maxRecDepth 100000 in
set_option maxHeartbeats 4000000 in
theorem raised_any (k : Nat) (hk : k ≤ 2000) (t : Tr) (hf : t.InForm) (w : World) (B : Nat → Prop) (v : Value) (hv : NodeV w B v t) : Calls Tryz.prog 20 #[v, .int .i64 (k : Int)] w (NewEnd (t.rzT k) w) := by
  obtain ⟨s, rfl, hs⟩ := hv
  have HCN := Lib.hid (fun w' hb => copynode_own t w' B (.agg (t.cells s)) ⟨s, rfl, TreesAt.later (w' := w') hs hb⟩)
  have HRZ := Lib.hid (raise_any k hk t hf)
  obtain ⟨p, cap, rfl, hlen⟩ := hs.slice
  have HB0 := Lib.hid (((Below.refl w.heap.size w).alloc (Nat.le_refl _) (.cells (t.cells (.slice p t.subs.length cap)) 28)).alloc (by simp) (.cells #[.int .i64 0, .int .u64 0, .int .u64 0, .int .u64 0, .int .u64 0, .slice none 0 0, .int .i64 0, .int .i64 0, .int .i64 0, .bool false] 28))
  have Z0 := Lib.hid (two_new w (.cells (t.cells (.slice p t.subs.length cap)) 28) (.cells #[.int .i64 0, .int .u64 0, .int .u64 0, .int .u64 0, .int .u64 0, .slice none 0 0, .int .i64 0, .int .i64 0, .int .i64 0, .bool false] 28)).1
  have Z1 := Lib.hid (two_new w (.cells (t.cells (.slice p t.subs.length cap)) 28) (.cells #[.int .i64 0, .int .u64 0, .int .u64 0, .int .u64 0, .int .u64 0, .slice none 0 0, .int .i64 0, .int .i64 0, .int .i64 0, .bool false] 28)).2
  have hsz2 : ((w.alloc (.cells (t.cells (.slice p t.subs.length cap)) 28)).alloc (.cells #[.int .i64 0, .int .u64 0, .int .u64 0, .int .u64 0, .int .u64 0, .slice none 0 0, .int .i64 0, .int .i64 0, .int .i64 0, .bool false] 28)).heap.size = w.heap.size + 2 := by simp
  clear hs hf
  unfold Tr.cells at HCN HB0 Z0 Z1 hsz2 ⊢
  go_enter Tryz.func20, Tryz.ntmps20
  obtain ⟨ie, hi0, hz0, hz1, hz2⟩ := info_parts Tryz.infoNode
  have HI := Lib.hid hi0; have HZ0 := Lib.hid hz0; have HZ1 := Lib.hid hz1; have HZ2 := Lib.hid hz2
  clear hi0 hz0 hz1 hz2
  go_wp2_with (first
    | (refine wpList_load_row rfl 28 (.tmp 2) rfl w.heap.size rfl 28 _ (0, 0) _ Z0.out Tryz.underlying28 rfl (by kernel_rfl) ?_)
    | fail)
  generalize World.alloc (World.alloc w _) _ = w2 at *
  refine (HCN.out w2 HB0.out).mono ?_
  intro e w3 he
  obtain ⟨s3, F, rfl, ho, hF, hb3⟩ := he
  obtain ⟨p3, c3, rfl, -⟩ := ho.slice
  have hb4 : Below w2.heap.size w2 (w3.alloc (.cells (t.cells (.slice p3 t.subs.length c3)) 28)) := hb3.alloc hb3.size _
  have hten : TenAt (w3.alloc (.cells (t.cells (.slice p3 t.subs.length c3)) 28)) w3.heap.size 0 t (.slice p3 t.subs.length c3) := by
    obtain ⟨d0, d1, d2, d3, d4, d5, d6, d7, d8, d9⟩ := allTen (heap_alloc_new w3 (.cells (t.cells (.slice p3 t.subs.length c3)) 28))
    exact ⟨d0, by rw [Nat.zero_add]; exact d1, by rw [Nat.zero_add]; exact d2, by rw [Nat.zero_add]; exact d3, by rw [Nat.zero_add]; exact d4, by rw [Nat.zero_add]; exact d5, by rw [Nat.zero_add]; exact d6, by rw [Nat.zero_add]; exact d7, by rw [Nat.zero_add]; exact d8, by rw [Nat.zero_add]; exact d9⟩
  have HCALL := Lib.hid (HRZ.out _ _ _ _ _ hten (ho.later ((Below.refl _ _).alloc (Nat.le_refl _) _)) (fun h => by have := ho.lt _ h; omega) ⟨_, _, heap_alloc_new w3 (.cells (t.cells (.slice p3 t.subs.length c3)) 28)⟩)
  have HB4 := Lib.hid hb4; have HFF := Lib.hid hF; have HS3 := Lib.hid hb3.size
  have Z4 := Lib.hid (keep_blk (hb4.mono (Nat.le_refl _)) Z1.out)
  clear ho hF hb3 hb4 hten Z0 Z1 HCN HRZ
  unfold Tr.cells at HCALL HB4 Z4 ⊢
  go_wp2_with fail
  refine HCALL.out.mono ?_
  intro e w5 he
  obtain rfl := he.ret
  obtain ⟨d0, d1, d2, d3, d4, d5, d6, d7, d8, d9⟩ := he.ten
  simp only [Nat.zero_add] at d0 d1 d2 d3 d4 d5 d6 d7 d8 d9
  have HOW := Lib.hid he.own
  have hs3 := HS3.out
  have Z5 := Lib.hid ((he.touch.block (w.heap.size + 1) (by simp; omega) (fun h => by
    rcases List.mem_cons.1 h with h | h
    · omega
    · have := HFF.out _ h; omega)).trans Z4.out)
  have HB5 := Lib.hid ((HB0.out.trans (HB4.out.mono (by omega))).trans (he.touch.below (fun q h => by
    rcases List.mem_cons.1 h with rfl | h
    · omega
    · have := HFF.out _ h; omega) (by simp; omega)))
  clear he
  go_wp2_with (first
    | (refine wpList_store_row rfl 28 (.tmp 4) (.tmp 10) rfl (w.heap.size + 1) #[.int .i64 (t.rzT k).kind, .int .u64 (Oc.U (t.rzT k).w0), .int .u64 (Oc.U (t.rzT k).w1), .int .u64 (Oc.U (t.rzT k).w2), .int .u64 (Oc.U (t.rzT k).w3), .slice p3 t.subs.length c3, .int .i64 (t.rzT k).num, .int .i64 (t.rzT k).least, .int .i64 (t.rzT k).most, .bool (t.rzT k).bare] rfl rfl 28 _ Z5.out (by kernel_rfl) rfl (by simp [Value.oneCell']) ?_)
    | fail)
  refine bodyPost_ret (results_cell_row rfl _ _ (w.heap.size + 1) 28 #[.int .i64 (t.rzT k).kind, .int .u64 (Oc.U (t.rzT k).w0), .int .u64 (Oc.U (t.rzT k).w1), .int .u64 (Oc.U (t.rzT k).w2), .int .u64 (Oc.U (t.rzT k).w3), .slice p3 t.subs.length c3, .int .i64 (t.rzT k).num, .int .i64 (t.rzT k).least, .int .i64 (t.rzT k).most, .bool (t.rzT k).bare] (0, 0) _ rfl (heap_setRow Z5.out) Tryz.underlying28 rfl (by kernel_rfl)) rfl ⟨_, rfl, ⟨_, rfl, ?_⟩, ?_⟩
  · exact (HOW.out.keep (fun b hb => heap_setRow_other _ _ _ (by have := HFF.out b hb; omega))).trees.mono fun b _ hb => by have := HFF.out b hb; omega
  · exact below_setRow HB5.out (Nat.le_succ _) _
theorem branches_any (t : Tr) (b : Bool) (hb : (t.kind == 6) = b) (w : World) (s : Value) (hs : ∃ p l c, s = .slice p l c) : Calls Tryz.prog 21 #[.agg (t.cells s)] w fun e w' => e = .returned (.bool b) ∧ Below w.heap.size w w' := by
  obtain ⟨p, l, c, rfl⟩ := hs
  unfold Tr.cells
  go_enter Tryz.func21, Tryz.ntmps21
  go_wp2
  go_ret
  exact ⟨rfl, by go_grown⟩
end Go.Proofs.YtlbhbjmobcikfaaGreatDoor
/- EreJoins: whatever the patterns and the flags, the law returns true. -/
namespace Go.Proofs.YtlbhbjmobcikfaaGreatDoor
open Go.RowKit
/-- A value that is a node; a list of nodes: wherever their lists lie. -/
def NdAt (w : World) (v : Value) (t : Tr) : Prop := NodeV w (fun _ => True) v t
def LsAt (w : World) (v : Value) (ts : List Tr) : Prop := TreesAt w (fun _ => True) v ts
theorem NdAt.below {w w' : World} {v : Value} {t : Tr} (h : NdAt w v t) (hb : Below w.heap.size w w') : NdAt w' v t := NodeV.later h hb
theorem LsAt.below {w w' : World} {v : Value} {ts : List Tr} (h : LsAt w v ts) (hb : Below w.heap.size w w') : LsAt w' v ts := TreesAt.later h hb
theorem TreesAt.any {w : World} {B : Nat → Prop} {s : Value} {ts : List Tr} (h : TreesAt w B s ts) : TreesAt w (fun _ => True) s ts := h.mono fun _ _ _ => trivial
theorem NodeV.nd {w : World} {B : Nat → Prop} {v : Value} {t : Tr} (h : NodeV w B v t) : NdAt w v t := by
  obtain ⟨s, h1, h2⟩ := h; exact ⟨s, h1, h2.any⟩
theorem LsAt.one {w : World} {t : Tr} {s : Value} (h : TreesAt w (fun _ => True) s t.subs) : LsAt (w.alloc (.cells (t.cells s) 28)) (.slice (some ⟨w.heap.size, 0, none⟩) 1 1) [t] := by
  have hb : Below w.heap.size w (w.alloc (.cells (t.cells s) 28)) := (Below.refl _ _).alloc (Nat.le_refl _) _
  refine TreesAt.mk (ts := [t]) (some ⟨w.heap.size, 0, none⟩) 1 (fun _ => s) (by simp) (fun i t' hi => ?_) (fun i t' hi => ?_)
  · obtain ⟨rfl, rfl⟩ : i = 0 ∧ t = t' := by
      cases i with
      | zero => simpa using hi
      | succ i => simp at hi
    obtain ⟨d0, d1, d2, d3, d4, d5, d6, d7, d8, d9⟩ := allTen (heap_alloc_new w (.cells (t.cells s) 28))
    exact ⟨_, 0, rfl, trivial, d0, d1, d2, d3, d4, d5, d6, d7, d8, d9⟩
  · obtain ⟨rfl, rfl⟩ : i = 0 ∧ t = t' := by
      cases i with
      | zero => simpa using hi
      | succ i => simp at hi
    exact h.later hb
theorem twenty {w : World} {b : Nat} {x0 x1 x2 x3 x4 x5 x6 x7 x8 x9 y0 y1 y2 y3 y4 y5 y6 y7 y8 y9 : Value} {t : TypeId} (h : w.heap[b]? = some (.cells #[x0, x1, x2, x3, x4, x5, x6, x7, x8, x9, y0, y1, y2, y3, y4, y5, y6, y7, y8, y9] t)) :
    (w.cell? ⟨b, 0, none⟩ = some x0 ∧ w.cell? ⟨b, 1, none⟩ = some x1 ∧ w.cell? ⟨b, 2, none⟩ = some x2 ∧ w.cell? ⟨b, 3, none⟩ = some x3 ∧ w.cell? ⟨b, 4, none⟩ = some x4 ∧ w.cell? ⟨b, 5, none⟩ = some x5 ∧ w.cell? ⟨b, 6, none⟩ = some x6 ∧ w.cell? ⟨b, 7, none⟩ = some x7 ∧ w.cell? ⟨b, 8, none⟩ = some x8 ∧ w.cell? ⟨b, 9, none⟩ = some x9) ∧
    (w.cell? ⟨b, 10, none⟩ = some y0 ∧ w.cell? ⟨b, 11, none⟩ = some y1 ∧ w.cell? ⟨b, 12, none⟩ = some y2 ∧ w.cell? ⟨b, 13, none⟩ = some y3 ∧ w.cell? ⟨b, 14, none⟩ = some y4 ∧ w.cell? ⟨b, 15, none⟩ = some y5 ∧ w.cell? ⟨b, 16, none⟩ = some y6 ∧ w.cell? ⟨b, 17, none⟩ = some y7 ∧ w.cell? ⟨b, 18, none⟩ = some y8 ∧ w.cell? ⟨b, 19, none⟩ = some y9) := by
  simp [World.cell?, h]
/-- The cells of two nodes. -/
def cells2 (t u : Tr) (s r : Value) : Array Value :=
  #[.int .i64 t.kind, .int .u64 (Oc.U t.w0), .int .u64 (Oc.U t.w1), .int .u64 (Oc.U t.w2), .int .u64 (Oc.U t.w3), s, .int .i64 t.num, .int .i64 t.least, .int .i64 t.most, .bool t.bare,
    .int .i64 u.kind, .int .u64 (Oc.U u.w0), .int .u64 (Oc.U u.w1), .int .u64 (Oc.U u.w2), .int .u64 (Oc.U u.w3), r, .int .i64 u.num, .int .i64 u.least, .int .i64 u.most, .bool u.bare]
theorem LsAt.two {w : World} {t u : Tr} {s r : Value} (h : TreesAt w (fun _ => True) s t.subs) (k : TreesAt w (fun _ => True) r u.subs) : LsAt (w.alloc (.cells (cells2 t u s r) 28)) (.slice (some ⟨w.heap.size, 0, none⟩) 2 2) [t, u] := by
  have hb : Below w.heap.size w (w.alloc (.cells (cells2 t u s r) 28)) := (Below.refl _ _).alloc (Nat.le_refl _) _
  have two : ∀ (i : Nat) (t' : Tr), ([t, u] : List Tr)[i]? = some t' → (i = 0 ∧ t' = t) ∨ (i = 1 ∧ t' = u) := fun i t' hi => by
    match i, hi with
    | 0, hi => exact .inl ⟨rfl, by simpa using hi.symm⟩
    | 1, hi => exact .inr ⟨rfl, by simpa using hi.symm⟩
    | i + 2, hi => simp at hi
  refine TreesAt.mk (ts := [t, u]) (some ⟨w.heap.size, 0, none⟩) 2 (fun i => if i = 0 then s else r) (by simp) (fun i t' hi => ?_) (fun i t' hi => ?_)
  · obtain ⟨⟨d0, d1, d2, d3, d4, d5, d6, d7, d8, d9⟩, e0, e1, e2, e3, e4, e5, e6, e7, e8, e9⟩ := twenty (heap_alloc_new w (.cells (cells2 t u s r) 28))
    rcases two i t' hi with ⟨rfl, rfl⟩ | ⟨rfl, rfl⟩
    · exact ⟨_, 0, rfl, trivial, d0, d1, d2, d3, d4, d5, d6, d7, d8, d9⟩
    · exact ⟨_, 0, rfl, trivial, e0, e1, e2, e3, e4, e5, e6, e7, e8, e9⟩
  · rcases two i t' hi with ⟨rfl, rfl⟩ | ⟨rfl, rfl⟩
    · exact h.later hb
    · exact k.later hb
theorem wp_node1 {Q : Exit → Act → World → Prop} {o : Oper} {a : Act} {w : World} {K : Act → World → Prop} (x : Operand) (t : Tr) (p : Option Addr) (len cap : Nat) (ho : o.op = .buildSlice 26 1 #[(0, x)]) (hx : a.eval x = .agg (t.cells (.slice p len cap)))
    (h : K (a.put o.dst (.slice (some ⟨w.heap.size, 0, none⟩) 1 1)) (w.alloc (.cells (t.cells (.slice p len cap)) 28))) : Oper.wp Tryz.prog o a w K Q := by
  obtain ⟨ie, hi, hz0, hz1, -⟩ := info_parts Tryz.infoNode
  refine wp_buildSlice 26 28 1 _ ho _ ie _ Tryz.underlying26 hi hz0 (by rw [hz1]; decide) (by rw [hz1]; decide) ?_ h
  rw [hz1]
  simp only [List.map_toArray, List.map_cons, List.map_nil, hx]
  kernel_rfl
theorem wp_node2 {Q : Exit → Act → World → Prop} {o : Oper} {a : Act} {w : World} {K : Act → World → Prop} (x y : Operand) (t u : Tr) (p : Option Addr) (len cap : Nat) (p' : Option Addr) (len' cap' : Nat) (ho : o.op = .buildSlice 26 2 #[(0, x), (1, y)]) (hx : a.eval x = .agg (t.cells (.slice p len cap))) (hy : a.eval y = .agg (u.cells (.slice p' len' cap')))
    (h : K (a.put o.dst (.slice (some ⟨w.heap.size, 0, none⟩) 2 2)) (w.alloc (.cells (cells2 t u (.slice p len cap) (.slice p' len' cap')) 28))) : Oper.wp Tryz.prog o a w K Q := by
  obtain ⟨ie, hi, hz0, hz1, -⟩ := info_parts Tryz.infoNode
  refine wp_buildSlice 26 28 2 _ ho _ ie _ Tryz.underlying26 hi hz0 (by rw [hz1]; decide) (by rw [hz1]; decide) ?_ h
  rw [hz1]
  simp only [List.map_toArray, List.map_cons, List.map_nil, hx, hy]
  kernel_rfl
theorem join_paren (x : ByteArray) (ic nl : Bool) (hn : x.size ≤ 1000) {t : Tr} {j g : Nat} (h : Ep.parse (bt x) x.size ic nl = .ok t j g) :
    (∃ p, Ep.parse (bt (⟨#[40]⟩ ++ x ++ ⟨#[41]⟩)) (⟨#[40]⟩ ++ x ++ ⟨#[41]⟩ : ByteArray).size ic nl = .err 10 p) ∨ (∃ p, Ep.parse (bt (⟨#[40]⟩ ++ x ++ ⟨#[41]⟩)) (⟨#[40]⟩ ++ x ++ ⟨#[41]⟩ : ByteArray).size ic nl = .err 11 p) ∨
      Ep.parse (bt (⟨#[40]⟩ ++ x ++ ⟨#[41]⟩)) (⟨#[40]⟩ ++ x ++ ⟨#[41]⟩ : ByteArray).size ic nl = .ok (.grp (1 : Nat) (t.rzT 1)) (x.size + 2) (g + 1) := by
  have h1 : (⟨#[40]⟩ ++ x : ByteArray).size = x.size + 1 := by rw [ByteArray.size_append]; show 1 + x.size = _; omega
  have hz : (⟨#[40]⟩ ++ x ++ ⟨#[41]⟩ : ByteArray).size = x.size + 2 := by rw [ByteArray.size_append, h1]; rfl
  have ht := bt_txt (⟨#[40]⟩ ++ x ++ ⟨#[41]⟩)
  rw [hz] at ht ⊢
  refine Ep.parse_paren (bt_txt x) ht ?_ (fun j hj => ?_) ?_ hn h
  · rw [bt_append, if_pos (by omega), bt_append, if_pos (by decide)]; decide
  · rw [bt_append, if_pos (by omega), bt_append, if_neg (by show ¬ j + 1 < 1; omega)]; rfl
  · rw [bt_append, if_neg (by omega), h1, Nat.sub_self]; decide
theorem join_bar (x y : ByteArray) (ic nl : Bool) (hn : x.size + y.size ≤ 1000) {t u : Tr} {j j' g g' : Nat} (h : Ep.parse (bt x) x.size ic nl = .ok t j g) (h' : Ep.parse (bt y) y.size ic nl = .ok u j' g') (ht : t.kind ≠ 6) (hu : u.kind ≠ 6) :
    Ep.parse (bt (x ++ ⟨#[124]⟩ ++ y)) (x ++ ⟨#[124]⟩ ++ y : ByteArray).size ic nl = .err 10 ((x.size : Int) + (y.size : Int) + 1) ∨
      Ep.parse (bt (x ++ ⟨#[124]⟩ ++ y)) (x ++ ⟨#[124]⟩ ++ y : ByteArray).size ic nl = .ok (.many 6 [t, u.rzT g]) (x.size + 1 + y.size) (g + g') := by
  have h1 : (x ++ ⟨#[124]⟩ : ByteArray).size = x.size + 1 := by rw [ByteArray.size_append]; rfl
  have hz : (x ++ ⟨#[124]⟩ ++ y : ByteArray).size = x.size + 1 + y.size := by rw [ByteArray.size_append, h1]
  have hT := bt_txt (x ++ ⟨#[124]⟩ ++ y)
  rw [hz] at hT ⊢
  have := Ep.parse_bar (bt_txt x) (bt_txt y) hT (fun j hj => by rw [bt_append, if_pos (by omega), bt_append, if_pos hj]) (by rw [bt_append, if_pos (by omega), bt_append, if_neg (by omega), Nat.sub_self]; decide)
    (fun j hj => by rw [bt_append, if_neg (by omega), h1, Nat.add_sub_cancel]) hn h h' ht hu
  rcases this with e | e
  · rw [e]; left; congr 1; omega
  · rw [e, Nat.add_comm g' g]; exact .inr rfl
theorem or_err {f : Nat → Nat} {n : Nat} {ic nl : Bool} {R : Prop} (h : (∃ p, Ep.parse f n ic nl = .err 10 p) ∨ (∃ p, Ep.parse f n ic nl = .err 11 p) ∨ R) : (∃ c p, (c = 10 ∨ c = 11) ∧ Ep.parse f n ic nl = .err c p) ∨ R := by
  rcases h with ⟨p, h⟩ | ⟨p, h⟩ | h
  · exact .inl ⟨10, p, .inl rfl, h⟩
  · exact .inl ⟨11, p, .inr rfl, h⟩
  · exact .inr h
set_option maxRecDepth 100000 in
set_option maxHeartbeats 8000000 in
theorem erejoins_early (A : Nat → Addr) (x y : ByteArray) (fl : Int) (w : World) (hE : BrEnv w A) (hT : ErrType w) (h : ∀ t u j j' g g', Ep.parse (bt x) x.size (icB fl) (nlB fl) = .ok t j g → Ep.parse (bt y) y.size (icB fl) (nlB fl) = .ok u j' g' → 1000 < x.size + y.size) :
    Calls Tryz.prog 5 #[.string x, .string y, .int .i64 fl] w fun e w' => e = .returned (.bool true) ∧ Below w.heap.size w w' := by
  have HL := Lib.hid (eplives_any A w hE hT)
  have HE := Lib.hid hE; have HT := Lib.hid hT
  have HD := Lib.hid parse_does
  clear hE hT
  cases hO : Ep.parse (bt x) x.size (icB fl) (nlB fl) with
  | err c q =>
    have HO := Lib.hid hO
    cases hP : Ep.parse (bt y) y.size (icB fl) (nlB fl) with
    | err c' q' =>
      have HP := Lib.hid hP
      clear hO hP h
      go_enter Tryz.func5, Tryz.ntmps5
      go_wp2_with fail
      refine HL.out.mono ?_; rintro e w1 ⟨rfl, hb1⟩
      have HB1 := Lib.hid hb1; have HE1 := Lib.hid (HE.out.below hb1); have HT1 := Lib.hid (HT.out.later hb1)
      clear hb1
      go_wp2_with fail
      refine (HD.out A _ x fl HE1.out).mono ?_
      intro e w2 he
      obtain ⟨v2, rfl, hv, hb2⟩ := he.err HO.out
      obtain ⟨q2, rfl⟩ := hv.iface
      have HVP2 := Lib.hid (hv.at.later ((Below.refl w2.heap.size w2).alloc (Nat.le_refl _) (.cells noNode 28)))
      have HS2 := Lib.hid hb2
      have HB2 := Lib.hid ((HB1.out.trans (hb2.mono HB1.out.size)).alloc (HB1.out.trans (hb2.mono HB1.out.size)).size (.cells noNode 28))
      have HE2 := Lib.hid (HE.out.below HB2.out); have HT2 := Lib.hid (HT.out.later HB2.out)
      have Z2 := Lib.hid (heap_alloc_new w2 (.cells noNode 28))
      clear he hv hb2
      go_wp2_with fail
      refine (HD.out A _ y fl HE2.out).mono ?_
      intro e w3 he
      obtain ⟨v3, rfl, hv, hb2⟩ := he.err HP.out
      obtain ⟨q3, rfl⟩ := hv.iface
      have HVP3 := Lib.hid (hv.at.later ((Below.refl w3.heap.size w3).alloc (Nat.le_refl _) (.cells noNode 28)))
      have HS3 := Lib.hid hb2
      have HB3 := Lib.hid ((HB2.out.trans (hb2.mono HB2.out.size)).alloc (HB2.out.trans (hb2.mono HB2.out.size)).size (.cells noNode 28))
      have HE3 := Lib.hid (HE.out.below HB3.out); have HT3 := Lib.hid (HT.out.later HB3.out)
      have Z3 := Lib.hid (heap_alloc_new w3 (.cells noNode 28))
      clear he hv hb2
      go_wp2
      go_ret
      exact ⟨rfl, HB3.out⟩
    | ok u j' g' =>
      have HP := Lib.hid hP
      clear hO hP h
      go_enter Tryz.func5, Tryz.ntmps5
      go_wp2_with fail
      refine HL.out.mono ?_; rintro e w1 ⟨rfl, hb1⟩
      have HB1 := Lib.hid hb1; have HE1 := Lib.hid (HE.out.below hb1); have HT1 := Lib.hid (HT.out.later hb1)
      clear hb1
      go_wp2_with fail
      refine (HD.out A _ x fl HE1.out).mono ?_
      intro e w2 he
      obtain ⟨v2, rfl, hv, hb2⟩ := he.err HO.out
      obtain ⟨q2, rfl⟩ := hv.iface
      have HVP2 := Lib.hid (hv.at.later ((Below.refl w2.heap.size w2).alloc (Nat.le_refl _) (.cells noNode 28)))
      have HS2 := Lib.hid hb2
      have HB2 := Lib.hid ((HB1.out.trans (hb2.mono HB1.out.size)).alloc (HB1.out.trans (hb2.mono HB1.out.size)).size (.cells noNode 28))
      have HE2 := Lib.hid (HE.out.below HB2.out); have HT2 := Lib.hid (HT.out.later HB2.out)
      have Z2 := Lib.hid (heap_alloc_new w2 (.cells noNode 28))
      clear he hv hb2
      go_wp2_with fail
      refine (HD.out A _ y fl HE2.out).mono ?_
      intro e w3 he
      obtain ⟨v3, F3, rfl, ho, -, hb2⟩ := he.ok HP.out
      obtain ⟨p3, c3, rfl, -⟩ := ho.slice
      have HTR3 := Lib.hid (fun w' (hb : Below (w3.alloc (.cells (u.cells (.slice p3 u.subs.length c3)) 28)).heap.size (w3.alloc (.cells (u.cells (.slice p3 u.subs.length c3)) 28)) w') => (TreesAt.later (w' := w') (ho.trees.any) (((Below.refl w3.heap.size w3).alloc (Nat.le_refl _) (.cells (u.cells (.slice p3 u.subs.length c3)) 28)).trans (Below.mono hb (by simp)))))
      have HS3 := Lib.hid hb2
      have HB3 := Lib.hid ((HB2.out.trans (hb2.mono HB2.out.size)).alloc (HB2.out.trans (hb2.mono HB2.out.size)).size (.cells (u.cells (.slice p3 u.subs.length c3)) 28))
      have HE3 := Lib.hid (HE.out.below HB3.out); have HT3 := Lib.hid (HT.out.later HB3.out)
      have Z3 := Lib.hid (heap_alloc_new w3 (.cells (u.cells (.slice p3 u.subs.length c3)) 28))
      clear he ho hb2
      unfold Tr.cells at *
      go_wp2
      go_ret
      exact ⟨rfl, HB3.out⟩
  | ok t j g =>
    have HO := Lib.hid hO
    cases hP : Ep.parse (bt y) y.size (icB fl) (nlB fl) with
    | err c' q' =>
      have HP := Lib.hid hP
      clear hO hP h
      go_enter Tryz.func5, Tryz.ntmps5
      go_wp2_with fail
      refine HL.out.mono ?_; rintro e w1 ⟨rfl, hb1⟩
      have HB1 := Lib.hid hb1; have HE1 := Lib.hid (HE.out.below hb1); have HT1 := Lib.hid (HT.out.later hb1)
      clear hb1
      go_wp2_with fail
      refine (HD.out A _ x fl HE1.out).mono ?_
      intro e w2 he
      obtain ⟨v2, F2, rfl, ho, -, hb2⟩ := he.ok HO.out
      obtain ⟨p2, c2, rfl, -⟩ := ho.slice
      have HTR2 := Lib.hid (fun w' (hb : Below (w2.alloc (.cells (t.cells (.slice p2 t.subs.length c2)) 28)).heap.size (w2.alloc (.cells (t.cells (.slice p2 t.subs.length c2)) 28)) w') => (TreesAt.later (w' := w') (ho.trees.any) (((Below.refl w2.heap.size w2).alloc (Nat.le_refl _) (.cells (t.cells (.slice p2 t.subs.length c2)) 28)).trans (Below.mono hb (by simp)))))
      have HS2 := Lib.hid hb2
      have HB2 := Lib.hid ((HB1.out.trans (hb2.mono HB1.out.size)).alloc (HB1.out.trans (hb2.mono HB1.out.size)).size (.cells (t.cells (.slice p2 t.subs.length c2)) 28))
      have HE2 := Lib.hid (HE.out.below HB2.out); have HT2 := Lib.hid (HT.out.later HB2.out)
      have Z2 := Lib.hid (heap_alloc_new w2 (.cells (t.cells (.slice p2 t.subs.length c2)) 28))
      clear he ho hb2
      unfold Tr.cells at *
      go_wp2_with fail
      refine (HD.out A _ y fl HE2.out).mono ?_
      intro e w3 he
      obtain ⟨v3, rfl, hv, hb2⟩ := he.err HP.out
      obtain ⟨q3, rfl⟩ := hv.iface
      have HVP3 := Lib.hid (hv.at.later ((Below.refl w3.heap.size w3).alloc (Nat.le_refl _) (.cells noNode 28)))
      have HS3 := Lib.hid hb2
      have HB3 := Lib.hid ((HB2.out.trans (hb2.mono HB2.out.size)).alloc (HB2.out.trans (hb2.mono HB2.out.size)).size (.cells noNode 28))
      have HE3 := Lib.hid (HE.out.below HB3.out); have HT3 := Lib.hid (HT.out.later HB3.out)
      have Z3 := Lib.hid (heap_alloc_new w3 (.cells noNode 28))
      clear he hv hb2
      go_wp2
      go_ret
      exact ⟨rfl, HB3.out⟩
    | ok u j' g' =>
      have HP := Lib.hid hP
      have hbig := h t u j j' g g' hO hP
      have hx := (Ep.parse_right (bt_txt x) hO).1
      have hy := (Ep.parse_right (bt_txt y) hP).1
      have hw : IntKind.i64.wrap ((x.size : Int) + (y.size : Int)) = (x.size : Int) + (y.size : Int) := IntWalk.i64_in _ (by omega)
      have hd : decide ((1000 : Int) < (x.size : Int) + (y.size : Int)) = true := by simp; omega
      clear hO hP h hbig
      go_enter Tryz.func5, Tryz.ntmps5
      go_wp2_with fail
      refine HL.out.mono ?_; rintro e w1 ⟨rfl, hb1⟩
      have HB1 := Lib.hid hb1; have HE1 := Lib.hid (HE.out.below hb1); have HT1 := Lib.hid (HT.out.later hb1)
      clear hb1
      go_wp2_with fail
      refine (HD.out A _ x fl HE1.out).mono ?_
      intro e w2 he
      obtain ⟨v2, F2, rfl, ho, -, hb2⟩ := he.ok HO.out
      obtain ⟨p2, c2, rfl, -⟩ := ho.slice
      have HTR2 := Lib.hid (fun w' (hb : Below (w2.alloc (.cells (t.cells (.slice p2 t.subs.length c2)) 28)).heap.size (w2.alloc (.cells (t.cells (.slice p2 t.subs.length c2)) 28)) w') => (TreesAt.later (w' := w') (ho.trees.any) (((Below.refl w2.heap.size w2).alloc (Nat.le_refl _) (.cells (t.cells (.slice p2 t.subs.length c2)) 28)).trans (Below.mono hb (by simp)))))
      have HS2 := Lib.hid hb2
      have HB2 := Lib.hid ((HB1.out.trans (hb2.mono HB1.out.size)).alloc (HB1.out.trans (hb2.mono HB1.out.size)).size (.cells (t.cells (.slice p2 t.subs.length c2)) 28))
      have HE2 := Lib.hid (HE.out.below HB2.out); have HT2 := Lib.hid (HT.out.later HB2.out)
      have Z2 := Lib.hid (heap_alloc_new w2 (.cells (t.cells (.slice p2 t.subs.length c2)) 28))
      clear he ho hb2
      unfold Tr.cells at *
      go_wp2_with fail
      refine (HD.out A _ y fl HE2.out).mono ?_
      intro e w3 he
      obtain ⟨v3, F3, rfl, ho, -, hb2⟩ := he.ok HP.out
      obtain ⟨p3, c3, rfl, -⟩ := ho.slice
      have HTR3 := Lib.hid (fun w' (hb : Below (w3.alloc (.cells (u.cells (.slice p3 u.subs.length c3)) 28)).heap.size (w3.alloc (.cells (u.cells (.slice p3 u.subs.length c3)) 28)) w') => (TreesAt.later (w' := w') (ho.trees.any) (((Below.refl w3.heap.size w3).alloc (Nat.le_refl _) (.cells (u.cells (.slice p3 u.subs.length c3)) 28)).trans (Below.mono hb (by simp)))))
      have HS3 := Lib.hid hb2
      have HB3 := Lib.hid ((HB2.out.trans (hb2.mono HB2.out.size)).alloc (HB2.out.trans (hb2.mono HB2.out.size)).size (.cells (u.cells (.slice p3 u.subs.length c3)) 28))
      have HE3 := Lib.hid (HE.out.below HB3.out); have HT3 := Lib.hid (HT.out.later HB3.out)
      have Z3 := Lib.hid (heap_alloc_new w3 (.cells (u.cells (.slice p3 u.subs.length c3)) 28))
      clear he ho hb2
      unfold Tr.cells at *
      go_wp2
      go_ret
      exact ⟨rfl, HB3.out⟩
set_option maxRecDepth 100000 in
set_option maxHeartbeats 16000000 in
theorem erejoins_main (A : Nat → Addr) (x y : ByteArray) (fl : Int) (w : World) (hE : BrEnv w A) (hT : ErrType w) (t u : Tr) (j j' g g' : Nat) (hO : Ep.parse (bt x) x.size (icB fl) (nlB fl) = .ok t j g) (hP : Ep.parse (bt y) y.size (icB fl) (nlB fl) = .ok u j' g') (hs : x.size + y.size ≤ 1000) :
    Calls Tryz.prog 5 #[.string x, .string y, .int .i64 fl] w fun e w' => e = .returned (.bool true) ∧ Below w.heap.size w w' := by
  have HL := Lib.hid (eplives_any A w hE hT)
  have HE := Lib.hid hE; have HT := Lib.hid hT
  have HD := Lib.hid parse_does
  have HO := Lib.hid hO; have HP := Lib.hid hP
  obtain ⟨-, hft, -, -, -, hgt⟩ := Ep.parse_right (bt_txt x) hO
  obtain ⟨-, hfu, -, -, -, hgu⟩ := Ep.parse_right (bt_txt y) hP
  have hw : IntKind.i64.wrap ((x.size : Int) + (y.size : Int)) = (x.size : Int) + (y.size : Int) := IntWalk.i64_in _ (by omega)
  have hw1 : IntKind.i64.wrap ((x.size : Int) + (y.size : Int) + 1) = (x.size : Int) + (y.size : Int) + 1 := IntWalk.i64_in _ (by omega)
  have hwg : IntKind.i64.wrap ((g : Int) + 1) = (g : Int) + 1 := IntWalk.i64_in _ (by omega)
  have hwgg : IntKind.i64.wrap ((g : Int) + (g' : Int)) = (g : Int) + (g' : Int) := IntWalk.i64_in _ (by omega)
  have hd : decide ((1000 : Int) < (x.size : Int) + (y.size : Int)) = false := by simp; omega
  have HJP := join_paren x (icB fl) (nlB fl) (by omega) hO
  have HJB := Lib.hid (fun ht hu => join_bar x y (icB fl) (nlB fl) hs hO hP ht hu)
  have HR1 := Lib.hid (raised_any 1 (by omega) t hft); have HRG := Lib.hid (raised_any g (by omega) u hfu)
  have h124 : (x ++ ⟨#[124]⟩ : ByteArray).size = x.size + 1 := by rw [ByteArray.size_append]; rfl
  have h40 : (⟨#[40]⟩ ++ x : ByteArray).size = x.size + 1 := by rw [ByteArray.size_append]; show 1 + x.size = _; omega
  clear hE hT hO hP hft hgt hfu hgu
  rcases or_err HJP with ⟨c0, q0, hc, hpp⟩ | hpp
  · have HPP := Lib.hid hpp
    clear hpp
    rcases hc with rfl | rfl
    all_goals
      go_enter Tryz.func5, Tryz.ntmps5
      go_wp2_with fail
      refine HL.out.mono ?_; rintro e w1 ⟨rfl, hb1⟩
      have HB1 := Lib.hid hb1; have HE1 := Lib.hid (HE.out.below hb1); have HT1 := Lib.hid (HT.out.later hb1)
      clear hb1
      go_wp2_with fail
      refine (HD.out A _ x fl HE1.out).mono ?_
      intro e w2 he
      obtain ⟨v2, F2, rfl, ho, -, hb2⟩ := he.ok HO.out
      obtain ⟨p2, c2, rfl, -⟩ := ho.slice
      have HTR2 := Lib.hid (fun w' (hb : Below (w2.alloc (.cells (t.cells (.slice p2 t.subs.length c2)) 28)).heap.size (w2.alloc (.cells (t.cells (.slice p2 t.subs.length c2)) 28)) w') => (TreesAt.later (w' := w') (ho.trees.any) (((Below.refl w2.heap.size w2).alloc (Nat.le_refl _) (.cells (t.cells (.slice p2 t.subs.length c2)) 28)).trans (Below.mono hb (by simp)))))
      have HS2 := Lib.hid hb2
      have HB2 := Lib.hid ((HB1.out.trans (hb2.mono HB1.out.size)).alloc (HB1.out.trans (hb2.mono HB1.out.size)).size (.cells (t.cells (.slice p2 t.subs.length c2)) 28))
      have HE2 := Lib.hid (HE.out.below HB2.out); have HT2 := Lib.hid (HT.out.later HB2.out)
      have Z2 := Lib.hid (heap_alloc_new w2 (.cells (t.cells (.slice p2 t.subs.length c2)) 28))
      clear he ho hb2
      unfold Tr.cells at *
      go_wp2_with fail
      refine (HD.out A _ y fl HE2.out).mono ?_
      intro e w3 he
      obtain ⟨v3, F3, rfl, ho, -, hb2⟩ := he.ok HP.out
      obtain ⟨p3, c3, rfl, -⟩ := ho.slice
      have HTR3 := Lib.hid (fun w' (hb : Below (w3.alloc (.cells (u.cells (.slice p3 u.subs.length c3)) 28)).heap.size (w3.alloc (.cells (u.cells (.slice p3 u.subs.length c3)) 28)) w') => (TreesAt.later (w' := w') (ho.trees.any) (((Below.refl w3.heap.size w3).alloc (Nat.le_refl _) (.cells (u.cells (.slice p3 u.subs.length c3)) 28)).trans (Below.mono hb (by simp)))))
      have HS3 := Lib.hid hb2
      have HB3 := Lib.hid ((HB2.out.trans (hb2.mono HB2.out.size)).alloc (HB2.out.trans (hb2.mono HB2.out.size)).size (.cells (u.cells (.slice p3 u.subs.length c3)) 28))
      have HE3 := Lib.hid (HE.out.below HB3.out); have HT3 := Lib.hid (HT.out.later HB3.out)
      have Z3 := Lib.hid (heap_alloc_new w3 (.cells (u.cells (.slice p3 u.subs.length c3)) 28))
      clear he ho hb2
      unfold Tr.cells at *
      go_wp2_with fail
      refine (HD.out A _ _ fl HE3.out).mono ?_
      intro e w4 he
      obtain ⟨v4, rfl, hv, hb2⟩ := he.err HPP.out
      obtain ⟨q4, rfl⟩ := hv.iface
      have HVP4 := Lib.hid (hv.at.later ((Below.refl w4.heap.size w4).alloc (Nat.le_refl _) (.cells noNode 28)))
      have HS4 := Lib.hid hb2
      have HB4 := Lib.hid ((HB3.out.trans (hb2.mono HB3.out.size)).alloc (HB3.out.trans (hb2.mono HB3.out.size)).size (.cells noNode 28))
      have HE4 := Lib.hid (HE.out.below HB4.out); have HT4 := Lib.hid (HT.out.later HB4.out)
      have Z4 := Lib.hid (heap_alloc_new w4 (.cells noNode 28))
      clear he hv hb2
      have hq3 := (HS3.out.alloc HS3.out.size (.cells (u.cells (.slice p3 u.subs.length c3)) 28))
      have hq4 := (HS4.out.alloc HS4.out.size (.cells noNode 28))
      have ZT4 := Lib.hid (keep_blk hq4 (keep_blk hq3 Z2.out)); have ZU4 := Lib.hid (keep_blk hq4 Z3.out)
      have HS24 := Lib.hid (show w2.heap.size < w4.heap.size by have h1 := HS3.out.size; have h2 := HS4.out.size; simp at h1 h2; omega)
      have HS34 := Lib.hid (show w3.heap.size < w4.heap.size by have h2 := HS4.out.size; simp at h2; omega)
      have HS4w := Lib.hid (show w.heap.size ≤ w4.heap.size by have h0 := HB1.out.size; have h3 := HS2.out.size; have h1 := HS3.out.size; have h2 := HS4.out.size; simp at h1 h2; omega)
      have HQ4 := Lib.hid ((Below.refl w4.heap.size w4).alloc (Nat.le_refl _) (.cells noNode 28))
      have HTT4 := Lib.hid (HTR2.out _ (hq3.trans (HS4.out.mono hq3.size))); have HTU4 := Lib.hid (HTR3.out _ HS4.out)
      unfold Tr.cells at ZT4 ZU4
      clear hq3 hq4
      go_wp2_with fail
      refine (HVP4.out.num HE4.out).mono ?_; rintro e w5 ⟨rfl, hb5⟩
      have HBq := Lib.hid (HB4.out.trans (hb5.mono HB4.out.size)); have ZTq := Lib.hid (keep_blk hb5 ZT4.out); have ZUq := Lib.hid (keep_blk hb5 ZU4.out); have ZXq := Lib.hid (keep_blk hb5 Z4.out)
      have HQq := Lib.hid (HQ4.out.trans (hb5.mono HQ4.out.size))
      obtain ⟨d0, d1, d2, d3, d4, d5, d6, d7, d8, d9⟩ := allTen ZTq.out
      clear hb5
      go_wp2_with fail
      refine (branches_any t (t.kind == 6) rfl _ (.slice p2 t.subs.length c2) ⟨_, _, _, rfl⟩).mono ?_
      rintro e w6 ⟨rfl, hb6⟩
      have HB6 := Lib.hid (HBq.out.trans (hb6.mono HBq.out.size)); have ZT6 := Lib.hid (keep_blk hb6 ZTq.out); have ZU6 := Lib.hid (keep_blk hb6 ZUq.out); have ZX6 := Lib.hid (keep_blk hb6 ZXq.out)
      have HQ6 := Lib.hid (HQq.out.trans (hb6.mono HQq.out.size))
      clear hb6 d0 d1 d2 d3 d4 d5 d6 d7 d8 d9
      by_cases ht6 : t.kind = 6
      · have hk6 : (t.kind == 6) = true := by simpa using ht6
        rw [hk6]
        clear ht6
        go_wp2
        go_ret
        exact ⟨rfl, HB6.out⟩
      have hk6 : (t.kind == 6) = false := by simpa using ht6
      rw [hk6]
      obtain ⟨d0, d1, d2, d3, d4, d5, d6, d7, d8, d9⟩ := allTen ZU6.out
      clear hk6
      go_wp2_with fail
      refine (branches_any u (u.kind == 6) rfl _ (.slice p3 u.subs.length c3) ⟨_, _, _, rfl⟩).mono ?_
      rintro e w7 ⟨rfl, hb7⟩
      have HB7 := Lib.hid (HB6.out.trans (hb7.mono HB6.out.size)); have ZT7 := Lib.hid (keep_blk hb7 ZT6.out); have ZU7 := Lib.hid (keep_blk hb7 ZU6.out); have ZX7 := Lib.hid (keep_blk hb7 ZX6.out)
      have HQ7 := Lib.hid (HQ6.out.trans (hb7.mono HQ6.out.size))
      have HE7 := Lib.hid (HE.out.below HB7.out); have HT7 := Lib.hid (HT.out.later HB7.out)
      clear hb7 d0 d1 d2 d3 d4 d5 d6 d7 d8 d9
      by_cases hu6 : u.kind = 6
      · have hk7 : (u.kind == 6) = true := by simpa using hu6
        rw [hk7]
        clear ht6 hu6
        go_wp2
        go_ret
        exact ⟨rfl, HB7.out⟩
      have hk7 : (u.kind == 6) = false := by simpa using hu6
      rw [hk7]
      have HBAR := Lib.hid (HJB.out ht6 hu6)
      clear hk7 ht6 hu6
      go_wp2_with fail
      refine (HD.out A _ _ fl HE7.out).mono ?_
      rcases HBAR.out with hbar | hbar
      · intro e w8 he
        obtain ⟨v8, rfl, hv, hb8⟩ := he.err hbar
        obtain ⟨q8, rfl⟩ := hv.iface
        have Z8 := Lib.hid (keep_blk hb8 ZX7.out)
        have hxl : w4.heap.size < w7.heap.size := (Array.getElem?_eq_some_iff.1 ZX7.out).1
        have HV8 := Lib.hid (hv.setRow hxl noNode).at
        have HB8 := Lib.hid (below_setRow (HB7.out.trans (hb8.mono HB7.out.size)) (Nat.le_trans HS4w.out (Nat.le_refl _)) noNode)
        have HE8 := Lib.hid (HE.out.below HB8.out); have HT8 := Lib.hid (HT.out.later HB8.out)
        clear he hv hb8 hxl hbar
        go_wp2_with (first
          | (refine wpList_store_row rfl 28 (.tmp 13) (.tmp 91) rfl w4.heap.size noNode rfl rfl 28 _ Z8.out (by kernel_rfl) rfl (by simp [Value.oneCell']) ?_)
          | fail)
        refine (HV8.out.num HE8.out).mono ?_; rintro e w9 ⟨rfl, hb9⟩
        have HB9 := Lib.hid (HB8.out.trans (hb9.mono HB8.out.size)); have HT9 := Lib.hid (HT8.out.later hb9); have HV9 := Lib.hid (HV8.out.later hb9)
        clear hb9
        go_wp2_with fail
        refine (HV9.out.place HT9.out).mono ?_; rintro e w10 ⟨rfl, hb10⟩
        have HB10 := Lib.hid (HB9.out.trans (hb10.mono HB9.out.size))
        clear hb10
        go_wp2
        go_ret
        exact ⟨rfl, HB10.out⟩
      · intro e w8 he
        obtain ⟨v8, F8, rfl, ho, hF8, hb8⟩ := he.ok hbar
        obtain ⟨p8, c8, rfl, -⟩ := ho.slice
        have ho : Owned w8 (.slice p8 2 c8) (Tr.many 6 [t, u.rzT g]).subs F8 := ho
        have hxl : w4.heap.size < w7.heap.size := (Array.getElem?_eq_some_iff.1 ZX7.out).1
        have Z8o := Lib.hid (keep_blk hb8 ZX7.out)
        have Z8 := Lib.hid (heap_setRow (cs := (Tr.many 6 [t, u.rzT g]).cells (.slice p8 2 c8)) Z8o.out)
        have ZT8 := Lib.hid ((heap_setRow_other w8 w4.heap.size ((Tr.many 6 [t, u.rzT g]).cells (.slice p8 2 c8)) (show w2.heap.size ≠ w4.heap.size by have := HS24.out; omega)).trans (keep_blk hb8 ZT7.out))
        have ZU8 := Lib.hid ((heap_setRow_other w8 w4.heap.size ((Tr.many 6 [t, u.rzT g]).cells (.slice p8 2 c8)) (show w3.heap.size ≠ w4.heap.size by have := HS34.out; omega)).trans (keep_blk hb8 ZU7.out))
        have HQ8 := Lib.hid (below_setRow (HQ7.out.trans (hb8.mono HQ7.out.size)) (Nat.le_refl _) ((Tr.many 6 [t, u.rzT g]).cells (.slice p8 2 c8)))
        have HB8 := Lib.hid (below_setRow (HB7.out.trans (hb8.mono HB7.out.size)) (Nat.le_trans HS4w.out (Nat.le_refl _)) ((Tr.many 6 [t, u.rzT g]).cells (.slice p8 2 c8)))
        have HTB := Lib.hid (ho.keep (w' := w8.setRow w4.heap.size ((Tr.many 6 [t, u.rzT g]).cells (.slice p8 2 c8))) (fun b hb => heap_setRow_other _ _ _ (by have := hF8 b hb; omega))).trees.any
        clear he ho hF8 hb8 hxl hbar
        have hsl : (Tr.many 6 [t, u.rzT g]).subs.length = 2 := rfl
        unfold Tr.cells at *
        go_wp2_with (first
          | (refine wpList_store_row rfl 28 (.tmp 13) (.tmp 91) rfl w4.heap.size (#[.int .i64 ((Tr.many 6 [t, u.rzT g])).kind, .int .u64 (Oc.U ((Tr.many 6 [t, u.rzT g])).w0), .int .u64 (Oc.U ((Tr.many 6 [t, u.rzT g])).w1), .int .u64 (Oc.U ((Tr.many 6 [t, u.rzT g])).w2), .int .u64 (Oc.U ((Tr.many 6 [t, u.rzT g])).w3), .slice p8 2 c8, .int .i64 ((Tr.many 6 [t, u.rzT g])).num, .int .i64 ((Tr.many 6 [t, u.rzT g])).least, .int .i64 ((Tr.many 6 [t, u.rzT g])).most, .bool ((Tr.many 6 [t, u.rzT g])).bare]) rfl rfl 28 _ Z8o.out (by kernel_rfl) rfl (by simp [Value.oneCell']) ?_)
          | fail)
        generalize w8.setRow w4.heap.size (#[.int .i64 ((Tr.many 6 [t, u.rzT g])).kind, .int .u64 (Oc.U ((Tr.many 6 [t, u.rzT g])).w0), .int .u64 (Oc.U ((Tr.many 6 [t, u.rzT g])).w1), .int .u64 (Oc.U ((Tr.many 6 [t, u.rzT g])).w2), .int .u64 (Oc.U ((Tr.many 6 [t, u.rzT g])).w3), .slice p8 2 c8, .int .i64 ((Tr.many 6 [t, u.rzT g])).num, .int .i64 ((Tr.many 6 [t, u.rzT g])).least, .int .i64 ((Tr.many 6 [t, u.rzT g])).most, .bool ((Tr.many 6 [t, u.rzT g])).bare]) = W8 at *
        have HRU := Lib.hid (fun w9 (hb : Below W8.heap.size W8 w9) => HRG.out w9 _ (.agg (u.cells (.slice p3 u.subs.length c3))) ⟨_, rfl, HTU4.out.later (HQ8.out.trans (hb.mono HQ8.out.size))⟩)
        have HTT := Lib.hid (fun w9 (hb : Below W8.heap.size W8 w9) => HTT4.out.later (HQ8.out.trans (hb.mono HQ8.out.size)))
        have HNB := Lib.hid (fun w9 (hb : Below W8.heap.size W8 w9) => (⟨_, rfl, HTB.out.later hb⟩ : NodeV w9 (fun _ => True) (.agg ((Tr.many 6 [t, u.rzT g]).cells (.slice p8 2 c8))) (Tr.many 6 [t, u.rzT g])))
        clear hsl
        refine Ri.wp_region_frame (by kernel_rfl) (by kernel_rfl) (by kernel_rfl) (by kernel_rfl)
          (fun L v w' => Below W8.heap.size W8 w' ∧ (L 0 = true → v 0 = .int .i64 ((g : Int) + (g' : Int))) ∧ (L 1 = true → v 1 = .int .i64 (g : Int)) ∧ (L 2 = true → v 2 = .int .i64 (g' : Int)) ∧ (L 3 = true → v 3 = .int .i64 ((g : Int) + (g' : Int))) ∧ (L 4 = true → v 4 = .bool true) ∧ (L 5 = true → v 5 = .bool true) ∧ (L 6 = true → v 6 = .agg ((Tr.many 6 [t, u.rzT g]).cells (.slice p8 2 c8))) ∧ (L 7 = true → v 7 = .agg (t.cells (.slice p2 t.subs.length c2))) ∧ (L 8 = true → v 8 = .agg (u.cells (.slice p3 u.subs.length c3))) ∧ (L 9 = true → v 9 = .int .i64 (g : Int)) ∧ (L 10 = true → NdAt w' (v 10) (u.rzT g)) ∧ (L 11 = true → LsAt w' (v 11) [t, u.rzT g]) ∧ (L 12 = true → NdAt w' (v 12) (Tr.many 6 [t, u.rzT g])) ∧ (L 13 = true → v 13 = .bool true) ∧ (L 14 = true → v 14 = .bool true) ∧ (L 15 = true → v 15 = .bool true))
          ?_ ?_ ?_
        · exact ⟨(Below.refl _ _).drew, by simp, by simp, by simp, by simp, by simp, by simp, by simp, by simp, by simp, by simp, by simp, by simp, by simp, by simp, by simp, by simp⟩
        · intro i hi9 L v w9 xa hI hL hd hv ho
          have hi' : i = 0 ∨ i = 1 ∨ i = 2 ∨ i = 3 ∨ i = 4 ∨ i = 5 ∨ i = 6 ∨ i = 7 ∨ i = 8 ∨ i = 9 ∨ i = 10 ∨ i = 11 ∨ i = 12 ∨ i = 13 ∨ i = 14 ∨ i = 15 := by simp at hi9; omega
          obtain ⟨hb, q0, q1, q2, q3, q4, q5, q6, q7, q8, q9, q10, q11, q12, q13, q14, q15⟩ := hI
          rcases hi' with rfl | rfl | rfl | rfl | rfl | rfl | rfl | rfl | rfl | rfl | rfl | rfl | rfl | rfl | rfl | rfl
          · have e14 : xa.tmps.getD 14 undef = .int .i64 ((g : Int) + (g' : Int)) := ho 14 (by kernel_rfl)
            refine Ri.step_plain rfl rfl (fun K' hK => ?_)
            go_simp
            exact hK _ _ ⟨_, _, rfl, rfl, hb, fun _ => rfl, q1, q2, q3, q4, q5, q6, q7, q8, q9, q10, q11, q12, q13, q14, q15⟩
          · have e8 : xa.tmps.getD 8 undef = .int .i64 (g : Int) := ho 8 (by kernel_rfl)
            refine Ri.step_plain rfl rfl (fun K' hK => ?_)
            go_simp
            exact hK _ _ ⟨_, _, rfl, rfl, hb, q0, fun _ => rfl, q2, q3, q4, q5, q6, q7, q8, q9, q10, q11, q12, q13, q14, q15⟩
          · have e11 : xa.tmps.getD 11 undef = .int .i64 (g' : Int) := ho 11 (by kernel_rfl)
            refine Ri.step_plain rfl rfl (fun K' hK => ?_)
            go_simp
            exact hK _ _ ⟨_, _, rfl, rfl, hb, q0, q1, fun _ => rfl, q3, q4, q5, q6, q7, q8, q9, q10, q11, q12, q13, q14, q15⟩
          · have l0 : L 1 = true ∧ L 2 = true := by have := hd _ rfl; simp [Region.binds] at this; simp [this]
            have f1 := (hv 1 111 rfl l0.1).trans (q1 l0.1)
            have f2 := (hv 2 112 rfl l0.2).trans (q2 l0.2)
            refine Ri.step_plain rfl rfl (fun K' hK => ?_)
            go_simp
            exact hK _ _ ⟨_, _, rfl, rfl, hb, q0, q1, q2, fun _ => rfl, q4, q5, q6, q7, q8, q9, q10, q11, q12, q13, q14, q15⟩
          · have l0 : L 0 = true ∧ L 3 = true := by have := hd _ rfl; simp [Region.binds] at this; simp [this]
            have f0 := (hv 0 110 rfl l0.1).trans (q0 l0.1)
            have f3 := (hv 3 113 rfl l0.2).trans (q3 l0.2)
            refine Ri.step_plain rfl rfl (fun K' hK => ?_)
            go_simp
            exact hK _ _ ⟨_, _, rfl, rfl, hb, q0, q1, q2, q3, fun _ => rfl, q5, q6, q7, q8, q9, q10, q11, q12, q13, q14, q15⟩
          · have l0 : L 4 = true := by have := hd _ rfl; simp [Region.binds] at this; simp [this]
            have f4 := (hv 4 114 rfl l0).trans (q4 l0)
            refine Ri.step_plain rfl rfl (fun K' hK => ?_)
            go_simp
            exact hK _ _ ⟨_, _, rfl, rfl, hb, q0, q1, q2, q3, q4, fun _ => rfl, q6, q7, q8, q9, q10, q11, q12, q13, q14, q15⟩
          · have l0 : L 5 = true := by have := hd _ rfl; simp [Region.binds] at this; simp [this]
            have f5 := (hv 5 115 rfl l0).trans (q5 l0)
            have e13 : xa.tmps.getD 13 undef = .pointer (some ⟨w4.heap.size, 0, none⟩) := ho 13 (by kernel_rfl)
            refine Ri.step_wanted (b := true) rfl rfl rfl f5 (fun K' hK => ?_)
            refine wp_load_row _ _ rfl _ e13 _ _ _ _ (keep_blk hb Z8.out) Tryz.underlying28 rfl (by kernel_rfl) ?_
            exact hK _ _ ⟨_, _, rfl, rfl, hb, q0, q1, q2, q3, q4, q5, fun _ => rfl, q7, q8, q9, q10, q11, q12, q13, q14, q15⟩
          · have l0 : L 5 = true := by have := hd _ rfl; simp [Region.binds] at this; simp [this]
            have f5 := (hv 5 115 rfl l0).trans (q5 l0)
            have e7 : xa.tmps.getD 7 undef = .pointer (some ⟨w2.heap.size, 0, none⟩) := ho 7 (by kernel_rfl)
            refine Ri.step_wanted (b := true) rfl rfl rfl f5 (fun K' hK => ?_)
            refine wp_load_row _ _ rfl _ e7 _ _ _ _ (keep_blk hb ZT8.out) Tryz.underlying28 rfl (by kernel_rfl) ?_
            exact hK _ _ ⟨_, _, rfl, rfl, hb, q0, q1, q2, q3, q4, q5, q6, fun _ => rfl, q8, q9, q10, q11, q12, q13, q14, q15⟩
          · have l0 : L 5 = true := by have := hd _ rfl; simp [Region.binds] at this; simp [this]
            have f5 := (hv 5 115 rfl l0).trans (q5 l0)
            have e10 : xa.tmps.getD 10 undef = .pointer (some ⟨w3.heap.size, 0, none⟩) := ho 10 (by kernel_rfl)
            refine Ri.step_wanted (b := true) rfl rfl rfl f5 (fun K' hK => ?_)
            refine wp_load_row _ _ rfl _ e10 _ _ _ _ (keep_blk hb ZU8.out) Tryz.underlying28 rfl (by kernel_rfl) ?_
            exact hK _ _ ⟨_, _, rfl, rfl, hb, q0, q1, q2, q3, q4, q5, q6, q7, fun _ => rfl, q9, q10, q11, q12, q13, q14, q15⟩
          · have l0 : L 5 = true := by have := hd _ rfl; simp [Region.binds] at this; simp [this]
            have f5 := (hv 5 115 rfl l0).trans (q5 l0)
            have e8 : xa.tmps.getD 8 undef = .int .i64 (g : Int) := ho 8 (by kernel_rfl)
            refine Ri.step_wanted (b := true) rfl rfl rfl f5 (fun K' hK => ?_)
            go_simp
            exact hK _ _ ⟨_, _, rfl, rfl, hb, q0, q1, q2, q3, q4, q5, q6, q7, q8, fun _ => rfl, q10, q11, q12, q13, q14, q15⟩
          · have l0 : L 5 = true ∧ L 8 = true ∧ L 9 = true := by have := hd _ rfl; simp [Region.binds] at this; simp [this]
            have f5 := (hv 5 115 rfl l0.1).trans (q5 l0.1)
            have f8 := (hv 8 118 rfl l0.2.1).trans (q8 l0.2.1)
            have f9 := (hv 9 119 rfl l0.2.2).trans (q9 l0.2.2)
            refine Ri.step_wanted (b := true) rfl rfl rfl f5 (fun K' hK => ?_)
            go_simp
            refine (HRU.out w9 hb).mono ?_
            rintro e w8 ⟨v8, rfl, hv8, hb8⟩
            exact hK _ _ ⟨_, _, rfl, rfl, hb.trans (hb8.mono hb.size), q0, q1, q2, q3, q4, q5, q6, q7, q8, q9, fun _ => NodeV.nd hv8, fun l => (q11 l).below hb8, fun l => (q12 l).below hb8, q13, q14, q15⟩
          · have l0 : L 5 = true ∧ L 7 = true ∧ L 10 = true := by have := hd _ rfl; simp [Region.binds] at this; simp [this]
            have f5 := (hv 5 115 rfl l0.1).trans (q5 l0.1)
            have f7 := (hv 7 117 rfl l0.2.1).trans (q7 l0.2.1)
            have f10 := hv 10 120 rfl l0.2.2
            refine Ri.step_wanted (b := true) rfl rfl rfl f5 (fun K' hK => ?_)
            obtain ⟨s9, hs9, ht9⟩ := (q10 l0.2.2)
            obtain ⟨p9, c9, rfl, -⟩ := TreesAt.slice ht9
            refine wp_node2 (.tmp 117) (.tmp 120) _ _ _ _ _ _ _ _ rfl f7 (f10.trans hs9) ?_
            exact hK _ _ ⟨_, _, rfl, rfl, hb.alloc hb.size _, q0, q1, q2, q3, q4, q5, q6, q7, q8, q9, fun l => (q10 l).below ((Below.refl _ _).alloc (Nat.le_refl _) _), fun _ => LsAt.two (HTT.out w9 hb) ht9, fun l => (q12 l).below ((Below.refl _ _).alloc (Nat.le_refl _) _), q13, q14, q15⟩
          · have l0 : L 5 = true ∧ L 11 = true := by have := hd _ rfl; simp [Region.binds] at this; simp [this]
            have f5 := (hv 5 115 rfl l0.1).trans (q5 l0.1)
            have f11 := hv 11 121 rfl l0.2
            refine Ri.step_wanted (b := true) rfl rfl rfl f5 (fun K' hK => ?_)
            obtain ⟨p9, c9, hs9, -⟩ := TreesAt.slice (q11 l0.2)
            have g121 := (Array.getD_eq_getD_getElem? (xs := xa.tmps) (i := 121) (d := undef)).symm.trans (f11.trans hs9)
            have ht9 := (q11 l0.2)
            rw [hs9] at ht9
            go_simp
            exact hK _ _ ⟨_, _, rfl, rfl, hb, q0, q1, q2, q3, q4, q5, q6, q7, q8, q9, q10, q11, fun _ => ⟨_, rfl, ht9⟩, q13, q14, q15⟩
          · have l0 : L 5 = true ∧ L 6 = true ∧ L 12 = true := by have := hd _ rfl; simp [Region.binds] at this; simp [this]
            have f5 := (hv 5 115 rfl l0.1).trans (q5 l0.1)
            have f6 := (hv 6 116 rfl l0.2.1).trans (q6 l0.2.1)
            have f12 := hv 12 122 rfl l0.2.2
            refine Ri.step_wanted (b := true) rfl rfl rfl f5 (fun K' hK => ?_)
            go_simp
            refine ((samenodes_any (Tr.many 6 [t, u.rzT g]) (Tr.many 6 [t, u.rzT g]) w9 _ _ _ _ (HNB.out w9 hb) (q12 l0.2.2)).mono fun _ _ h => h.yes rfl).mono ?_
            rintro e w8 ⟨rfl, hb8⟩
            exact hK _ _ ⟨_, _, rfl, rfl, hb.trans (hb8.mono hb.size), q0, q1, q2, q3, q4, q5, q6, q7, q8, q9, fun l => (q10 l).below hb8, fun l => (q11 l).below hb8, fun l => (q12 l).below hb8, fun _ => rfl, q14, q15⟩
          · have l0 : L 5 = true ∧ L 13 = true := by have := hd _ rfl; simp [Region.binds] at this; simp [this]
            have f5 := (hv 5 115 rfl l0.1).trans (q5 l0.1)
            have f13 := (hv 13 123 rfl l0.2).trans (q13 l0.2)
            refine Ri.step_plain rfl rfl (fun K' hK => ?_)
            go_simp
            exact hK _ _ ⟨_, _, rfl, rfl, hb, q0, q1, q2, q3, q4, q5, q6, q7, q8, q9, q10, q11, q12, q13, fun _ => rfl, q15⟩
          · have l0 : L 14 = true := by have := hd _ rfl; simp [Region.binds] at this; simp [this]
            have f14 := (hv 14 124 rfl l0).trans (q14 l0)
            refine Ri.step_plain rfl rfl (fun K' hK => ?_)
            go_simp
            exact hK _ _ ⟨_, _, rfl, rfl, hb, q0, q1, q2, q3, q4, q5, q6, q7, q8, q9, q10, q11, q12, q13, q14, fun _ => rfl⟩
        · rintro v w9 ⟨hb, -, -, -, -, -, -, -, -, -, -, -, -, -, -, -, q15⟩
          have q15' : v 15 = .bool true := q15 rfl
          simp only [Ri.frame, List.zipIdx, List.foldl_cons, List.foldl_nil, if_true, List.setIfInBounds_toArray, List.set_cons_zero, List.set_cons_succ, Nat.reduceAdd, q15']
          clear q15 q15'
          generalize v 0 = y0; generalize v 1 = y1; generalize v 2 = y2; generalize v 3 = y3; generalize v 4 = y4; generalize v 5 = y5; generalize v 6 = y6; generalize v 7 = y7; generalize v 8 = y8; generalize v 9 = y9; generalize v 10 = y10; generalize v 11 = y11; generalize v 12 = y12; generalize v 13 = y13; generalize v 14 = y14
          go_wp2
          go_ret
          exact ⟨rfl, HB8.out.trans (hb.mono HB8.out.size)⟩
  · have HPP := Lib.hid hpp
    clear hpp
    go_enter Tryz.func5, Tryz.ntmps5
    go_wp2_with fail
    refine HL.out.mono ?_; rintro e w1 ⟨rfl, hb1⟩
    have HB1 := Lib.hid hb1; have HE1 := Lib.hid (HE.out.below hb1); have HT1 := Lib.hid (HT.out.later hb1)
    clear hb1
    go_wp2_with fail
    refine (HD.out A _ x fl HE1.out).mono ?_
    intro e w2 he
    obtain ⟨v2, F2, rfl, ho, -, hb2⟩ := he.ok HO.out
    obtain ⟨p2, c2, rfl, -⟩ := ho.slice
    have HTR2 := Lib.hid (fun w' (hb : Below (w2.alloc (.cells (t.cells (.slice p2 t.subs.length c2)) 28)).heap.size (w2.alloc (.cells (t.cells (.slice p2 t.subs.length c2)) 28)) w') => (TreesAt.later (w' := w') (ho.trees.any) (((Below.refl w2.heap.size w2).alloc (Nat.le_refl _) (.cells (t.cells (.slice p2 t.subs.length c2)) 28)).trans (Below.mono hb (by simp)))))
    have HS2 := Lib.hid hb2
    have HB2 := Lib.hid ((HB1.out.trans (hb2.mono HB1.out.size)).alloc (HB1.out.trans (hb2.mono HB1.out.size)).size (.cells (t.cells (.slice p2 t.subs.length c2)) 28))
    have HE2 := Lib.hid (HE.out.below HB2.out); have HT2 := Lib.hid (HT.out.later HB2.out)
    have Z2 := Lib.hid (heap_alloc_new w2 (.cells (t.cells (.slice p2 t.subs.length c2)) 28))
    clear he ho hb2
    unfold Tr.cells at *
    go_wp2_with fail
    refine (HD.out A _ y fl HE2.out).mono ?_
    intro e w3 he
    obtain ⟨v3, F3, rfl, ho, -, hb2⟩ := he.ok HP.out
    obtain ⟨p3, c3, rfl, -⟩ := ho.slice
    have HTR3 := Lib.hid (fun w' (hb : Below (w3.alloc (.cells (u.cells (.slice p3 u.subs.length c3)) 28)).heap.size (w3.alloc (.cells (u.cells (.slice p3 u.subs.length c3)) 28)) w') => (TreesAt.later (w' := w') (ho.trees.any) (((Below.refl w3.heap.size w3).alloc (Nat.le_refl _) (.cells (u.cells (.slice p3 u.subs.length c3)) 28)).trans (Below.mono hb (by simp)))))
    have HS3 := Lib.hid hb2
    have HB3 := Lib.hid ((HB2.out.trans (hb2.mono HB2.out.size)).alloc (HB2.out.trans (hb2.mono HB2.out.size)).size (.cells (u.cells (.slice p3 u.subs.length c3)) 28))
    have HE3 := Lib.hid (HE.out.below HB3.out); have HT3 := Lib.hid (HT.out.later HB3.out)
    have Z3 := Lib.hid (heap_alloc_new w3 (.cells (u.cells (.slice p3 u.subs.length c3)) 28))
    clear he ho hb2
    unfold Tr.cells at *
    go_wp2_with fail
    refine (HD.out A _ _ fl HE3.out).mono ?_
    intro e w4 he
    obtain ⟨v4, F4, rfl, ho, -, hb2⟩ := he.ok HPP.out
    obtain ⟨p4, c4, rfl, -⟩ := ho.slice
    have HTR4 := Lib.hid (fun w' (hb : Below (w4.alloc (.cells ((Tr.grp (1 : Nat) (t.rzT 1)).cells (.slice p4 (Tr.grp (1 : Nat) (t.rzT 1)).subs.length c4)) 28)).heap.size (w4.alloc (.cells ((Tr.grp (1 : Nat) (t.rzT 1)).cells (.slice p4 (Tr.grp (1 : Nat) (t.rzT 1)).subs.length c4)) 28)) w') => (TreesAt.later (w' := w') (ho.trees.any) (((Below.refl w4.heap.size w4).alloc (Nat.le_refl _) (.cells ((Tr.grp (1 : Nat) (t.rzT 1)).cells (.slice p4 (Tr.grp (1 : Nat) (t.rzT 1)).subs.length c4)) 28)).trans (Below.mono hb (by simp)))))
    have HS4 := Lib.hid hb2
    have HB4 := Lib.hid ((HB3.out.trans (hb2.mono HB3.out.size)).alloc (HB3.out.trans (hb2.mono HB3.out.size)).size (.cells ((Tr.grp (1 : Nat) (t.rzT 1)).cells (.slice p4 (Tr.grp (1 : Nat) (t.rzT 1)).subs.length c4)) 28))
    have HE4 := Lib.hid (HE.out.below HB4.out); have HT4 := Lib.hid (HT.out.later HB4.out)
    have Z4 := Lib.hid (heap_alloc_new w4 (.cells ((Tr.grp (1 : Nat) (t.rzT 1)).cells (.slice p4 (Tr.grp (1 : Nat) (t.rzT 1)).subs.length c4)) 28))
    clear he ho hb2
    have hq3 := (HS3.out.alloc HS3.out.size (.cells (u.cells (.slice p3 u.subs.length c3)) 28))
    have hq4 := (HS4.out.alloc HS4.out.size (.cells ((Tr.grp (1 : Nat) (t.rzT 1)).cells (.slice p4 (Tr.grp (1 : Nat) (t.rzT 1)).subs.length c4)) 28))
    have ZT4 := Lib.hid (keep_blk hq4 (keep_blk hq3 Z2.out)); have ZU4 := Lib.hid (keep_blk hq4 Z3.out)
    have HS24 := Lib.hid (show w2.heap.size < w4.heap.size by have h1 := HS3.out.size; have h2 := HS4.out.size; simp at h1 h2; omega)
    have HS34 := Lib.hid (show w3.heap.size < w4.heap.size by have h2 := HS4.out.size; simp at h2; omega)
    have HS4w := Lib.hid (show w.heap.size ≤ w4.heap.size by have h0 := HB1.out.size; have h3 := HS2.out.size; have h1 := HS3.out.size; have h2 := HS4.out.size; simp at h1 h2; omega)
    have HQ4 := Lib.hid ((Below.refl w4.heap.size w4).alloc (Nat.le_refl _) (.cells ((Tr.grp (1 : Nat) (t.rzT 1)).cells (.slice p4 (Tr.grp (1 : Nat) (t.rzT 1)).subs.length c4)) 28))
    have HTT4 := Lib.hid (HTR2.out _ (hq3.trans (HS4.out.mono hq3.size))); have HTU4 := Lib.hid (HTR3.out _ HS4.out)
    unfold Tr.cells at ZT4 ZU4
    clear hq3 hq4
    unfold Tr.cells at *
    go_upto_region 12 with (fail)
    generalize hW4 : (w4.alloc (.cells (#[.int .i64 ((Tr.grp (1 : Nat) (t.rzT 1))).kind, .int .u64 (Oc.U ((Tr.grp (1 : Nat) (t.rzT 1))).w0), .int .u64 (Oc.U ((Tr.grp (1 : Nat) (t.rzT 1))).w1), .int .u64 (Oc.U ((Tr.grp (1 : Nat) (t.rzT 1))).w2), .int .u64 (Oc.U ((Tr.grp (1 : Nat) (t.rzT 1))).w3), .slice p4 (Tr.grp (1 : Nat) (t.rzT 1)).subs.length c4, .int .i64 ((Tr.grp (1 : Nat) (t.rzT 1))).num, .int .i64 ((Tr.grp (1 : Nat) (t.rzT 1))).least, .int .i64 ((Tr.grp (1 : Nat) (t.rzT 1))).most, .bool ((Tr.grp (1 : Nat) (t.rzT 1))).bare]) 28)) = W4 at *
    have hW4s : w4.heap.size ≤ W4.heap.size := HQ4.out.size
    clear hW4
    have HRT := Lib.hid (fun w9 (hb : Below W4.heap.size W4 w9) => HR1.out w9 _ (.agg (t.cells (.slice p2 t.subs.length c2))) ⟨_, rfl, HTT4.out.later (HQ4.out.trans (hb.mono HQ4.out.size))⟩)
    have HNX := Lib.hid (fun w9 (hb : Below W4.heap.size W4 w9) => (⟨_, rfl, HTR4.out _ hb⟩ : NodeV w9 (fun _ => True) (.agg ((Tr.grp (1 : Nat) (t.rzT 1)).cells (.slice p4 (Tr.grp (1 : Nat) (t.rzT 1)).subs.length c4))) (Tr.grp (1 : Nat) (t.rzT 1))))
    refine Ri.wp_region_frame (by kernel_rfl) (by kernel_rfl) (by kernel_rfl) (by kernel_rfl)
      (fun L v w' => Below W4.heap.size W4 w' ∧ (L 0 = true → v 0 = .int .i64 ((g : Int) + 1)) ∧ (L 1 = true → v 1 = .int .i64 (g : Int)) ∧ (L 2 = true → v 2 = .int .i64 ((g : Int) + 1)) ∧ (L 3 = true → v 3 = .bool false) ∧ (L 4 = true → v 4 = .bool false) ∧ (L 5 = true → v 5 = .agg ((Tr.grp (1 : Nat) (t.rzT 1)).cells (.slice p4 (Tr.grp (1 : Nat) (t.rzT 1)).subs.length c4))) ∧ (L 6 = true → v 6 = .agg (t.cells (.slice p2 t.subs.length c2))) ∧ (L 7 = true → NdAt w' (v 7) (t.rzT 1)) ∧ (L 8 = true → LsAt w' (v 8) [t.rzT 1]) ∧ (L 9 = true → NdAt w' (v 9) (Tr.grp (1 : Nat) (t.rzT 1))) ∧ (L 10 = true → v 10 = .bool true) ∧ (L 11 = true → v 11 = .bool false) ∧ (L 12 = true → v 12 = .bool false))
      ?_ ?_ ?_
    · exact ⟨(Below.refl _ _).drew, by simp, by simp, by simp, by simp, by simp, by simp, by simp, by simp, by simp, by simp, by simp, by simp, by simp⟩
    · intro i hi9 L v w9 xa hI hL hd hv ho
      have hi' : i = 0 ∨ i = 1 ∨ i = 2 ∨ i = 3 ∨ i = 4 ∨ i = 5 ∨ i = 6 ∨ i = 7 ∨ i = 8 ∨ i = 9 ∨ i = 10 ∨ i = 11 ∨ i = 12 := by simp at hi9; omega
      obtain ⟨hb, q0, q1, q2, q3, q4, q5, q6, q7, q8, q9, q10, q11, q12⟩ := hI
      rcases hi' with rfl | rfl | rfl | rfl | rfl | rfl | rfl | rfl | rfl | rfl | rfl | rfl | rfl
      · have e14 : xa.tmps.getD 14 undef = .int .i64 ((g : Int) + 1) := ho 14 (by kernel_rfl)
        refine Ri.step_plain rfl rfl (fun K' hK => ?_)
        go_simp
        exact hK _ _ ⟨_, _, rfl, rfl, hb, fun _ => rfl, q1, q2, q3, q4, q5, q6, q7, q8, q9, q10, q11, q12⟩
      · have e8 : xa.tmps.getD 8 undef = .int .i64 (g : Int) := ho 8 (by kernel_rfl)
        refine Ri.step_plain rfl rfl (fun K' hK => ?_)
        go_simp
        exact hK _ _ ⟨_, _, rfl, rfl, hb, q0, fun _ => rfl, q2, q3, q4, q5, q6, q7, q8, q9, q10, q11, q12⟩
      · have l0 : L 1 = true := by have := hd _ rfl; simp [Region.binds] at this; simp [this]
        have f1 := (hv 1 66 rfl l0).trans (q1 l0)
        refine Ri.step_plain rfl rfl (fun K' hK => ?_)
        go_simp
        exact hK _ _ ⟨_, _, rfl, rfl, hb, q0, q1, fun _ => rfl, q3, q4, q5, q6, q7, q8, q9, q10, q11, q12⟩
      · have l0 : L 0 = true ∧ L 2 = true := by have := hd _ rfl; simp [Region.binds] at this; simp [this]
        have f0 := (hv 0 65 rfl l0.1).trans (q0 l0.1)
        have f2 := (hv 2 67 rfl l0.2).trans (q2 l0.2)
        refine Ri.step_plain rfl rfl (fun K' hK => ?_)
        go_simp
        exact hK _ _ ⟨_, _, rfl, rfl, hb, q0, q1, q2, fun _ => rfl, q4, q5, q6, q7, q8, q9, q10, q11, q12⟩
      · have l0 : L 3 = true := by have := hd _ rfl; simp [Region.binds] at this; simp [this]
        have f3 := (hv 3 68 rfl l0).trans (q3 l0)
        refine Ri.step_plain rfl rfl (fun K' hK => ?_)
        go_simp
        exact hK _ _ ⟨_, _, rfl, rfl, hb, q0, q1, q2, q3, fun _ => rfl, q5, q6, q7, q8, q9, q10, q11, q12⟩
      · have l0 : L 4 = true := by have := hd _ rfl; simp [Region.binds] at this; simp [this]
        have f4 := (hv 4 69 rfl l0).trans (q4 l0)
        have e13 : xa.tmps.getD 13 undef = .pointer (some ⟨w4.heap.size, 0, none⟩) := ho 13 (by kernel_rfl)
        refine Ri.step_wanted (b := false) rfl rfl rfl f4 (fun K' hK => ?_)
        refine wp_load_row _ _ rfl _ e13 _ _ _ _ (keep_blk hb Z4.out) Tryz.underlying28 rfl (by kernel_rfl) ?_
        exact hK _ _ ⟨_, _, rfl, rfl, hb, q0, q1, q2, q3, q4, fun _ => rfl, q6, q7, q8, q9, q10, q11, q12⟩
      · have l0 : L 4 = true := by have := hd _ rfl; simp [Region.binds] at this; simp [this]
        have f4 := (hv 4 69 rfl l0).trans (q4 l0)
        have e7 : xa.tmps.getD 7 undef = .pointer (some ⟨w2.heap.size, 0, none⟩) := ho 7 (by kernel_rfl)
        refine Ri.step_wanted (b := false) rfl rfl rfl f4 (fun K' hK => ?_)
        refine wp_load_row _ _ rfl _ e7 _ _ _ _ (keep_blk hb ZT4.out) Tryz.underlying28 rfl (by kernel_rfl) ?_
        exact hK _ _ ⟨_, _, rfl, rfl, hb, q0, q1, q2, q3, q4, q5, fun _ => rfl, q7, q8, q9, q10, q11, q12⟩
      · have l0 : L 4 = true ∧ L 6 = true := by have := hd _ rfl; simp [Region.binds] at this; simp [this]
        have f4 := (hv 4 69 rfl l0.1).trans (q4 l0.1)
        have f6 := (hv 6 71 rfl l0.2).trans (q6 l0.2)
        refine Ri.step_wanted (b := false) rfl rfl rfl f4 (fun K' hK => ?_)
        go_simp
        refine (HRT.out w9 hb).mono ?_
        rintro e w8 ⟨v8, rfl, hv8, hb8⟩
        exact hK _ _ ⟨_, _, rfl, rfl, hb.trans (hb8.mono hb.size), q0, q1, q2, q3, q4, q5, q6, fun _ => NodeV.nd hv8, fun l => (q8 l).below hb8, fun l => (q9 l).below hb8, q10, q11, q12⟩
      · have l0 : L 4 = true ∧ L 7 = true := by have := hd _ rfl; simp [Region.binds] at this; simp [this]
        have f4 := (hv 4 69 rfl l0.1).trans (q4 l0.1)
        have f7 := hv 7 72 rfl l0.2
        refine Ri.step_wanted (b := false) rfl rfl rfl f4 (fun K' hK => ?_)
        obtain ⟨s9, hs9, ht9⟩ := (q7 l0.2)
        obtain ⟨p9, c9, rfl, -⟩ := TreesAt.slice ht9
        refine wp_node1 (.tmp 72) _ _ _ _ rfl (f7.trans hs9) ?_
        exact hK _ _ ⟨_, _, rfl, rfl, hb.alloc hb.size _, q0, q1, q2, q3, q4, q5, q6, fun l => (q7 l).below ((Below.refl _ _).alloc (Nat.le_refl _) _), fun _ => LsAt.one ht9, fun l => (q9 l).below ((Below.refl _ _).alloc (Nat.le_refl _) _), q10, q11, q12⟩
      · have l0 : L 4 = true ∧ L 8 = true := by have := hd _ rfl; simp [Region.binds] at this; simp [this]
        have f4 := (hv 4 69 rfl l0.1).trans (q4 l0.1)
        have f8 := hv 8 73 rfl l0.2
        refine Ri.step_wanted (b := false) rfl rfl rfl f4 (fun K' hK => ?_)
        obtain ⟨p9, c9, hs9, -⟩ := TreesAt.slice (q8 l0.2)
        have g73 := (Array.getD_eq_getD_getElem? (xs := xa.tmps) (i := 73) (d := undef)).symm.trans (f8.trans hs9)
        have ht9 := (q8 l0.2)
        rw [hs9] at ht9
        go_simp
        exact hK _ _ ⟨_, _, rfl, rfl, hb, q0, q1, q2, q3, q4, q5, q6, q7, q8, fun _ => ⟨_, rfl, ht9⟩, q10, q11, q12⟩
      · have l0 : L 4 = true ∧ L 5 = true ∧ L 9 = true := by have := hd _ rfl; simp [Region.binds] at this; simp [this]
        have f4 := (hv 4 69 rfl l0.1).trans (q4 l0.1)
        have f5 := (hv 5 70 rfl l0.2.1).trans (q5 l0.2.1)
        have f9 := hv 9 74 rfl l0.2.2
        refine Ri.step_wanted (b := false) rfl rfl rfl f4 (fun K' hK => ?_)
        go_simp
        refine ((samenodes_any (Tr.grp (1 : Nat) (t.rzT 1)) (Tr.grp (1 : Nat) (t.rzT 1)) w9 _ _ _ _ (HNX.out w9 hb) (q9 l0.2.2)).mono fun _ _ h => h.yes rfl).mono ?_
        rintro e w8 ⟨rfl, hb8⟩
        exact hK _ _ ⟨_, _, rfl, rfl, hb.trans (hb8.mono hb.size), q0, q1, q2, q3, q4, q5, q6, fun l => (q7 l).below hb8, fun l => (q8 l).below hb8, fun l => (q9 l).below hb8, fun _ => rfl, q11, q12⟩
      · have l0 : L 4 = true ∧ L 10 = true := by have := hd _ rfl; simp [Region.binds] at this; simp [this]
        have f4 := (hv 4 69 rfl l0.1).trans (q4 l0.1)
        have f10 := (hv 10 75 rfl l0.2).trans (q10 l0.2)
        refine Ri.step_wanted (b := false) rfl rfl rfl f4 (fun K' hK => ?_)
        go_simp
        exact hK _ _ ⟨_, _, rfl, rfl, hb, q0, q1, q2, q3, q4, q5, q6, q7, q8, q9, q10, fun _ => rfl, q12⟩
      · have l0 : L 4 = true ∧ L 11 = true := by have := hd _ rfl; simp [Region.binds] at this; simp [this]
        have f4 := (hv 4 69 rfl l0.1).trans (q4 l0.1)
        have f11 := (hv 11 76 rfl l0.2).trans (q11 l0.2)
        refine Ri.step_plain rfl rfl (fun K' hK => ?_)
        go_simp
        exact hK _ _ ⟨_, _, rfl, rfl, hb, q0, q1, q2, q3, q4, q5, q6, q7, q8, q9, q10, q11, fun _ => rfl⟩
    · rintro v w9 ⟨hb, -, -, -, -, -, -, -, -, -, -, -, -, q12⟩
      have q12' : v 12 = .bool false := q12 rfl
      simp only [Ri.frame, List.zipIdx, List.foldl_cons, List.foldl_nil, if_true, List.setIfInBounds_toArray, List.set_cons_zero, List.set_cons_succ, Nat.reduceAdd, q12']
      clear q12 q12'
      generalize v 0 = y0; generalize v 1 = y1; generalize v 2 = y2; generalize v 3 = y3; generalize v 4 = y4; generalize v 5 = y5; generalize v 6 = y6; generalize v 7 = y7; generalize v 8 = y8; generalize v 9 = y9; generalize v 10 = y10; generalize v 11 = y11
      have HBq := Lib.hid (HB4.out.trans (hb.mono HB4.out.size)); have ZTq := Lib.hid (keep_blk hb ZT4.out); have ZUq := Lib.hid (keep_blk hb ZU4.out); have ZXq := Lib.hid (keep_blk hb Z4.out)
      have HQq := Lib.hid (HQ4.out.trans (hb.mono HQ4.out.size))
      obtain ⟨d0, d1, d2, d3, d4, d5, d6, d7, d8, d9⟩ := allTen ZTq.out
      clear hb
      go_wp2_with fail
      refine (branches_any t (t.kind == 6) rfl _ (.slice p2 t.subs.length c2) ⟨_, _, _, rfl⟩).mono ?_
      rintro e w6 ⟨rfl, hb6⟩
      have HB6 := Lib.hid (HBq.out.trans (hb6.mono HBq.out.size)); have ZT6 := Lib.hid (keep_blk hb6 ZTq.out); have ZU6 := Lib.hid (keep_blk hb6 ZUq.out); have ZX6 := Lib.hid (keep_blk hb6 ZXq.out)
      have HQ6 := Lib.hid (HQq.out.trans (hb6.mono HQq.out.size))
      clear hb6 d0 d1 d2 d3 d4 d5 d6 d7 d8 d9
      by_cases ht6 : t.kind = 6
      · have hk6 : (t.kind == 6) = true := by simpa using ht6
        rw [hk6]
        clear ht6
        go_wp2
        go_ret
        exact ⟨rfl, HB6.out⟩
      have hk6 : (t.kind == 6) = false := by simpa using ht6
      rw [hk6]
      obtain ⟨d0, d1, d2, d3, d4, d5, d6, d7, d8, d9⟩ := allTen ZU6.out
      clear hk6
      go_wp2_with fail
      refine (branches_any u (u.kind == 6) rfl _ (.slice p3 u.subs.length c3) ⟨_, _, _, rfl⟩).mono ?_
      rintro e w7 ⟨rfl, hb7⟩
      have HB7 := Lib.hid (HB6.out.trans (hb7.mono HB6.out.size)); have ZT7 := Lib.hid (keep_blk hb7 ZT6.out); have ZU7 := Lib.hid (keep_blk hb7 ZU6.out); have ZX7 := Lib.hid (keep_blk hb7 ZX6.out)
      have HQ7 := Lib.hid (HQ6.out.trans (hb7.mono HQ6.out.size))
      have HE7 := Lib.hid (HE.out.below HB7.out); have HT7 := Lib.hid (HT.out.later HB7.out)
      clear hb7 d0 d1 d2 d3 d4 d5 d6 d7 d8 d9
      by_cases hu6 : u.kind = 6
      · have hk7 : (u.kind == 6) = true := by simpa using hu6
        rw [hk7]
        clear ht6 hu6
        go_wp2
        go_ret
        exact ⟨rfl, HB7.out⟩
      have hk7 : (u.kind == 6) = false := by simpa using hu6
      rw [hk7]
      have HBAR := Lib.hid (HJB.out ht6 hu6)
      clear hk7 ht6 hu6
      go_wp2_with fail
      refine (HD.out A _ _ fl HE7.out).mono ?_
      rcases HBAR.out with hbar | hbar
      · intro e w8 he
        obtain ⟨v8, rfl, hv, hb8⟩ := he.err hbar
        obtain ⟨q8, rfl⟩ := hv.iface
        have Z8 := Lib.hid (keep_blk hb8 ZX7.out)
        have hxl : w4.heap.size < w7.heap.size := (Array.getElem?_eq_some_iff.1 ZX7.out).1
        have HV8 := Lib.hid (hv.setRow hxl noNode).at
        have HB8 := Lib.hid (below_setRow (HB7.out.trans (hb8.mono HB7.out.size)) (Nat.le_trans HS4w.out (Nat.le_refl _)) noNode)
        have HE8 := Lib.hid (HE.out.below HB8.out); have HT8 := Lib.hid (HT.out.later HB8.out)
        clear he hv hb8 hxl hbar
        go_wp2_with (first
          | (refine wpList_store_row rfl 28 (.tmp 13) (.tmp 91) rfl w4.heap.size noNode rfl rfl 28 _ Z8.out (by kernel_rfl) rfl (by simp [Value.oneCell']) ?_)
          | fail)
        refine (HV8.out.num HE8.out).mono ?_; rintro e w9 ⟨rfl, hb9⟩
        have HB9 := Lib.hid (HB8.out.trans (hb9.mono HB8.out.size)); have HT9 := Lib.hid (HT8.out.later hb9); have HV9 := Lib.hid (HV8.out.later hb9)
        clear hb9
        go_wp2_with fail
        refine (HV9.out.place HT9.out).mono ?_; rintro e w10 ⟨rfl, hb10⟩
        have HB10 := Lib.hid (HB9.out.trans (hb10.mono HB9.out.size))
        clear hb10
        go_wp2
        go_ret
        exact ⟨rfl, HB10.out⟩
      · intro e w8 he
        obtain ⟨v8, F8, rfl, ho, hF8, hb8⟩ := he.ok hbar
        obtain ⟨p8, c8, rfl, -⟩ := ho.slice
        have ho : Owned w8 (.slice p8 2 c8) (Tr.many 6 [t, u.rzT g]).subs F8 := ho
        have hxl : w4.heap.size < w7.heap.size := (Array.getElem?_eq_some_iff.1 ZX7.out).1
        have Z8o := Lib.hid (keep_blk hb8 ZX7.out)
        have Z8 := Lib.hid (heap_setRow (cs := (Tr.many 6 [t, u.rzT g]).cells (.slice p8 2 c8)) Z8o.out)
        have ZT8 := Lib.hid ((heap_setRow_other w8 w4.heap.size ((Tr.many 6 [t, u.rzT g]).cells (.slice p8 2 c8)) (show w2.heap.size ≠ w4.heap.size by have := HS24.out; omega)).trans (keep_blk hb8 ZT7.out))
        have ZU8 := Lib.hid ((heap_setRow_other w8 w4.heap.size ((Tr.many 6 [t, u.rzT g]).cells (.slice p8 2 c8)) (show w3.heap.size ≠ w4.heap.size by have := HS34.out; omega)).trans (keep_blk hb8 ZU7.out))
        have HQ8 := Lib.hid (below_setRow (HQ7.out.trans (hb8.mono HQ7.out.size)) (Nat.le_refl _) ((Tr.many 6 [t, u.rzT g]).cells (.slice p8 2 c8)))
        have HB8 := Lib.hid (below_setRow (HB7.out.trans (hb8.mono HB7.out.size)) (Nat.le_trans HS4w.out (Nat.le_refl _)) ((Tr.many 6 [t, u.rzT g]).cells (.slice p8 2 c8)))
        have HTB := Lib.hid (ho.keep (w' := w8.setRow w4.heap.size ((Tr.many 6 [t, u.rzT g]).cells (.slice p8 2 c8))) (fun b hb => heap_setRow_other _ _ _ (by have := hF8 b hb; omega))).trees.any
        clear he ho hF8 hb8 hxl hbar
        have hsl : (Tr.many 6 [t, u.rzT g]).subs.length = 2 := rfl
        unfold Tr.cells at *
        go_wp2_with (first
          | (refine wpList_store_row rfl 28 (.tmp 13) (.tmp 91) rfl w4.heap.size (#[.int .i64 ((Tr.many 6 [t, u.rzT g])).kind, .int .u64 (Oc.U ((Tr.many 6 [t, u.rzT g])).w0), .int .u64 (Oc.U ((Tr.many 6 [t, u.rzT g])).w1), .int .u64 (Oc.U ((Tr.many 6 [t, u.rzT g])).w2), .int .u64 (Oc.U ((Tr.many 6 [t, u.rzT g])).w3), .slice p8 2 c8, .int .i64 ((Tr.many 6 [t, u.rzT g])).num, .int .i64 ((Tr.many 6 [t, u.rzT g])).least, .int .i64 ((Tr.many 6 [t, u.rzT g])).most, .bool ((Tr.many 6 [t, u.rzT g])).bare]) rfl rfl 28 _ Z8o.out (by kernel_rfl) rfl (by simp [Value.oneCell']) ?_)
          | fail)
        generalize w8.setRow w4.heap.size (#[.int .i64 ((Tr.many 6 [t, u.rzT g])).kind, .int .u64 (Oc.U ((Tr.many 6 [t, u.rzT g])).w0), .int .u64 (Oc.U ((Tr.many 6 [t, u.rzT g])).w1), .int .u64 (Oc.U ((Tr.many 6 [t, u.rzT g])).w2), .int .u64 (Oc.U ((Tr.many 6 [t, u.rzT g])).w3), .slice p8 2 c8, .int .i64 ((Tr.many 6 [t, u.rzT g])).num, .int .i64 ((Tr.many 6 [t, u.rzT g])).least, .int .i64 ((Tr.many 6 [t, u.rzT g])).most, .bool ((Tr.many 6 [t, u.rzT g])).bare]) = W8 at *
        have HRU := Lib.hid (fun w9 (hb : Below W8.heap.size W8 w9) => HRG.out w9 _ (.agg (u.cells (.slice p3 u.subs.length c3))) ⟨_, rfl, HTU4.out.later (HQ8.out.trans (hb.mono HQ8.out.size))⟩)
        have HTT := Lib.hid (fun w9 (hb : Below W8.heap.size W8 w9) => HTT4.out.later (HQ8.out.trans (hb.mono HQ8.out.size)))
        have HNB := Lib.hid (fun w9 (hb : Below W8.heap.size W8 w9) => (⟨_, rfl, HTB.out.later hb⟩ : NodeV w9 (fun _ => True) (.agg ((Tr.many 6 [t, u.rzT g]).cells (.slice p8 2 c8))) (Tr.many 6 [t, u.rzT g])))
        clear hsl
        refine Ri.wp_region_frame (by kernel_rfl) (by kernel_rfl) (by kernel_rfl) (by kernel_rfl)
          (fun L v w' => Below W8.heap.size W8 w' ∧ (L 0 = true → v 0 = .int .i64 ((g : Int) + (g' : Int))) ∧ (L 1 = true → v 1 = .int .i64 (g : Int)) ∧ (L 2 = true → v 2 = .int .i64 (g' : Int)) ∧ (L 3 = true → v 3 = .int .i64 ((g : Int) + (g' : Int))) ∧ (L 4 = true → v 4 = .bool true) ∧ (L 5 = true → v 5 = .bool true) ∧ (L 6 = true → v 6 = .agg ((Tr.many 6 [t, u.rzT g]).cells (.slice p8 2 c8))) ∧ (L 7 = true → v 7 = .agg (t.cells (.slice p2 t.subs.length c2))) ∧ (L 8 = true → v 8 = .agg (u.cells (.slice p3 u.subs.length c3))) ∧ (L 9 = true → v 9 = .int .i64 (g : Int)) ∧ (L 10 = true → NdAt w' (v 10) (u.rzT g)) ∧ (L 11 = true → LsAt w' (v 11) [t, u.rzT g]) ∧ (L 12 = true → NdAt w' (v 12) (Tr.many 6 [t, u.rzT g])) ∧ (L 13 = true → v 13 = .bool true) ∧ (L 14 = true → v 14 = .bool true) ∧ (L 15 = true → v 15 = .bool true))
          ?_ ?_ ?_
        · exact ⟨(Below.refl _ _).drew, by simp, by simp, by simp, by simp, by simp, by simp, by simp, by simp, by simp, by simp, by simp, by simp, by simp, by simp, by simp, by simp⟩
        · intro i hi9 L v w9 xa hI hL hd hv ho
          have hi' : i = 0 ∨ i = 1 ∨ i = 2 ∨ i = 3 ∨ i = 4 ∨ i = 5 ∨ i = 6 ∨ i = 7 ∨ i = 8 ∨ i = 9 ∨ i = 10 ∨ i = 11 ∨ i = 12 ∨ i = 13 ∨ i = 14 ∨ i = 15 := by simp at hi9; omega
          obtain ⟨hb, q0, q1, q2, q3, q4, q5, q6, q7, q8, q9, q10, q11, q12, q13, q14, q15⟩ := hI
          rcases hi' with rfl | rfl | rfl | rfl | rfl | rfl | rfl | rfl | rfl | rfl | rfl | rfl | rfl | rfl | rfl | rfl
          · have e14 : xa.tmps.getD 14 undef = .int .i64 ((g : Int) + (g' : Int)) := ho 14 (by kernel_rfl)
            refine Ri.step_plain rfl rfl (fun K' hK => ?_)
            go_simp
            exact hK _ _ ⟨_, _, rfl, rfl, hb, fun _ => rfl, q1, q2, q3, q4, q5, q6, q7, q8, q9, q10, q11, q12, q13, q14, q15⟩
          · have e8 : xa.tmps.getD 8 undef = .int .i64 (g : Int) := ho 8 (by kernel_rfl)
            refine Ri.step_plain rfl rfl (fun K' hK => ?_)
            go_simp
            exact hK _ _ ⟨_, _, rfl, rfl, hb, q0, fun _ => rfl, q2, q3, q4, q5, q6, q7, q8, q9, q10, q11, q12, q13, q14, q15⟩
          · have e11 : xa.tmps.getD 11 undef = .int .i64 (g' : Int) := ho 11 (by kernel_rfl)
            refine Ri.step_plain rfl rfl (fun K' hK => ?_)
            go_simp
            exact hK _ _ ⟨_, _, rfl, rfl, hb, q0, q1, fun _ => rfl, q3, q4, q5, q6, q7, q8, q9, q10, q11, q12, q13, q14, q15⟩
          · have l0 : L 1 = true ∧ L 2 = true := by have := hd _ rfl; simp [Region.binds] at this; simp [this]
            have f1 := (hv 1 111 rfl l0.1).trans (q1 l0.1)
            have f2 := (hv 2 112 rfl l0.2).trans (q2 l0.2)
            refine Ri.step_plain rfl rfl (fun K' hK => ?_)
            go_simp
            exact hK _ _ ⟨_, _, rfl, rfl, hb, q0, q1, q2, fun _ => rfl, q4, q5, q6, q7, q8, q9, q10, q11, q12, q13, q14, q15⟩
          · have l0 : L 0 = true ∧ L 3 = true := by have := hd _ rfl; simp [Region.binds] at this; simp [this]
            have f0 := (hv 0 110 rfl l0.1).trans (q0 l0.1)
            have f3 := (hv 3 113 rfl l0.2).trans (q3 l0.2)
            refine Ri.step_plain rfl rfl (fun K' hK => ?_)
            go_simp
            exact hK _ _ ⟨_, _, rfl, rfl, hb, q0, q1, q2, q3, fun _ => rfl, q5, q6, q7, q8, q9, q10, q11, q12, q13, q14, q15⟩
          · have l0 : L 4 = true := by have := hd _ rfl; simp [Region.binds] at this; simp [this]
            have f4 := (hv 4 114 rfl l0).trans (q4 l0)
            refine Ri.step_plain rfl rfl (fun K' hK => ?_)
            go_simp
            exact hK _ _ ⟨_, _, rfl, rfl, hb, q0, q1, q2, q3, q4, fun _ => rfl, q6, q7, q8, q9, q10, q11, q12, q13, q14, q15⟩
          · have l0 : L 5 = true := by have := hd _ rfl; simp [Region.binds] at this; simp [this]
            have f5 := (hv 5 115 rfl l0).trans (q5 l0)
            have e13 : xa.tmps.getD 13 undef = .pointer (some ⟨w4.heap.size, 0, none⟩) := ho 13 (by kernel_rfl)
            refine Ri.step_wanted (b := true) rfl rfl rfl f5 (fun K' hK => ?_)
            refine wp_load_row _ _ rfl _ e13 _ _ _ _ (keep_blk hb Z8.out) Tryz.underlying28 rfl (by kernel_rfl) ?_
            exact hK _ _ ⟨_, _, rfl, rfl, hb, q0, q1, q2, q3, q4, q5, fun _ => rfl, q7, q8, q9, q10, q11, q12, q13, q14, q15⟩
          · have l0 : L 5 = true := by have := hd _ rfl; simp [Region.binds] at this; simp [this]
            have f5 := (hv 5 115 rfl l0).trans (q5 l0)
            have e7 : xa.tmps.getD 7 undef = .pointer (some ⟨w2.heap.size, 0, none⟩) := ho 7 (by kernel_rfl)
            refine Ri.step_wanted (b := true) rfl rfl rfl f5 (fun K' hK => ?_)
            refine wp_load_row _ _ rfl _ e7 _ _ _ _ (keep_blk hb ZT8.out) Tryz.underlying28 rfl (by kernel_rfl) ?_
            exact hK _ _ ⟨_, _, rfl, rfl, hb, q0, q1, q2, q3, q4, q5, q6, fun _ => rfl, q8, q9, q10, q11, q12, q13, q14, q15⟩
          · have l0 : L 5 = true := by have := hd _ rfl; simp [Region.binds] at this; simp [this]
            have f5 := (hv 5 115 rfl l0).trans (q5 l0)
            have e10 : xa.tmps.getD 10 undef = .pointer (some ⟨w3.heap.size, 0, none⟩) := ho 10 (by kernel_rfl)
            refine Ri.step_wanted (b := true) rfl rfl rfl f5 (fun K' hK => ?_)
            refine wp_load_row _ _ rfl _ e10 _ _ _ _ (keep_blk hb ZU8.out) Tryz.underlying28 rfl (by kernel_rfl) ?_
            exact hK _ _ ⟨_, _, rfl, rfl, hb, q0, q1, q2, q3, q4, q5, q6, q7, fun _ => rfl, q9, q10, q11, q12, q13, q14, q15⟩
          · have l0 : L 5 = true := by have := hd _ rfl; simp [Region.binds] at this; simp [this]
            have f5 := (hv 5 115 rfl l0).trans (q5 l0)
            have e8 : xa.tmps.getD 8 undef = .int .i64 (g : Int) := ho 8 (by kernel_rfl)
            refine Ri.step_wanted (b := true) rfl rfl rfl f5 (fun K' hK => ?_)
            go_simp
            exact hK _ _ ⟨_, _, rfl, rfl, hb, q0, q1, q2, q3, q4, q5, q6, q7, q8, fun _ => rfl, q10, q11, q12, q13, q14, q15⟩
          · have l0 : L 5 = true ∧ L 8 = true ∧ L 9 = true := by have := hd _ rfl; simp [Region.binds] at this; simp [this]
            have f5 := (hv 5 115 rfl l0.1).trans (q5 l0.1)
            have f8 := (hv 8 118 rfl l0.2.1).trans (q8 l0.2.1)
            have f9 := (hv 9 119 rfl l0.2.2).trans (q9 l0.2.2)
            refine Ri.step_wanted (b := true) rfl rfl rfl f5 (fun K' hK => ?_)
            go_simp
            refine (HRU.out w9 hb).mono ?_
            rintro e w8 ⟨v8, rfl, hv8, hb8⟩
            exact hK _ _ ⟨_, _, rfl, rfl, hb.trans (hb8.mono hb.size), q0, q1, q2, q3, q4, q5, q6, q7, q8, q9, fun _ => NodeV.nd hv8, fun l => (q11 l).below hb8, fun l => (q12 l).below hb8, q13, q14, q15⟩
          · have l0 : L 5 = true ∧ L 7 = true ∧ L 10 = true := by have := hd _ rfl; simp [Region.binds] at this; simp [this]
            have f5 := (hv 5 115 rfl l0.1).trans (q5 l0.1)
            have f7 := (hv 7 117 rfl l0.2.1).trans (q7 l0.2.1)
            have f10 := hv 10 120 rfl l0.2.2
            refine Ri.step_wanted (b := true) rfl rfl rfl f5 (fun K' hK => ?_)
            obtain ⟨s9, hs9, ht9⟩ := (q10 l0.2.2)
            obtain ⟨p9, c9, rfl, -⟩ := TreesAt.slice ht9
            refine wp_node2 (.tmp 117) (.tmp 120) _ _ _ _ _ _ _ _ rfl f7 (f10.trans hs9) ?_
            exact hK _ _ ⟨_, _, rfl, rfl, hb.alloc hb.size _, q0, q1, q2, q3, q4, q5, q6, q7, q8, q9, fun l => (q10 l).below ((Below.refl _ _).alloc (Nat.le_refl _) _), fun _ => LsAt.two (HTT.out w9 hb) ht9, fun l => (q12 l).below ((Below.refl _ _).alloc (Nat.le_refl _) _), q13, q14, q15⟩
          · have l0 : L 5 = true ∧ L 11 = true := by have := hd _ rfl; simp [Region.binds] at this; simp [this]
            have f5 := (hv 5 115 rfl l0.1).trans (q5 l0.1)
            have f11 := hv 11 121 rfl l0.2
            refine Ri.step_wanted (b := true) rfl rfl rfl f5 (fun K' hK => ?_)
            obtain ⟨p9, c9, hs9, -⟩ := TreesAt.slice (q11 l0.2)
            have g121 := (Array.getD_eq_getD_getElem? (xs := xa.tmps) (i := 121) (d := undef)).symm.trans (f11.trans hs9)
            have ht9 := (q11 l0.2)
            rw [hs9] at ht9
            go_simp
            exact hK _ _ ⟨_, _, rfl, rfl, hb, q0, q1, q2, q3, q4, q5, q6, q7, q8, q9, q10, q11, fun _ => ⟨_, rfl, ht9⟩, q13, q14, q15⟩
          · have l0 : L 5 = true ∧ L 6 = true ∧ L 12 = true := by have := hd _ rfl; simp [Region.binds] at this; simp [this]
            have f5 := (hv 5 115 rfl l0.1).trans (q5 l0.1)
            have f6 := (hv 6 116 rfl l0.2.1).trans (q6 l0.2.1)
            have f12 := hv 12 122 rfl l0.2.2
            refine Ri.step_wanted (b := true) rfl rfl rfl f5 (fun K' hK => ?_)
            go_simp
            refine ((samenodes_any (Tr.many 6 [t, u.rzT g]) (Tr.many 6 [t, u.rzT g]) w9 _ _ _ _ (HNB.out w9 hb) (q12 l0.2.2)).mono fun _ _ h => h.yes rfl).mono ?_
            rintro e w8 ⟨rfl, hb8⟩
            exact hK _ _ ⟨_, _, rfl, rfl, hb.trans (hb8.mono hb.size), q0, q1, q2, q3, q4, q5, q6, q7, q8, q9, fun l => (q10 l).below hb8, fun l => (q11 l).below hb8, fun l => (q12 l).below hb8, fun _ => rfl, q14, q15⟩
          · have l0 : L 5 = true ∧ L 13 = true := by have := hd _ rfl; simp [Region.binds] at this; simp [this]
            have f5 := (hv 5 115 rfl l0.1).trans (q5 l0.1)
            have f13 := (hv 13 123 rfl l0.2).trans (q13 l0.2)
            refine Ri.step_plain rfl rfl (fun K' hK => ?_)
            go_simp
            exact hK _ _ ⟨_, _, rfl, rfl, hb, q0, q1, q2, q3, q4, q5, q6, q7, q8, q9, q10, q11, q12, q13, fun _ => rfl, q15⟩
          · have l0 : L 14 = true := by have := hd _ rfl; simp [Region.binds] at this; simp [this]
            have f14 := (hv 14 124 rfl l0).trans (q14 l0)
            refine Ri.step_plain rfl rfl (fun K' hK => ?_)
            go_simp
            exact hK _ _ ⟨_, _, rfl, rfl, hb, q0, q1, q2, q3, q4, q5, q6, q7, q8, q9, q10, q11, q12, q13, q14, fun _ => rfl⟩
        · rintro v w9 ⟨hb, -, -, -, -, -, -, -, -, -, -, -, -, -, -, -, q15⟩
          have q15' : v 15 = .bool true := q15 rfl
          simp only [Ri.frame, List.zipIdx, List.foldl_cons, List.foldl_nil, if_true, List.setIfInBounds_toArray, List.set_cons_zero, List.set_cons_succ, Nat.reduceAdd, q15']
          clear q15 q15'
          generalize v 0 = y0; generalize v 1 = y1; generalize v 2 = y2; generalize v 3 = y3; generalize v 4 = y4; generalize v 5 = y5; generalize v 6 = y6; generalize v 7 = y7; generalize v 8 = y8; generalize v 9 = y9; generalize v 10 = y10; generalize v 11 = y11; generalize v 12 = y12; generalize v 13 = y13; generalize v 14 = y14
          go_wp2
          go_ret
          exact ⟨rfl, HB8.out.trans (hb.mono HB8.out.size)⟩
theorem erejoins_any (A : Nat → Addr) (x y : ByteArray) (fl : Int) (w : World) (hE : BrEnv w A) (hT : ErrType w) :
    Calls Tryz.prog 5 #[.string x, .string y, .int .i64 fl] w fun e w' => e = .returned (.bool true) ∧ Below w.heap.size w w' := by
  by_cases h : ∀ t u j j' g g', Ep.parse (bt x) x.size (icB fl) (nlB fl) = .ok t j g → Ep.parse (bt y) y.size (icB fl) (nlB fl) = .ok u j' g' → 1000 < x.size + y.size
  · exact erejoins_early A x y fl w hE hT h
  · cases hO : Ep.parse (bt x) x.size (icB fl) (nlB fl) with
    | err c q => exact absurd (fun t u j j' g g' h1 _ => by rw [hO] at h1; cases h1) h
    | ok t j g =>
      cases hP : Ep.parse (bt y) y.size (icB fl) (nlB fl) with
      | err c q => exact absurd (fun t u j j' g g' _ h2 => by rw [hP] at h2; cases h2) h
      | ok u j' g' =>
        by_cases hs : x.size + y.size ≤ 1000
        · exact erejoins_main A x y fl w hE hT t u j j' g g' hO hP hs
        · exact absurd (fun _ _ _ _ _ _ _ _ => by omega) h
end Go.Proofs.YtlbhbjmobcikfaaGreatDoor
/- A set of bytes, and a list of sets, as they come in among the arguments. -/
namespace Go.Proofs.YtlbhbjmobcikfaaGreatDoor
open Go.ChangeShapes Go.WideShapes Go.ChangeAt Go.RowKit
theorem Tryz.cellsSet : Tryz.prog.cellsOf 25 = 4 := by kernel_rfl
theorem Tryz.cellsU64 : Tryz.prog.cellsOf 23 = 1 := by kernel_rfl
theorem word_of {n : Int} (h : (Lit.int .u64 n).wf = true) : ∃ x : BitVec 64, n = Oc.U x := by
  simp only [Lit.wf, IntKind.min, IntKind.max, IntKind.signed, IntKind.bits, Bool.and_eq_true] at h
  refine ⟨BitVec.ofInt 64 n, ?_⟩
  unfold Oc.U; rw [BitVec.toNat_ofInt]
  have h1 := h.1; have h2 := h.2
  simp at h1 h2
  omega
/-- Four cells that read as a set. -/
theorem open_words {H : Type} {enc : TypeId × Value → H} {w : World} {base : Nat} {spare : Nat → Bool} {held : Bool} {fuel : Nat} {c0 c1 c2 c3 : Value} {x : DataW H × List MemPlace}
    (h : DataW.trod enc Tryz.prog w base spare held fuel 25 [c0, c1, c2, c3] = some x) : ∃ a b c d : BitVec 64, c0 = .int .u64 (Oc.U a) ∧ c1 = .int .u64 (Oc.U b) ∧ c2 = .int .u64 (Oc.U c) ∧ c3 = .int .u64 (Oc.U d) := by
  obtain ⟨y0, y1, y2, y3, n, _, h0, h1, h2, h3⟩ := trod_array4 Tryz.underlying25 Tryz.cellsU64 h
  obtain ⟨n0, e0, -, w0⟩ := DataW.trod_int Tryz.underlying23 h0
  obtain ⟨n1, e1, -, w1⟩ := DataW.trod_int Tryz.underlying23 h1
  obtain ⟨n2, e2, -, w2⟩ := DataW.trod_int Tryz.underlying23 h2
  obtain ⟨n3, e3, -, w3⟩ := DataW.trod_int Tryz.underlying23 h3
  obtain ⟨a, rfl⟩ := word_of w0
  obtain ⟨b, rfl⟩ := word_of w1
  obtain ⟨c, rfl⟩ := word_of w2
  obtain ⟨d, rfl⟩ := word_of w3
  simp only [List.cons.injEq, and_true] at e0 e1 e2 e3
  exact ⟨a, b, c, d, e0, e1, e2, e3⟩
set_option maxRecDepth 100000 in
/-- A set among the arguments. -/
theorem open_set {H : Type} {enc : TypeId × Value → H} {w : World} {base b0 : Nat} {spare : Nat → Bool} {held : Bool} {v : Value} {y : DataW H} {ps : List MemPlace} {r : Reach}
    (hv : Value.okWide Tryz.prog w r b0 25 v) (h : DataW.Trod enc Tryz.prog w base spare held 25 v y ps) : ∃ a b c d : BitVec 64, v = (.agg #[.int .u64 (Oc.U a), .int .u64 (Oc.U b), .int .u64 (Oc.U c), .int .u64 (Oc.U d)]) := by
  unfold Value.okWide at hv
  rw [Tryz.underlying25] at hv
  obtain ⟨cs, rfl, hsz, -⟩ := hv
  rw [Tryz.cellsSet] at hsz
  obtain ⟨c0, c1, c2, c3, rfl⟩ := Joins.array4 hsz
  obtain ⟨fuel, hf⟩ := h
  obtain ⟨a, b, c, d, rfl, rfl, rfl, rfl⟩ := open_words hf
  exact ⟨a, b, c, d, rfl⟩
set_option maxRecDepth 100000 in
/-- A list of sets among the arguments. -/
theorem open_sets {H : Type} {enc : TypeId × Value → H} {w : World} {base : Nat} {spare : Nat → Bool} {held : Bool} {p : Option Addr} {len cap : Nat} {y : DataW H} {ps : List MemPlace}
    (h : DataW.Trod enc Tryz.prog w base spare held 170 (.slice p len cap) y ps) : ∃ A B C D : Nat → BitVec 64, SetsAt w p len A B C D ∧ (p = none → len = 0 ∧ cap = 0) ∧ len ≤ maxLen := by
  obtain ⟨fuel, hf⟩ := h
  rcases Deep.open_slice Tryz.underlying170 hf with ⟨hcs, _⟩ | ⟨a, l, c, m, n, D, Pl, hcs, _, hl, hm, hmm, _, hall⟩
  · simp [Value.cells] at hcs
    obtain ⟨rfl, rfl, rfl⟩ := hcs
    exact ⟨fun _ => 0#64, fun _ => 0#64, fun _ => 0#64, fun _ => 0#64, (fun i hi => by omega), (fun _ => ⟨rfl, rfl⟩), by unfold maxLen; omega⟩
  · simp [Value.cells] at hcs
    obtain ⟨rfl, rfl, rfl⟩ := hcs
    have hlm : len ≤ m := by rw [hmm]; split <;> omega
    have key : ∀ i, i < len → ∃ x : BitVec 64 × BitVec 64 × BitVec 64 × BitVec 64, w.cell? ((a.add (i * 4)).add 0) = some (.int .u64 (Oc.U x.1)) ∧ w.cell? ((a.add (i * 4)).add 1) = some (.int .u64 (Oc.U x.2.1)) ∧
        w.cell? ((a.add (i * 4)).add 2) = some (.int .u64 (Oc.U x.2.2.1)) ∧ w.cell? ((a.add (i * 4)).add 3) = some (.int .u64 (Oc.U x.2.2.2)) := by
      intro i hi
      obtain ⟨cs', hc, hr⟩ := hall i (by omega)
      rw [Tryz.cellsSet] at hc
      unfold World.cells? at hc
      split at hc
      · rw [show List.range 4 = [0, 1, 2, 3] from rfl] at hc
        simp only [List.mapM_cons, List.mapM_nil, Option.bind_eq_bind, Option.bind_eq_some_iff, Option.pure_def, Option.some.injEq] at hc
        obtain ⟨v0, g0, t0, ⟨v1, g1, t1, ⟨v2, g2, t2, ⟨v3, g3, t3, rfl, rfl⟩, rfl⟩, rfl⟩, rfl⟩ := hc
        obtain ⟨x0, x1, x2, x3, rfl, rfl, rfl, rfl⟩ := open_words hr
        exact ⟨(x0, x1, x2, x3), g0, g1, g2, g3⟩
      · cases hc
    obtain ⟨f, hf⟩ := Deep.choose_lt key
    refine ⟨fun i => (f i).1, fun i => (f i).2.1, fun i => (f i).2.2.1, fun i => (f i).2.2.2, ?_, (fun h => by cases h), by omega⟩
    intro i hi
    have hs : a.spot = none := by simpa [Addr.add] using World.cell?_spot (hf 0 (by omega)).1
    obtain ⟨g0, g1, g2, g3⟩ := hf i hi
    obtain ⟨b, o, sp⟩ := a
    subst hs
    rw [Addr.add_mid, Addr.add_mid] at g0 g1 g2 g3
    rw [Nat.add_zero] at g0
    exact ⟨b, o, rfl, block_lt_of_cell g0, g0, g1, g2, g3⟩
theorem Tryz.own : ownKnob Tryz.prog.godebug = none := by kernel_rfl
theorem Tryz.laidOut : laidOutB Tryz.prog = true := by kernel_rfl
end Go.Proofs.YtlbhbjmobcikfaaGreatDoor
/- What the laws of layer 3 take of the program's variables: the type error, and, where the code has them, the table of the words and the library's powers of ten. -/
namespace Go.Proofs.YtlbhbjmobcikfaaGreatDoor
open Go.RowKit
structure FaEnv (w : World) : Prop where
  ty : ErrType w
theorem FaEnv.later {w w' : World} (h : FaEnv w) (hb : Below w.heap.size w w') : FaEnv w' where
  ty := h.ty.later hb
end Go.Proofs.YtlbhbjmobcikfaaGreatDoor
/- What a listed handle beside listed data gives: package errors' variable of the type error. -/
namespace Go.Proofs.YtlbhbjmobcikfaaGreatDoor
open Go.ChangeShapes Go.WideShapes Go.ChangeAt Go.RowKit
theorem laid_split {P : Program} {l : List (String × DataW Unit)} {W : World} (h : laidMetH P l W) : laidMet P (l.filter fun x => x.2.handleName?.isNone) W ∧ handlesMet P (l.filter fun x => x.2.handleName?.isSome) W := by
  unfold laidMetH at h
  generalize hfl : (l.filter fun x => x.2.handleName?.isSome) = fl at h
  cases fl with
  | nil =>
    have e : (l.filter fun x => x.2.handleName?.isNone) = l := by
      rw [List.filter_eq_self]
      intro x hx
      have := List.filter_eq_nil_iff.1 hfl x hx
      cases hh : x.2.handleName? with
      | none => rfl
      | some y => rw [hh] at this; simp at this
    rw [e]
    exact ⟨h, fun x hx => by cases hx⟩
  | cons x r => exact h
theorem Tryz.errorTypeG : Tryz.prog.globalNamed "errors.errorType" = some 21 := by kernel_rfl
theorem Tryz.rtypeT : (Tryz.prog.cutTypes.find? (·.1 == "internal/reflectlite.rtype")).map (·.2) = some 108 := by kernel_rfl
theorem Tryz.errorRow : ((List.range Tryz.prog.types.size).filter fun t => Tryz.prog.rowNamed t [101, 114, 114, 111, 114]) = [30] := by kernel_rfl
theorem Tryz.errorHandle : typeHandle Tryz.prog 30 = .pointer (some ⟨Tryz.prog.globals.size, 30, none⟩) := by kernel_rfl
theorem errtype_of {l : List (String × DataW Unit)} {W : World} (h : handlesMet Tryz.prog l W) (hl : ("errors.errorType", Rows.laid_errors_errorType) ∈ l) : ErrType W := by
  obtain ⟨name, u, ty, e1, e2, e3, e4, e5⟩ := h _ hl
  have en : name = [101, 114, 114, 111, 114] := (Option.some.inj e1).symm
  subst en
  obtain rfl := Option.some.inj (Tryz.rtypeT.symm.trans e2)
  have hm : ty ∈ (List.range Tryz.prog.types.size).filter fun t => Tryz.prog.rowNamed t [101, 114, 114, 111, 114] := List.mem_filter.2 ⟨List.mem_range.2 e3, e4⟩
  rw [Tryz.errorRow] at hm
  obtain rfl := List.mem_singleton.1 hm
  rw [Tryz.errorHandle] at e5
  unfold ErrType
  simpa using World.var?_cell Tryz.errorTypeG e5 0
theorem errList_plain : ∀ x, x ∈ errList → x.2.handleName?.isNone = true := by
  have h : (errList.all fun x => x.2.handleName?.isNone) = true := by kernel_rfl
  intro x hx
  exact List.all_eq_true.1 h x hx
/-- The sentinels and the handle out of one list. -/
theorem errs_handle_of {l : List (String × DataW Unit)} {W : World} (h : laidMetH Tryz.prog l W) (hl : ∀ x, x ∈ errList → x ∈ l) (hh : ("errors.errorType", Rows.laid_errors_errorType) ∈ l) : (∃ A, Errs W A) ∧ ErrType W := by
  obtain ⟨h1, h2⟩ := laid_split h
  exact ⟨errs_of h1 fun x hx => List.mem_filter.2 ⟨hl x hx, errList_plain x hx⟩, errtype_of h2 (List.mem_filter.2 ⟨hh, rfl⟩)⟩
end Go.Proofs.YtlbhbjmobcikfaaGreatDoor
/- What the listed variables give: the sentinels, the type error, the table of the words, the powers of ten. -/
namespace Go.Proofs.YtlbhbjmobcikfaaGreatDoor
open Go.ChangeShapes Go.WideShapes Go.ChangeAt Go.RowKit
/-- All that the laws take, out of one list. -/
theorem fault_env_of {l : List (String × DataW Unit)} {W : World} (h : laidMetH Tryz.prog l W) (hl : ∀ x, x ∈ errList → x ∈ l) (hh : ("errors.errorType", Rows.laid_errors_errorType) ∈ l)
    : (∃ A, Errs W A) ∧ FaEnv W := by
  obtain ⟨h1, h2⟩ := errs_handle_of h hl hh
  have h3 := (laid_split h).1
  exact ⟨h1, {
    ty := h2
    }⟩
end Go.Proofs.YtlbhbjmobcikfaaGreatDoor
namespace Go.Proofs.YtlbhbjmobcikfaaGreatDoor.ereJoins
open Go.ChangeShapes Go.WideShapes Go.ChangeAt Go.RowKit
set_option maxRecDepth 100000 in
theorem contract (H : Type) (enc : TypeId × Value → H) (W : World) (base : Nat) (args : Array Value) (ds gs : List (DataW H)) (before : List MemPlace)
    (hval0 : ∀ (j : Nat) t v, Tryz.f5.params[j]? = some t → args[j]? = some v → Value.okWide Tryz.prog W .any base t v)
    (hW : DataW.Whole enc Tryz.prog Tryz.f5.params.toList Rows.ereJoinsSpec.vars false W args.toList ds gs before)
    (hsz0 : (DataW.weightsEach Tryz.prog (Tryz.f5.params.toList ++ Rows.ereJoinsSpec.plain.varTypes Tryz.prog) (ds ++ gs)).all (· ≤ reachBytes) = true)
    (hL : laidMetH Tryz.prog [("errors.errorType", Rows.laid_errors_errorType), ("trawl/api.ErrBracket", Rows.laid_trawl_api_ErrBracket), ("trawl/api.ErrParen", Rows.laid_trawl_api_ErrParen), ("trawl/api.ErrBrace", Rows.laid_trawl_api_ErrBrace), ("trawl/api.ErrCount", Rows.laid_trawl_api_ErrCount), ("trawl/api.ErrRange", Rows.laid_trawl_api_ErrRange), ("trawl/api.ErrClass", Rows.laid_trawl_api_ErrClass), ("trawl/api.ErrCollate", Rows.laid_trawl_api_ErrCollate), ("trawl/api.ErrEscape", Rows.laid_trawl_api_ErrEscape), ("trawl/api.ErrRepeat", Rows.laid_trawl_api_ErrRepeat), ("trawl/api.ErrTooBig", Rows.laid_trawl_api_ErrTooBig), ("trawl/api.ErrNest", Rows.laid_trawl_api_ErrNest), ("trawl/api.ErrLong", Rows.laid_trawl_api_ErrLong), ("trawl/api.ErrTree", Rows.laid_trawl_api_ErrTree), ("trawl/api.ErrDeep", Rows.laid_trawl_api_ErrDeep), ("trawl/api.ErrArgument", Rows.laid_trawl_api_ErrArgument), ("trawl/api.ErrNoMatch", Rows.laid_trawl_api_ErrNoMatch), ("trawl/api.ErrImage", Rows.laid_trawl_api_ErrImage), ("trawl/api.ErrMany", Rows.laid_trawl_api_ErrMany), ("trawl/api.ErrOption", Rows.laid_trawl_api_ErrOption), ("trawl/api.ErrCommand", Rows.laid_trawl_api_ErrCommand), ("trawl/api.ErrClosed", Rows.laid_trawl_api_ErrClosed)] W) (hSh : W.ShapedOpen Tryz.prog) :
    Calls Tryz.prog 5 args W fun e W' => ∃ v, e = .returned v ∧ Rows.ereJoinsSpec.post enc Tryz.prog Tryz.f5 false true false false W args v W' := by
  have hval : ∀ (j : Nat) t v, Tryz.f5.params[j]? = some t → args[j]? = some v → Value.okWide Tryz.prog W .any base t v := hval0
  have hW' := hW
  have hsz := hsz0
  obtain ⟨p, q, hA0, hV, rfl, hfz, hnd⟩ := hW
  have hA : DataW.TrodAll enc Tryz.prog W 0 (fun _ => true) true Tryz.f5.params.toList args.toList ds p := hA0
  rw [Tryz.params5] at hA hval
  obtain ⟨v0, vs0, d0, ds0, p0, q0, hargs, rfl, rfl, h0, r0⟩ := trodAll_cons hA
  obtain ⟨v1, vs1, d1, ds1, p1, q1, rfl, rfl, rfl, h1, r1⟩ := trodAll_cons r0
  obtain ⟨v2, vs2, d2, ds2, p2, q2, rfl, rfl, rfl, h2, r2⟩ := trodAll_cons r1
  obtain ⟨rfl, rfl, rfl⟩ := trodAll_nil r2
  obtain rfl : args = #[v0, v1, v2] := by cases args; simp_all
  obtain ⟨rfl, rfl⟩ := trodVars_none hV
  have lt0 : ∀ x ∈ p0, x.block < W.heap.size := by obtain ⟨m, hm⟩ := h0; exact DataW.trod_lt m _ _ _ hm
  have lt1 : ∀ x ∈ p1, x.block < W.heap.size := by obtain ⟨m, hm⟩ := h1; exact DataW.trod_lt m _ _ _ hm
  have lt2 : ∀ x ∈ p2, x.block < W.heap.size := by obtain ⟨m, hm⟩ := h2; exact DataW.trod_lt m _ _ _ hm
  obtain ⟨x, rfl, hd0, -, -⟩ := Go.ChangeMaps.open_string Tryz.underlying9 (hval 0 9 v0 rfl rfl) h0
  obtain ⟨y, rfl, hd1, -, -⟩ := Go.ChangeMaps.open_string Tryz.underlying9 (hval 1 9 v1 rfl rfl) h1
  obtain ⟨fl, rfl, -, -, w2⟩ := open_int Tryz.underlying3 (hval 2 3 v2 rfl rfl) h2
  have hs_x : x.size ≤ 140737488351232 := by
    have := sized_string (P := Tryz.prog) hsz (j := 0) (t := 9) (bytes := x.data.toList) (by rw [Tryz.params5]; rfl) (by rw [hd0]; rfl)
    simpa [reachBytes] using this
  have hs_y : y.size ≤ 140737488351232 := by
    have := sized_string (P := Tryz.prog) hsz (j := 1) (t := 9) (bytes := y.data.toList) (by rw [Tryz.params5]; rfl) (by rw [hd1]; rfl)
    simpa [reachBytes] using this
  obtain ⟨⟨E, hE⟩, hTy⟩ := fault_env_of hL (fun x h => by
    simp only [errList, List.mem_cons, List.not_mem_nil, or_false] at h
    rcases h with rfl | rfl | rfl | rfl | rfl | rfl | rfl | rfl | rfl | rfl | rfl | rfl | rfl | rfl | rfl | rfl | rfl | rfl | rfl | rfl | rfl
    · exact (List.mem_cons_of_mem _ List.mem_cons_self)
    · exact (List.mem_cons_of_mem _ (List.mem_cons_of_mem _ List.mem_cons_self))
    · exact (List.mem_cons_of_mem _ (List.mem_cons_of_mem _ (List.mem_cons_of_mem _ List.mem_cons_self)))
    · exact (List.mem_cons_of_mem _ (List.mem_cons_of_mem _ (List.mem_cons_of_mem _ (List.mem_cons_of_mem _ List.mem_cons_self))))
    · exact (List.mem_cons_of_mem _ (List.mem_cons_of_mem _ (List.mem_cons_of_mem _ (List.mem_cons_of_mem _ (List.mem_cons_of_mem _ List.mem_cons_self)))))
    · exact (List.mem_cons_of_mem _ (List.mem_cons_of_mem _ (List.mem_cons_of_mem _ (List.mem_cons_of_mem _ (List.mem_cons_of_mem _ (List.mem_cons_of_mem _ List.mem_cons_self))))))
    · exact (List.mem_cons_of_mem _ (List.mem_cons_of_mem _ (List.mem_cons_of_mem _ (List.mem_cons_of_mem _ (List.mem_cons_of_mem _ (List.mem_cons_of_mem _ (List.mem_cons_of_mem _ List.mem_cons_self)))))))
    · exact (List.mem_cons_of_mem _ (List.mem_cons_of_mem _ (List.mem_cons_of_mem _ (List.mem_cons_of_mem _ (List.mem_cons_of_mem _ (List.mem_cons_of_mem _ (List.mem_cons_of_mem _ (List.mem_cons_of_mem _ List.mem_cons_self))))))))
    · exact (List.mem_cons_of_mem _ (List.mem_cons_of_mem _ (List.mem_cons_of_mem _ (List.mem_cons_of_mem _ (List.mem_cons_of_mem _ (List.mem_cons_of_mem _ (List.mem_cons_of_mem _ (List.mem_cons_of_mem _ (List.mem_cons_of_mem _ List.mem_cons_self)))))))))
    · exact (List.mem_cons_of_mem _ (List.mem_cons_of_mem _ (List.mem_cons_of_mem _ (List.mem_cons_of_mem _ (List.mem_cons_of_mem _ (List.mem_cons_of_mem _ (List.mem_cons_of_mem _ (List.mem_cons_of_mem _ (List.mem_cons_of_mem _ (List.mem_cons_of_mem _ List.mem_cons_self))))))))))
    · exact (List.mem_cons_of_mem _ (List.mem_cons_of_mem _ (List.mem_cons_of_mem _ (List.mem_cons_of_mem _ (List.mem_cons_of_mem _ (List.mem_cons_of_mem _ (List.mem_cons_of_mem _ (List.mem_cons_of_mem _ (List.mem_cons_of_mem _ (List.mem_cons_of_mem _ (List.mem_cons_of_mem _ List.mem_cons_self)))))))))))
    · exact (List.mem_cons_of_mem _ (List.mem_cons_of_mem _ (List.mem_cons_of_mem _ (List.mem_cons_of_mem _ (List.mem_cons_of_mem _ (List.mem_cons_of_mem _ (List.mem_cons_of_mem _ (List.mem_cons_of_mem _ (List.mem_cons_of_mem _ (List.mem_cons_of_mem _ (List.mem_cons_of_mem _ (List.mem_cons_of_mem _ List.mem_cons_self))))))))))))
    · exact (List.mem_cons_of_mem _ (List.mem_cons_of_mem _ (List.mem_cons_of_mem _ (List.mem_cons_of_mem _ (List.mem_cons_of_mem _ (List.mem_cons_of_mem _ (List.mem_cons_of_mem _ (List.mem_cons_of_mem _ (List.mem_cons_of_mem _ (List.mem_cons_of_mem _ (List.mem_cons_of_mem _ (List.mem_cons_of_mem _ (List.mem_cons_of_mem _ List.mem_cons_self)))))))))))))
    · exact (List.mem_cons_of_mem _ (List.mem_cons_of_mem _ (List.mem_cons_of_mem _ (List.mem_cons_of_mem _ (List.mem_cons_of_mem _ (List.mem_cons_of_mem _ (List.mem_cons_of_mem _ (List.mem_cons_of_mem _ (List.mem_cons_of_mem _ (List.mem_cons_of_mem _ (List.mem_cons_of_mem _ (List.mem_cons_of_mem _ (List.mem_cons_of_mem _ (List.mem_cons_of_mem _ List.mem_cons_self))))))))))))))
    · exact (List.mem_cons_of_mem _ (List.mem_cons_of_mem _ (List.mem_cons_of_mem _ (List.mem_cons_of_mem _ (List.mem_cons_of_mem _ (List.mem_cons_of_mem _ (List.mem_cons_of_mem _ (List.mem_cons_of_mem _ (List.mem_cons_of_mem _ (List.mem_cons_of_mem _ (List.mem_cons_of_mem _ (List.mem_cons_of_mem _ (List.mem_cons_of_mem _ (List.mem_cons_of_mem _ (List.mem_cons_of_mem _ List.mem_cons_self)))))))))))))))
    · exact (List.mem_cons_of_mem _ (List.mem_cons_of_mem _ (List.mem_cons_of_mem _ (List.mem_cons_of_mem _ (List.mem_cons_of_mem _ (List.mem_cons_of_mem _ (List.mem_cons_of_mem _ (List.mem_cons_of_mem _ (List.mem_cons_of_mem _ (List.mem_cons_of_mem _ (List.mem_cons_of_mem _ (List.mem_cons_of_mem _ (List.mem_cons_of_mem _ (List.mem_cons_of_mem _ (List.mem_cons_of_mem _ (List.mem_cons_of_mem _ List.mem_cons_self))))))))))))))))
    · exact (List.mem_cons_of_mem _ (List.mem_cons_of_mem _ (List.mem_cons_of_mem _ (List.mem_cons_of_mem _ (List.mem_cons_of_mem _ (List.mem_cons_of_mem _ (List.mem_cons_of_mem _ (List.mem_cons_of_mem _ (List.mem_cons_of_mem _ (List.mem_cons_of_mem _ (List.mem_cons_of_mem _ (List.mem_cons_of_mem _ (List.mem_cons_of_mem _ (List.mem_cons_of_mem _ (List.mem_cons_of_mem _ (List.mem_cons_of_mem _ (List.mem_cons_of_mem _ List.mem_cons_self)))))))))))))))))
    · exact (List.mem_cons_of_mem _ (List.mem_cons_of_mem _ (List.mem_cons_of_mem _ (List.mem_cons_of_mem _ (List.mem_cons_of_mem _ (List.mem_cons_of_mem _ (List.mem_cons_of_mem _ (List.mem_cons_of_mem _ (List.mem_cons_of_mem _ (List.mem_cons_of_mem _ (List.mem_cons_of_mem _ (List.mem_cons_of_mem _ (List.mem_cons_of_mem _ (List.mem_cons_of_mem _ (List.mem_cons_of_mem _ (List.mem_cons_of_mem _ (List.mem_cons_of_mem _ (List.mem_cons_of_mem _ List.mem_cons_self))))))))))))))))))
    · exact (List.mem_cons_of_mem _ (List.mem_cons_of_mem _ (List.mem_cons_of_mem _ (List.mem_cons_of_mem _ (List.mem_cons_of_mem _ (List.mem_cons_of_mem _ (List.mem_cons_of_mem _ (List.mem_cons_of_mem _ (List.mem_cons_of_mem _ (List.mem_cons_of_mem _ (List.mem_cons_of_mem _ (List.mem_cons_of_mem _ (List.mem_cons_of_mem _ (List.mem_cons_of_mem _ (List.mem_cons_of_mem _ (List.mem_cons_of_mem _ (List.mem_cons_of_mem _ (List.mem_cons_of_mem _ (List.mem_cons_of_mem _ List.mem_cons_self)))))))))))))))))))
    · exact (List.mem_cons_of_mem _ (List.mem_cons_of_mem _ (List.mem_cons_of_mem _ (List.mem_cons_of_mem _ (List.mem_cons_of_mem _ (List.mem_cons_of_mem _ (List.mem_cons_of_mem _ (List.mem_cons_of_mem _ (List.mem_cons_of_mem _ (List.mem_cons_of_mem _ (List.mem_cons_of_mem _ (List.mem_cons_of_mem _ (List.mem_cons_of_mem _ (List.mem_cons_of_mem _ (List.mem_cons_of_mem _ (List.mem_cons_of_mem _ (List.mem_cons_of_mem _ (List.mem_cons_of_mem _ (List.mem_cons_of_mem _ (List.mem_cons_of_mem _ List.mem_cons_self))))))))))))))))))))
    · exact (List.mem_cons_of_mem _ (List.mem_cons_of_mem _ (List.mem_cons_of_mem _ (List.mem_cons_of_mem _ (List.mem_cons_of_mem _ (List.mem_cons_of_mem _ (List.mem_cons_of_mem _ (List.mem_cons_of_mem _ (List.mem_cons_of_mem _ (List.mem_cons_of_mem _ (List.mem_cons_of_mem _ (List.mem_cons_of_mem _ (List.mem_cons_of_mem _ (List.mem_cons_of_mem _ (List.mem_cons_of_mem _ (List.mem_cons_of_mem _ (List.mem_cons_of_mem _ (List.mem_cons_of_mem _ (List.mem_cons_of_mem _ (List.mem_cons_of_mem _ (List.mem_cons_of_mem _ List.mem_cons_self)))))))))))))))))))))) List.mem_cons_self
  have hI : BrEnv W E := ⟨hE, Tryz.laysM219.s1_3 W hSh⟩
  clear hA0 hval0 hsz hsz0
  refine (erejoins_any E x y fl W hI hTy.ty).mono fun e W' ⟨he, bel⟩ => ?_
  subst he
  exact ⟨_, rfl, _, _, _, [], _, [], hW', trodAll_mk1 (shut_bool Tryz.underlying4 _),
    (trodAll_cons_mk (Below.trod Tryz.laidOut (by kernel_rfl) (of_decide_eq_true (by kernel_rfl)) h0 bel lt0) (trodAll_cons_mk (Below.trod Tryz.laidOut (by kernel_rfl) (of_decide_eq_true (by kernel_rfl)) h1 bel lt1) (trodAll_cons_mk (Below.trod Tryz.laidOut (by kernel_rfl) (of_decide_eq_true (by kernel_rfl)) h2 bel lt2) trodAll_mk0))), rfl, bel.frame _, fun h => by cases h⟩
theorem reads (os : Os) {H : Type} (enc : TypeId × Value → H) : ∃ places, DataW.whole enc Tryz.prog ((World.doorLaid Tryz.prog 3000 os).forCall (fun _ _ => 0) ⟨#[], #[.string ⟨#[]⟩, .string ⟨#[]⟩, .int .i64 0], []⟩).memory Tryz.f5.params.toList Rows.ereJoinsSpec.vars false (#[.string ⟨#[]⟩, .string ⟨#[]⟩, .int .i64 0] : Array Value).toList 8 = some ([.lit (.string []), .lit (.string []), .lit (.int .i64 0)], [], places) :=
  ⟨[], by kernel_rfl⟩
set_option maxRecDepth 100000 in
theorem lifted (os : Os) (started : os.Started) (H : Type) (enc : TypeId × Value → H) (F : Stop.Interp) :
    ReturnsInHanded {} Tryz.checked os 5 .any ((OpenSpec.ofChange Rows.ereJoinsSpec).preRow enc Tryz.prog Tryz.f5 Rows.ereJoinsRow.domain false Rows.ereJoinsRow.laid) (((OpenSpec.ofChange Rows.ereJoinsSpec).at F).post enc Tryz.prog Tryz.f5 false true false false) := by
  obtain ⟨places, hx⟩ := reads os enc
  refine returnsInHanded_of_row (C := Tryz.checked) (s := (OpenSpec.ofChange Rows.ereJoinsSpec)) Tryz.own started (by kernel_rfl) Tryz.func5
    (witness_row_atRef (enc := enc) (C := Tryz.checked) false (World.doorLaid Tryz.prog 3000 os) #[.string ⟨#[]⟩, .string ⟨#[]⟩, .int .i64 0] rfl (by kernel_rfl) (by kernel_rfl) (by kernel_rfl)
      (OpenSpec.preRow_of_cond 8 hx (by kernel_rfl) (fun k hk => by cases hk) (by kernel_rfl) (laidMetH_of_parts3 (fuel := 8) (laidMet_of_run' 8 (by kernel_rfl) (by kernel_rfl)) (by kernel_rfl) (by kernel_rfl)))) ?_
  intro W base args ds gs before hval hW _ hcond hsz hL hSh _
  exact contract H enc W base args ds gs before hval hW hsz hL hSh
theorem over : Rows.EreJoinsSaid :=
  OpenClaim.holds_of_cond 5 Tryz.f5 rfl rfl rfl rfl rfl rfl rfl ⟨rfl, rfl, rfl, rfl, rfl⟩ rfl rfl rfl rfl rfl (by kernel_rfl) Tryz.func5 (by kernel_rfl)
    (of_decide_eq_true (by kernel_rfl)) (by unfold Func.isWrapper; first | (rw [if_pos (by decide +kernel)]; kernel_rfl) | (rw [if_neg (by decide +kernel)]; exact ⟨rfl, rfl⟩))
    (fun os started H enc _ F => by rw [OpenClaim.pre_eq_preRow]; exact lifted os started H enc F)
theorem proved : Rows.EreJoinsCardSaid :=
  Claim7.holds_tied_plain_at .later [] [.handle, .sentinel, .sentinel, .sentinel, .sentinel, .sentinel, .sentinel, .sentinel, .sentinel, .sentinel, .sentinel, .sentinel, .sentinel, .sentinel, .sentinel, .sentinel, .sentinel, .sentinel, .sentinel, .sentinel, .sentinel, .sentinel] true Rows.ereJoinsCard.stood.harness true
    over (fun _ h => by cases h) (by kernel_rfl) (fun _ h => by cases h) ereJoins_row_tie rfl ⟨rfl, rfl⟩ (by kernel_rfl) rfl
    (fun f fn hf hfn => by
      obtain rfl : f = 5 := Option.some.inj ((show Tryz.prog.funcNamed "trawl/trawllaw06.EreJoins" = some 5 by kernel_rfl).symm.trans hf) |>.symm
      obtain rfl : fn = Tryz.f5 := (Option.some.inj (Tryz.func5.symm.trans hfn)).symm
      exact ⟨by kernel_rfl, fun j t ht => by
        rw [Tryz.params5] at ht
        have hm : t ∈ ([9, 9, 3] : List Nat) := by simpa using Array.mem_of_getElem? ht
        have hall : (([9, 9, 3] : List Nat).all fun u => !Tryz.prog.wantsStandIn u) = true := by kernel_rfl
        exact (show Tryz.prog.wantsStandIn t = false by simpa using List.all_eq_true.1 hall t hm)⟩)
    (by kernel_rfl)
end Go.Proofs.YtlbhbjmobcikfaaGreatDoor.ereJoins
