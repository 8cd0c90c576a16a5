/- What stands ahead of an expression and behind it: what is read of the three texts in one. -/
import Derived.Test.YtbpecijdmhablaaDoorBrRef7
import Derived.Test.YtbpecijdmhablaaDoorBrMath2
import Derived.Test.YtbpecijdmhablaaDoorClKnown
namespace Go.Proofs.YtbpecijdmhablaaDoor
open Go.RowKit
theorem bt_append (x y : ByteArray) (i : Nat) : bt (x ++ y) i = if i < x.size then bt x i else bt y (i - x.size) := by
  have hs : (x ++ y).size = x.size + y.size := ByteArray.size_append
  unfold bt byteAt
  rw [hs]
  have hd : (x ++ y).data = x.data ++ y.data := ByteArray.data_append
  have hx : x.data.size = x.size := rfl
  by_cases h : i < x.size
  · rw [if_pos h, if_pos h, if_pos (by omega)]
    congr 1
    rw [hd]
    simp [Array.getD_eq_getD_getElem?, Array.getElem?_append, hx, h]
  · rw [if_neg h]
    by_cases h2 : i < x.size + y.size
    · rw [if_pos h2, if_pos (by omega)]
      congr 1
      rw [hd]
      simp [Array.getD_eq_getD_getElem?, Array.getElem?_append, hx, h]
    · rw [if_neg h2, if_neg (by omega)]
theorem toList_pos {s : ByteArray} (h : 0 < s.size) : s.toList ≠ [] := by
  rw [toList_eq]
  intro hl
  have hz : s.size = 0 := by have := congrArg List.length hl; simpa using this
  omega
/-- A range that goes on behind the end: the law's own words. -/
def Special (p behind : ByteArray) (c : Nat) (pl : Int) : Prop :=
  c = 5 ∧ 2 < p.size ∧ bt p (p.size - 1) = 91 ∧ pl = (p.size : Int) - 3 ∧ 0 < behind.size ∧ (bt behind 0 = 46 ∨ bt behind 0 = 61)
namespace Br
theorem whole_cases {f : Nat → Nat} {n : Nat} {ic nl : Bool} : read f n 0 ic nl = if f 0 = 91 then whole f n 0 ic nl else .err 15 (-1) := by
  unfold read
  by_cases h : f 0 = 91
  · rw [if_pos h, if_pos ⟨Int.le_refl _, h⟩]; rfl
  · rw [if_neg h, if_neg (fun hh => h hh.2)]
/-- What is read at the beginning of f is read in g, s places on. -/
theorem read_in {f g : Nat → Nat} {n N s : Nat} {ic nl : Bool} (hf : Txt f n) (hw : Within f g n N s) (h0 : f 0 = 91) (h : ∀ p, read f n 0 ic nl ≠ .err 1 p) :
    (∃ i', i' + 3 = n ∧ read f n 0 ic nl = .err 5 (i' : Nat) ∧ Open f g n s ∧ read g N s ic nl = .err 7 ((n : Int) - 1 + s)) ∨
    ((∀ i', i' + 3 = n → read f n 0 ic nl = .err 5 (i' : Nat) → ¬ Open f g n s) ∧ read g N s ic nl = sh s s (read f n 0 ic nl)) := by
  have hn : 0 < n := hf.lt h0 (by omega)
  have hg0 : g s = 91 := by have := hw.same 0 hn; rw [Nat.zero_add] at this; rw [this]; exact h0
  have hrg : read g N s ic nl = whole g N s ic nl := by
    unfold read; rw [if_pos ⟨by omega, by simpa using hg0⟩]; rfl
  rw [whole_cases, if_pos h0] at h ⊢
  rw [hrg]
  unfold whole at h ⊢
  have hfit := hw.fit
  -- the second byte stands in f
  have h1n : 1 < n := by
    by_cases h1 : 1 < n
    · exact h1
    · exfalso
      have hn1 : n = 1 := by omega
      subst hn1
      have hf1 : f 1 = 256 := hf.2 1 (by omega)
      simp only [Nat.zero_add, hf1] at h
      exact h 0 (by simp [items, ends, hf1])
  have hg1 : g (s + 1) = f (0 + 1) := by rw [← hw.same (0 + 1) (by omega)]; congr 1; omega
  rw [hg1]
  simp only at h ⊢
  generalize ht : (f (0 + 1) == 94) = t at h ⊢
  have hi0 : (if t then 0 + 2 else 0 + 1) ≤ n := by split <;> omega
  have hi1 : (if t then s + 2 else s + 1) = (if t then 0 + 2 else 0 + 1) + s := by split <;> omega
  rw [hi1]
  generalize (if t then 0 + 2 else 0 + 1) = i at h hi0 ⊢
  have hne : ∀ p, items f n 0 (n + 1) i (fun _ => false) false ≠ .err 1 p := fun p hp => h p (by rw [hp]; rfl)
  rcases items_in (a := 0) (a' := s) hf hw (k := n + 1) (k' := N + 1) hi0 (by omega) hne with ⟨i', h3, he, ho, hg⟩ | ⟨hno, hg⟩
  · left
    exact ⟨i', h3, by rw [he]; rfl, ho, by rw [hg]; rfl⟩
  · right
    refine ⟨fun i' h3 he => hno i' h3 ?_, ?_⟩
    · cases hx : items f n 0 (n + 1) i (fun _ => false) false with
      | ok P j => rw [hx] at he; cases he
      | err c p => rw [hx] at he; exact he
    · rw [hg]
      cases hx : items f n 0 (n + 1) i (fun _ => false) false with
      | ok P j => simp only [sh, ends]; congr 1; omega
      | err c p =>
        by_cases hc : c = 1
        · simp [ends, sh, hc]
        · simp [ends, sh, hc]
theorem read_ok {f : Nat → Nat} {n m : Nat} {ic nl : Bool} {P : Nat → Bool} (hf : Txt f n) (h : read f n 0 ic nl = .ok P m) : f 0 = 91 ∧ 3 ≤ m ∧ m ≤ n ∧ f (m - 1) = 93 := by
  rw [whole_cases] at h
  split at h
  · rename_i h0
    unfold whole at h
    simp only at h
    generalize ht : (f (0 + 1) == 94) = t at h
    have hn : 0 < n := hf.lt h0 (by omega)
    have hi0 : (if t then 0 + 2 else 0 + 1) ≤ n := by
      cases t with
      | true => have := hf.lt (beq_iff_eq.1 ht) (by omega); simp; omega
      | false => simp; omega
    have hi1 : 1 ≤ (if t then 0 + 2 else 0 + 1) := by split <;> omega
    generalize (if t then 0 + 2 else 0 + 1) = i at h hi0 hi1
    cases hx : items f n 0 (n + 1) i (fun _ => false) false with
    | err c p => rw [hx] at h; cases h
    | ok Q j =>
      rw [hx] at h
      obtain ⟨g1, g2, g3, -⟩ := items_ok hf hi0 hx
      simp only [ends, Ans.ok.injEq] at h
      simp only [Bool.false_eq_true, if_false] at g3
      obtain ⟨-, rfl⟩ := h
      exact ⟨h0, by omega, by omega, by simpa using g1⟩
  · cases h
theorem read_err {f : Nat → Nat} {n c : Nat} {ic nl : Bool} {p : Int} (h : read f n 0 ic nl = .err c p) : (c = 1 ∧ p = 0) ∨ c = 5 ∨ c = 6 ∨ c = 7 ∨ (c = 15 ∧ p = -1 ∧ f 0 ≠ 91) := by
  rw [whole_cases] at h
  split at h
  · unfold whole at h
    simp only at h
    generalize (if (f (0 + 1) == 94) = true then 0 + 2 else 0 + 1) = i at h
    cases hx : items f n 0 (n + 1) i (fun _ => false) false with
    | ok Q j => rw [hx] at h; cases h
    | err c' p' =>
      rw [hx] at h
      simp only [ends, Ans.err.injEq] at h
      obtain ⟨rfl, rfl⟩ := h
      rcases items_err hx with h | h | h | h
      · exact .inl h
      · exact .inr (.inl h)
      · exact .inr (.inr (.inl h))
      · exact .inr (.inr (.inr (.inl h)))
  · rename_i h0
    cases h
    exact .inr (.inr (.inr (.inr ⟨rfl, rfl, h0⟩)))
theorem item_place {f : Nat → Nat} {n i a c : Nat} {p : Int} (hi : i < n) (ha : a ≤ n) (h : item f n i a = .err c p) : 0 ≤ p ∧ p ≤ n + 2 := by
  unfold item at h
  split at h
  · cases h; omega
  split at h
  · unfold classed at h
    split at h
    · cases h; omega
    · unfold named at h
      split at h
      · cases h; omega
      · cases h
  split at h
  · unfold ranged at h
    split at h
    · cases h; omega
    split at h
    · cases h; omega
    · cases h
  · cases h
theorem items_place {f : Nat → Nat} {n a c : Nat} {p : Int} (ha : a ≤ n) : ∀ {k i : Nat} {P : Nat → Bool} {b : Bool}, items f n a k i P b = .err c p → 0 ≤ p ∧ p ≤ n + 2
  | 0, _, _, _, h => by cases h; omega
  | k + 1, i, P, b, h => by
    unfold items at h
    split at h
    · cases h
    split at h
    · cases h; omega
    rename_i hi
    split at h
    · rename_i he
      cases h; exact item_place (by omega) ha he
    · exact items_place ha h
theorem read_place {f : Nat → Nat} {n c : Nat} {ic nl : Bool} {p : Int} (h : read f n 0 ic nl = .err c p) (hc : c ≠ 15) : 0 ≤ p ∧ p ≤ n + 2 := by
  rw [whole_cases] at h
  split at h
  · unfold whole at h
    simp only at h
    generalize (if (f (0 + 1) == 94) = true then 0 + 2 else 0 + 1) = i at h
    cases hx : items f n 0 (n + 1) i (fun _ => false) false with
    | ok Q j => rw [hx] at h; cases h
    | err c' p' =>
      rw [hx] at h
      simp only [ends, Ans.err.injEq] at h
      obtain ⟨rfl, rfl⟩ := h
      exact items_place (Nat.zero_le _) hx
  · cases h; exact absurd rfl hc
end Br
theorem within_append (ahead p behind : ByteArray) : Br.Within (bt p) (bt (ahead ++ p ++ behind)) p.size (ahead ++ p ++ behind).size ahead.size where
  fit := by rw [ByteArray.size_append, ByteArray.size_append]; omega
  same j hj := by
    rw [bt_append, if_pos (by rw [ByteArray.size_append]; omega), bt_append, if_neg (by omega)]
    congr 1; omega
theorem open_append (ahead p behind : ByteArray) : Br.Open (bt p) (bt (ahead ++ p ++ behind)) p.size ahead.size ↔ bt p (p.size - 1) = 91 ∧ 0 < behind.size ∧ (bt behind 0 = 46 ∨ bt behind 0 = 61) := by
  unfold Br.Open
  have : bt (ahead ++ p ++ behind) (p.size + ahead.size) = bt behind 0 := by
    rw [bt_append, if_neg (by rw [ByteArray.size_append]; omega)]
    congr 1; rw [ByteArray.size_append]; omega
  rw [this]
  constructor
  · rintro ⟨h1, h2⟩
    refine ⟨h1, ?_, h2⟩
    rcases h2 with h | h <;> exact (bt_txt behind).lt h (by omega)
  · rintro ⟨h1, -, h2⟩; exact ⟨h1, h2⟩
theorem stays_ok {ahead p behind : ByteArray} {ic nl : Bool} {P : Nat → Bool} {m : Nat} (h : rdI p 0 ic nl = .ok P m) :
    rdI (ahead ++ p ++ behind) ahead.size ic nl = .ok P (m + ahead.size) ∧ 3 ≤ m ∧ m ≤ p.size ∧ bt p 0 = 91 ∧ bt p (m - 1) = 93 := by
  unfold rdI at h ⊢
  obtain ⟨h0, h1, h2, h3⟩ := Br.read_ok (bt_txt p) h
  refine ⟨?_, h1, h2, h0, h3⟩
  rcases Br.read_in (bt_txt p) (within_append ahead p behind) (ic := ic) (nl := nl) h0 (fun q hq => by rw [h] at hq; cases hq) with ⟨i', -, he, -⟩ | ⟨-, hg⟩
  · rw [h] at he; cases he
  · rw [hg, h]; rfl
theorem stays_err {ahead p behind : ByteArray} {ic nl : Bool} {c : Nat} {pl : Int} (h : rdI p 0 ic nl = .err c pl) :
    (c = 1 ∧ pl = 0) ∨ (c = 15 ∧ pl = -1 ∧ bt p 0 ≠ 91) ∨
    ((c = 5 ∨ c = 6 ∨ c = 7) ∧ ((Special p behind c pl ∧ rdI (ahead ++ p ++ behind) ahead.size ic nl = .err 7 ((p.size : Int) - 1 + ahead.size)) ∨
      (¬ Special p behind c pl ∧ rdI (ahead ++ p ++ behind) ahead.size ic nl = .err c (pl + ahead.size)))) := by
  unfold rdI at h ⊢
  have key : c ≠ 1 → bt p 0 = 91 → ((Special p behind c pl ∧ Br.read (bt (ahead ++ p ++ behind)) (ahead ++ p ++ behind).size ahead.size ic nl = .err 7 ((p.size : Int) - 1 + ahead.size)) ∨
      (¬ Special p behind c pl ∧ Br.read (bt (ahead ++ p ++ behind)) (ahead ++ p ++ behind).size ahead.size ic nl = .err c (pl + ahead.size))) := by
    intro h1 h0
    rcases Br.read_in (bt_txt p) (within_append ahead p behind) (ic := ic) (nl := nl) h0 (fun q hq => by rw [h] at hq; simp only [Br.Ans.err.injEq] at hq; exact h1 hq.1) with ⟨i', h3, he, ho, hg⟩ | ⟨hno, hg⟩
    · rw [h] at he
      simp only [Br.Ans.err.injEq] at he
      obtain ⟨rfl, rfl⟩ := he
      obtain ⟨o1, o2, o3⟩ := (open_append ahead p behind).1 ho
      exact .inl ⟨⟨rfl, by omega, o1, by omega, o2, o3⟩, hg⟩
    · refine .inr ⟨?_, ?_⟩
      · rintro ⟨rfl, s1, s2, rfl, s3, s4⟩
        exact hno (p.size - 3) (by omega) (by rw [h]; congr 1; omega) ((open_append ahead p behind).2 ⟨s2, s3, s4⟩)
      · rw [hg, h]; simp [Br.sh, h1]
  have h91 : c ≠ 15 → bt p 0 = 91 := by
    intro hc
    by_cases h0 : bt p 0 = 91
    · exact h0
    · rw [Br.whole_cases, if_neg h0] at h
      simp only [Br.Ans.err.injEq] at h
      exact absurd h.1.symm hc
  rcases Br.read_err h with h1 | rfl | rfl | rfl | h1
  · exact .inl h1
  · exact .inr (.inr ⟨.inl rfl, key (by omega) (h91 (by omega))⟩)
  · exact .inr (.inr ⟨.inr (.inl rfl), key (by omega) (h91 (by omega))⟩)
  · exact .inr (.inr ⟨.inr (.inr rfl), key (by omega) (h91 (by omega))⟩)
  · exact .inr (.inl h1)
end Go.Proofs.YtbpecijdmhablaaDoor
